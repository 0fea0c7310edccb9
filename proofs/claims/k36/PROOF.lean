import PyProof.Rows.All
import Wide.All
import OpenK.AllK
import Wide.FinOn
import Lean
import PyProof.EqAt
import PyProof.EqKinds
import PyProof.TupleCall
import PyProof.DictRoadsH
import PyProof.NeKinds
import PyProof.SetKind
import PyProof.DictStraight
import KE.KRevIter
import PyProof.Rows.Range3
import PyProof.ZipIter
import PyProof.Rows.SortRunsK
import PyProof.Rows.SortShell
import PyProof.Rows.IntRules
import PyProof.Dict
import PyProof.Conv_int_bool
import PyProof.Rows.DictRows
import PyProof.DictTable
import PyProof.Rows.SetFrom
import PyProof.Rows.SortPure
import PyProof.FactsAll.set_1
import PyProof.SetRoads
import PyProof.Walks
import PyProof.CollectWalk
import PyProof.ListRange
import PyProof.TupleKey
import PyProof.IsRules
import PyProof.WalksMore
import PyProof.DictWalks
import KE.KDictList
import PyProof.EnumStmt
import PyProof.Rows.EnumRows
import PyProof.SeqI3
import PySem.Challenge.RW_chordwebs_k36_whole_turns
set_option Elab.async false
set_option linter.all false
set_option maxRecDepth 100000
set_option bootstrap.genMatcherCode false
set_option genSizeOf false
set_option compiler.extract_closed false
set_option genInjectivity false
local macro_rules | `(tactic| omega) => `(tactic| lia)
open PySem renaming wpAny_bind → bi, wpAny_pure → bm, wpAny_newObj_type → bS, wpAny_call_entry → bT, wpAny_holding → bZ, wpAny_setState_of → cc, codeAny_builtin → cf, wpAny_ite_split → cN, codeAny_mono → cR, wpAny_isInstance → cS, wpAny_Call_Name_kw → cV, wpAny_truthy_bool → d9, wpAny_specialOf → db, wpAny_of_eq → df, wpAny_typeOf → dC, wpAny_rule → dF, wpAny_forIn_list → dX, wpAny_attempt → dZ, wpAny_runValue → e8, wpAny_storeSet_of → ej, wpAny_setEntries_of → er, wpAny_setField_rec → eE, wpAny_passesOwn → eG, wpAny_field → eH, wpAny_mono → eN, wpAny_updateSeq → fh
open Bool renaming false_eq_true → bj, eq_iff_iff → cG, false_ne_true → cQ, not_true → dB, and_eq_true → dN
open PySem.Heap renaming get?_push_of_some → bn, get?_push_size → bB, lt_size → bC, SameBut → bX, get?_update_self → cD, get?_update_ne → cM, size_push → dH, get?_update_other → dW, get?_none_of_le → eW
open List renaming replicate_succ → bo, set_cons_zero → bp, set_cons_succ → bq, replicate_zero → br, length_cons → bu, cons_append → bv, length_nil → bw, nil_append → bx, range → bz, length_map → bA, getElem?_eq_some_iff → bD, mem_map → bF, mem_singleton → bG, size_toArray → bH, map → bJ, mem_of_getElem? → bM, mem_cons_of_mem → bN, replicate → bP, length_append → bR, mem_cons_self → bU, mem_range → bV, getElem?_map → cb, mem_cons → ce, mem_append_right → ci, length_range → ck, getElem?_append_left → cr, mem_append → cu, getElem?_eq_getElem → cw, mem_append_left → cy, map_cons → cz, lookup_cons → cE, mem_filter → cF, getElem_mem → cJ, getElem?_append_right → cL, getD → cO, length_take → cT, count_cons → cY, map_congr_left → cZ, filterMap_cons_some → da, nodup_cons → dq, map_append → dt, length_eq_zero_iff → du, Pairwise → dA, map_map → dD, pairwise_lt_range → dE, getElem_of_mem → dG, take_append_drop → dJ, flatten_cons → dQ, count_append → dR, Perm → dS, getElem?_set_self → dU, length_filter_le → e7, pairwise_iff_getElem → eh, reverse_cons → el, filterMap_cons_none → em, append_assoc → en, take_length → et, not_mem_nil → eu, nodup_range → eA, length_drop → eB, filter_cons → eC, any_eq_true → eD, range_succ → eK, append_nil → eM, pairwise_map → eO, nodup_append → eP, foldl_append → eQ, Nodup → eR, perm_ext_iff_of_nodup → eT, getElem?_set_ne → eU, getElem?_of_mem → eV, ext_getElem → eY, all_eq_true → eZ, filterMap_cons → fc, idxOf_lt_length_iff → ff
open Nat renaming le_refl → bE, ne_of_lt → bO, lt_of_lt_of_le → bY, zero_le → cg, lt_or_ge → cC, le_of_lt → cH, le_trans → cK, min_eq_left → di, lt_irrefl → dO, max_eq_right → dY, eq_or_lt_of_le → eF, not_lt_zero → eI, le_succ → eJ, ne_of_gt → fe
open PySem.SetTable renaming below → bI, sizeAbove → bL, eraseAt → bQ, insertAt → cj, bits → cq, runEnd → cx, insertAt_perm → cW, probe → cX, leap → dg, has → dI, layClean → dP, grown → e9, fresh → ef, turns → eX
open Array renaming length_toList → bK, mem_toList_iff → cI, getElem?_eq_some_iff → cU, getD → dM
open PyProof.Rows renaming wpS_bind → cP, wpS_pure → dL
open Int renaming toNat_natCast → eS
open PySem PySem.Spec PyProof.Rows
theorem Zq1(h:True:=by first | exact .inl rfl | exact .inr rfl | assumption):True:=h
theorem Zq2(h:True:=by decide):True:=h
theorem Zq3(h:True:=by intro u0;rfl):True:=h
theorem Zq4(h:True:=by rfl):True:=h
theorem Zq5(h:True:=by first | exact Or.inl rfl | exact Or.inr (Or.inl rfl) | exact Or.inr (Or.inr rfl)):True:=h
theorem Zq6(h:True:=by first | exact Or.inl rfl | exact Or.inr rfl):True:=h
theorem Zq7(h:True:=by intro u0 u0;rfl):True:=h
theorem Zq8(h:True:=by size_fits):True:=h
theorem Zq9(h:True:=by exact .refl _):True:=h
namespace K
open PySem
@[elab_as_elim] theorem us1{m:List Value->Prop}(us:List Value)(hl:us.length=1)(h:∀ a,m [a]):m us:=by
 rcases us with _|⟨a,_|⟨e,r⟩⟩
 ·cases hl
 ·exact h a
 ·cases hl
@[elab_as_elim] theorem us2{m:List Value->Prop}(us:List Value)(hl:us.length=2)(h:∀ a b,m [a,b]):m us:=by
 rcases us with _|⟨a,_|⟨b,_|⟨e,r⟩⟩⟩
 ·cases hl
 ·cases hl
 ·exact h a b
 ·cases hl
@[elab_as_elim] theorem us3{m:List Value->Prop}(us:List Value)(hl:us.length=3)(h:∀ a b c,m [a,b,c]):m us:=by
 rcases us with _|⟨a,_|⟨b,_|⟨c,_|⟨e,r⟩⟩⟩⟩
 ·cases hl
 ·cases hl
 ·cases hl
 ·exact h a b c
 ·cases hl
end K
namespace L2
noncomputable abbrev Key:=Sum Int Str
noncomputable def zOS:Key->Value->Bool
 | .inl k,v=>Value.isInt k v
 | .inr x,v=>Value.isStrOf x v
noncomputable def zRq(w:World):Key->Int
 | .inl k=>hashInt k
 | .inr x=>hashStr w x
theorem yJ:∀ {k:Key} {v:Value},zOS k v=true->(∃ i t,k=Sum.inl i/\v=Value.int i t)\/(∃ x t,k=Sum.inr x/\v=Value.str x t)
 | .inl i,v,h=>by
  obtain⟨t,e⟩:=Value.isInt_shape (k:=i) (v:=v) h;exact .inl ⟨i,t,rfl,e⟩
 | .inr x,v,h=>by
  obtain⟨t,e⟩:=Value.isStrOf_shape (x:=x) (v:=v) h;exact .inr ⟨x,t,rfl,e⟩
theorem zOw(a b:Int):decide ((Sum.inl a:Key)=Sum.inl b)=(a==b):=by
 by_cases e:a=b
 ·subst e;simp
 ·have h:¬ (Sum.inl a:Key)=Sum.inl b:=fun q=>e (Sum.inl.inj q)
  rw[decide_eq_false h];exact(beq_eq_false_iff_ne.mpr e).symm
theorem zOx(a b:Str):decide ((Sum.inr a:Key)=Sum.inr b)=decide (a=b):=by
 by_cases e:a=b
 ·subst e;simp
 ·have h:¬ (Sum.inr a:Key)=Sum.inr b:=fun q=>e (Sum.inr.inj q)
  rw[decide_eq_false h,decide_eq_false e]
theorem zOy(a:Int)(b:Str):decide ((Sum.inl a:Key)=Sum.inr b)=false:=decide_eq_false (fun q=>nomatch q)
theorem zOz(a:Str)(b:Int):decide ((Sum.inr a:Key)=Sum.inl b)=false:=decide_eq_false (fun q=>nomatch q)
noncomputable def zFq(prog:Program)(w:World):PySem.KeyKind prog w Key where
 is:=zOS
 hash:=zRq w
 inj:=fun v a b ha hb=>by
  rcases yJ ha with ⟨i,t,rfl,rfl⟩ | ⟨x,t,rfl,rfl⟩
  ·rcases yJ hb with ⟨j,u,rfl,e⟩ | ⟨y,u,rfl,e⟩
   ·injection e with e1 _;rw[e1]
   ·exact nomatch e
  ·rcases yJ hb with ⟨j,u,rfl,e⟩ | ⟨y,u,rfl,e⟩
   ·exact nomatch e
   ·injection e with e1 _;rw[e1]
 byValue:=fun k v h=>by
  rcases yJ h with ⟨i,t,rfl,rfl⟩ | ⟨x,t,rfl,rfl⟩<;>rfl
 pyHash:=fun hv h=>by
  rcases yJ hv with ⟨i,t,rfl,rfl⟩ | ⟨x,t,rfl,rfl⟩
  ·exact wpAny_pyHash_int h
  ·exact wpAny_pyHash_str h
 eqBool:=fun hu hv h=>by
  rcases yJ hu with ⟨i,t,rfl,rfl⟩ | ⟨x,t,rfl,rfl⟩
  ·rcases yJ hv with ⟨j,u,rfl,rfl⟩ | ⟨y,u,rfl,rfl⟩
   ·rw[zOw] at h;exact wpAny_eqBool_int h
   ·rw[zOy] at h;exact SeqAt.EqAt.int_str i t y u _ _ _ _ h
  ·rcases yJ hv with ⟨j,u,rfl,rfl⟩ | ⟨y,u,rfl,rfl⟩
   ·rw[zOz] at h;exact SeqAt.EqAt.str_int x t j u _ _ _ _ h
   ·rw[zOx] at h;exact wpAny_eqBool_str h
 «strs»:=fun k x t v h=>by
  rcases yJ h with ⟨i,u,rfl,e⟩ | ⟨y,u,rfl,e⟩
  ·exact nomatch e
  ·injection e with e1 _
   subst e1;cases v<;>rfl
set_option genInjectivity true in
inductive V where
 | non | bl (b:Bool) | int (i:Int) | str (x:Str) | byt (b:Array UInt8) | flt (b:UInt64) | ref (a:Addr) | ty (n:String)
 deriving DecidableEq
noncomputable def RelV:V->Value->Prop
 | .non,u=>u=Value.none
 | .bl b,u=>u=Value.bool b
 | .int i,u=>∃ t,u=Value.int i t
 | .str x,u=>∃ t,u=Value.str x t
 | .byt b,u=>∃ t,u=Value.bytes b t
 | .flt b,u=>∃ t,u=Value.float b t
 | .ref a,u=>u=Value.ref a
 | .ty n,u=>u=Value.type n
noncomputable abbrev zX:List V->List Value->Prop:=Paired RelV
theorem zX.length{xs:List V}{us:List Value}(r:zX xs us):xs.length=us.length:=Paired.length r
theorem zX.get:∀ {xs:List V} {us:List Value} {i:Nat} {x:V},zX xs us->xs[i]?=some x->∃ u,us[i]?=some u/\RelV x u
 | _,_,_,_,.nil,e=>by simp at e
 | _,_,0,_,.cons r _,e=>by simp at e;subst e;exact⟨_,rfl,r⟩
 | _,_,i+1,x,.cons _ t,e=>by
  obtain⟨u,h1,h2⟩:=zX.get (i:=i) (x:=x) t (by simpa using e);exact⟨u,by simpa using h1,h2⟩
theorem zX.set{x:V}{u:Value}(r:RelV x u):∀ {xs:List V} {us:List Value} (i:Nat),zX xs us->zX (xs.set i x) (us.set i u)
 | _,_,_,.nil=>.nil
 | _,_,0,.cons _ t=>.cons r t
 | _,_,i+1,.cons q t=>.cons q (zX.set r i t)
theorem zX.append:∀ {xs ys:List V} {us ws:List Value},zX xs us->zX ys ws->zX (xs++ys) (us++ws)
 | _,_,_,_,.nil,s=>s
 | _,_,_,_,.cons r t,s=>.cons r (zX.append t s)
theorem zX.take:∀ {xs:List V} {us:List Value} (n:Nat),zX xs us->zX (xs.take n) (us.take n)
 | _,_,0,_=>.nil
 | _,_,_+1,.nil=>.nil
 | _,_,n+1,.cons r t=>.cons r (zX.take n t)
theorem zX.drop:∀ {xs:List V} {us:List Value} (n:Nat),zX xs us->zX (xs.drop n) (us.drop n)
 | _,_,0,r=>r
 | _,_,_+1,.nil=>.nil
 | _,_,n+1,.cons _ t=>zX.drop n t
noncomputable def zQj:Option V->Option Value->Prop
 | some v,some u=>RelV v u
 | none,none=>True
 | _,_=>False
noncomputable def KV{κ:Type}:List (κ×V)->List (κ×Value)->Prop:=Paired fun(p:κ×V) (q:κ×Value)=>p.1=q.1/\RelV p.2 q.2
noncomputable def kV:Key->V
 | .inl i=>.int i
 | .inr x=>.str x
set_option genInjectivity true in
inductive HO where
 /-- a list -/
 | lst (xs:List V)
 /-- a tuple (never changes) -/
 | tup (xs:List V)
 /-- a dict whose keys are ints and texts;one whose keys are tuples of ints and texts (the empty one is both) -/
 | dK (kvs:List (Key×V)) | dT (kvs:List (List Key×V))
 /-- a set of ints: its members,its size -/
 | set (S:Int->Bool) (n:Nat)
 /-- an instance of the class at C,its dict at dx,its attributes -/
 | ins (C dx:Addr) (fs:List (Str×V))
 /-- the dict of the instance at x -/
 | own (x:Addr)
 /-- the dict of an exception -/
 | xd (fs:List (Str×V))
 /-- a bound method,f of x -/
 | met (f x:Addr)
 /-- a range object lo,lo+1,.. below hi -/
 | rng (lo hi:Int)
 /-- a thing that is known to the object (the script;a dict while a loop walks it): read,never written while it is so -/
 | frz (o:Obj) (u:HO)
 /-- a code object's table -/
 | tbl (ps:Array Value)
 /-- any other thing,by what is true of its one object (a def of one's own: SetO a S n:=HO.ext fun h=>..) -/
 | ext (φ:Heap->Prop)
noncomputable abbrev Hp:=Addr->Option HO
noncomputable def ye(H:Hp)(a:Addr)(o:HO):Hp:=fun b=>if b=a then some o else H b
theorem zf{H:Hp}{a:Addr}{o:HO}:ye H a o a=some o:=by unfold ye;rw[if_pos rfl]
theorem zq{H:Hp}{a b:Addr}{o:HO}(h:b≠a):ye H a o b=H b:=by unfold ye;rw[if_neg h]
theorem zMt{H:Hp}{a:Addr}{o u:HO}:ye (ye H a o) a u=ye H a u:=by
 funext b;unfold ye;split<;>rfl
theorem zE6{H:Hp}{a b:Addr}{o u:HO}(h:H a=some o)(h':H b=some u)(d:o≠u):a≠b:=by
 intro e;subst e;rw[h] at h';exact d (Option.some.inj h')
theorem yK{H:Hp}{a b:Addr}{o:HO}(h:H a=some o)(h':H b=none):a≠b:=by
 intro e;subst e;rw[h] at h';cases h'
noncomputable def zDb(h:Heap)(a:Addr)(items:Array Value):Prop:=∃ o,h.get? a=some o/\o.cls=.type "tuple"/\(∃ n,o.data=.seq items n)/\o.dict=none
theorem zDb.isTup{h:Heap}{a:Addr}{items:Array Value}(x:zDb h a items):IsTup h a items:=let ⟨o,h1,h2,h3,_⟩:=x;⟨o,h1,h2,h3⟩
theorem zDb.lt{h:Heap}{a:Addr}{items:Array Value}(x:zDb h a items):a<h.objs.size:=x.isTup.lt
theorem zDb.new(h:Heap)(items:Array Value):zDb (h.push { cls:=.type "tuple",data:=.seq items }) h.objs.size items:=⟨_,bB _ rfl,rfl,⟨_,rfl⟩,rfl⟩
section
variable (P:Program) (w:World)
noncomputable def zAE(H:Hp)(h:Heap)(a:Addr):HO->Prop
 | .lst xs=>xs.length<=sizeLine/\∃(its:List Value) (n:Nat),zX xs its/\h.get? a=some { cls:=.type "list",data:=.seq its.toArray n }
 | .tup xs=>xs.length<=sizeLine/\∃ its:List Value,zX xs its/\zDb h a its.toArray
 | .dK kvs=>kvs.length<=sizeLine/\(a==sysModules)=false/\∃ vs,KV kvs vs/\h.DictOf (zFq P w) a vs
 | .dT kvs=>kvs.length<=sizeLine/\(a==sysModules)=false/\∃ xs:List (List Key×Addr×Value),
   Paired (fun(p:List Key×V) (q:List Key×Addr×Value)=>p.1=q.1/\H q.2.1=some (.tup (p.1.map kV))/\RelV p.2 q.2.2) kvs xs /\
   ∃ o es ep,h.get? a=some o/\o.ExactDict/\o.data=.dict es ep/\es.toList=xs.map (entryOfKey (tupleKind (zFq P w)))/\(xs.map (·.1)).Nodup
 | .set S n=>h.SetOf (intKind P w) a S n
 | .ins C dx fs=>H dx=some (.own a)/\fs.length<=1000/\dx≠a/\h.get? a=some (PySem.W.instObj C dx) /\
   ∃ mA,h.Ns1 dx mA/\(∀ f,zQj (fs.lookup f) (mA f))/\PySem.Within mA (fs.map (·.1))
 | .own _=>∃ o,h.get? a=some o
 | .xd fs=>∃ mA,h.Ns1 a mA/\∀ f,zQj (fs.lookup f) (mA f)
 | .rng lo hi=>∃ t u v,h.get? a=some { cls:=.type "range",data:=.fields #[.int lo t,.int hi u,.int 1 v] }
 | .frz o u=>h.get? a=some o/\zAE H h a u
 | .tbl ps=>∃(q:Str) (t:Tok) (vs:Array Value),ps=#[.str q t]/\h.get? a=some (PySem.W.tabObj vs)/\TriplesOk vs.toList/\∀(pos:Pos) (cv:Value),codeAmong pos vs.toList=some cv ->
   ∃(c:Addr) (o:Obj) (us:Array Value) (t':Tok),cv=.ref c/\H c=some (.frz o (.own 0))/\o.data=.fields us/\us[1]?=some (.str q t')
 | .met f x=>h.get? a=some (PySem.W.methodObj (.ref f) (.ref x))
 | .ext φ=>φ h/\(∃ o,h.get? a=some o)/\∀ h1 h2:Heap,φ h1->(∀ o,h1.get? a=some o->h2.get? a=some o)->φ h2
noncomputable def HOk(H:Hp)(h:Heap):Prop:=∀ a o,H a=some o->zAE P w H h a o
end
section
variable {P:Program} {w:World} {H H':Hp} {h h':Heap} {a:Addr} {o:HO}
theorem zAE.lt(x:zAE P w H h a o):a<h.objs.size:=by
 cases o with
 | lst xs=>obtain⟨u0,u0,u0,u0,e⟩:=x;exact bC e
 | tup xs=>obtain⟨u0,u0,u0,p⟩:=x;exact p.lt
 | dK kvs=>obtain⟨u0,u0,u0,u0,o,u0,u0,e,u0⟩:=x;exact bC e
 | dT kvs=>obtain⟨u0,u0,u0,u0,o,u0,u0,e,u0⟩:=x;exact bC e
 | set S n=>obtain⟨o,u0,u0,u0,e,u0⟩:=x;exact bC e
 | ins C dx fs=>obtain⟨u0,u0,u0,e,u0⟩:=x;exact bC e
 | own y=>obtain⟨u0,e⟩:=x;exact bC e
 | xd fs=>obtain⟨u0,⟨u0,u0,u0,e,u0⟩,u0⟩:=x;exact bC e
 | rng lo hi=>obtain⟨u0,u0,u0,e⟩:=x;exact bC e
 | frz ob u=>obtain⟨e,u0⟩:=x;exact bC e
 | tbl ps=>obtain⟨u0,u0,u0,u0,e,u0⟩:=x;exact bC e
 | met f y=>exact bC (show h.get? a=some _ from x)
 | ext φ=>obtain⟨u0,⟨u0,e⟩,u0⟩:=x;exact bC e
theorem Paired.mapP{α β:Type}{F G:α->β->Prop}:∀ {l₁:List α} {l₂:List β},Paired F l₁ l₂->(∀ a b,F a b->G a b)->Paired G l₁ l₂
 | _,_,.nil,_=>.nil
 | _,_,.cons r t,f=>.cons (f _ _ r) (Paired.mapP t f)
theorem zAE.stay(x:zAE P w H h a o)(k:∀ b u,(b=a\/H b=some (.own a))->h.get? b=some u->h'.get? b=some u)
  (ho:∀ b,H b=some (.own a)->H' b=some (.own a)) (ht:∀ b xs,H b=some (.tup xs)->H' b=some (.tup xs)) (hz:∀ b o u,H b=some (.frz o u)->H' b=some (.frz o u)):zAE P w H' h' a o:=by
 induction o with
 | lst xs=>obtain⟨z,its,n,r,e⟩:=x;exact⟨z,its,n,r,k _ _ (.inl rfl) e⟩
 | tup xs=>obtain⟨z,its,r,ob,e,c⟩:=x;exact⟨z,its,r,ob,k _ _ (.inl rfl) e,c⟩
 | dK kvs=>obtain⟨z,y,vs,r,ob,es,ep,e,c⟩:=x;exact⟨z,y,vs,r,ob,es,ep,k _ _ (.inl rfl) e,c⟩
 | dT kvs =>
  obtain⟨z,y,xs,r,ob,es,ep,e,c⟩:=x;exact⟨z,y,xs,Paired.mapP r fun p q z=>⟨z.1,ht _ _ z.2.1,z.2.2⟩,ob,es,ep,k _ _ (.inl rfl) e,c⟩
 | set S n=>obtain⟨ob,es,ep,t,e,c⟩:=x;exact⟨ob,es,ep,t,k _ _ (.inl rfl) e,c⟩
 | ins C dx fs =>
  obtain⟨d,z,ne,e,mA,⟨od,es,ep,e2,c⟩,r⟩:=x;exact⟨ho _ d,z,ne,k _ _ (.inl rfl) e,mA,⟨od,es,ep,k _ _ (.inr d) e2,c⟩,r⟩
 | own y=>obtain⟨ob,e⟩:=x;exact⟨ob,k _ _ (.inl rfl) e⟩
 | xd fs=>obtain⟨mA,⟨od,es,ep,e,c⟩,r⟩:=x;exact⟨mA,⟨od,es,ep,k _ _ (.inl rfl) e,c⟩,r⟩
 | rng lo hi=>obtain⟨t,u,v,e⟩:=x;exact⟨t,u,v,k _ _ (.inl rfl) e⟩
 | frz ob u ih=>obtain⟨e,q⟩:=x;exact⟨k _ _ (.inl rfl) e,ih q⟩
 | tbl ps =>
  obtain⟨q,t,vs,e0,e,e1,e2⟩:=x;refine⟨q,t,vs,e0,k _ _ (.inl rfl) e,e1,fun pos cv z=>?_⟩;obtain⟨c,oc,us,t',z1,z2,z3⟩:=e2 pos cv z;exact⟨c,oc,us,t',z1,hz _ _ _ z2,z3⟩
 | met f y =>
  have e:h.get? a=some (PySem.W.methodObj (.ref f) (.ref y)):=x;show h'.get? a=some (PySem.W.methodObj (.ref f) (.ref y));exact k a _ (.inl rfl) e
 | ext φ=>obtain⟨p,⟨o,e⟩,st⟩:=x;exact⟨st _ _ p fun o q=>k _ _ (.inl rfl) q,⟨o,k _ _ (.inl rfl) e⟩,st⟩
theorem HOk.lt(x:HOk P w H h)(e:H a=some o):a<h.objs.size:=(x a o e).lt
theorem HOk.fresh(x:HOk P w H h)(e:h.objs.size<=a):H a=none:=by
 cases q:H a with
 | none=>rfl
 | some u=>exact absurd (bY (x.lt q) e) (dO _)
theorem HOk.kept(x:HOk P w H h)(k:∀ b u,h.get? b=some u->h'.get? b=some u):HOk P w H h':=fun a o e =>
 (x a o e).stay (fun b u u0 q=>k b u q) (fun u0 q=>q) (fun u0 u0 q=>q) fun u0 u0 u0 q=>q
theorem HOk.laid(x:HOk P w H h)(k:∀ b u,h.get? b=some u->h'.get? b=some u)(hp:h.objs.size<=a)(new:zAE P w (ye H a o) h' a o):HOk P w (ye H a o) h':=fun b u e=>by
 have hn:=x.fresh hp;by_cases hb:b=a
 ·subst hb;rw[zf] at e;cases e;exact new
 ·rw[zq hb] at e
  exact(x b u e).stay (fun c v u0 q=>k c v q) (fun c q=>by rw[zq (yK q hn)];exact q) (fun c xs q=>by rw[zq (yK q hn)];exact q) fun c oo u q=>by rw[zq (yK q hn)];exact q
end
noncomputable def Rd(H:Hp)(a:Addr)(u:HO):Prop:=H a=some u\/∃ o,H a=some (.frz o u)
theorem Rd.of{H:Hp}{a:Addr}{u:HO}(h:H a=some u):Rd H a u:=.inl h
theorem Rd.ok{P:Program}{w:World}{H:Hp}{h:Heap}{a:Addr}{u:HO}(r:Rd H a u)(x:HOk P w H h):zAE P w H h a u:=by
 rcases r with r | ⟨o,r⟩
 ·exact x a u r
 ·obtain⟨u0,q⟩:=x a _ r
  exact q
noncomputable def Mut:Option HO->Prop
 | some (.lst _)=>True
 | some (.dK _)=>True
 | some (.dT _)=>True
 | some (.set _ _)=>True
 | some (.ins _ _ _)=>True
 | some (.ext _)=>True
 | _=>False
section
variable {P:Program} {w:World} {H:Hp} {h h':Heap} {x e:Addr} {o':HO}
theorem HOk.write(ok:HOk P w H h)(mu:Mut (H x))(he:e=x\/H e=some (.own x))(k:∀ b u,b≠e->h.get? b=some u->h'.get? b=some u)(heo:∃ u,h'.get? e=some u)
  (new:zAE P w (ye H x o') h' x o'):HOk P w (ye H x o') h':=fun b u q=>by
 have nown:∀ c y,H c=some (.own y)->c≠x:=fun c y r z=>by subst z;rw[r] at mu;exact mu
 have ntup:∀ c xs,H c=some (.tup xs)->c≠x:=fun c xs r z=>by subst z;rw[r] at mu;exact mu
 have nfrz:∀ c oo u,H c=some (.frz oo u)->c≠x:=fun c oo u r z=>by subst z;rw[r] at mu;exact mu
 by_cases hb:b=x
 ·subst hb;rw[zf] at q;cases q;exact new
 ·rw[zq hb] at q
  by_cases hbe:b=e
  ·have q':H b=some (.own x):=by
    rcases he with z | z
    ·exact absurd (hbe.trans z) hb
    ·rw[hbe];exact z
   rw[q] at q';cases q';obtain⟨v,hv⟩:=heo;exact⟨v,by rw[hbe];exact hv⟩
  ·refine(ok b u q).stay (fun c v hc r=>k c v ?_ r) (fun c r=>by rw[zq (nown c b r)];exact r) (fun c xs r=>by rw[zq (ntup c xs r)];exact r) fun c oo u r=>by rw[zq (nfrz c oo u r)];exact r
   rcases hc with rfl | hc
   ·exact hbe
   ·rintro rfl
    rcases he with z | z
    ·exact nown c b hc z
    ·rw[hc] at z;cases z;exact hb rfl
end
structure Un (fs ex:List Addr) (H H':Hp) (h h':Heap):Prop where
 keep:∀ b o,h.get? b=some o->H b=none->b∉fs->b∉ex->h'.get? b=some o
 slot:∀ b o,h.get? b=some o->H b=none->b∈fs->b∉ex->∃ sl,h'.get? b=some { o with slots:=sl }
 free:∀ b o,h.get? b=some o->H b=none->b∉ex->H' b=none
 there:∀ b o,h.get? b=some o->b∉ex->∃ o',h'.get? b=some o'
 tups:∀ b xs,H b=some (.tup xs)->H' b=some (.tup xs)
 frzs:∀ b o u,H b=some (.frz o u)->H' b=some (.frz o u)
 tbls:∀ b ps,H b=some (.tbl ps)->H' b=some (.tbl ps)
section
variable {fs fs' ex ex':List Addr} {H H1 H2:Hp} {h h1 h2 h':Heap} {a x e:Addr} {o:HO}
theorem Un.any(u:Un fs ex H H1 h h1){b:Addr}{ob:Obj}(q:h.get? b=some ob)(n:H b=none)(hx:b∉ex):∃ sl,h1.get? b=some { ob with slots:=sl }:=by
 by_cases hb:b∈fs
 ·exact u.slot b ob q n hb hx
 ·exact⟨ob.slots,u.keep b ob q n hb hx⟩
theorem Un.trans(a:Un fs ex H H1 h h1)(b:Un fs ex H1 H2 h1 h2):Un fs ex H H2 h h2 where
 keep:=fun c ob q n hc hx=>b.keep c ob (a.keep c ob q n hc hx) (a.free c ob q n hx) hc hx
 slot:=fun c ob q n hc hx=>by
  obtain⟨sl,e1⟩:=a.slot c ob q n hc hx;obtain⟨sl',e2⟩:=b.slot c _ e1 (a.free c ob q n hx) hc hx;exact⟨sl',e2⟩
 free:=fun c ob q n hx=>by
  obtain⟨o',e1⟩:=a.there c ob q hx;exact b.free c o' e1 (a.free c ob q n hx) hx
 there:=fun c ob q hx=>by
  obtain⟨o',e1⟩:=a.there c ob q hx;exact b.there c o' e1 hx
 tups:=fun c xs q=>b.tups c xs (a.tups c xs q)
 frzs:=fun c ob xs q=>b.frzs c ob xs (a.frzs c ob xs q)
 tbls:=fun c ps q=>b.tbls c ps (a.tbls c ps q)
theorem Un.kept(k:∀ b u,h.get? b=some u->h'.get? b=some u):Un fs ex H H h h' :=
 ⟨fun b ob q u0 u0 u0=>k b ob q,fun b ob q u0 u0 u0=>⟨ob.slots,k b ob q⟩,fun u0 u0 u0 n u0=>n,fun b ob q u0=>⟨ob,k b ob q⟩,fun u0 u0 q=>q,fun u0 u0 u0 q=>q,fun u0 u0 q=>q⟩
theorem Un.refl:Un fs ex H H h h:=Un.kept fun u0 u0 q=>q
theorem Un.laid(k:∀ b u,h.get? b=some u->h'.get? b=some u)(hp:h.objs.size<=a)(hn:H a=none):Un fs ex H (ye H a o) h h' where
 keep:=fun b u q u0 u0 u0=>k b u q
 slot:=fun b u q u0 u0 u0=>⟨u.slots,k b u q⟩
 free:=fun b u q n u0=>by rw[zq (bO (bY (bC q) hp))];exact n
 there:=fun b u q u0=>⟨u,k b u q⟩
 tups:=fun b xs q=>by rw[zq (yK q hn)];exact q
 frzs:=fun b u xs q=>by rw[zq (yK q hn)];exact q
 tbls:=fun b ps q=>by rw[zq (yK q hn)];exact q
theorem Un.write(mu:Mut (H x))(he:e=x\/H e=some (.own x))(k:∀ b u,b≠e->h.get? b=some u->h'.get? b=some u)(heo:∃ u,h'.get? e=some u):Un fs ex H (ye H x o) h h':=by
 have hx:∀ b,H b=none->b≠x:=fun b n z=>by subst z;rw[n] at mu;exact mu
 have hb:∀ b,H b=none->b≠e:=fun b n z=>by
  subst z;rcases he with r | r
  ·exact hx b n r
  ·rw[n] at r;cases r
 have hm:∀ b u,H b=some u->¬ Mut (some u)->b≠x:=fun b u q nm z=>by subst z;rw[q] at mu;exact nm mu
 refine⟨fun b u q n u0 u0=>k b u (hb b n) q,fun b u q n u0 u0=>⟨u.slots,k b u (hb b n) q⟩,fun b u q n u0=>by rw[zq (hx b n)];exact n,fun b u q u0=>?_,
  fun b xs q=>by rw[zq (hm b _ q fun z=>z)];exact q,fun b u xs q=>by rw[zq (hm b _ q fun z=>z)];exact q,fun b ps q=>by rw[zq (hm b _ q fun z=>z)];exact q⟩
 by_cases hbe:b=e
 ·subst hbe;exact heo
 ·exact⟨u,k b u hbe q⟩
theorem Un.mono(u:Un fs ex H H1 h h1)(hs:∀ b∈fs,b∈fs')(hx:∀ b∈ex,b∈ex'):Un fs' ex' H H1 h h1 :=
 ⟨fun b ob q n hb he=>u.keep b ob q n (fun z=>hb (hs b z)) fun z=>he (hx b z),fun u0 u0 q n u0 he=>u.any q n fun z=>he (hx _ z),fun b ob q n he=>u.free b ob q n fun z=>he (hx b z),fun b ob q he=>u.there b ob q fun z=>he (hx b z),u.tups,u.frzs,u.tbls⟩
end
noncomputable def trk(h:Heap)(H:Hp):List Addr:=(bz h.objs.size).filter fun a=>(H a).isSome
noncomputable def zFr(h:Heap)(H:Hp):Heap:=PySem.W.hideAll h (trk h H)
theorem zJW(h:Heap)(H:Hp):(zFr h H).objs.size=h.objs.size:=PySem.W.hideAll_size _ _
theorem zKq{h:Heap}{H:Hp}{b:Addr}{o:Obj}(e:h.get? b=some o)(n:H b=none):(zFr h H).get? b=some o :=
 PySem.W.hideAll_get _ e fun hm=>by
  have q:(H b).isSome=true:=(cF.mp hm).2;rw[n] at q;simp at q
theorem zMu{h:Heap}{H:Hp}{b:Addr}{o:Obj}(e:(zFr h H).get? b=some o):h.get? b=some o/\H b=none:=by
 have e':h.get? b=some o:=PySem.W.of_hideAll (trk h H) e;refine⟨e',?_⟩;cases q:H b with
 | none=>rfl
 | some x =>
  have hm:b∈trk h H:=cF.mpr ⟨bV.mpr (bC e'),by simp[q]⟩;have z:(zFr h H).get? b=none:=PySem.W.hideAll_none (trk h H) hm;rw[z] at e;cases e
noncomputable def zMv(g h:Heap)(L:Addr):List (Addr×Obj):=(bz h.objs.size).filterMap fun a=>if a=L\/(g.get? a).isSome=true then none else (h.get? a).map fun o=>(a,o)
noncomputable def rest(g h:Heap)(L d:Addr):List (Addr×Obj):=(zMv g h L).filter fun p=>decide (p.1≠d)
structure Mod (K:PySem.W.Frag) (mg:Str->Option Value) (base:Heap):Prop where
 kin:K.In base
 glob:base.Ns mainGlobals mg
 blt:∃ mb,base.Ns builtinsNs mb/\∀ x:Str,x≠"__name__"->mb x=bootBuiltins x
 nolimit:base.NoLimit
structure Cx where
 prog:Program
 w:World
 K:PySem.W.Frag
 mg:Str->Option Value
 base:Heap
 A:Around
 N:List Str
 s₀:Shared
 H₀:Hp
 env:Env
 outer:List Env
 stack:List Env
 ex:List Addr
 fn:Str->Bool
 calm:Bool
 pn:List (Addr×Obj)
 xe:Value->Shared->Prop
noncomputable def frs(l:List Env):List Addr:=l.filterMap (·.frame)
noncomputable abbrev Cx.fs(X:Cx):List Addr:=frs X.outer
noncomputable def Vis(sc:Scope)(x:Str):Prop:=sc.names.lookup x=some .local\/sc.names.lookup x=some .cell\/sc.names.lookup x=some .free
noncomputable def Loc(sc:Scope)(x:Str):Prop:=sc.names.lookup x=some .local\/sc.names.lookup x=some .cell
noncomputable def Look(env:Env)(h:Heap)(m:Str->Option Value)(x:Str)(u:Value):Prop :=
 (env.kindOf x=some .local/\m x=some u)\/((env.kindOf x=some .cell\/env.kindOf x=some .free)/\∃ c,env.cells.lookup x=some c/\h.IsCell c (some u))
noncomputable def zIj:List Str:=[]
noncomputable def TabsOk(K:PySem.W.Frag)(H:Hp):Prop:=∀ x∈zIj,∀ c b,PySem.W.tabIn K x=some (c,b)->∃ t,H b=some (.tbl #[.str (x++".<locals>.<lambda>") t])
structure Cx.Ok (X:Cx):Prop where
 mod:Mod X.K X.mg X.base
 kind:X.env.scope.kind=.function
 glob:X.env.globals=mainGlobals
 blt:X.env.builtins=builtinsNs
 above:X.s₀.heap.objs.size<=X.env.locals
 inj:∀ x y c,X.env.cells.lookup x=some c->X.env.cells.lookup y=some c->x=y
 has:∀ x,(X.env.kindOf x=some .cell\/X.env.kindOf x=some .free)->∃ c,X.env.cells.lookup x=some c
 cab:∀ x c,X.fn x=true->X.env.cells.lookup x=some c->X.s₀.heap.objs.size<=c
 hd:X.calm=true->X.A.handled=none
 frames:X.A.frames=some X.stack
 stk:X.stack=X.outer\/(X.stack=X.env::X.outer/\X.env.frame=some X.env.locals)
 exf:∀ b∈X.ex,b≠X.env.locals/\∀ x c,X.env.cells.lookup x=some c->c≠b
 bs:∀ b o,X.base.get? b=some o->X.s₀.heap.get? b=some o/\X.H₀ b=none
 bsz:X.base.objs.size<=X.s₀.heap.objs.size
 noex:∀ b o,X.base.get? b=some o->b∉X.ex
 exfs:∀ b∈X.ex,b∉X.fs
 funs:X.s₀.heap.FunFrames X.base X.outer
 frf:∀ b∈X.fs,X.H₀ b=none
 tb:TabsOk X.K X.H₀
structure zU (X:Cx) (pins:List (Addr×Obj)) (σ:List (Option V)) (H:Hp) (s:Shared):Prop where
 ok:X.Ok
 os:s.os=X.s₀.os
 bare:AllBare s.gens
 base:Un X.fs X.ex X.H₀ H X.s₀.heap s.heap
 loc:∃ m,s.heap.Ns X.env.locals m/\∀(i:Nat) (x:Str) (v:V),X.N[i]?=some x->σ[i]?=some (some v)->Vis X.env.scope x->∃ u,RelV v u/\Look X.env s.heap m x u
 cell:∀ x c,X.env.cells.lookup x=some c->∃ v,s.heap.IsCell c v
 free:H X.env.locals=none
 freeC:∀ x c,X.env.cells.lookup x=some c->H c=none
 pin:∀ p∈X.pn++pins,s.heap.get? p.1=some p.2/\H p.1=none/\p.1≠X.env.locals/\p.1∉X.fs/\∀ v,p.2.data≠.cell v
 hok:HOk X.prog X.w H s.heap
 len:σ.length=X.N.length
section
variable {X:Cx} {pins:List (Addr×Obj)} {σ:List (Option V)} {H H':Hp} {s:Shared} {h':Heap}
theorem Cx.Ok.nofr(ok:X.Ok){b:Addr}{o:Obj}(e:X.base.get? b=some o):b∉X.fs:=fun hb=>by
 have:=(ok.funs.mem hb).1;rw[e] at this;cases this
theorem zU.bs(I:zU X pins σ H s):∀ b o,X.base.get? b=some o->s.heap.get? b=some o/\H b=none:=fun b o e =>
 ⟨I.base.keep b o (I.ok.bs b o e).1 (I.ok.bs b o e).2 (I.ok.nofr e) (I.ok.noex b o e),I.base.free b o (I.ok.bs b o e).1 (I.ok.bs b o e).2 (I.ok.noex b o e)⟩
theorem zU.bk(I:zU X pins σ H s):∀ b o,X.base.get? b=some o->s.heap.get? b=some o:=fun b o e=>(I.bs b o e).1
theorem zU.mod(I:zU X pins σ H s):Mod X.K X.mg X.base:=I.ok.mod
theorem zU.tabs(I:zU X pins σ H s):TabsOk X.K H:=fun x hx c b e=>by
 obtain⟨t,q⟩:=I.ok.tb x hx c b e;exact⟨t,I.base.tbls b _ q⟩
theorem zU.kIn(I:zU X pins σ H s):X.K.In s.heap:=I.ok.mod.kin.keeps I.bk
theorem zU.nolimit(I:zU X pins σ H s):s.heap.NoLimit:=I.ok.mod.nolimit.keeps I.bk
theorem zU.fr(I:zU X pins σ H s):∃ m,Fr X.base X.env.locals s.heap m :=
 let ⟨m,hn,_⟩:=I.loc
 ⟨m,hn,I.bk,cK I.ok.bsz I.ok.above⟩
theorem zU.lt(I:zU X pins σ H s):X.env.locals<s.heap.objs.size:=let ⟨_,hn,_⟩:=I.loc;hn.lt
theorem zU.sz(I:zU X pins σ H s):X.s₀.heap.objs.size<=s.heap.objs.size:=cK I.ok.above (cH I.lt)
theorem zU.nofs(I:zU X pins σ H s){a:Addr}(h:s.heap.objs.size<=a):a∉X.fs:=fun hb=>by
 obtain⟨u0,o,ho,u0⟩:=I.ok.funs.mem hb;exact absurd (bY (bC ho) (cK I.sz h)) (dO _)
theorem zU.cne(I:zU X pins σ H s):∀ x c,X.env.cells.lookup x=some c->c≠X.env.locals:=fun x c e z=>by
 obtain⟨v,o,ho,hd⟩:=I.cell x c e;obtain⟨m,⟨o',es,ep,ho',hd',u0⟩,u0⟩:=I.loc;rw[z,ho'] at ho;cases ho;rw[hd'] at hd;cases hd
theorem zU.funs(I:zU X pins σ H s):s.heap.FunFrames X.base X.outer:=by
 have all:∀(l:List Env),(∀ b∈frs l,b∈X.fs)->X.s₀.heap.FunFrames X.base l->s.heap.FunFrames X.base l:=by
  intro l
  induction l with
  | nil=>intro u0 u0;trivial
  | cons env r ih =>
   intro hs hl;obtain⟨hk,⟨L,o,hf,hn,ho,hd⟩,hr⟩:=hl;have hL:L∈X.fs:=hs L (by unfold frs;rw[fc,hf];exact bU);obtain⟨sl,e⟩:=I.base.slot L o ho (I.ok.frf L hL) hL fun z=>I.ok.exfs L z hL;exact⟨hk,⟨L,_,hf,hn,e,hd⟩,ih (fun b hb=>hs b (by unfold frs;rw[fc,hf];exact bN _ hb)) hr⟩
 exact all X.outer (fun u0 hb=>hb) I.ok.funs
theorem zU.stack(I:zU X pins σ H s):s.heap.FunFrames X.base X.stack:=by
 rcases I.ok.stk with e | ⟨e,hf⟩
 ·rw[e];exact I.funs
 ·rw[e]
  obtain⟨m,hn,u0⟩:=I.loc;refine .cons (by rw[I.ok.kind];decide) hf hn ?_ I.funs;exact eW (cK I.ok.bsz I.ok.above)
theorem zU.stkSub(I:zU X pins σ H s):∀ b∈frs X.stack,b∈X.env.locals::X.fs:=fun b hb=>by
 rcases I.ok.stk with e | ⟨e,hf⟩
 ·rw[e] at hb;exact bN _ hb
 ·rw[e] at hb
  unfold frs at hb;rw[fc,hf] at hb;exact hb
theorem zU.stkFree(I:zU X pins σ H s):∀ b∈frs X.stack,H b=none:=fun b hb=>by
 rcases ce.mp (I.stkSub b hb) with e | hb
 ·rw[e];exact I.free
 ·obtain⟨u0,o,ho,u0⟩:=I.ok.funs.mem hb
  exact I.base.free b o ho (I.ok.frf b hb) fun z=>I.ok.exfs b z hb
theorem zU.step{g':Array GenState}{t':Nat}{d':Drawn}{ch:List Addr}(I:zU X pins σ H s)
  (hch:∀ b∈ch,(b∈X.ex\/X.s₀.heap.objs.size<=b)/\b≠X.env.locals/\(∀ x c,X.env.cells.lookup x=some c->c≠b)/\∀ p∈X.pn++pins,p.1≠b)
  (keep:∀ b o,b≠X.env.locals->b∉X.fs->b∉ch->s.heap.get? b=some o->H b=none->h'.get? b=some o)
  (slot:∀ b o,b≠X.env.locals->b∈X.fs->b∉ch->s.heap.get? b=some o->H b=none->∃ sl,h'.get? b=some { o with slots:=sl }) (free:∀ b o,b∉ch->s.heap.get? b=some o->H b=none->H' b=none)
  (there:∀ b o,b∉ch->s.heap.get? b=some o->∃ o',h'.get? b=some o')
  (tups:∀ b xs,H b=some (.tup xs)->H' b=some (.tup xs)) (frzs:∀ b o u,H b=some (.frz o u)->H' b=some (.frz o u)) (tbls:∀ b ps,H b=some (.tbl ps)->H' b=some (.tbl ps))
  (ns:∀ m,s.heap.Ns X.env.locals m->h'.Ns X.env.locals m) (hok:HOk X.prog X.w H' h') (hg:AllBare g') :
  zU X pins σ H' { s with heap:=h',gens:=g',drawn:=d',toks:=t' }:=by
 have neL:∀ b o,X.s₀.heap.get? b=some o->b≠X.env.locals:=fun b o e=>bO (bY (bC e) I.ok.above);have neC:∀ b o,X.s₀.heap.get? b=some o->b∉X.ex->b∉ch:=fun b o e hx hb=>by
  rcases(hch b hb).1 with z | z
  ·exact hx z
  ·exact absurd (bY (bC e) z) (dO _)
 have cellK:∀ x c,X.env.cells.lookup x=some c->∀ v,s.heap.IsCell c v->h'.IsCell c v:=fun x c e v ⟨o,ho,hd⟩=>by
  have nch:c∉ch:=fun z=>(hch c z).2.2.1 x c e rfl;by_cases hc:c∈X.fs
  ·obtain⟨sl,q⟩:=slot c o (I.cne x c e) hc nch ho (I.freeC x c e)
   exact⟨_,q,hd⟩
  ·exact⟨o,keep c o (I.cne x c e) hc nch ho (I.freeC x c e),hd⟩
 refine⟨I.ok,I.os,hg,⟨fun b o e n hb hx=>?_,fun b o e n hb hx=>?_,fun b o e n hx=>?_,fun b o e hx=>?_,fun b xs e=>tups b xs (I.base.tups b xs e),fun b o xs e=>frzs b o xs (I.base.frzs b o xs e),fun b ps e=>?_⟩,?_,fun x c e=>?_,?_,fun x c e=>?_,fun p hp=>?_,hok,I.len⟩
 ·exact keep b o (neL b o e) hb (neC b o e hx) (I.base.keep b o e n hb hx) (I.base.free b o e n hx)
 ·obtain⟨sl,e1⟩:=I.base.slot b o e n hb hx
  obtain⟨sl',e2⟩:=slot b _ (neL b o e) hb (neC b o e hx) e1 (I.base.free b o e n hx);exact⟨sl',e2⟩
 ·obtain⟨o',e1⟩:=I.base.there b o e hx
  exact free b o' (neC b o e hx) e1 (I.base.free b o e n hx)
 ·obtain⟨o',e1⟩:=I.base.there b o e hx
  exact there b o' (neC b o e hx) e1
 ·exact tbls b _ (I.base.tbls b ps e)
 ·obtain⟨m,hn,hl⟩:=I.loc
  refine⟨m,ns m hn,fun i x v e1 e2 e3=>?_⟩;obtain⟨u,r,l⟩:=hl i x v e1 e2 e3;refine⟨u,r,?_⟩;rcases l with l | ⟨k,c,e,z⟩
  ·exact .inl l
  ·exact .inr ⟨k,c,e,cellK x c e _ z⟩
 ·obtain⟨v,z⟩:=I.cell x c e
  exact⟨v,cellK x c e v z⟩
 ·obtain⟨m,⟨o,u0,u0,ho,u0⟩,u0⟩:=I.loc
  exact free _ o (fun z=>(hch _ z).2.1 rfl) ho I.free
 ·obtain⟨v,o,ho,hd⟩:=I.cell x c e
  exact free c o (fun z=>(hch c z).2.2.1 x c e rfl) ho (I.freeC x c e)
 ·obtain⟨e,n,ne,nf,d⟩:=I.pin p hp
  have nch:p.1∉ch:=fun z=>(hch p.1 z).2.2.2 p hp rfl;exact⟨keep p.1 p.2 ne nf nch e n,free p.1 p.2 nch e n,ne,nf,d⟩
theorem zU.un{t':Nat}(I:zU X pins σ H s)(u:Un X.fs [] H H' s.heap h')(hok:HOk X.prog X.w H' h'):zU X pins σ H' { s with heap:=h',toks:=t' }:=by
 obtain⟨m,⟨o,es,ep,ho,r⟩,u0⟩:=id I.loc;obtain⟨sl,hL⟩:=u.any ho I.free (by simp);exact I.step (g':=s.gens) (d':=s.drawn) (ch:=[]) (fun u0 z=>nomatch z) (fun b o u0 hb u0 e n=>u.keep b o e n hb (by simp)) (fun b o u0 hb u0 e n=>u.slot b o e n hb (by simp)) (fun b o u0 e n=>u.free b o e n (by simp)) (fun b o u0 e=>u.there b o e (by simp)) u.tups u.frzs u.tbls (fun m' hm=>by
  obtain⟨o',es',ep',ho',r'⟩:=hm;rw[ho] at ho';cases ho';exact⟨_,es',ep',hL,r'⟩) hok I.bare
theorem zU.call{g':Array GenState}{t':Nat}{d':Drawn}{ch:List Addr}(I:zU X pins σ H s)(u:Un (frs X.stack) ch H H' s.heap h')(hok:HOk X.prog X.w H' h')(hg:AllBare g')
  (hch:∀ b∈ch,(b∈X.ex\/X.s₀.heap.objs.size<=b)/\b≠X.env.locals/\(∀ x c,X.env.cells.lookup x=some c->c≠b)/\∀ p∈X.pn++pins,p.1≠b) :
  zU X pins σ H' { s with heap:=h',gens:=g',drawn:=d',toks:=t' }:=by
 obtain⟨m,⟨o,es,ep,ho,r⟩,u0⟩:=id I.loc;obtain⟨sl,hL⟩:=u.any ho I.free fun z=>(hch _ z).2.1 rfl;exact I.step (ch:=ch) hch (fun b o hL hb hc e n=>u.keep b o e n (fun z=>(ce.mp (I.stkSub b z)).elim hL hb) hc) (fun b o u0 u0 hc e n=>u.any e n hc) (fun b o hc e n=>u.free b o e n hc) (fun b o hc e=>u.there b o e hc) u.tups u.frzs u.tbls (fun m' hm=>by
  obtain⟨o',es',ep',ho',r'⟩:=hm;rw[ho] at ho';cases ho';exact⟨_,es',ep',hL,r'⟩) hok hg
theorem zU.turned{t':Nat}{it:Addr}(I:zU X pins σ H s)(k:∀ b o,b≠it->s.heap.get? b=some o->h'.get? b=some o)(hn:H it=none)(hL:it≠X.env.locals)
  (h1:it∈X.ex\/X.s₀.heap.objs.size<=it) (h2:∀ x c,X.env.cells.lookup x=some c->c≠it) (h3:∀ p∈X.pn++pins,p.1≠it):zU X pins σ H { s with heap:=h',toks:=t' }:=by
 have nit:∀ b u,H b=some u->b≠it:=fun b u e z=>by rw[z,hn] at e;cases e
 refine I.step (g':=s.gens) (d':=s.drawn) (ch:=[it]) (fun b hb=>?_) (fun b o u0 u0 hc e u0=>k b o (fun z=>hc (by simp[z])) e) (fun b o u0 u0 hc e u0=>⟨o.slots,k b o (fun z=>hc (by simp[z])) e⟩) (fun u0 u0 u0 u0 n=>n)
  (fun b o hc e=>⟨o,k b o (fun z=>hc (by simp[z])) e⟩) (fun u0 u0 e=>e) (fun u0 u0 u0 e=>e) (fun u0 u0 e=>e) (fun m hm=>?_) (fun b u e=>?_) I.bare
 ·have e:b=it:=by simpa using hb
  subst e;exact⟨h1,hL,h2,h3⟩
 ·obtain⟨o,es,ep,ho,r⟩:=hm
  exact⟨o,es,ep,k _ o (Ne.symm hL) ho,r⟩
 ·refine(I.hok b u e).stay (fun c v hc q=>k c v ?_ q) (fun u0 q=>q) (fun u0 u0 q=>q) fun u0 u0 u0 q=>q
  rcases hc with z | z
  ·rw[z];exact nit b u e
  ·exact nit c _ z
theorem zU.tok(I:zU X pins σ H s)(t:Nat):zU X pins σ H { s with toks:=t }:=I.un (h':=s.heap) (t':=t) Un.refl I.hok
theorem zU.kept{t':Nat}(I:zU X pins σ H s)(k:∀ b u,s.heap.get? b=some u->h'.get? b=some u):zU X pins σ H { s with heap:=h',toks:=t' }:=I.un (Un.kept k) (I.hok.kept k)
theorem zU.laid{a:Addr}{o:HO}{t':Nat}(I:zU X pins σ H s)(k:∀ b u,s.heap.get? b=some u->h'.get? b=some u)(hp:s.heap.objs.size<=a)(new:zAE X.prog X.w (ye H a o) h' a o) :
  zU X pins σ (ye H a o) { s with heap:=h',toks:=t' }:=I.un (Un.laid k hp (I.hok.fresh hp)) (I.hok.laid k hp new)
theorem zU.write{x e:Addr}{o:HO}{t':Nat}(I:zU X pins σ H s)(mu:Mut (H x))(he:e=x\/H e=some (.own x))(k:∀ b u,b≠e->s.heap.get? b=some u->h'.get? b=some u)(heo:∃ u,h'.get? e=some u)
  (new:zAE X.prog X.w (ye H x o) h' x o):zU X pins σ (ye H x o) { s with heap:=h',toks:=t' }:=I.un (Un.write mu he k heo) (I.hok.write mu he k heo new)
theorem zU.weak{σ':List (Option V)}(I:zU X pins σ H s)(hl:σ'.length=σ.length)(w:∀(i:Nat) v,σ'[i]?=some (some v)->σ[i]?=some (some v)):zU X pins σ' H s :=
 ⟨I.ok,I.os,I.bare,I.base,let ⟨m,hn,hl'⟩:=I.loc;⟨m,hn,fun i x v e1 e2 e3=>hl' i x v e1 (w i v e2) e3⟩,I.cell,I.free,I.freeC,I.pin,I.hok,hl.trans I.len⟩
theorem zU.pins_of{pins':List (Addr×Obj)}(I:zU X pins σ H s)(h:∀ p∈pins',s.heap.get? p.1=some p.2/\H p.1=none/\p.1≠X.env.locals/\p.1∉X.fs/\∀ v,p.2.data≠.cell v):zU X pins' σ H s :=
 ⟨I.ok,I.os,I.bare,I.base,I.loc,I.cell,I.free,I.freeC,fun p hp=>(cu.mp hp).elim (fun z=>I.pin p (cy _ z)) (h p),I.hok,I.len⟩
theorem zGl{N:List Str}(hN:N.Nodup){i j:Nat}{x:Str}(a:N[i]?=some x)(b:N[j]?=some x):i=j:=by
 obtain⟨h1,e1⟩:=bD.mp a;obtain⟨h2,e2⟩:=bD.mp b;exact(List.getElem_inj hN).mp (e1.trans e2.symm)
theorem zE7{M:Model}{A:Around}{E:Value->Shared->Prop}{i:Nat}{x:Str}{v:V}{u:Value}{Q:Unit->Shared->Prop}(I:zU X pins σ H s)(hN:X.N.Nodup)(hi:X.N[i]?=some x)(hx:Loc X.env.scope x)(r:RelV v u)
  (h:∀ s',zU X pins (σ.set i (some v)) H s'->(∃ a,bX a s.heap s'.heap/\(a=X.env.locals\/X.env.cells.lookup x=some a))->Q () s') (hf:autoParam (X.fn x=true\/X.env.scope.names.lookup x=some .local) Zq1._auto_1):wpAny M A (storeName X.env x u) Q E s:=by
 obtain⟨m,hn,hl⟩:=id I.loc;have hcls:(X.env.scope.kind==.class||(X.env.scope.kind==.module&&X.env.locals != X.env.globals))=false:=by rw[I.ok.kind];rfl
 have hiσ:i<σ.length:=by rw[I.len];exact(bD.mp hi).1
 have cne:=I.cne;have tracked:∀ {a:Addr} {h':Heap},(∃ o,s.heap.get? a=some o/\H a=none)->bX a s.heap h'->HOk X.prog X.w H h':=fun {a h'} ha hs b ob e=>by
  obtain⟨u0,u0,hfree⟩:=ha;refine(I.hok b ob e).stay (fun c w' hc q=>(hs.2 c ?_).trans q) (fun u0 q=>q) (fun u0 u0 q=>q) fun u0 u0 u0 q=>q;rintro rfl;rcases hc with rfl | hc
  ·rw[hfree] at e;cases e
  ·rw[hfree] at hc;cases hc
 rcases hx with hk | hk
 ·refine wpAny_storeName_local hk hn (fun h' hn' hs=>?_) hcls
  obtain⟨oL,u0,u0,hoL,u0⟩:=id hn;refine h _ ⟨I.ok,I.os,I.bare,⟨fun b o e n hb hx=>?_,fun b o e n hb hx=>?_,I.base.free,fun b o e hx=>?_,I.base.tups,I.base.frzs,I.base.tbls⟩,⟨_,hn',fun j y v' e1 e2 e3=>?_⟩,fun y c e=>?_,I.free,I.freeC,fun p hp=>?_,tracked ⟨oL,hoL,I.free⟩ hs,by simpa using I.len⟩ ⟨_,hs,.inl rfl⟩
  ·exact(hs.2 b (bO (bY (bC e) I.ok.above))).trans (I.base.keep b o e n hb hx)
  ·obtain⟨sl,e1⟩:=I.base.slot b o e n hb hx
   exact⟨sl,(hs.2 b (bO (bY (bC e) I.ok.above))).trans e1⟩
  ·obtain⟨o',e1⟩:=I.base.there b o e hx
   exact⟨o',(hs.2 b (bO (bY (bC e) I.ok.above))).trans e1⟩
  ·by_cases hj:j=i
   ·subst hj
    rw[hi] at e1;cases e1;rw[dU hiσ] at e2;cases e2;exact⟨u,r,.inl ⟨hk,by simp⟩⟩
   ·rw[eU (Ne.symm hj)] at e2
    obtain⟨u',r',q⟩:=hl j y v' e1 e2 e3;refine⟨u',r',?_⟩;rcases q with ⟨k,e⟩ | ⟨k,c,e,z⟩
    ·refine .inl ⟨k,?_⟩
     have:y≠x:=fun e=>hj (zGl hN e1 (e▸hi));simp[this,e]
    ·exact .inr ⟨k,c,e,z.sameBut hs (cne y c e)⟩
  ·obtain⟨w',z⟩:=I.cell y c e
   exact⟨w',z.sameBut hs (cne y c e)⟩
  ·obtain⟨e,n,ne,nf,d⟩:=I.pin p hp
   exact⟨(hs.2 p.1 ne).trans e,n,ne,nf,d⟩
 ·have hfn:X.fn x=true:=by
   rcases hf with z | z
   ·exact z
   ·rw[z] at hk;cases hk
  obtain⟨c,hc⟩:=I.ok.has x (.inl hk);obtain⟨w',z⟩:=I.cell x c hc;refine wpAny_storeName_cell I.ok.kind hk hc z (fun h' hc' hs=>?_);obtain⟨oc,hoc,hocd⟩:=id z;refine h { s with heap:=h' } ⟨I.ok,I.os,I.bare,⟨fun b o e n hb hx=>?_,fun b o e n hb hx=>?_,I.base.free,fun b o e hx=>?_,I.base.tups,I.base.frzs,I.base.tbls⟩,⟨m,hn.sameBut hs (Ne.symm (cne x c hc)),fun j y v' e1 e2 e3=>?_⟩,fun y c' e=>?_,I.free,I.freeC,fun p hp=>?_,tracked ⟨oc,hoc,I.freeC x c hc⟩ hs,by simpa using I.len⟩ ⟨c,hs,.inr hc⟩
  ·exact(hs.2 b (bO (bY (bC e) (I.ok.cab x c hfn hc)))).trans (I.base.keep b o e n hb hx)
  ·obtain⟨sl,e1⟩:=I.base.slot b o e n hb hx
   exact⟨sl,(hs.2 b (bO (bY (bC e) (I.ok.cab x c hfn hc)))).trans e1⟩
  ·obtain⟨o',e1⟩:=I.base.there b o e hx
   exact⟨o',(hs.2 b (bO (bY (bC e) (I.ok.cab x c hfn hc)))).trans e1⟩
  ·by_cases hj:j=i
   ·subst hj
    rw[hi] at e1;cases e1;rw[dU hiσ] at e2;cases e2;exact⟨u,r,.inr ⟨.inl hk,c,hc,hc'⟩⟩
   ·rw[eU (Ne.symm hj)] at e2
    obtain⟨u',r',q⟩:=hl j y v' e1 e2 e3;refine⟨u',r',?_⟩;rcases q with q | ⟨k,c',e,z'⟩
    ·exact .inl q
    ·refine .inr ⟨k,c',e,z'.sameBut hs ?_⟩
     rintro rfl;exact hj (zGl hN e1 (I.ok.inj _ _ _ e hc▸hi))
  ·by_cases hcc:c'=c
   ·subst hcc;exact⟨_,hc'⟩
   ·obtain⟨w2,z2⟩:=I.cell y c' e
    exact⟨w2,z2.sameBut hs hcc⟩
  ·obtain⟨e,n,ne,nf,d⟩:=I.pin p hp
   refine⟨(hs.2 p.1 ?_).trans e,n,ne,nf,d⟩;intro q;rw[q,hoc] at e;have q':oc=p.2:=Option.some.inj e;exact d w' (by rw[<-q'];exact hocd)
theorem zBS{M:Model}{A:Around}{E:Value->Shared->Prop}{i:Nat}{x:Str}{v:V}{u:Value}{Q:Unit->Shared->Prop}(I:zU X pins σ H s)(hN:X.N.Nodup)(hi:X.N[i]?=some x)(hx:Loc X.env.scope x)(r:RelV v u)
  (h:∀ s',zU X pins (σ.set i (some v)) H s'->Q () s') (hf:autoParam (X.fn x=true\/X.env.scope.names.lookup x=some .local) Zq1._auto_1):wpAny M A (storeName X.env x u) Q E s :=
 zE7 I hN hi hx r (fun s' I' u0=>h s' I') hf
theorem zU.call'{s':Shared}{ch:List Addr}(I:zU X pins σ H s)(ho:s'.os=s.os)(u:Un (frs X.stack) ch H H' s.heap s'.heap)(hok:HOk X.prog X.w H' s'.heap)(hg:AllBare s'.gens)
  (hch:∀ b∈ch,(b∈X.ex\/X.s₀.heap.objs.size<=b)/\b≠X.env.locals/\(∀ x c,X.env.cells.lookup x=some c->c≠b)/\∀ p∈X.pn++pins,p.1≠b):zU X pins σ H' s':=by
 obtain⟨h',g',d',t',o'⟩:=s';have e:o'=s.os:=ho;subst e;exact I.call (g':=g') (t':=t') (d':=d') u hok hg hch
end
noncomputable abbrev XK:=Value->Option Addr->Hp->Prop
noncomputable abbrev St:=List (Option V)
noncomputable abbrev VK:=V->Hp->Prop
noncomputable abbrev TE:=St->Hp->VK->Prop
noncomputable abbrev TT:=St->Hp->(Bool->Hp->Prop)->Prop
noncomputable abbrev TA:=St->Hp->(List V->Hp->Prop)->Prop
structure Ends where
 nx:St->Hp->Prop
 rt:VK
 bk:St->Hp->Prop:=fun u0 u0=>False
 ct:St->Hp->Prop:=fun u0 u0=>False
noncomputable abbrev TS:=Ends->St->Hp->Prop
noncomputable def EP(X:Cx)(pins:List (Addr×Obj))(σ:St)(Q:VK)(u:Value)(s':Shared):Prop:=∃ v H',zU X pins σ H' s'/\RelV v u/\Q v H'
noncomputable def TP(X:Cx)(pins:List (Addr×Obj))(σ:St)(Q:Bool->Hp->Prop)(b:Bool)(s':Shared):Prop:=∃ H',zU X pins σ H' s'/\Q b H'
noncomputable def AP(X:Cx)(pins:List (Addr×Obj))(σ:St)(Q:List V->Hp->Prop)(us:List Value)(s':Shared):Prop:=∃ vs H',zU X pins σ H' s'/\zX vs us/\Q vs H'
noncomputable def SP(X:Cx)(pins:List (Addr×Obj))(D:Ends)(f:Flow)(s':Shared):Prop :=
 match f with
 | .next=>∃ σ' H',zU X pins σ' H' s'/\D.nx σ' H'
 | .brk=>∃ σ' H',zU X pins σ' H' s'/\D.bk σ' H'
 | .cont=>∃ σ' H',zU X pins σ' H' s'/\D.ct σ' H'
 | .ret u=>∃ v σ' H',zU X pins σ' H' s'/\RelV v u/\D.rt v H'
noncomputable def PE(X:Cx)(e:Expr)(t:TE):Prop :=
 ∀(pins:List (Addr×Obj)) (s:Shared) (σ:St) (H:Hp) (Q:VK),zU X pins σ H s->t σ H Q->wpAny (model X.prog X.w) X.A (eval e X.env) (EP X pins σ Q) X.xe s
noncomputable def PT(X:Cx)(e:Expr)(t:TT):Prop :=
 ∀(pins:List (Addr×Obj)) (s:Shared) (σ:St) (H:Hp) (Q:Bool->Hp->Prop),zU X pins σ H s->t σ H Q->wpAny (model X.prog X.w) X.A (isTrue e X.env (eval e X.env)) (TP X pins σ Q) X.xe s
noncomputable def PW(X:Cx)(e:Expr)(t:TT):Prop :=
 ∀(whole:Sem Value) (pins:List (Addr×Obj)) (s:Shared) (σ:St) (H:Hp) (Q:Bool->Hp->Prop),zU X pins σ H s->t σ H Q->wpAny (model X.prog X.w) X.A (isTrue e X.env whole) (TP X pins σ Q) X.xe s
theorem PW.pt{X:Cx}{e:Expr}{t:TT}(h:PW X e t):PT X e t:=h _
noncomputable def PA(X:Cx)(es:List Expr)(t:TA):Prop :=
 ∀(pos:Pos) (pins:List (Addr×Obj)) (s:Shared) (σ:St) (H:Hp) (Q:List V->Hp->Prop),zU X pins σ H s->t σ H Q->wpAny (model X.prog X.w) X.A (spliced (backTo pos (starEach es X.env))) (AP X pins σ Q) X.xe s
noncomputable def PS(X:Cx)(st:Stmt)(t:TS):Prop :=
 ∀(pins:List (Addr×Obj)) (s:Shared) (σ:St) (H:Hp) (D:Ends),zU X pins σ H s->t D σ H->wpAny (model X.prog X.w) X.A (exec st X.env) (SP X pins D) X.xe s
noncomputable def PSs(X:Cx)(st:List Stmt)(t:TS):Prop :=
 ∀(pins:List (Addr×Obj)) (s:Shared) (σ:St) (H:Hp) (D:Ends),zU X pins σ H s->t D σ H->wpAny (model X.prog X.w) X.A (execs st X.env) (SP X pins D) X.xe s
theorem yU{α:Type}{t:Sem α}{Q Q':α->Shared->Prop}{M:Model}{A:Around}{E:Value->Shared->Prop}{s:Shared}(h:wpAny M A t Q E s)(hQ:∀ a s,Q a s->Q' a s):wpAny M A t Q' E s:=eN h hQ fun u0 u0 x=>x
section
variable {X:Cx}
noncomputable def zRr(i:Nat):TE:=fun σ H Q=>∃ v,σ[i]?=some (some v)/\Q v H
noncomputable def tC(v:V):TE:=fun u0 H Q=>Q v H
theorem zO0{i:Nat}{x:Str}{pos:Pos}(hN:X.N[i]?=some x)(hv:Vis X.env.scope x)(hd:autoParam ((x==("__debug__":Str))=false) Zq2._auto_1)(hcd:autoParam ((x==("__classdict__":Str))=false) Zq2._auto_1):PE X (.Name x pos) (zRr i):=by
 intro pins s σ H Q I h;obtain⟨v,e,h⟩:=h;obtain⟨m,hn,hl⟩:=I.loc;obtain⟨u,r,l⟩:=hl i x v hN e hv;have fin:EP X pins σ Q u s:=⟨v,H,I,r,h⟩
 rcases l with ⟨hk,hm⟩ | ⟨hk,c,hc,hcell⟩
 ·exact wpAny_Name (wpAny_loadName_local I.ok.kind hk hn hm fin) hd
 ·rcases hk with hk | hk
  ·exact wpAny_Name (wpAny_loadName_cell I.ok.kind hk hc hcell fin) hd
  ·exact wpAny_Name (wpAny_loadName_free I.ok.kind hk hc hcell fin hcd) hd
theorem zO1{i j pos}:PE X (.Constant (.int i) j pos) (tC (.int i)):=fun u0 u0 u0 H u0 I h=>wpAny_Constant_int ⟨.int i,H,I.tok _,⟨_,rfl⟩,h⟩
theorem zQk{b j pos}:PE X (.Constant (.bool b) j pos) (tC (.bl b)):=fun u0 u0 u0 H u0 I h=>Constant_bool ⟨.bl b,H,I,rfl,h⟩
theorem zO2{j pos}:PE X (.Constant .none j pos) (tC .non):=fun u0 u0 u0 H u0 I h=>Constant_none ⟨.non,H,I,rfl,h⟩
noncomputable def Gl(X:Cx)(x:Str):Prop:=X.env.kindOf x=some .globalImplicit
theorem zIk{E:Value->Shared->Prop}{pins:List (Addr×Obj)}{s:Shared}{σ:St}{H:Hp}{x:Str}{u:Value}{pos:Pos}{Q:Value->Shared->Prop}(I:zU X pins σ H s)(hg:Gl X x)(hm:X.mg x=some u)(h:Q u s)
  (hd:autoParam ((x==("__debug__":Str))=false) Zq2._auto_1):wpAny (model X.prog X.w) X.A (eval (.Name x pos) X.env) Q E s :=
 Calls.Name_function_global I.ok.kind hg (Calls.loadGlobal_global (by rw[I.ok.glob];exact I.mod.glob.keeps I.bk) hm h) hd
theorem zAB{E:Value->Shared->Prop}{pins:List (Addr×Obj)}{s:Shared}{σ:St}{H:Hp}{x:Str}{u:Value}{pos:Pos}{Q:Value->Shared->Prop}(I:zU X pins σ H s)(hg:Gl X x)(hm:X.mg x=none)(hv:bootBuiltins x=some u)(h:Q u s)
  (hn:autoParam (x≠"__name__") Zq2._auto_1) (hd:autoParam ((x==("__debug__":Str))=false) Zq2._auto_1):wpAny (model X.prog X.w) X.A (eval (.Name x pos) X.env) Q E s:=by
 obtain⟨mb,h1,h2⟩:=I.mod.blt;exact Calls.Name_function_global I.ok.kind hg (Calls.loadGlobal_builtin (by rw[I.ok.glob];exact I.mod.glob.keeps I.bk) hm (by rw[I.ok.blt];exact h1.keeps I.bk) ((h2 x hn).trans hv) h) hd
theorem zMw{x:Str}{v:V}{u:Value}{pos:Pos}(hg:Gl X x)(hm:X.mg x=some u)(r:RelV v u)(hd:autoParam ((x==("__debug__":Str))=false) Zq2._auto_1):PE X (.Name x pos) (tC v) :=
 fun u0 u0 u0 H u0 I h=>zIk I hg hm ⟨v,H,I,r,h⟩ hd
variable {a b:Expr} {ta tb:TE} {pos:Pos}
noncomputable def tB(t:TE):TT:=fun σ H Q=>t σ H fun x H1=>∃ c,x=.bl c/\Q c H1
theorem zO3{e:Expr}{t:TE}(h:PE X e t)(he:autoParam (∀ whole,isTrue e X.env whole=(do let v <-whole;standAt e.pos;holding [v] (truthy v))) Zq3._auto_1):PT X e (tB t):=by
 intro pins s σ H Q I hw;refine isTrue_plain (yU (h pins s σ H _ I hw) fun v s1 ⟨x,H1,I1,r1,q1⟩=>?_) (he _);obtain⟨d,rfl,q⟩:=q1;cases r1;exact d9 ⟨H1,I1,q⟩
variable {tA tB':TT} {rest:List Expr}
noncomputable def zRs(t u:TT):TT:=fun σ H Q=>t σ H fun c H1=>if c=true then u σ H1 Q else Q false H1
noncomputable def tOr(t u:TT):TT:=fun σ H Q=>t σ H fun c H1=>if c=true then Q true H1 else u σ H1 Q
noncomputable def zRt(t:TT):TT:=fun σ H Q=>t σ H fun c H1=>Q (!c) H1
theorem zMx(ha:PT X a tA):PW X (.BoolOp .And [a] pos) tA:=by
 intro wh pins s σ H Q I h;refine isTrue_and (yU (ha pins s σ H Q I h) fun c s1 e=>?_);cases c with
 | true=>exact isTrue_and_nil e
 | false=>exact e
theorem zO4(ha:PT X a tA):PW X (.BoolOp .Or [a] pos) tA:=by
 intro wh pins s σ H Q I h;refine isTrue_or (yU (ha pins s σ H Q I h) fun c s1 e=>?_);cases c with
 | false=>exact isTrue_or_nil e
 | true=>exact e
theorem zO5(ha:PT X a tA)(hb:PW X (.BoolOp .And (b::rest) pos) tB'):PW X (.BoolOp .And (a::b::rest) pos) (zRs tA tB'):=by
 intro wh pins s σ H Q I h;refine isTrue_and (yU (ha pins s σ H _ I h) fun c s1 u9=>?_);obtain⟨H1,I1,q1⟩:=u9;cases c with
 | true=>exact hb wh pins s1 σ H1 Q I1 q1
 | false=>exact⟨H1,I1,q1⟩
theorem zQl(ha:PT X a tA)(hb:PW X (.BoolOp .Or (b::rest) pos) tB'):PW X (.BoolOp .Or (a::b::rest) pos) (tOr tA tB'):=by
 intro wh pins s σ H Q I h;refine isTrue_or (yU (ha pins s σ H _ I h) fun c s1 u9=>?_);obtain⟨H1,I1,q1⟩:=u9;cases c with
 | true=>exact⟨H1,I1,q1⟩
 | false=>exact hb wh pins s1 σ H1 Q I1 q1
theorem zO6(ha:PT X a tA):PT X (.UnaryOp .Not a pos) (zRt tA):=by
 intro pins s σ H Q I h;exact isTrue_not (ha pins s σ H (fun c H1=>Q (!c) H1) I h)
noncomputable def zQm(ta tb:TE):TE:=fun σ H Q=>ta σ H fun x H1=>∃ c,x=.bl c/\if c=true then tb σ H1 Q else Q (.bl false) H1
theorem zO7{op}{t:TE}(h:PE X a t):PE X (.BoolOp op [a] pos) t:=fun pins s σ H Q I hw=>BoolOp_one (h pins s σ H Q I hw)
theorem zO8(ha:PE X a ta)(hb:PE X (.BoolOp .And (b::rest) pos) tb):PE X (.BoolOp .And (a::b::rest) pos) (zQm ta tb):=by
 intro pins s σ H Q I h;refine BoolOp_and (yU (ha pins s σ H _ I h) fun v s1 u9=>?_);obtain⟨x,H1,I1,r1,q1⟩:=u9;obtain⟨c,rfl,q1⟩:=q1;cases r1;refine d9 ?_;cases c with
 | true=>exact hb pins s1 σ H1 Q I1 q1
 | false=>exact⟨.bl false,H1,I1,rfl,q1⟩
end
noncomputable def SqL(K:PySem.W.Frag)(H:Hp)(a:Addr)(xs:List V):Prop :=
 Rd H a (.lst xs) \/
  ∃(o:Obj) (its:Array Value) (n:Nat),K.lookup a=some o/\o.cls=.type "list"/\o.dict=none/\o.data=.seq its n/\its.size<=sizeLine/\zX xs its.toList
noncomputable def SqT(K:PySem.W.Frag)(H:Hp)(a:Addr)(xs:List V):Prop :=
 Rd H a (.tup xs) \/
  ∃(o:Obj) (its:Array Value) (n:Nat),K.lookup a=some o/\o.cls=.type "tuple"/\o.data=.seq its n/\its.size<=sizeLine/\zX xs its.toList/\o.dict=none
noncomputable def zRu:Value->Option V
 | .none=>some .non
 | .bool b=>some (.bl b)
 | .int i _=>some (.int i)
 | .str x _=>some (.str x)
 | .bytes b _=>some (.byt b)
 | .float b _=>some (.flt b)
 | .ref a=>some (.ref a)
 | .type n=>some (.ty n)
 | _=>none
theorem RelV.abs{x:V}{u:Value}(r:RelV x u):zRu u=some x:=by
 cases x with
 | non=>cases r;rfl
 | bl _=>cases r;rfl
 | int _=>obtain⟨t,rfl⟩:=r;rfl
 | str _=>obtain⟨t,rfl⟩:=r;rfl
 | byt _=>obtain⟨t,rfl⟩:=r;rfl
 | flt _=>obtain⟨t,rfl⟩:=r;rfl
 | ref _=>cases r;rfl
 | ty _=>cases r;rfl
theorem RelV.inj{x y:V}{u:Value}(r:RelV x u)(q:RelV y u):x=y:=Option.some.inj (r.abs.symm.trans q.abs)
theorem zX.inj:∀ {xs ys:List V} {us:List Value},zX xs us->zX ys us->xs=ys
 | _,_,_,.nil,.nil=>rfl
 | _,_,_,.cons r t,.cons r' t'=>by rw[r.inj r',zX.inj t t']
section
variable {X:Cx} {pins:List (Addr×Obj)} {σ:St} {H:Hp} {s:Shared} {a:Addr} {xs ys:List V}
theorem SqL.of{K:PySem.W.Frag}(h:H a=some (.lst xs)):SqL K H a xs:=.inl (.inl h)
theorem SqT.of{K:PySem.W.Frag}(h:H a=some (.tup xs)):SqT K H a xs:=.inl (.inl h)
theorem zU.list(I:zU X pins σ H s)(h:SqL X.K H a xs):∃ its:List Value,zX xs its/\PlainL s.heap a its.toArray/\xs.length<=sizeLine:=by
 rcases h with h | ⟨o,its,n,hk,hc,hd,hs,hz,r⟩
 ·obtain⟨z,its,n,r,e⟩:=h.ok I.hok
  exact⟨its,r,⟨_,n,e,rfl,rfl,rfl⟩,z⟩
 ·refine⟨its.toList,r,⟨o,n,I.kIn a o hk,hc,hd,by simpa using hs⟩,?_⟩
  have e:=r.length;simp only[bK] at e;omega
theorem zU.tuple(I:zU X pins σ H s)(h:SqT X.K H a xs):∃ its:List Value,zX xs its/\IsTup s.heap a its.toArray/\xs.length<=sizeLine:=by
 rcases h with h | ⟨o,its,n,hk,hc,hs,hz,r,u0⟩
 ·obtain⟨z,its,r,p⟩:=h.ok I.hok
  exact⟨its,r,p.isTup,z⟩
 ·refine⟨its.toList,r,⟨o,I.kIn a o hk,hc,n,by simpa using hs⟩,?_⟩
  have e:=r.length;simp only[bK] at e;omega
theorem zU.noDict(I:zU X pins σ H s)(h:SqT X.K H a xs):s.TypeIs (.ref a) "tuple"/\∃ ob,s.heap.get? a=some ob/\ob.dict=none:=by
 rcases h with h | ⟨o,its,n,hk,hc,hs,hz,r,hd⟩
 ·obtain⟨z,its,r,o,h1,h2,h3,h4⟩:=h.ok I.hok
  exact⟨⟨o,h1,h2⟩,o,h1,h4⟩
 ·exact⟨⟨o,I.kIn a o hk,hc⟩,o,I.kIn a o hk,hd⟩
theorem zU.list_inj(I:zU X pins σ H s)(h:SqL X.K H a xs)(h':SqL X.K H a ys):xs=ys:=by
 obtain⟨its,r,⟨o,n,e,u0,u0,d⟩,u0⟩:=I.list h;obtain⟨its',r',⟨o',n',e',u0,u0,d'⟩,u0⟩:=I.list h';rw[e] at e';cases e';rw[d] at d';injection d' with d1 _
 have:its=its':=by simpa using congrArg Array.toList d1
 subst this;exact r.inj r'
theorem zU.tuple_inj(I:zU X pins σ H s)(h:SqT X.K H a xs)(h':SqT X.K H a ys):xs=ys:=by
 obtain⟨its,r,⟨o,e,u0,n,d⟩,u0⟩:=I.tuple h;obtain⟨its',r',⟨o',e',u0,n',d'⟩,u0⟩:=I.tuple h';rw[e] at e';cases e';rw[d] at d';injection d' with d1 _
 have:its=its':=by simpa using congrArg Array.toList d1
 subst this;exact r.inj r'
end
noncomputable abbrev Cx.wish(X:Cx)(E:Value->Shared->Prop):Cx:={ X with xe:=E }
noncomputable abbrev Cx.nox(X:Cx):Cx:=X.wish fun u0 u0=>False
theorem Cx.Ok.wish{X:Cx}(ok:X.Ok)(E:Value->Shared->Prop):(X.wish E).Ok :=
 ⟨ok.mod,ok.kind,ok.glob,ok.blt,ok.above,ok.inj,ok.has,ok.cab,ok.hd,ok.frames,ok.stk,ok.exf,ok.bs,ok.bsz,ok.noex,ok.exfs,ok.funs,ok.frf,ok.tb⟩
theorem Cx.Ok.unwish{X:Cx}{E:Value->Shared->Prop}(ok:(X.wish E).Ok):X.Ok :=
 ⟨ok.mod,ok.kind,ok.glob,ok.blt,ok.above,ok.inj,ok.has,ok.cab,ok.hd,ok.frames,ok.stk,ok.exf,ok.bs,ok.bsz,ok.noex,ok.exfs,ok.funs,ok.frf,ok.tb⟩
section
variable {X:Cx} {pins:List (Addr×Obj)} {σ:St} {H:Hp} {s:Shared} {E:Value->Shared->Prop}
theorem zU.wish(I:zU X pins σ H s)(E:Value->Shared->Prop):zU (X.wish E) pins σ H s:=⟨I.ok.wish E,I.os,I.bare,I.base,I.loc,I.cell,I.free,I.freeC,I.pin,I.hok,I.len⟩
theorem zU.unwish(I:zU (X.wish E) pins σ H s):zU X pins σ H s:=⟨I.ok.unwish,I.os,I.bare,I.base,I.loc,I.cell,I.free,I.freeC,I.pin,I.hok,I.len⟩
theorem SP.unwish{D:Ends}{f:Flow}{s':Shared}(h:SP (X.wish E) pins D f s'):SP X pins D f s':=by
 cases f with
 | next=>obtain⟨σ',H',I,q⟩:=h;exact⟨σ',H',I.unwish,q⟩
 | brk=>obtain⟨σ',H',I,q⟩:=h;exact⟨σ',H',I.unwish,q⟩
 | cont=>obtain⟨σ',H',I,q⟩:=h;exact⟨σ',H',I.unwish,q⟩
 | ret u=>obtain⟨v,σ',H',I,r,q⟩:=h;exact⟨v,σ',H',I.unwish,r,q⟩
theorem PSs.nox{st:List Stmt}{t:TS}(h:PSs X.nox st t):PSs X st t:=fun pins s σ H D I hw =>
 eN (h pins s σ H D (I.wish _) hw) (fun u0 u0 q=>q.unwish) fun u0 u0 z=>False.elim z
end
section
variable {X:Cx} {st:Stmt} {rest:List Stmt} {t u:TS} {e:Expr} {te:TE} {pos:Pos}
noncomputable def zQn:TS:=fun D σ H=>D.nx σ H
noncomputable def zRv(t u:TS):TS:=fun D σ H=>t { D with nx:=u D } σ H
theorem zMy:PSs X [] zQn:=fun u0 u0 σ H u0 I h=>wpAny_execs_nil ⟨σ,H,I,h⟩
theorem zKr(h1:PS X st t)(h2:PSs X rest u):PSs X (st::rest) (zRv t u):=by
 intro pins s σ H D I h;refine wpAny_execs_cons (yU (h1 pins s σ H { D with nx:=u D } I h) fun f s1 q=>?_);cases f with
 | next =>
  obtain⟨σ',H',I',q⟩:=q;exact h2 pins s1 σ' H' D I' q
 | ret v=>exact q
 | brk=>exact q
 | cont=>exact q
theorem zMz(h1:PS X st t):PSs X [st] t:=by
 intro pins s σ H D I h;refine wpAny_execs_cons (yU (h1 pins s σ H D I h) fun f s1 q=>?_);cases f with
 | next=>exact wpAny_execs_nil q
 | ret v=>exact q
 | brk=>exact q
 | cont=>exact q
theorem zU.quiet{pins:List (Addr×Obj)}{σ:St}{H:Hp}{s:Shared}(I:zU X pins σ H s):interactive X.env=false:=by simp[interactive,I.ok.kind]
noncomputable def zQo(te:TE):TS:=fun D σ H=>te σ H fun u0 H1=>D.nx σ H1
theorem zM0(he:PE X e te)(hs:autoParam (swapsWith e none pos.line X.env=pure false) Zq4._auto_1):PS X (.Expr e pos) (zQo te):=by
 intro pins s σ H D I h;exact wpAny_Expr_any (yU (he pins s σ H _ I h) fun v s1 ⟨x,H1,I1,r1,q1⟩=>⟨σ,H1,I1,q1⟩) I.quiet hs
noncomputable def zRw(te:TE):TS:=fun D σ H=>te σ H D.rt
theorem zO9(he:PE X e te):PS X (.Return (some e) pos) (zRw te):=by
 intro pins s σ H D I h;exact wpAny_Return_some (yU (he pins s σ H _ I h) fun v s1 ⟨x,H1,I1,r1,q1⟩=>⟨x,σ,H1,I1,r1,q1⟩)
noncomputable def zRx(c:TT)(t u:TS):TS:=fun D σ H=>c σ H fun b H1=>if b=true then t D σ H1 else u D σ H1
theorem zQp{c:Expr}{a b:List Stmt}{tc:TT}(hc:PT X c tc)(ha:PSs X a t)(hb:PSs X b u):PS X (.If c a b pos) (zRx tc t u):=by
 intro pins s σ H D I h;refine wpAny_If (yU (hc pins s σ H _ I h) fun d s1 u9=>?_);obtain⟨H1,I1,q1⟩:=u9;cases d with
 | true=>exact ha pins s1 σ H1 D I1 q1
 | false=>exact hb pins s1 σ H1 D I1 q1
end
noncomputable abbrev TG:=V->St->Hp->(St->Hp->Prop)->Prop
noncomputable abbrev TGs:=List V->St->Hp->(St->Hp->Prop)->Prop
noncomputable def PG(X:Cx)(target:Expr)(t:TG):Prop :=
 ∀(pins:List (Addr×Obj)) (s:Shared) (σ:St) (H:Hp) (v:V) (u:Value) (Q:St->Hp->Prop),zU X pins σ H s->RelV v u->t v σ H Q ->
  wpAny (model X.prog X.w) X.A (assign target X.env u) (fun u0 s'=>∃ σ' H',zU X pins σ' H' s'/\Q σ' H') X.xe s
noncomputable def PGs(X:Cx)(ts:List Expr)(t:TGs):Prop :=
 ∀(pins:List (Addr×Obj)) (s:Shared) (σ:St) (H:Hp) (vs:List V) (us:List Value) (Q:St->Hp->Prop),zU X pins σ H s->zX vs us->t vs σ H Q ->
  wpAny (model X.prog X.w) X.A (assignInOrder ((assignEach ts X.env).map (·.2)) us) (fun u0 s'=>∃ σ' H',zU X pins σ' H' s'/\Q σ' H') X.xe s
noncomputable abbrev zM1:=V->V->V->Hp->(Hp->Prop)->Prop
noncomputable def zPA(X:Cx)(t:zM1):Prop :=
 ∀(pins:List (Addr×Obj)) (s:Shared) (σ:St) (H:Hp) (o i v:V) (ov iv u:Value) (Q:Hp->Prop),zU X pins σ H s->RelV o ov->RelV i iv->RelV v u->t o i v H Q ->
  wpAny (model X.prog X.w) X.A (setItem ov iv u) (fun u0 s'=>∃ H',zU X pins σ H' s'/\Q H') X.xe s
noncomputable abbrev TIp:=V->V->Hp->VK->Prop
noncomputable def PIp(X:Cx)(op:Operator)(t:TIp):Prop :=
 ∀(pins:List (Addr×Obj)) (s:Shared) (σ:St) (H:Hp) (x y:V) (v u:Value) (Q:VK),zU X pins σ H s->RelV x v->RelV y u->t x y H Q ->
  wpAny (model X.prog X.w) X.A (inplaceOp op v u) (EP X pins σ Q) X.xe s
section
variable {X:Cx} {pos:Pos}
noncomputable def zGm(i:Nat):TG:=fun v σ H Q=>Q (σ.set i (some v)) H
theorem zCV{i:Nat}{x:Str}(hN:X.N.Nodup)(hi:X.N[i]?=some x)(hx:Loc X.env.scope x)(hf:autoParam (X.fn x=true\/X.env.scope.names.lookup x=some .local) Zq1._auto_1):PG X (.Name x pos) (zGm i):=by
 intro pins s σ H v u Q I r h;exact wpAny_assign_Name (zBS I hN hi hx r (fun s' I'=>⟨_,H,I',h⟩) hf)
noncomputable def zRy:TGs:=fun vs σ H Q=>vs=[]/\Q σ H
noncomputable def zQq(t:TG)(u:TGs):TGs:=fun vs σ H Q=>∃ v r,vs=v::r/\t v σ H fun σ' H'=>u r σ' H' Q
theorem zM2:PGs X [] zRy:=by
 intro pins s σ H vs us Q I r h;obtain⟨e,h⟩:=h;subst e;cases r;exact assignInOrder_nil ⟨σ,H,I,h⟩
theorem zGn{e:Expr}{es:List Expr}{t:TG}{u:TGs}(h1:PG X e t)(h2:PGs X es u)
  (hs:autoParam ((assignEach (e::es) X.env).map (·.2)=assign e X.env::(assignEach es X.env).map (·.2)) Zq4._auto_1):PGs X (e::es) (zQq t u):=by
 intro pins s σ H vs us Q I r h;obtain⟨v,vr,e1,h⟩:=h;subst e1;cases r with
 | cons r rr =>
  rw[hs];refine assignInOrder_cons (yU (h1 pins s σ H _ _ _ I r h) fun _ s1 u9=>?_);obtain⟨σ1,H1,I1,q1⟩:=u9;exact h2 pins s1 σ1 H1 _ _ Q I1 rr q1
noncomputable def zRz(K:PySem.W.Frag)(n:Nat)(t:TGs):TG:=fun v σ H Q=>∃ a xs,v=.ref a/\SqT K H a xs/\xs.length=n/\t xs σ H Q
theorem zPB{es:List Expr}{k:Nat}{t:TGs}{n:Nat}(hc:X.calm=true)(h:PGs X es t)
  (hn:autoParam ((assignEach es X.env).length=n) Zq4._auto_1) (hst:autoParam ((assignEach es X.env).findIdx? (·.1)=none) Zq4._auto_1):PG X (.Tuple es k pos) (zRz X.K n t):=by
 intro pins s σ H v u Q I r hw;obtain⟨a,xs,e1,hq,hl,hw⟩:=hw;subst e1;cases r;obtain⟨its,rv,ht,hz⟩:=I.tuple hq;refine assign_Tuple_tuple (I.ok.hd hc) ht (by simp[hn,<-hl,rv.length]) hst fun h' hx=>?_;have I1:zU X pins σ H { s with heap:=h' }:=I.kept (t':=s.toks) fun b o e=>hx b o (bO (bC e)) e;exact h pins _ σ H xs _ Q I1 (by simpa using rv) hw
noncomputable def zR0(to ti:TE)(t:zM1):TG:=fun v σ H Q=>to σ H fun o H1=>ti σ H1 fun i H2=>t o i v H2 fun H3=>Q σ H3
theorem zKs{o i:Expr}{to ti:TE}{t:zM1}(ho:PE X o to)(hi:PE X i ti)(hs:zPA X t)
  (ha:autoParam (∀ v,assign (.Subscript o i pos) X.env v=(do
   let ov <-holding [v] (eval o X.env);let iv <-holding [v,ov] (eval i X.env)
   standAt pos
   holding [v,ov,iv] (setItem ov iv v)
   release [v,ov,iv] [])) Zq3._auto_1):PG X (.Subscript o i pos) (zR0 to ti t):=by
 intro pins s σ H v u Q I r h;rw[ha];refine bi (bZ (yU (ho pins s σ H _ I h) fun ov s1 u9=>?_));obtain⟨x,H1,I1,r1,q1⟩:=u9;refine bi (bZ (yU (hi pins s1 σ H1 _ I1 q1) fun iv s2 u9=>?_));obtain⟨y,H2,I2,r2,q2⟩:=u9;refine bi (wpAny_standAt (bi (bZ (yU (hs pins s2 σ H2 x y v ov iv u _ I2 r1 r2 r q2) fun _ s3 u9=>?_))));obtain⟨H3,I3,q3⟩:=u9;exact wpAny_release ⟨σ,H3,I3,q3⟩
noncomputable def zPC(te:TE)(g:TG):TS:=fun D σ H=>te σ H fun x H1=>g x σ H1 D.nx
theorem zPD{tg e:Expr}{te:TE}{g:TG}(he:PE X e te)(hg:PG X tg g)(hs:autoParam (swapsWithSole [tg] e pos.line X.env=pure false) Zq4._auto_1)(hw:autoParam (swappedStores [tg] e X.env=pure none) Zq4._auto_1)
  (h1:autoParam ((assignEach [tg] X.env).map (·.2)=[assign tg X.env]) Zq4._auto_1):PS X (.Assign [tg] e pos) (zPC te g):=by
 intro pins s σ H D I h;refine wpAny_Assign_stores (yU (he pins s σ H _ I h) fun v s1 ⟨x,H1,I1,r1,q1⟩=>?_) hs hw;rw[h1];exact yU (hg pins s1 σ H1 x v _ I1 r1 q1) fun u0 s2 q=>q
theorem zPE{i:Nat}{x:Str}{e:Expr}{te:TE}{pos':Pos}(hN:X.N.Nodup)(hi:X.N[i]?=some x)(hx:Loc X.env.scope x)(he:PE X e te)(hs:autoParam (swapsWith e (some (.Name x pos')) pos.line X.env=pure false) Zq4._auto_1)(hf:autoParam (X.fn x=true\/X.env.scope.names.lookup x=some .local) Zq1._auto_1) :
  PS X (.Assign [.Name x pos'] e pos) (zPC te (zGm i)):=by
 intro pins s σ H D I h;refine wpAny_Assign_Name (yU (he pins s σ H _ I h) fun v s1 ⟨y,H1,I1,r1,q1⟩=>?_) hs;exact zBS I1 hN hi hx r1 (fun s2 I2=>⟨_,H1,I2,q1⟩) hf
noncomputable def zR1(i j:Nat)(ta:TA):TS:=fun D σ H=>ta σ H fun vs H1=>∃ v w,vs=[v,w]/\D.nx ((σ.set i (some v)).set j (some w)) H1
theorem zPF{i j:Nat}{x y:Str}{a b:Expr}{ta:TA}{px py pt:Pos}{kt k2 pt2}(hc:X.calm=true)(hN:X.N.Nodup)(hi:X.N[i]?=some x)(hj:X.N[j]?=some y)(hij:i≠j)
  (hx:X.env.scope.names.lookup x=some .local) (hy:X.env.scope.names.lookup y=some .local) (ha:PA X [a,b] ta)
  (hw:swappedStores [.Tuple [.Name x px,.Name y py] kt pt] (.Tuple [a,b] k2 pt2) X.env=pure (some [x,y]))
  (hs:autoParam (swapsWithSole [.Tuple [.Name x px,.Name y py] kt pt] (.Tuple [a,b] k2 pt2) pos.line X.env=pure false) Zq4._auto_1) :
  PS X (.Assign [.Tuple [.Name x px,.Name y py] kt pt] (.Tuple [a,b] k2 pt2) pos) (zR1 i j ta):=by
 intro pins s σ H D I h;rw[exec_Assign_arm];refine bi (wpAny_standAt ?_);rw[hs];refine bi (bm ?_);rw[if_neg (by decide)];refine bi (Tuple_ (yU (ha _ pins s σ H _ I h) fun us s1 u9=>?_));obtain⟨vs,H1,I1,r1,q1⟩:=u9;obtain⟨v,w,e1,q1⟩:=q1;subst e1;obtain⟨u1,u2,rfl,rv,rw'⟩:∃ u1 u2,us=[u1,u2]/\RelV v u1/\RelV w u2:=by
  cases r1 with
  | cons p q =>
   cases q with
   | cons p' q' =>
    cases q';exact⟨_,_,rfl,p,p'⟩
 refine bS ?_ (by show 2<=sizeLine;decide);have I2:zU X pins σ H1 { s1 with heap:=s1.heap.push { cls:=.type "tuple",data:=.seq [u1,u2].toArray } }:=I1.kept (t':=s1.toks) fun b o e=>bn _ e;rw[hw];refine bi (bm ?_);show wpAny (model X.prog X.w) X.A (do rule "assign.swapped-stores";let items <-unpackItems (.ref s1.heap.objs.size) 2 none;assignInOrder [fun v=>bindName X.env y v,fun v=>bindName X.env x v] items.reverse;pure Flow.next) _ _ _;refine bi (dF (bi (unpackItems_tuple (items:=#[u1,u2]) (I.ok.hd hc) (IsTup.new s1.heap _) fun h' hx'=>?_)));have I3:=I2.kept (h':=h') (t':=s1.toks) fun b o e=>hx' b o (bO (bC e)) e;show wpAny _ _ (assignInOrder [fun v=>bindName X.env y v,fun v=>bindName X.env x v] [u2,u1]>>=fun u0=>pure Flow.next) _ _ _;refine bi (assignInOrder_cons (wpAny_bindName (zBS I3 hN hj (.inl hy) rw' (fun s2 I4=>?_) (.inr hy))));refine assignInOrder_cons (wpAny_bindName (zBS I4 hN hi (.inl hx) rv (fun s3 I5=>assignInOrder_nil (bm ?_)) (.inr hx)));rw[List.set_comm _ _ (Ne.symm hij)] at I5;exact⟨_,H1,I5,q1⟩
noncomputable def zR2(i:Nat)(te:TE)(ti:TIp):TS:=fun D σ H=>∃ x,σ[i]?=some (some x)/\te σ H fun y H1=>ti x y H1 fun z H2=>D.nx (σ.set i (some z)) H2
theorem zPG{i:Nat}{x:Str}{e:Expr}{te:TE}{op:Operator}{ti:TIp}{pos':Pos}(hN:X.N.Nodup)(hi:X.N[i]?=some x)(hx:Loc X.env.scope x)(he:PE X e te)(ho:PIp X op ti)(hf:autoParam (X.fn x=true\/X.env.scope.names.lookup x=some .local) Zq1._auto_1) :
  PS X (.AugAssign (.Name x pos') op e pos) (zR2 i te ti):=by
 intro pins s σ H D I h;obtain⟨v,e1,h⟩:=h;obtain⟨m,hn,hl⟩:=I.loc;have vis:Vis X.env.scope x:=by rcases hx with k | k;exact .inl k;exact .inr (.inl k)
 obtain⟨u,r,l⟩:=hl i x v hi e1 vis;refine wpAny_AugAssign_Name ?_;have go:wpAny (model X.prog X.w) X.A (eval e X.env) (fun w s₂=>wpAny (model X.prog X.w) X.A (inplaceOp op u w) (fun r s₃=>wpAny (model X.prog X.w) X.A (storeName X.env x r) (fun u0=>SP X pins D .next) X.xe s₃) X.xe s₂) X.xe s:=by
  refine yU (he pins s σ H _ I h) fun w s1 u9=>?_;obtain⟨y,H1,I1,r1,q1⟩:=u9;refine yU (ho pins s1 σ H1 v y u w _ I1 r r1 q1) fun z s2 u9=>?_;obtain⟨zv,H2,I2,r2,q2⟩:=u9;exact zBS I2 hN hi hx r2 (fun s3 I3=>⟨_,H2,I3,q2⟩) hf
 rcases l with ⟨hk,hm⟩ | ⟨hk,c,hc,hcell⟩
 ·exact wpAny_loadName_local I.ok.kind hk hn hm go
 ·rcases hk with hk | hk
  ·exact wpAny_loadName_cell I.ok.kind hk hc hcell go
  ·rcases hx with k | k
   ·have:X.env.scope.names.lookup x=some .free:=hk
    rw[k] at this;cases this
   ·have:X.env.scope.names.lookup x=some .free:=hk
    rw[k] at this;cases this
noncomputable def ipI(f:Int->Int->Int):TIp:=fun x y H Q=>∃ i j,x=.int i/\y=.int j/\Q (.int (f i j)) H
theorem zPH:PIp X .Add (ipI fun i j=>i+j):=by
 intro pins s σ H x y v u Q I r1 r2 h;obtain⟨i,j,e1,e2,q⟩:=h;subst e1;subst e2;obtain⟨t,rfl⟩:=r1;obtain⟨t',rfl⟩:=r2;exact iadd_int ⟨.int _,H,I.tok _,⟨_,rfl⟩,q⟩
noncomputable def zPI(c:TT)(tb:TS):TS:=fun D σ H=>∃ W:Nat->St->Hp->Prop,(∃ m,W m σ H)/\∀ m σ H,W m σ H ->
 c σ H fun b H1=>if b=true then ∃ N:St->Hp->Prop,(∀ σ' H',N σ' H'->∃ m',m'<m/\W m' σ' H')/\tb { D with nx:=N,ct:=N,bk:=D.nx } σ H1 else D.nx σ H1
theorem zKt{c:Expr}{body:List Stmt}{tc:TT}{tb:TS}(hp:PassesOwn (model X.prog X.w) X.A X.env X.xe)(hc:PT X c tc)(hb:PSs X body tb):PS X (.While c body [] pos) (zPI tc tb):=by
 intro pins s σ H D I h;obtain⟨W,⟨m0,w0⟩,turn⟩:=h;refine wpAny_While (codeAny_whileLoop (fun n s'=>∃ σ' H',zU X pins σ' H' s'/\W n σ' H') ?_ m0 ⟨σ,H,I,w0⟩);rintro n s1 ⟨σ1,H1,I1,w1⟩;refine eG hp (yU (hc pins s1 σ1 H1 _ I1 (turn n σ1 H1 w1)) fun b s2 u9=>?_);obtain⟨H2,I2,q2⟩:=u9;cases b with
 | true =>
  obtain⟨N,hN,q2⟩:=q2;rw[if_pos rfl];refine eG hp (yU (hb pins s2 σ1 H2 _ I2 q2) fun f s3 q3=>?_);cases f with
  | next =>
   obtain⟨σ3,H3,I3,n3⟩:=q3;obtain⟨m',hm,w3⟩:=hN σ3 H3 n3;exact⟨m',hm,σ3,H3,I3,w3⟩
  | cont =>
   obtain⟨σ3,H3,I3,n3⟩:=q3;obtain⟨m',hm,w3⟩:=hN σ3 H3 n3;exact⟨m',hm,σ3,H3,I3,w3⟩
  | brk=>exact q3
  | ret v=>exact q3
 | false =>
  rw[if_neg cQ];exact wpAny_execs_nil ⟨σ1,H2,I2,q2⟩
end
structure It where
 go:Nat->Hp->Prop
 yld:Nat->Hp->V->Hp->Prop
 stop:Nat->Hp->Prop
noncomputable def zDB(X:Cx)(pins:List (Addr×Obj))(H:Hp)(b:Addr):Prop :=
 H b=none/\b≠X.env.locals/\b∉X.fs/\(b∈X.ex\/X.s₀.heap.objs.size<=b)/\(∀ x c,X.env.cells.lookup x=some c->c≠b)/\∀ p∈X.pn++pins,p.1≠b
theorem zU.fpOk{X:Cx}{pins:List (Addr×Obj)}{σ:St}{H H':Hp}{s:Shared}{b:Addr}(I:zU X pins σ H s)(hb:s.heap.objs.size<=b)(hn:H' b=none):zDB X pins H' b:=by
 refine⟨hn,fe (bY I.lt hb),I.nofs hb,.inr (cK I.sz hb),fun x c e z=>?_,fun p hp z=>?_⟩
 ·obtain⟨v,q⟩:=I.cell x c e
  exact absurd (bY q.lt (by rw[z];exact hb)) (dO _)
 ·exact absurd (bY (bC (I.pin p hp).1) (by rw[z];exact hb)) (dO _)
structure Turn (P:Program) (w:World) (K:PySem.W.Frag) (tg:Expr) (J:It) (fp:List Addr) (it:Addr) (tn:Nat->Heap->Prop):Prop where
 mem:it∈fp
 obj:∀ i h,tn i h->∀ b∈fp,∃ o,h.get? b=some o/\∀ v,o.data≠.cell v
 keep:∀ i h h',tn i h->(∀ b∈fp,∀ o,h.get? b=some o->h'.get? b=some o)->tn i h'
 item:∀(X:Cx),X.prog=P->X.w=w->X.K=K->X.calm=true->∀(i:Nat) (pins:List (Addr×Obj)) (s:Shared) (σ:St) (H:Hp) (E:Value->Shared->Prop),zU X pins σ H s->(∀ b∈fp,zDB X pins H b)->tn i s.heap->J.go i H ->
  wpAny (model P w) X.A (pyNext (.ref it)) (fun r s1=>∃ u,r=some u /\
   wpAny (model P w) X.A (letOwnedTupleGo tg (.ref it) u) (fun u0 s2=>∃ x H',zU X pins σ H' s2/\RelV x u/\J.yld i H x H'/\tn (i+1) s2.heap/\∀ b∈fp,H' b=none) E s1) E s
 done:∀(X:Cx),X.prog=P->X.w=w->X.K=K->X.calm=true->∀(i:Nat) (pins:List (Addr×Obj)) (s:Shared) (σ:St) (H:Hp) (E:Value->Shared->Prop),zU X pins σ H s->(∀ b∈fp,zDB X pins H b)->tn i s.heap->J.stop i H ->
  wpAny (model P w) X.A (pyNext (.ref it)) (fun r s1=>r=none/\zU X pins σ H s1) E s
 self:∀(A:Around) (i:Nat) (s:Shared) (Q:Value->Shared->Prop) (E:Value->Shared->Prop),tn i s.heap->Q (.ref it) s->wpAny (model P w) A (pyIter (.ref it)) Q E s
noncomputable abbrev TI:=St->Hp->(It->Hp->Prop)->Prop
noncomputable def PIE(X:Cx)(pins:List (Addr×Obj))(σ:St)(tg:Expr)(R:It->Hp->Prop)(itv:Value)(s2:Shared):Prop :=
 ∃(it:Addr) (fp:List Addr) (tn:Nat->Heap->Prop) (J:It) (H':Hp),itv=.ref it/\zU X pins σ H' s2/\Turn X.prog X.w X.K tg J fp it tn/\tn 0 s2.heap/\(∀ b∈fp,zDB X pins H' b)/\R J H'
noncomputable def PI(X:Cx)(tg iter:Expr)(wi:TI):Prop :=
 ∀(pins:List (Addr×Obj)) (s:Shared) (σ:St) (H:Hp) (R:It->Hp->Prop),zU X pins σ H s->wi σ H R ->
  wpAny (model X.prog X.w) X.A (eval iter X.env) (fun v s1=>wpAny (model X.prog X.w) X.A (pyIter v) (PIE X pins σ tg R) X.xe s1) X.xe s
theorem zKu{M:Model}{A:Around}{E:Value->Shared->Prop}{s:Shared}{tg:Expr}{it:Addr}{u:Value}{o:Obj}{n:String}{vs:Array Value}{Q:Unit->Shared->Prop}(ho:s.heap.get? it=some o)(hc:o.cls=.type n)(hd:o.data=.fields vs)
    (hn:["enumerate","zip","dict_itemiterator","dict_reverseitemiterator","odict_iterator","itertools.zip_longest","itertools.pairwise"].contains n=false) (hQ:Q () s):wpAny M A (letOwnedTupleGo tg (.ref it) u) Q E s:=by
  unfold letOwnedTupleGo;cases tg<;>first
    | exact bm hQ
    | (cases u<;>first
        | exact bm hQ
        | (refine bi (wpAny_load ho ?_)
           rw[hc,hd];show wpAny M A (if (["enumerate","zip","dict_itemiterator","dict_reverseitemiterator","odict_iterator","itertools.zip_longest","itertools.pairwise"].contains n&&vs[0]?==some (rawInt _))=true then _ else _) Q E s;rw[if_neg (by intro h;rw[hn,Bool.false_and] at h;cases h)];exact bm hQ))
noncomputable def Itl(K:PySem.W.Frag)(a:Addr):It :=
 ⟨fun i H=>∃ xs x,SqL K H a xs/\xs[i]?=some x,fun i H x H'=>H'=H/\∀ xs,SqL K H a xs->xs[i]?=some x,fun i H=>∃ xs,SqL K H a xs/\xs.length<=i⟩
noncomputable def Itt(K:PySem.W.Frag)(a:Addr):It :=
 ⟨fun i H=>∃ xs x,SqT K H a xs/\xs[i]?=some x,fun i H x H'=>H'=H/\∀ xs,SqT K H a xs->xs[i]?=some x,fun i H=>∃ xs,SqT K H a xs/\xs.length<=i⟩
noncomputable def Itr(lo:Int)(n:Nat):It:=⟨fun i u0=>i<n,fun i H x H'=>H'=H/\x=.int (lo+i),fun i u0=>n<=i⟩
theorem zJX{P:Program}{w:World}{K:PySem.W.Frag}{tg:Expr}(a it:Addr):Turn P w K tg (Itl K a) [it] it (fun i h=>h.IsListIter it a i) where
 mem:=by simp
 obj:=fun i h st b hb=>by
  have e:b=it:=by simpa using hb
  subst e;obtain⟨o,e,c,d⟩:=st;exact⟨o,e,fun v z=>by rw[d] at z;cases z⟩
 keep:=fun i h h' st k=>st.at fun o e=>k it (by simp) o e
 item:=by
  intro X hP hw hK hc i pins s σ H E I hf st hg;subst hP hw hK;obtain⟨xs,x,hq,hx⟩:=hg;obtain⟨its,rv,p,hz⟩:=I.list hq;obtain⟨u,hu,ru⟩:=rv.get hx;obtain⟨f0,f1,f2,f3,f4,f5⟩:=hf it (by simp);refine wpAny_pyNext_list_item st p.isList (x:=u) (by simpa using hu) fun h' st' sb=>?_;have I1:zU X pins σ H { s with heap:=h' }:=I.turned (t':=s.toks) (fun b o hb e=>(sb.2 b hb).trans e) f0 f1 f3 f4 f5;obtain⟨o,e,c,d⟩:=id st';exact⟨u,rfl,zKu (s:={ s with heap:=h' }) e c d (by decide) ⟨x,H,I1,ru,⟨rfl,fun ys hy=>by rw[I.list_inj hy hq];exact hx⟩,st',fun b hb=>(hf b hb).1⟩⟩
 done:=by
  intro X hP hw hK hc i pins s σ H E I hf st hg;subst hP hw hK;obtain⟨xs,hq,hx⟩:=hg;obtain⟨its,rv,p,hz⟩:=I.list hq;obtain⟨f0,f1,f2,f3,f4,f5⟩:=hf it (by simp);have hl:=rv.length;exact wpAny_pyNext_list_end (I.ok.hd hc) st p.isList (by simp;omega) fun h' eb=>⟨rfl,I.turned (t':=s.toks) (fun b o hb e=>eb b o hb e) f0 f1 f3 f4 f5⟩
 self:=fun u0 u0 u0 u0 u0 st h=>wpAny_pyIter_listiter st h
theorem zHr{P:Program}{w:World}{K:PySem.W.Frag}{tg:Expr}(a it:Addr):Turn P w K tg (Itt K a) [it] it (fun i h=>h.IsTupleIter it a i) where
 mem:=by simp
 obj:=fun i h st b hb=>by
  have e:b=it:=by simpa using hb
  subst e;obtain⟨o,e,c,d⟩:=st;exact⟨o,e,fun v z=>by rw[d] at z;cases z⟩
 keep:=fun i h h' st k=>st.at fun o e=>k it (by simp) o e
 item:=by
  intro X hP hw hK hc i pins s σ H E I hf st hg;subst hP hw hK;obtain⟨xs,x,hq,hx⟩:=hg;obtain⟨its,rv,p,hz⟩:=I.tuple hq;obtain⟨u,hu,ru⟩:=rv.get hx;obtain⟨f0,f1,f2,f3,f4,f5⟩:=hf it (by simp);refine wpAny_pyNext_tuple_item st (show s.heap.IsTuple a its.toArray from p) (x:=u) (by simpa using hu) fun h' st' sb=>?_;have I1:zU X pins σ H { s with heap:=h' }:=I.turned (t':=s.toks) (fun b o hb e=>(sb.2 b hb).trans e) f0 f1 f3 f4 f5;obtain⟨o,e,c,d⟩:=id st';exact⟨u,rfl,zKu (s:={ s with heap:=h' }) e c d (by decide) ⟨x,H,I1,ru,⟨rfl,fun ys hy=>by rw[I.tuple_inj hy hq];exact hx⟩,st',fun b hb=>(hf b hb).1⟩⟩
 done:=by
  intro X hP hw hK hc i pins s σ H E I hf st hg;subst hP hw hK;obtain⟨xs,hq,hx⟩:=hg;obtain⟨its,rv,p,hz⟩:=I.tuple hq;obtain⟨f0,f1,f2,f3,f4,f5⟩:=hf it (by simp);have hl:=rv.length;exact wpAny_pyNext_tuple_end (I.ok.hd hc) st (show s.heap.IsTuple a its.toArray from p) (by simp;omega) fun h' eb=>⟨rfl,I.turned (t':=s.toks) (fun b o hb e=>eb b o hb e) f0 f1 f3 f4 f5⟩
 self:=fun u0 u0 u0 u0 u0 st h=>wpAny_pyIter_tupleiter st h
theorem zHs{P:Program}{w:World}{K:PySem.W.Frag}{tg:Expr}(it:Addr)(lo:Int)(n:Nat):Turn P w K tg (Itr lo n) [it] it (fun i h=>IsRangeIter h it (lo+(i:Nat)*1) ((n:Int)-(i:Nat)) 1) where
 mem:=by simp
 obj:=fun i h st b hb=>by
  have e:b=it:=by simpa using hb
  subst e;exact⟨_,st,fun v z=>by
   have z':Data.fields _=Data.cell v:=z;cases z'⟩
 keep:=fun i h h' st k=>k it (by simp) _ st
 item:=by
  intro X hP hw hK hc i pins s σ H E I hf st hg;subst hP hw hK;obtain⟨f0,f1,f2,f3,f4,f5⟩:=hf it (by simp);have W:=Walks.range (prog:=X.prog) (w:=X.w) (I.ok.hd hc) it lo 1 n;refine W.item i s _ _ hg st fun v h' tk hv st' kk=>?_;obtain⟨t,rfl⟩:=hv;have I1:zU X pins σ H { s with heap:=h',toks:=tk }:=I.turned (fun b o hb e=>kk b o (by simpa using hb) e) f0 f1 f3 f4 f5;refine⟨_,rfl,zKu (s:={ s with heap:=h',toks:=tk }) (n:="range_iterator") st' rfl rfl (by decide) ⟨.int (lo+i),H,I1,⟨t,?_⟩,⟨rfl,rfl⟩,st',fun b hb=>(hf b hb).1⟩⟩;rw[Int.mul_one]
 done:=by
  intro X hP hw hK hc i pins s σ H E I hf st hg;subst hP hw hK;obtain⟨f0,f1,f2,f3,f4,f5⟩:=hf it (by simp);exact wpAny_pyNext_range_end (I.ok.hd hc) st (by have:n<=i:=hg;omega) fun h' eb=>⟨rfl,I.turned (t':=s.toks) (fun b o hb e=>eb b o hb e) f0 f1 f3 f4 f5⟩
 self:=fun u0 u0 u0 u0 u0 st h=>wpAny_pyIter_rangeiter st h
section
variable {X:Cx} {tg:Expr}
theorem zGo{pins:List (Addr×Obj)}{σ:St}{H:Hp}{s:Shared}{R:It->Hp->Prop}{E:Value->Shared->Prop}{lo hi:Int}{t u v:Tok}{tk:Nat}(I:zU X pins σ H s)(h1:-(2 ^ 62)<=lo)(h2:lo<2 ^ 62)(h3:-(2 ^ 62)<=hi)(h4:hi<2 ^ 62)
  (q:R (Itr lo (hi-lo).toNat) H):wpAny (model X.prog X.w) X.A (pyIter (.ref s.heap.objs.size)) (PIE X pins σ tg R) E { s with heap:=s.heap.push { cls:=.type "range",data:=.fields #[.int lo t,.int hi u,.int 1 v] },toks:=tk }:=by
 refine wpAny_pyIter_range (IsRange.new ..) (small_one h1 h2 h3 h4) ?_;have I1:zU X pins σ H { s with heap:=s.heap.push { cls:=.type "range",data:=.fields #[.int lo t,.int hi u,.int 1 v] },toks:=tk }:=I.kept fun b o e=>bn _ e;refine⟨(s.heap.push { cls:=.type "range",data:=.fields #[.int lo t,.int hi u,.int 1 v] }).objs.size,[(s.heap.push { cls:=.type "range",data:=.fields #[.int lo t,.int hi u,.int 1 v] }).objs.size],_,_,H,rfl,
  I1.kept (t':=tk) fun b o e=>bn _ e,zHs _ lo (hi-lo).toNat,?_,fun b hb=>?_,q⟩
 ·have e1:lo+((0:Nat):Int)*1=lo:=by simp
  have e2:(((hi-lo).toNat:Nat):Int)-((0:Nat):Int)=Builtin.Range.rangeSize lo hi 1:=by rw[rangeSize_one];split<;>omega
  show IsRangeIter _ _ (lo+((0:Nat):Int)*1) ((((hi-lo).toNat:Nat):Int)-((0:Nat):Int)) 1;rw[e1,e2];exact bB _ rfl
 ·have e:b=(s.heap.push { cls:=.type "range",data:=.fields #[.int lo t,.int hi u,.int 1 v] }).objs.size:=by simpa using hb
  subst e;exact I1.fpOk (bE _) (I1.hok.fresh (bE _))
noncomputable def zQr(ta:TA):TI:=fun σ H R=>ta σ H fun vs H1=>∃ j:Int,vs=[.int j]/\-(2 ^ 62)<=j/\j<2 ^ 62/\R (Itr 0 j.toNat) H1
noncomputable def zQs(ta:TA):TI:=fun σ H R=>ta σ H fun vs H1=>∃ i j:Int,vs=[.int i,.int j]/\(-(2 ^ 62)<=i/\i<2 ^ 62/\-(2 ^ 62)<=j/\j<2 ^ 62)/\R (Itr i (j-i).toNat) H1
theorem zJY{a:Expr}{ta:TA}{p pos:Pos}(hg:Gl X "range")(hm:X.mg "range"=none)(ha:PA X [a] ta)(hs:autoParam (starEach [a] X.env=[(false,eval a X.env)]) Zq4._auto_1):PI X tg (.Call (.Name "range" p) [a] [] pos) (zQr ta):=by
 intro pins s σ H R I h;refine Call_ (zAB I hg hm boot_range (PyProof.Rows.callWith_type1 (yU (ha pos pins s σ H _ I h) fun us s1 ⟨vs,H1,I1,r1,q1⟩=>?_) hs rfl));obtain⟨j,e,q1,q2,q⟩:=q1;subst e;cases r1 with
 | cons r rr =>
  cases rr;obtain⟨t,rfl⟩:=r;exact call_range_1 (zGo I1 (by omega) (by omega) q1 q2 (by simpa using q))
theorem zJZ{a b:Expr}{ta:TA}{p pos:Pos}(hg:Gl X "range")(hm:X.mg "range"=none)(ha:PA X [a,b] ta)(hs:autoParam (starEach [a,b] X.env=[(false,eval a X.env),(false,eval b X.env)]) Zq4._auto_1)(hs2:autoParam (starEach [b] X.env=[(false,eval b X.env)]) Zq4._auto_1) :
  PI X tg (.Call (.Name "range" p) [a,b] [] pos) (zQs ta):=by
 intro pins s σ H R I h;refine Call_ (zAB I hg hm boot_range (PyProof.Rows.callWith_type1 (yU (ha pos pins s σ H _ I h) fun us s1 ⟨vs,H1,I1,r1,q1⟩=>?_) (by rw[hs,hs2]) (by rw[hs2];rfl)));obtain⟨i,j,e,⟨q1,q2,q3,q4⟩,q⟩:=q1;subst e;cases r1 with
 | cons r rr =>
  cases rr with
  | cons r' rr =>
   cases rr;obtain⟨t,rfl⟩:=r;obtain⟨t',rfl⟩:=r';exact call_range_2 (zGo I1 q1 q2 q3 q4 q)
noncomputable def zR3(wi:TI)(g:TG)(tb:TS):TS:=fun D σ H=>wi σ H fun J H1=>∃ W:Nat->Nat->St->Hp->Prop,(∃ m,W 0 m σ H1)/\∀ i m σ H,W i m σ H ->
 (J.stop i H/\D.nx σ H)\/(J.go i H/\∃ N:St->Hp->Prop,(∀ σ' H',N σ' H'->∃ m',m'<m/\W (i+1) m' σ' H')/\∀ x H',J.yld i H x H'->g x σ H' fun σ2 H2=>tb { D with nx:=N,ct:=N,bk:=D.nx } σ2 H2)
noncomputable def zDx(fp:List Addr)(h:Heap):List (Addr×Obj):=fp.filterMap fun b=>(h.get? b).map fun o=>(b,o)
theorem zA5{fp:List Addr}{h:Heap}{b:Addr}{o:Obj}(hb:b∈fp)(e:h.get? b=some o):(b,o)∈zDx fp h:=List.mem_filterMap.mpr ⟨b,hb,by rw[e];rfl⟩
theorem zJa{fp:List Addr}{h:Heap}{p:Addr×Obj}(hp:p∈zDx fp h):p.1∈fp/\h.get? p.1=some p.2:=by
 obtain⟨b,hb,e⟩:=List.mem_filterMap.mp hp;cases q:h.get? b with
 | none=>rw[q] at e;cases e
 | some o =>
  rw[q] at e;have e':(b,o)=p:=Option.some.inj e;subst e';exact⟨hb,q⟩
theorem zU.pinned{pins:List (Addr×Obj)}{σ:St}{H:Hp}{s:Shared}{fp:List Addr}(I:zU X pins σ H s)(hf:∀ b∈fp,zDB X pins H b)(ho:∀ b∈fp,∃ o,s.heap.get? b=some o/\∀ v,o.data≠.cell v):zU X (pins++zDx fp s.heap) σ H s :=
 I.pins_of fun p hp=>(cu.mp hp).elim (fun z=>I.pin p (ci _ z)) fun z=>by
  obtain⟨hb,e⟩:=zJa z;obtain⟨f0,f1,f2,u0⟩:=hf p.1 hb;obtain⟨o,e',d⟩:=ho p.1 hb;rw[e] at e';cases e';exact⟨e,f0,f1,f2,d⟩
theorem zU.unpinned{pins pl:List (Addr×Obj)}{σ:St}{H:Hp}{s:Shared}(I:zU X (pins++pl) σ H s):zU X pins σ H s:=I.pins_of fun p hp=>I.pin p (ci _ (cy _ hp))
theorem zPJ{iter:Expr}{body:List Stmt}{wi:TI}{g:TG}{tb:TS}{pos:Pos}(hp:PassesOwn (model X.prog X.w) X.A X.env X.xe)(hc:X.calm=true)(hi:PI X tg iter wi)(hg:PG X tg g)(hb:PSs X body tb)
  (hs:autoParam (∀ x,foldedSetIterable iter X.env x=pure x) Zq3._auto_1):PS X (.For tg iter body [] pos) (zR3 wi g tb):=by
 intro pins s σ H D I h;refine wpAny_For (yU (hi pins s σ H _ I h) fun v s1 h1=>yU h1 fun itv s2 h2=>?_) hs;obtain⟨it,fp,tn,J,H2,e,I2,T,st2,f2,W,⟨m0,w0⟩,turn⟩:=h2;subst e
 -- what stays true of the iterator's objects through the loop
 have stat:∀ {H':Hp},(∀ b∈fp,H' b=none)->∀ b∈fp,zDB X pins H' b:=fun hn b hb=>⟨hn b hb,(f2 b hb).2⟩
 refine codeAny_forLoop_any (fun n s'=>∃ i σ' H',zU X pins σ' H' s'/\tn i s'.heap/\(∀ b∈fp,H' b=none)/\W i n σ' H') ?_ m0 ⟨0,σ,H2,I2,st2,fun b hb=>(f2 b hb).1,w0⟩;rintro n s3 ⟨i,σ3,H3,I3,st3,fr3,w3⟩;rcases turn i n σ3 H3 w3 with ⟨stop,qn⟩ | ⟨go,N,hN,step⟩
 ·refine eG hp (yU (T.done X rfl rfl rfl hc i pins s3 σ3 H3 X.xe I3 (stat fr3) st3 stop) fun r s4 u9=>?_);obtain⟨hr,I4⟩:=u9
  subst hr;exact wpAny_execs_nil ⟨σ3,H3,I4,qn⟩
 ·refine eG hp (yU (T.item X rfl rfl rfl hc i pins s3 σ3 H3 X.xe I3 (stat fr3) st3 go) fun r s4 u9=>?_);obtain⟨u,hr,h4⟩:=u9
  subst hr;refine eG hp (yU h4 fun _ s5 u9=>?_);obtain⟨x,H5,I5,r5,y5,st5,fr5⟩:=u9;have I5':=I5.pinned (stat fr5) (T.obj _ _ st5);refine eG hp (yU (hg _ s5 σ3 H5 x u _ I5' r5 (step x H5 y5)) fun _ s6 u9=>?_);obtain⟨σ6,H6,I6,q6⟩:=u9;refine eG hp (yU (hb _ s6 σ6 H6 _ I6 q6) fun f s7 q7=>?_);have again:∀ {σ7:St} {H7:Hp},zU X (pins++zDx fp s5.heap) σ7 H7 s7->N σ7 H7->∃ m,m<n/\∃ i σ' H',zU X pins σ' H' s7/\tn i s7.heap/\(∀ b∈fp,H' b=none)/\W i m σ' H':=fun {σ7 H7} I7 n7=>by
   obtain⟨m',hm,w7⟩:=hN σ7 H7 n7;refine⟨m',hm,i+1,σ7,H7,I7.unpinned,T.keep _ _ _ st5 fun b hb o e=>(I7.pin (b,o) (ci _ (ci _ (zA5 hb e)))).1,fun b hb=>?_,w7⟩;obtain⟨o,e,d⟩:=T.obj _ _ st5 b hb;exact(I7.pin (b,o) (ci _ (ci _ (zA5 hb e)))).2.1
  cases f with
  | next=>obtain⟨σ7,H7,I7,n7⟩:=q7;exact again I7 n7
  | cont=>obtain⟨σ7,H7,I7,n7⟩:=q7;exact again I7 n7
  | brk=>obtain⟨σ7,H7,I7,q7⟩:=q7;exact⟨σ7,H7,I7.unpinned,q7⟩
  | ret v=>obtain⟨x7,σ7,H7,I7,r7,q7⟩:=q7;exact⟨x7,σ7,H7,I7.unpinned,r7,q7⟩
end
noncomputable abbrev R2:=V->V->Hp->VK->Prop
noncomputable def OpR(X:Cx)(f:Value->Value->Sem Value)(r:R2):Prop :=
 ∀(pins:List (Addr×Obj)) (s:Shared) (σ:St) (H:Hp) (x y:V) (v u:Value) (Q:VK),zU X pins σ H s->RelV x v->RelV y u->r x y H Q ->
  wpAny (model X.prog X.w) X.A (f v u) (EP X pins σ Q) X.xe s
noncomputable def UnR(X:Cx)(f:Value->Sem Value)(r:V->Hp->VK->Prop):Prop :=
 ∀(pins:List (Addr×Obj)) (s:Shared) (σ:St) (H:Hp) (x:V) (v:Value) (Q:VK),zU X pins σ H s->RelV x v->r x H Q ->
  wpAny (model X.prog X.w) X.A (f v) (EP X pins σ Q) X.xe s
noncomputable def wO(X:Cx)(f:Value)(r:List V->Hp->VK->Prop):Prop :=
 ∀(pins:List (Addr×Obj)) (s:Shared) (σ:St) (H:Hp) (xs:List V) (us:List Value) (Q:VK),zU X pins σ H s->zX xs us->r xs H Q ->
  wpAny (model X.prog X.w) X.A (call f us) (EP X pins σ Q) X.xe s
noncomputable def zR4(X:Cx)(r:V->Hp->(Bool->Hp->Prop)->Prop):Prop :=
 ∀(pins:List (Addr×Obj)) (s:Shared) (σ:St) (H:Hp) (x:V) (v:Value) (Q:Bool->Hp->Prop),zU X pins σ H s->RelV x v->r x H Q ->
  wpAny (model X.prog X.w) X.A (truthy v) (TP X pins σ Q) X.xe s
noncomputable def tOp(r:R2)(ta tb:TE):TE:=fun σ H Q=>ta σ H fun x H1=>tb σ H1 fun y H2=>r x y H2 Q
noncomputable def tUn(r:V->Hp->VK->Prop)(ta:TE):TE:=fun σ H Q=>ta σ H fun x H1=>r x H1 Q
noncomputable def rI(C:Int->Int->Prop)(g:Int->Int->V):R2:=fun x y H Q=>∃ i j,x=.int i/\y=.int j/\C i j/\Q (g i j) H
noncomputable def rI0(g:Int->Int->V):R2:=fun x y H Q=>∃ i j,x=.int i/\y=.int j/\Q (g i j) H
noncomputable def rU(g:Int->V):V->Hp->VK->Prop:=fun x H Q=>∃ i,x=.int i/\Q (g i) H
section
variable {X:Cx} {a b c:Expr} {ta tb tc:TE} {pos:Pos}
theorem zPK(ha:PE X a ta)(hb:PE X b tb){pins:List (Addr×Obj)}{s:Shared}{σ:St}{H:Hp}{R:V->V->Hp->Prop}(I:zU X pins σ H s)
  (h:ta σ H fun x H1=>tb σ H1 fun y H2=>R x y H2) {Q:Value->Shared->Prop} {f:Value->Value->Sem Value}
  (hf:∀ v u s2 x y H2,zU X pins σ H2 s2->RelV x v->RelV y u->R x y H2->wpAny (model X.prog X.w) X.A (f v u) Q X.xe s2) :
  wpAny (model X.prog X.w) X.A (eval a X.env) (fun v s₁=>wpAny (model X.prog X.w) X.A (eval b X.env) (fun u s₂=>wpAny (model X.prog X.w) X.A (f v u) Q X.xe s₂) X.xe s₁) X.xe s:=by
 refine yU (ha pins s σ H _ I h) fun v s1 u9=>?_;obtain⟨x,H1,I1,r1,q1⟩:=u9;refine yU (hb pins s1 σ H1 _ I1 q1) fun u s2 u9=>?_;obtain⟨y,H2,I2,r2,q2⟩:=u9;exact hf v u s2 x y H2 I2 r1 r2 q2
theorem zKv{op:Operator}{r:R2}(ho:OpR X (binaryOp op) r)(ha:PE X a ta)(hb:PE X b tb):PE X (.BinOp a op b pos) (tOp r ta tb):=by
 intro pins s σ H Q I h;exact wpAny_BinOp (zPK ha hb I h fun v u s2 x y H2 I2 rx ry q=>ho pins s2 σ H2 x y v u Q I2 rx ry q)
theorem zQt{op:UnaryOp}{r:V->Hp->VK->Prop}(ho:UnR X (unaryOp op) r)(ha:PE X a ta):PE X (.UnaryOp op a pos) (tUn r ta):=by
 intro pins s σ H Q I h;exact UnaryOp_ (yU (ha pins s σ H _ I h) fun v s1 ⟨x,H1,I1,r1,q1⟩=>ho pins s1 σ H1 x v Q I1 r1 q1)
theorem opI{f:Value->Value->Sem Value}{C:Int->Int->Prop}{g:Int->Int->Int}
  (rule:∀(i j:Int) (t u:Tok) (s:Shared) (Q:Value->Shared->Prop) (E:Value->Shared->Prop),C i j->Q (.int (g i j) s.toks) { s with toks:=s.toks+1 }->wpAny (model X.prog X.w) X.A (f (.int i t) (.int j u)) Q E s) :
  OpR X f (rI C fun i j=>.int (g i j)):=by
 intro pins s σ H x y v u Q I rx ry h;obtain⟨i,j,rfl,rfl,hc,q⟩:=h;obtain⟨t,rfl⟩:=rx;obtain⟨t',rfl⟩:=ry;exact rule i j t t' s _ _ hc ⟨.int (g i j),H,I.tok _,⟨_,rfl⟩,q⟩
theorem zQu{f:Value->Value->Sem Value}{g:Int->Int->Int}
  (rule:∀(i j:Int) (t u:Tok) (s:Shared) (Q:Value->Shared->Prop) (E:Value->Shared->Prop),Q (.int (g i j) s.toks) { s with toks:=s.toks+1 }->wpAny (model X.prog X.w) X.A (f (.int i t) (.int j u)) Q E s) :
  OpR X f (rI0 fun i j=>.int (g i j)):=by
 intro pins s σ H x y v u Q I rx ry h;obtain⟨i,j,rfl,rfl,q⟩:=h;obtain⟨t,rfl⟩:=rx;obtain⟨t',rfl⟩:=ry;exact rule i j t t' s _ _ ⟨.int (g i j),H,I.tok _,⟨_,rfl⟩,q⟩
theorem zPL{f:Value->Value->Sem Value}{g:Int->Int->Bool}
  (rule:∀(i j:Int) (t u:Tok) (s:Shared) (Q:Value->Shared->Prop) (E:Value->Shared->Prop),Q (.bool (g i j)) s->wpAny (model X.prog X.w) X.A (f (.int i t) (.int j u)) Q E s) :
  OpR X f (rI0 fun i j=>.bl (g i j)):=by
 intro pins s σ H x y v u Q I rx ry h;obtain⟨i,j,rfl,rfl,q⟩:=h;obtain⟨t,rfl⟩:=rx;obtain⟨t',rfl⟩:=ry;exact rule i j t t' s _ _ ⟨.bl (g i j),H,I,rfl,q⟩
noncomputable def zGp(i j:Int):Prop:=0<j/\j<1073741824
noncomputable def zJb(i j:Int):Prop:=0<=j/\j<=1000000/\i.natAbs<2 ^ 64
noncomputable def zEt(i j:Int):Prop:=(-(2 ^ 64)<i/\i<2 ^ 64)\/(-(2 ^ 64)<j/\j<2 ^ 64)
theorem zEt.ok{i j:Int}(h:zEt i j):IntMulOk i j:=by
 rcases h with ⟨h1,h2⟩ | ⟨h1,h2⟩
 ·exact .of_left (intBits_le_64 h1 h2)
 ·exact .of_right (intBits_le_64 h1 h2)
theorem zPM:OpR X (binaryOp .Add) (rI0 fun i j=>.int (i+j)):=zQu fun u0 u0 u0 u0 u0 u0 u0 q=>add_int q
theorem zPN:OpR X (binaryOp .Sub) (rI0 fun i j=>.int (i-j)):=zQu fun u0 u0 u0 u0 u0 u0 u0 q=>sub_int q
theorem zPO:OpR X (binaryOp .Mult) (rI zEt fun i j=>.int (i*j)):=opI fun u0 u0 u0 u0 u0 u0 u0 hc q=>mul_int q hc.ok
theorem zM3:OpR X (binaryOp .FloorDiv) (rI zGp fun i j=>.int (i / j)):=opI fun i j u0 u0 u0 u0 u0 hc q=>by
 have h1:(0:Int)<j:=hc.1;have h2:j<1073741824:=hc.2;exact floordiv_int (by omega) (by rw[Int.fdiv_eq_ediv_of_nonneg i (by omega)];exact q) (.inl (PyProof.noPylong_small (by omega)))
theorem zPP:OpR X (binaryOp .Mod) (rI (fun u0 j=>0<j) fun i j=>.int (i%j)):=opI fun i j u0 u0 u0 u0 u0 hc q=>by
 have h1:(0:Int)<j:=hc;exact mod_int' (by omega) (by rw[Int.fmod_eq_emod_of_nonneg i (by omega)];exact q)
theorem zPQ:OpR X (binaryOp .Pow) (rI zJb fun i j=>.int (i ^ j.toNat)):=opI fun u0 u0 u0 u0 u0 u0 u0 hc q=>pow_int_small hc.1 hc.2.1 hc.2.2 q
theorem unI{f:Value->Sem Value}{g:Int->Int}
  (rule:∀(i:Int) (t:Tok) (s:Shared) (Q:Value->Shared->Prop) (E:Value->Shared->Prop),Q (.int (g i) s.toks) { s with toks:=s.toks+1 }->wpAny (model X.prog X.w) X.A (f (.int i t)) Q E s) :
  UnR X f (rU fun i=>.int (g i)):=by
 intro pins s σ H x v Q I rx h;obtain⟨i,rfl,q⟩:=h;obtain⟨t,rfl⟩:=rx;exact rule i t s _ _ ⟨.int (g i),H,I.tok _,⟨_,rfl⟩,q⟩
theorem zPR:UnR X (unaryOp .USub) (rU fun i=>.int (-i)):=unI fun u0 u0 u0 u0 u0 q=>neg_int q
theorem zQv:OpR X (compareOp .Lt) (rI0 fun i j=>.bl (decide (i<j))):=zPL fun u0 u0 u0 u0 u0 u0 u0 q=>lt_int q
theorem zQw:OpR X (compareOp .Gt) (rI0 fun i j=>.bl (decide (j<i))):=zPL fun u0 u0 u0 u0 u0 u0 u0 q=>gt_int q
theorem zQx:OpR X (compareOp .GtE) (rI0 fun i j=>.bl (decide (j<=i))):=zPL fun u0 u0 u0 u0 u0 u0 u0 q=>ge_int q
theorem OpR.or{f:Value->Value->Sem Value}{r r':R2}(h:OpR X f r)(h':OpR X f r'):OpR X f (fun x y H Q=>r x y H Q\/r' x y H Q):=by
 intro pins s σ H x y v u Q I rx ry q;rcases q with q | q
 ·exact h pins s σ H x y v u Q I rx ry q
 ·exact h' pins s σ H x y v u Q I rx ry q
theorem zDC(b:Expr){op:CmpOp}(h:autoParam (op≠.In) Zq2._auto_1)(h2:autoParam (op≠.NotIn) Zq2._auto_1):behindInMarks op b=false:=by
 have e1:(op==CmpOp.In)=false:=by cases op<;>first | rfl | exact absurd rfl h
 have e2:(op==CmpOp.NotIn)=false:=by cases op<;>first | rfl | exact absurd rfl h2
 cases b<;>simp[behindInMarks,e1,e2]
theorem zM4{op:CmpOp}{r:R2}(ho:OpR X (compareOp op) r)(ha:PE X a ta)(hb:PE X b tb)(hm:behindInMarks op b=false):PE X (.Compare a [op] [b] pos) (tOp r ta tb):=by
 intro pins s σ H Q I h;exact wpAny_Compare1 (zPK ha hb I h fun v u s2 x y H2 I2 rx ry q=>ho pins s2 σ H2 x y v u Q I2 rx ry q) hm
noncomputable def zQy(t:TE):TT:=fun σ H Q=>t σ H fun x H'=>∃ k,x=.bl k/\Q k H'
theorem zM5{op:CmpOp}{r:R2}(ho:OpR X (compareOp op) r)(ha:PE X a ta)(hb:PE X b tb)(hm:behindInMarks op b=false):PT X (.Compare a [op] [b] pos) (zQy (tOp r ta tb)):=by
 intro pins s σ H Q I h;refine wpAny_isTrue_Compare1 (yU (ha pins s σ H _ I h) fun v s1 ⟨x,H1,I1,r1,q1⟩=>yU (hb pins s1 σ H1 _ I1 q1) fun u s2 ⟨y,H2,I2,r2,q2⟩ =>
  yU (ho pins s2 σ H2 x y v u _ I2 r1 r2 q2) fun c s3 ⟨z,H3,I3,r3,k,e,q3⟩=>?_) hm
 subst e;cases r3;exact d9 ⟨H3,I3,q3⟩
noncomputable def zQz(K:PySem.W.Frag)(x:V)(H:Hp)(k:Bool):Prop :=
 match x with
 | .non=>k=false
 | .bl b=>k=b
 | .int i=>k=(i != 0)
 | .str y=>y.length<=sizeLine/\k=((y.length:Int) != 0)
 | .byt y=>y.size<=sizeLine/\k=((y.size:Int) != 0)
 | .ref p=>(∃ xs,SqL K H p xs/\k=!xs.isEmpty)\/(∃ xs,SqT K H p xs/\k=!xs.isEmpty)\/∃ kvs,H p=some (.dK kvs)/\k=!kvs.isEmpty
 | _=>False
theorem zHt{κ:Type}{kvs:List (κ×V)}{vs:List (κ×Value)}(r:KV kvs vs):(!vs.isEmpty)=!kvs.isEmpty:=by
 cases r<;>rfl
theorem zDy{xs:List V}{its:List Value}(r:zX xs its):(!its.toArray.isEmpty)=!xs.isEmpty:=by
 cases r<;>simp
theorem zDz:(sizeLine:Nat)<2 ^ 63:=by rw[sizeLine_eq];decide
theorem zPS:zR4 X (fun x H Q=>∃ k,zQz X.K x H k/\Q k H):=by
 intro pins s σ H x v Q I rx h;obtain⟨k,e,q⟩:=h;have hl:=zDz;have hs:sizeLine=16777216:=sizeLine_eq;cases x with
 | non =>
  cases rx;have e':k=false:=e;subst e';exact truthy_none ⟨H,I,q⟩
 | bl b =>
  cases rx;have e':k=b:=e;subst e';exact d9 ⟨H,I,q⟩
 | int i =>
  obtain⟨t,rfl⟩:=rx;have e':k=(i != 0):=e;subst e';exact PySem.P.truthy_int ⟨H,I,q⟩
 | str y =>
  obtain⟨t,rfl⟩:=rx;obtain⟨hy,e'⟩:y.length<=sizeLine/\k=((y.length:Int) != 0):=e;subst e';exact PySem.P.truthy_str (by omega) ⟨H,I.tok _,q⟩
 | byt y =>
  obtain⟨t,rfl⟩:=rx;obtain⟨hy,e'⟩:y.size<=sizeLine/\k=((y.size:Int) != 0):=e;subst e';exact PySem.W.truthy_bytes (by omega) ⟨H,I.tok _,q⟩
 | ref p =>
  cases rx;have e':(∃ xs,SqL X.K H p xs/\k=!xs.isEmpty)\/(∃ xs,SqT X.K H p xs/\k=!xs.isEmpty)\/∃ kvs,H p=some (.dK kvs)/\k=!kvs.isEmpty:=e;rcases e' with ⟨xs,hx,e'⟩ | ⟨xs,hx,e'⟩ | ⟨kvs,hx,e'⟩
  ·subst e'
   obtain⟨its,r,pl,hz⟩:=I.list hx;have hlen:=r.length;exact wpAny_truthy_list pl.isList (by simp only[bH];omega) ⟨H,I.tok _,by rw[zDy r];exact q⟩
  ·subst e'
   obtain⟨its,r,pl,hz⟩:=I.tuple hx;have hlen:=r.length;exact truthy_tuple pl (by simp only[bH];omega) ⟨H,I.tok _,by rw[zDy r];exact q⟩
  ·subst e'
   obtain⟨hz,hS,vs,r,m⟩:kvs.length<=sizeLine/\(p==sysModules)=false/\∃ vs,KV kvs vs/\s.heap.DictOf (zFq X.prog X.w) p vs:=I.hok p _ hx;have hlen:kvs.length=vs.length:=Paired.length r;exact wpAny_truthy_dict hS m (by omega) ⟨H,I.tok _,by rw[zHt r];exact q⟩
 | _=>exact(show False from e).elim
theorem zKw(ha:PE X a ta)(he:∀ whole,isTrue a X.env whole=(do let v <-whole;standAt a.pos;holding [v] (truthy v))) :
  PT X a (fun σ H Q=>ta σ H fun x H'=>∃ k,zQz X.K x H' k/\Q k H'):=by
 intro pins s σ H Q I h;exact isTrue_plain (yU (ha pins s σ H _ I h) fun v s1 ⟨x,H1,I1,r1,q1⟩=>zPS pins s1 σ H1 x v Q I1 r1 q1) (he _)
theorem vals1{x:V}{us:List Value}(r:zX [x] us):∃ u,us=[u]/\RelV x u:=by
 cases r with
 | cons r1 r2=>cases r2;exact⟨_,rfl,r1⟩
theorem vals2{x y:V}{us:List Value}(r:zX [x,y] us):∃ u w',us=[u,w']/\RelV x u/\RelV y w':=by
 cases r with
 | cons r1 r2 =>
  cases r2 with
  | cons r3 r4=>cases r4;exact⟨_,_,rfl,r1,r3⟩
theorem zJc(hc:X.calm=true):wO X (.builtin "max") (fun xs H Q=>∃ i j,xs=[.int i,.int j]/\Q (.int (if j>i then j else i)) H):=by
 intro pins s σ H xs us Q I r h;obtain⟨i,j,rfl,q⟩:=h;obtain⟨u,w',rfl,⟨t,rfl⟩,⟨t',rfl⟩⟩:=vals2 r;refine max_two_ints (I.ok.hd hc) fun h' tk k=>⟨_,H,I.kept k,?_,q⟩
 by_cases hj:j>i
 ·rw[if_pos hj,if_pos hj];exact⟨_,rfl⟩
 ·rw[if_neg hj,if_neg hj];exact⟨_,rfl⟩
theorem zJd(hc:X.calm=true):wO X (.builtin "min") (fun xs H Q=>∃ i j,xs=[.int i,.int j]/\Q (.int (if j<i then j else i)) H):=by
 intro pins s σ H xs us Q I r h;obtain⟨i,j,rfl,q⟩:=h;obtain⟨u,w',rfl,⟨t,rfl⟩,⟨t',rfl⟩⟩:=vals2 r;refine min_two_ints (I.ok.hd hc) fun h' tk k=>⟨_,H,I.kept k,?_,q⟩
 by_cases hj:j<i
 ·rw[if_pos hj,if_pos hj];exact⟨_,rfl⟩
 ·rw[if_neg hj,if_neg hj];exact⟨_,rfl⟩
end
structure zPT (h:Heap) (x dx C:Addr) (mA:Str->Option Value):Prop where
 obj:h.get? x=some (PySem.W.instObj C dx)
 ns:h.Ns1 dx mA
 ne:dx≠x
theorem zJe{h:Heap}{dx:Addr}{mA:Str->Option Value}(n:h.Ns1 dx mA):∃ od,h.get? dx=some od/\∀ name,PySem.W.lookIn name od=some (mA name):=by
 obtain⟨o,es,ep,ho,hd,hk,u0,hm⟩:=n;refine⟨o,ho,fun name=>?_⟩;have e:=hm name;unfold nsFind findBy at e;rw[<-Array.find?_toList] at e;unfold PySem.W.lookIn;rw[hd];dsimp only;split
 ·rename_i y q
  rw[q] at e;exact congrArg some e
 ·rename_i q
  rw[q] at e;have a:es.toList.any (·.refKey)=false:=by
   rw[List.any_eq_false];intro y hy;obtain⟨z,t,hkey⟩:=hk y (cI.mp hy);simp[DictEntry.refKey,hkey]
  have a':¬ es.toList.any (·.refKey)=true:=by rw[a];exact cQ
  rw[if_neg a'];exact congrArg some e
theorem zPT.look{h:Heap}{x dx C:Addr}{mA:Str->Option Value}(I:zPT h x dx C mA):∃ od,PySem.W.InstAt h x (PySem.W.instObj C dx) C (some od)/\∀ name,PySem.W.lookIn name od=some (mA name) :=
 let ⟨od,ho,hl⟩:=zJe I.ns
 ⟨od,⟨I.obj,rfl,rfl,ho⟩,hl⟩
section
variable {prog:Program} {w:World} {A:Around} {E:Value->Shared->Prop} {s:Shared} {K:PySem.W.Frag} {x dx C f:Addr} {mA:Str->Option Value} {name:Str} {v:Value}
theorem zCW{expr:Bool}{Q:Value->Shared->Prop}(X:K.In s.heap)(I:zPT s.heap x dx C mA)(hg:PySem.W.plainGet K C name=true)(hh:PySem.W.hasDictIn K C=true)
  (ha:PySem.W.findIn K (.ref C) name=some none) (hv:mA name=some v) (hv':PySem.W.handedIn v=true) (h:Q v { s with toks:=s.toks+1 }) :
  wpAny (model prog w) A (getAttr (.ref x) name expr) Q E s:=by
 obtain⟨od,J,hl⟩:=I.look;exact PySem.W.get_value X J (PySem.W.plainGet_of hg).1 (PySem.W.findObj_own hh ha rfl (by rw[hl,hv])) hv' h
end
section
variable {P:Program} {w:World} {H H':Hp} {h h':Heap} {a C dx:Addr} {fs fs':List (Str×V)}
end
section
variable {X:Cx} {pins:List (Addr×Obj)} {σ:St} {H:Hp} {s:Shared} {a C dx:Addr} {fs:List (Str×V)} {f:Str} {v:V} {A:Around} {E:Value->Shared->Prop}
end
section
variable {X:Cx} {o e value:Expr} {f:Str} {pos pos' tpos:Pos} {ta tv:TE}
end
section
variable {X:Cx} {pins:List (Addr×Obj)} {σ:St} {H:Hp} {s:Shared} {A:Around} {E:Value->Shared->Prop} {Q:Value->Shared->Prop} {c:Value} {b:Bool}
end
structure yR (k:Nat) (A:Around):Prop where
 hd:A.handled=none
 dp:A.depth+3*k+5<recursionLimit
 un:A.units+16*k+200<cLine
theorem yR.mono{j k:Nat}{A:Around}(r:yR k A)(h:j<=k):yR j A:=⟨r.hd,by have:=r.dp;omega,by have:=r.un;omega⟩
theorem yR.deeper{k:Nat}{A:Around}(r:yR (k+1) A)(env:Env):yR k (A.deeper env) :=
 ⟨r.hd,by have:=r.dp;show A.depth+1+3*k+5<_;omega,by have:=r.un;show A.units+3+16*k+200<_;omega⟩
theorem yR.depth{k:Nat}{A:Around}(r:yR k A):A.depth<recursionLimit:=by have:=r.dp;omega
theorem yR.units{k:Nat}{A:Around}(r:yR k A):A.units+64<cLine:=by have:=r.un;omega
noncomputable def zQ0:TA:=fun u0 H Q=>Q [] H
noncomputable def zOT(ta:TE)(tr:TA):TA:=fun σ H Q=>ta σ H fun x H1=>tr σ H1 fun xs H2=>Q (x::xs) H2
section
variable {X:Cx} {e:Expr} {es:List Expr} {te:TE} {t:TA} {pos:Pos}
theorem zDD:PA X [] zQ0:=fun u0 u0 u0 u0 H Q I h=>Calls.spliced_nil ⟨[],H,I,.nil,h⟩
theorem zBk(ha:PE X e te)(hr:PA X es t)(hs:autoParam (starEach (e::es) X.env=(false,eval e X.env)::starEach es X.env) Zq4._auto_1):PA X (e::es) (zOT te t):=by
 intro pos pins s σ H Q I h;rw[hs];show wpAny _ _ (spliced ((false,eval e X.env)::backTo pos (starEach es X.env))) _ _ s;refine Calls.spliced_cons (yU (ha pins s σ H _ I h) fun u s1 u9=>?_);obtain⟨x,H1,I1,r1,q1⟩:=u9;exact yU (hr pos pins s1 σ H1 _ I1 q1) fun us s2 ⟨xs,H2,I2,r2,q2⟩=>⟨x::xs,H2,I2,.cons r1 r2,q2⟩
noncomputable def zR5(t:TA):TE:=fun σ H Q=>t σ H fun xs H1=>xs.length<=sizeLine/\∀ p,H1 p=none->Q (.ref p) (ye H1 p (.tup xs))
noncomputable def zR6(t:TA):TE:=fun σ H Q=>t σ H fun xs H1=>xs.length<=sizeLine/\∀ p,H1 p=none->Q (.ref p) (ye H1 p (.lst xs))
theorem zPU{x1}(h:PA X es t):PE X (.Tuple es x1 pos) (zR5 t):=by
 intro pins s σ H Q I hq;refine wpAny_Tuple_spliced (yU (h pos pins s σ H _ I hq) fun us s1 ⟨xs,H1,I1,r,z,q⟩=>⟨by rw[<-r.length];exact z,?_⟩);have hf:H1 s1.heap.objs.size=none:=I1.hok.fresh (bE _);refine⟨.ref s1.heap.objs.size,ye H1 s1.heap.objs.size (.tup xs),I1.laid (t':=s1.toks) (fun b u e=>bn _ e) (bE _) ?_,rfl,q _ hf⟩;exact⟨z,us,r,⟨_,bB _ rfl,rfl,⟨_,rfl⟩,rfl⟩⟩
theorem zPV(h:PA X es t):PE X (.List es pos) (zR6 t):=by
 intro pins s σ H Q I hq;refine wpAny_List_spliced (yU (h pos pins s σ H _ I hq) fun us s1 ⟨xs,H1,I1,r,z,q⟩=>⟨by rw[<-r.length];exact z,?_⟩);have hf:H1 s1.heap.objs.size=none:=I1.hok.fresh (bE _);refine⟨.ref s1.heap.objs.size,ye H1 s1.heap.objs.size (.lst xs),I1.laid (t':=s1.toks) (fun b u e=>bn _ e) (bE _) ?_,rfl,q _ hf⟩;exact⟨z,us,0,r,bB _ rfl⟩
end
noncomputable abbrev Sp:=List V->Hp->VK->XK->Prop
noncomputable abbrev CXT:=List Env->Hp->Shared->XK->Value->Shared->Prop
structure zM6 (P:Program) (w:World) (K:PySem.W.Frag) (mg:Str->Option Value) (base:Heap) (A:Around) (outer:List Env) (s:Shared) (H:Hp):Prop where
 frames:A.frames=some outer
 mod:Mod K mg base
 bs:∀ b o,base.get? b=some o->s.heap.get? b=some o/\H b=none
 bsz:base.objs.size<=s.heap.objs.size
 funs:s.heap.FunFrames base outer
 frf:∀ b∈frs outer,H b=none
 hok:HOk P w H s.heap
 bare:AllBare s.gens
 tb:TabsOk K H
noncomputable def CE(outer:List Env)(P:Program)(w:World)(H:Hp)(s:Shared)(Q:VK)(u:Value)(s':Shared):Prop :=
 ∃ v H',s'.os=s.os/\AllBare s'.gens/\Un (frs outer) [] H H' s.heap s'.heap/\HOk P w H' s'.heap/\RelV v u/\Q v H'
noncomputable def CR(CX:CXT)(outer:List Env)(P:Program)(w:World)(H:Hp)(s:Shared)(Q:VK)(E:XK)(r:Result)(s':Shared):Prop :=
 match r with
 | .ok (.ret u)=>CE outer P w H s Q u s'
 | .ok _=>False
 | .error e=>CX outer H s E e s'
structure zCX (P:Program) (w:World) (K:PySem.W.Frag) (mg:Str->Option Value) (base:Heap) (CX:CXT) (k:Nat) (f:Addr) (fd:FuncData) (ps:List Str) (sp:Sp):Prop where
 len:∀ vs H Q E,sp vs H Q E->vs.length=ps.length
 run:∀(A:Around) (outer:List Env) (s:Shared) (H:Hp) (args:Args) (us:List Value) (vs:List V) (Q:VK) (E:XK),yR k A->zM6 P w K mg base A outer s H->BindsTo s fd args (ps.zip us)->zX vs us->sp vs H Q E ->
  codeAny (model P w) A (.call (.ref f) args) (CR CX outer P w H s Q E) s
theorem zCX.mono{P:Program}{w:World}{K:PySem.W.Frag}{mg:Str->Option Value}{base:Heap}{CX:CXT}{j k:Nat}{f:Addr}{fd:FuncData}{ps:List Str}{sp:Sp}(F:zCX P w K mg base CX j f fd ps sp)(h:j<=k) :
  zCX P w K mg base CX k f fd ps sp:=⟨F.len,fun A outer s H args us vs Q E hr=>F.run A outer s H args us vs Q E (hr.mono h)⟩
section
variable {X:Cx} {pins:List (Addr×Obj)} {σ:St} {H:Hp} {s s':Shared}
theorem zU.env0(I:zU X pins σ H s):zM6 X.prog X.w X.K X.mg X.base X.A X.stack s H :=
 ⟨I.ok.frames,I.ok.mod,I.bs,cK I.ok.bsz I.sz,I.stack,I.stkFree,I.hok,I.bare,I.tabs⟩
theorem zU.after{Q:VK}{u:Value}(I:zU X pins σ H s)(h:CE X.stack X.prog X.w H s Q u s'):EP X pins σ Q u s':=by
 obtain⟨v,H',os,bare,un,hok,r,q⟩:=h;obtain⟨hh,g,d,t,os'⟩:=s';obtain rfl:os'=s.os:=os;exact⟨v,H',I.call (h':=hh) (g':=g) (d':=d) (t':=t) (ch:=[]) un hok bare (fun b z=>absurd z (by simp)),r,q⟩
end
noncomputable def zQ1(sp:Sp)(dvs:List V)(E:XK)(t:TA):TE:=fun σ H Q=>t σ H fun vs H1=>sp (vs++dvs) H1 Q E
noncomputable def Binds(K:PySem.W.Frag)(fd:FuncData)(ps:List Str)(ds:List Value):Prop :=
 ∀(s:Shared) (us:List Value),K.In s.heap->(us++ds).length=ps.length->BindsTo s fd ⟨us,[]⟩ (ps.zip (us++ds))
theorem Binds.all{K:PySem.W.Frag}{fd:FuncData}{ps:List Str}(h:∀ us:List Value,us.length=ps.length->bindArgs fd ⟨us,[]⟩=pure (ps.zip us)):Binds K fd ps []:=fun s us u0 hl=>by
 rw[eM] at hl ⊢;exact .of_eq (h us hl)
noncomputable def zHu(CX:CXT)(X:Cx)(E:XK):Prop:=∀(pins:List (Addr×Obj)) (σ:St) (H:Hp) (s:Shared) (e:Value) (s':Shared),zU X pins σ H s->CX X.stack H s E e s'->X.xe e s'
section
variable {X:Cx} {CX:CXT} {k:Nat} {f C:Addr} {fd:FuncData} {ps:List Str} {sp:Sp} {dvs:List V} {ds:List Value} {E:XK} {x m:Str} {p pos apos:Pos} {e o:Expr} {es:List Expr} {ta:TE} {t:TA}
theorem zPW{pins:List (Addr×Obj)}{σ:St}{H:Hp}{s:Shared}{Q:VK}{us:List Value}{vs:List V}(F:zCX X.prog X.w X.K X.mg X.base CX k f fd ps sp)(hr:yR k X.A)(hb:Binds X.K fd ps ds)(hd:zX dvs ds)(hx:zHu CX X E)
  (I:zU X pins σ H s) (r:zX vs us) (h:sp (vs++dvs) H Q E):wpAny (model X.prog X.w) X.A (call (.ref f) us) (EP X pins σ Q) X.xe s:=by
 have r2:zX (vs++dvs) (us++ds):=r.append hd;have hl:(us++ds).length=ps.length:=by rw[<-r2.length];exact F.len _ _ _ _ h
 refine wpAny_call (cR (F.run X.A X.stack s H ⟨us,[]⟩ (us++ds) (vs++dvs) Q E hr I.env0 (hb s us I.kIn hl) r2 h) fun r s' hq=>?_);cases r with
 | error e=>exact hx pins σ H s e s' I hq
 | ok fl =>
  cases fl with
  | ret u=>exact I.after hq
  | next=>exact False.elim hq
  | brk=>exact False.elim hq
  | cont=>exact False.elim hq
theorem zIl(F:zCX X.prog X.w X.K X.mg X.base CX k f fd ps sp)(hr:yR k X.A)(hg:Gl X x)(hm:X.mg x=some (.ref f))(hk:PySem.W.keepIn X.K (.ref f)=true)(hb:Binds X.K fd ps ds)(hd:zX dvs ds)(hx:zHu CX X E)
  (ha:PA X (e::es) t) (hdb:autoParam ((x==("__debug__":Str))=false) Zq2._auto_1) (he:autoParam (starEach (e::es) X.env=(false,eval e X.env)::starEach es X.env) Zq4._auto_1) (hpl:autoParam ((backTo pos (starEach es X.env)).any (·.1)=false) Zq4._auto_1) :
  PE X (.Call (.Name x p) (e::es) [] pos) (zQ1 sp dvs E t):=by
 intro pins s σ H Q I h;refine cV (zIk I hg hm ?_ hdb);refine PySem.W.callWith_K (h₀:=X.base) I.ok.mod.kin hk (yU (ha pos pins s σ H _ I h) fun us s1 ⟨vs,H1,I1,r,q⟩=>⟨I1.kIn,?_⟩) he hpl;exact zPW F hr hb hd hx I1 r q
end
section
variable {X:Cx} {CX:CXT} {k:Nat} {f C:Addr} {fd:FuncData} {ps ks:List Str} {sp:Sp} {E:XK} {x m:Str} {p pos apos kpos:Pos} {e o:Expr} {es:List Expr} {kws:List Keyword} {te ta:TE} {t tk:TA} {nm:Option Str}
variable {g:List Value->List Value->List Value} {gV:List V->List V->List V}
end
structure zY (N P:List Str) (sc:Scope):Prop where
 kind:sc.kind=.function
 co:sc.isCoroutine=false
 gen:sc.isGenerator=false
 nd:N.Nodup
 pre:N.take P.length=P
 par:∀ x∈P,sc.names.lookup x=some .local\/sc.names.lookup x=some .cell
 nofree:∀ y∈sc.names,y.2≠.free
theorem zE8{kindOf:Str->Option NameKind}{x:Str}:∀ {binds:List (Str×Value)} {m:Str->Option Value},(∀ v,(x,v)∉binds)->bindL kindOf binds m x=m x
 | [],_,_=>rfl
 | (n,v)::r,m,h=>by
  unfold bindL;rw[zE8 fun w hw=>h w (bN _ hw)];split
  ·have:x≠n:=by rintro rfl;exact h v bU
   simp[this]
  ·rfl
theorem zE9{kindOf:Str->Option NameKind}{x:Str}:∀ {binds:List (Str×Value)} {m:Str->Option Value},(∀ v,(x,v)∉binds)->bindC kindOf binds m x=m x
 | [],_,_=>rfl
 | (n,v)::r,m,h=>by
  unfold bindC;rw[zE9 fun w hw=>h w (bN _ hw)];split
  ·rfl
  ·have:x≠n:=by rintro rfl;exact h v bU
   simp[this]
theorem zFA{kindOf:Str->Option NameKind}{x:Str}{v:Value}:∀ {P:List Str} {vs:List Value} {i:Nat} {m:Str->Option Value},P.Nodup->P[i]?=some x->vs[i]?=some v->kindOf x=some .local ->
  bindL kindOf (P.zip vs) m x=some v
 | [],_,_,_,_,h,_,_=>by simp at h
 | _::_,[],_,_,_,_,h,_=>by simp at h
 | p::P,w::vs,0,m,nd,h1,h2,hk=>by
  simp at h1 h2;subst h1;subst h2;show bindL kindOf ((p,w)::P.zip vs) m p=_;unfold bindL;rw[zE8 fun v hv=>(dq.mp nd).1 (List.of_mem_zip hv).1,if_pos hk];simp
 | p::P,w::vs,i+1,m,nd,h1,h2,hk=>by
  show bindL kindOf ((p,w)::P.zip vs) m x=_;unfold bindL;exact zFA (i:=i) (dq.mp nd).2 (by simpa using h1) (by simpa using h2) hk
theorem zFB{kindOf:Str->Option NameKind}{x:Str}{v:Value}:∀ {P:List Str} {vs:List Value} {i:Nat} {m:Str->Option Value},P.Nodup->P[i]?=some x->vs[i]?=some v->kindOf x≠some .local ->
  bindC kindOf (P.zip vs) m x=some v
 | [],_,_,_,_,h,_,_=>by simp at h
 | _::_,[],_,_,_,_,h,_=>by simp at h
 | p::P,w::vs,0,m,nd,h1,h2,hk=>by
  simp at h1 h2;subst h1;subst h2;show bindC kindOf ((p,w)::P.zip vs) m p=_;unfold bindC;rw[zE9 fun v hv=>(dq.mp nd).1 (List.of_mem_zip hv).1,if_neg hk];simp
 | p::P,w::vs,i+1,m,nd,h1,h2,hk=>by
  show bindC kindOf ((p,w)::P.zip vs) m x=_;unfold bindC;exact zFB (i:=i) (dq.mp nd).2 (by simpa using h1) (by simpa using h2) hk
noncomputable def start(N:List Str)(vs:List V):St:=vs.map some++bP (N.length-vs.length) none
noncomputable def zFs(CX:CXT)(P:Program)(w:World)(K:PySem.W.Frag)(mg:Str->Option Value)(base:Heap)(N:List Str)(qual:Str)(scope:Scope)(f:Addr)(cd:Value)(A:Around)(outer:List Env)(s:Shared)(H:Hp)(E:XK):Cx where
 prog:=P
 w:=w
 K:=K
 mg:=mg
 base:=base
 A:=A.deeper (envOfC qual scope s.heap.objs.size f cd)
 N:=N
 s₀:=s
 H₀:=H
 env:=envOfC qual scope s.heap.objs.size f cd
 outer:=outer
 stack:=envOfC qual scope s.heap.objs.size f cd::outer
 ex:=[]
 calm:=true
 fn:=fun u0=>true
 pn:=[]
 xe:=fun e s'=>wpAny (model P w) (A.deeper (envOfC qual scope s.heap.objs.size f cd)) (leaving (envOfC qual scope s.heap.objs.size f cd) e) (fun u0 s''=>CX outer H s E e s'') (fun e' s''=>CX outer H s E e' s'') s'
theorem zGq{sc:Scope}{n:Nat}{x:Str}(h:sc.names.lookup x=some .cell):∃ c,(cellsFrom n sc.names []).lookup x=some c:=by
 have q:=PySem.W.cellsFrom_some sc.names n [] (.inl h);exact Option.isSome_iff_exists.mp q
theorem zJf{CX:CXT}{P:Program}{w:World}{K:PySem.W.Frag}{mg:Str->Option Value}{base:Heap}{N ps:List Str}{qual:Str}{scope:Scope}{f:Addr}{cd:Value}{A:Around}{outer:List Env}{s s1:Shared}{H:Hp}{E:XK}{us:List Value}{vs:List V}
  (S:zY N ps scope) (hd:A.handled=none) (e0:zM6 P w K mg base A outer s H) (hl:vs.length=ps.length) (r:zX vs us)
  (x:InCallC s s.heap.objs.size (bindL (envOfC qual scope s.heap.objs.size f cd).kindOf (ps.zip us) fun u0=>none) (cellsFrom (s.heap.objs.size+1) scope.names []) (bindC (envOfC qual scope s.heap.objs.size f cd).kindOf (ps.zip us) fun u0=>none) s1) :
  zU (zFs CX P w K mg base N qual scope f cd A outer s H E) [] (start N vs) H s1:=by
 have hpl:ps.length<=N.length:=by have:=congrArg List.length S.pre;rw[cT] at this;omega
 obtain⟨h1,tk,rfl,hk⟩:=x.done;have noA:∀ b:Addr,b∉(zFs CX P w K mg base N qual scope f cd A outer s H E).ex:=fun b z=>absurd (show b∈([]:List Addr) from z) (by simp);refine⟨⟨e0.mod,S.kind,rfl,rfl,bE _,fun y z c h1 h2=>?_,fun y hy=>?_,fun y c u0 h=>?_,fun u0=>hd,Around.frames_deeper e0.frames,.inr ⟨rfl,rfl⟩,fun b z=>absurd z (noA b),e0.bs,e0.bsz,fun b u0 u0=>noA b,fun b z=>absurd z (noA b),e0.funs,e0.frf,e0.tb⟩,
  rfl,e0.bare,Un.kept hk,⟨_,x.toInCall.ns,fun i y v h1 h2 h3=>?_⟩,fun y c h=>⟨_,x.cell y c h⟩,e0.hok.fresh (bE _),fun y c h=>?_,fun p hp=>absurd (show p∈([]:List (Addr×Obj)) from hp) (by simp),e0.hok.kept hk,?_⟩
 ·exact name_of_addr x.apart (PySem.mem_of_lookup h1) (PySem.mem_of_lookup h2)
 ·have hy:scope.names.lookup y=some .cell\/scope.names.lookup y=some .free:=hy
  rcases hy with hy | hy
  ·exact zGq hy
  ·exact absurd rfl (S.nofree _ (PySem.mem_of_lookup hy))
 ·exact cH (x.above y c (PySem.mem_of_lookup h))
 ·have hi:i<vs.length:=by
   unfold start at h2;by_cases hi:i<vs.length
   ·exact hi
   ·rw[cL (by simpa using hi)] at h2
    rw[List.getElem?_replicate] at h2;split at h2<;>cases h2
  have ha:vs[i]?=some v:=by
   unfold start at h2;rw[cr (by simpa using hi),cb] at h2;cases e:vs[i]? with
   | none=>rw[e] at h2;cases h2
   | some a=>rw[e] at h2;cases h2;rfl
  obtain⟨u,hu,rv⟩:=r.get ha;have hp:ps[i]?=some y:=by
   rw[<-S.pre,List.getElem?_take_of_lt (by omega)];exact h1
  have ndP:ps.Nodup:=by rw[<-S.pre];exact S.nd.sublist (List.take_sublist _ _)
  refine⟨u,rv,?_⟩;rcases S.par y (bM hp) with k | k
  ·exact .inl ⟨k,zFA ndP hp hu k⟩
  ·obtain⟨c,e⟩:=zGq (n:=s.heap.objs.size+1) k
   refine .inr ⟨.inl k,c,e,?_⟩;have q:=x.cell y c e;rw[zFB ndP hp hu (by show scope.names.lookup y≠_;rw[k];decide)] at q;exact q
 ·exact e0.hok.fresh (cH (x.above y c (PySem.mem_of_lookup h)))
 ·unfold start
  show _=N.length;rw[bR,bA,List.length_replicate];omega
theorem zQ2{CX:CXT}{P:Program}{w:World}{K:PySem.W.Frag}{mg:Str->Option Value}{base:Heap}{k:Nat}{f:Addr}{name qual:Str}{params:Arguments}{body:List Stmt}{scope:Scope}{dV kV doc pm cdv ct oc:Value}{an od:Option Addr}
  {osl:Array (Option Value)} {N ps:List Str} {sp:Sp} (lk:K.lookup f=some ⟨oc,od,.func (PySem.W.fnOf name qual params body scope dV kV doc pm an cdv ct),osl⟩) (hcd:PySem.W.codeIn K cdv qual=true) (S:zY N ps scope)
  (len:∀ vs H Q E,sp vs H Q E->vs.length=ps.length)
  (hbody:∀(A:Around) (outer:List Env) (s:Shared) (H:Hp) (vs:List V) (Q:VK) (E:XK),yR k (A.deeper (envOfC qual scope s.heap.objs.size f cdv))->sp vs H Q E ->
   ∃ t,PSs (zFs CX P w K mg base N qual scope f cdv A outer s H E) body t/\t { nx:=fun u0 H'=>Q .non H',rt:=Q } (start N vs) H) :
  zCX P w K mg base CX (k+1) f (PySem.W.fnOf name qual params body scope dV kV doc pm an cdv ct) ps sp:=by
 refine⟨len,fun A outer s H args us vs Q E hr e0 hb r hsp=>?_⟩;have hl:=len _ _ _ _ hsp;have KX:K.In s.heap:=e0.mod.kin.keeps fun b o e=>(e0.bs b o e).1;have lim:s.heap.NoLimit:=e0.mod.nolimit.keeps fun b o e=>(e0.bs b o e).1;have hkind:∀ y∈ps.zip us,scope.names.lookup y.1=some .local\/(scope.names.lookup y.1=some .cell/\((cellsFrom (s.heap.objs.size+1) scope.names []).lookup y.1).isSome=true):=fun⟨n,v⟩ hy=>by
  rcases S.par n (List.of_mem_zip hy).1 with q | q
  ·exact .inl q
  ·exact .inr ⟨q,PySem.W.cellsFrom_some _ _ _ (.inl q)⟩
 refine codeAny_call_function hr.depth (KX _ _ lk) rfl S.co S.gen rfl (PySem.W.codeRec_of KX hcd) (hb _ _ _ _ ?_);refine wpAny_newFunctionEnv_cells S.kind hkind fun env he s1 x=>?_;subst he;refine⟨lim.keeps x.toInCall.keep,codeAny_func ?_⟩;obtain⟨t,ht,hq⟩:=hbody A outer s H vs Q E (hr.deeper _) hsp;have I:zU (zFs CX P w K mg base N qual scope f cdv A outer s H E) [] (start N vs) H s1:=zJf S hr.hd e0 hl r x;refine eN (ht [] s1 (start N vs) H _ I hq) (fun fl s' hs=>?_) fun e s' hs=>hs;have fin:∀ {σ':St} {H':Hp} {v:V} {u:Value},zU (zFs CX P w K mg base N qual scope f cdv A outer s H E) [] σ' H' s'->RelV v u->Q v H'->CE outer P w H s Q u s' :=
  fun {σ' H' v u} J rv q=>⟨v,H',J.os,J.bare,J.base,J.hok,rv,q⟩
 cases fl with
 | ret u =>
  obtain⟨v,σ',H',J,rv,q⟩:=hs;exact fin J rv q
 | next =>
  obtain⟨σ',H',J,q⟩:=hs;exact fin (v:=V.non) (u:=Value.none) J rfl q
 | brk =>
  obtain⟨u0,u0,u0,q⟩:=hs;exact False.elim q
 | cont =>
  obtain⟨u0,u0,u0,q⟩:=hs;exact False.elim q
section
variable {X:Cx} {x:Str} {p pos:Pos} {e:Expr} {es:List Expr} {t:TA} {id T:String} {r:List V->Hp->VK->Prop}
noncomputable def tCB(r:List V->Hp->VK->Prop)(t:TA):TE:=fun σ H Q=>t σ H fun vs H1=>r vs H1 Q
theorem zCY(hc:wO X (.builtin id) r)(hg:Gl X x)(hm:X.mg x=none)(hv:bootBuiltins x=some (.builtin id))(ha:PA X (e::es) t)(hn:autoParam (x≠"__name__") Zq2._auto_1)(hdb:autoParam ((x==("__debug__":Str))=false) Zq2._auto_1)
  (he:autoParam (starEach (e::es) X.env=(false,eval e X.env)::starEach es X.env) Zq4._auto_1) (hpl:autoParam ((backTo pos (starEach es X.env)).any (·.1)=false) Zq4._auto_1):PE X (.Call (.Name x p) (e::es) [] pos) (tCB r t):=by
 intro pins s σ H Q I h;refine cV (zAB I hg hm hv ?_ hn hdb);exact PyProof.Rows.callWith_builtin1 (yU (ha pos pins s σ H _ I h) fun us s1 ⟨vs,H1,I1,r1,q1⟩=>hc pins s1 σ H1 vs us Q I1 r1 q1) he hpl
theorem zBl(hc:wO X (.type T) r)(hg:Gl X x)(hm:X.mg x=none)(hv:bootBuiltins x=some (.type T))(ha:PA X (e::es) t)(hn:autoParam (x≠"__name__") Zq2._auto_1)(hdb:autoParam ((x==("__debug__":Str))=false) Zq2._auto_1)
  (he:autoParam (starEach (e::es) X.env=(false,eval e X.env)::starEach es X.env) Zq4._auto_1) (hpl:autoParam ((backTo pos (starEach es X.env)).any (·.1)=false) Zq4._auto_1):PE X (.Call (.Name x p) (e::es) [] pos) (tCB r t):=by
 intro pins s σ H Q I h;refine cV (zAB I hg hm hv ?_ hn hdb);exact PyProof.Rows.callWith_type1 (yU (ha pos pins s σ H _ I h) fun us s1 ⟨vs,H1,I1,r1,q1⟩=>hc pins s1 σ H1 vs us Q I1 r1 q1) he hpl
end
end L2
namespace HT
open PySem PyProof.Rows
section
open PySem.SeqAt
open PySem.MeetsSeq PySem.MeetsSeq2 PySem.MeetsSeq3
end
section
variable {prog:Program} {w:World} {A:Around} {E:Value->Shared->Prop} {s:Shared}
theorem zM7{t b:Addr}{vs ws:List Value}{Q:Value->Shared->Prop}(ht:IsTup s.heap t vs.toArray)(hb:IsTup s.heap b ws.toArray)(hv:vs≠[])
  (h1:ws=[]->Q (.ref t) s) (h2:ws≠[]->Q (.ref s.heap.objs.size) { s with heap:=s.heap.push { cls:=.type "tuple",data:=.seq (vs++ws).toArray } })
  (hsz:vs.length+ws.length<=sizeLine):wpAny (model prog w) A (binaryOp .Add (.ref t) (.ref b)) Q E s:=by
 obtain⟨⟨cls,dd,data,sl⟩,ho,hc,n,hd⟩:=id ht;obtain⟨⟨cls2,dd2,data2,sl2⟩,ho2,hc2,n2,hd2⟩:=id hb;simp only at hc hd hc2 hd2;subst hc hd hc2 hd2;have e:vs.toArray++ws.toArray=(vs++ws).toArray:=by simp
 by_cases hw:ws=[]
 ·exact concat_meets ⟨_,ho,rfl⟩ ⟨_,ho2,rfl⟩ noFill_tuple_add seq_tuple_add PySem.F.slot_tuple_add PySem.F.entry_tuple_add (PySem.F.args_tuple_add_2 _ _)
   (tuple_addW1 t b vs.toArray ws.toArray n n2 dd dd2 sl sl2 (by simpa using hv) (by simp[hw])) ⟨ho,ho2,h1 hw⟩
 ·refine concat_meets ⟨_,ho,rfl⟩ ⟨_,ho2,rfl⟩ noFill_tuple_add seq_tuple_add PySem.F.slot_tuple_add PySem.F.entry_tuple_add (PySem.F.args_tuple_add_2 _ _)
   (tuple_addW2 t b vs.toArray ws.toArray n n2 dd dd2 sl sl2 (by simpa using hv) (by simpa using hw) (by rw[bH,bH];exact hsz)) ⟨ho,ho2,?_⟩
  rw[e];exact h2 hw
noncomputable def yt(n d:Nat):Option Int->Nat
 | none=>d
 | some v=>if v<0 then (v+(n:Int)).toNat else min v.toNat n
theorem zGr(n d:Nat):yt n d none=d:=rfl
theorem zDg(n d k:Nat):yt n d (some (k:Int))=min k n:=by
 show(if (k:Int)<0 then ((k:Int)+(n:Int)).toNat else min (k:Int).toNat n)=min k n;rw[if_neg (by omega),eS]
theorem zPX(n d:Nat)(hd:d<=n)(o:Option Int):yt n d o<=n:=by
 cases o with
 | none=>exact hd
 | some v =>
  show(if v<0 then (v+(n:Int)).toNat else min v.toNat n)<=n;by_cases hv:v<0
  ·rw[if_pos hv];omega
  ·rw[if_neg hv];exact Nat.min_le_right _ _
theorem zIm(v:Int)(n d:Nat):(if v<0 then max (v+(n:Int)) 0 else min v (n:Int))=((yt n d (some v):Nat):Int):=by
 show(if v<0 then max (v+(n:Int)) 0 else min v (n:Int))=(((if v<0 then (v+(n:Int)).toNat else min v.toNat n):Nat):Int)
 by_cases hv:v<0
 ·simp only[if_pos hv];omega
 ·simp only[if_neg hv];omega
theorem zHv(lo hi:Option Int)(n:Nat):Builtin.Slice.sliceAdjust lo hi 1 (n:Int)=(((yt n 0 lo:Nat):Int),((yt n n hi:Nat):Int)):=by
 have h1:¬ ((1:Int)<0):=by omega
 unfold Builtin.Slice.sliceAdjust;simp only[h1,if_false];refine Prod.ext ?_ ?_
 ·cases lo with
  | none=>rfl
  | some v=>exact zIm v n 0
 ·cases hi with
  | none=>rfl
  | some v=>exact zIm v n n
theorem zHw(i j:Nat):Builtin.Slice.slicePlaces (i:Int) (j:Int) 1=j-i:=by
 unfold Builtin.Slice.slicePlaces;have h1:(1:Int)>0:=by omega
 simp only[h1,if_true,Int.ediv_one];split<;>omega
theorem zD0{v:Value}{o:Option Int}{Q:Option Int->Shared->Prop}(p:IsPart v o)(h:Q o s):wpAny (model prog w) A (Builtin.Slice.slicePartIndex v) Q E s:=by
 cases p with
 | none=>exact slicePart_none h
 | int i t=>exact slicePart_int h
theorem zAn{sl:Addr}{vl vu:Value}{lo hi:Option Int}{n:Nat}{Q:Int×Int×Nat->Shared->Prop}(hs:s.heap.IsSliceOf sl vl vu .none)(pl:IsPart vl lo)(pu:IsPart vu hi)
  (h:Q (((yt n 0 lo:Nat):Int),1,yt n n hi-yt n 0 lo) s):wpAny (model prog w) A (Builtin.Slice.sliceApplied (.ref sl) (pure (n:Int))) Q E s:=by
 obtain⟨os,hos,hcs,hds⟩:=id hs;unfold Builtin.Slice.sliceApplied Builtin.Slice.sliceFields;refine bi (bi (eH hos hds (x:=vl) rfl (bi (eH hos hds (x:=vu) rfl (bi (eH hos hds (x:=.none) rfl (bm ?_)))))));refine bi (slicePart_none ?_);show wpAny _ _ (if ((1:Int)==0)=true then _ else _) _ _ s;rw[if_neg (by decide)];refine bi (zD0 pl (bi (zD0 pu (bi (bm ?_)))));show wpAny _ _ (match Builtin.Slice.sliceAdjust lo hi 1 (n:Int) with | (lo,hi)=>pure (lo,(1:Int),Builtin.Slice.slicePlaces lo hi 1)) _ _ s;rw[zHv lo hi n];show wpAny _ _ (pure (((yt n 0 lo:Nat):Int),(1:Int),Builtin.Slice.slicePlaces ((yt n 0 lo:Nat):Int) ((yt n n hi:Nat):Int) 1)) _ _ s;rw[zHw];exact bm h
theorem zKx(xs:Array Value)(i k:Nat):((bz k).filterMap fun(m:Nat)=>xs[((i:Int)+(m:Int)*1).toNat]?).toArray=((xs.toList.drop i).take k).toArray:=by
 have e:(fun(m:Nat)=>xs[((i:Int)+(m:Int)*1).toNat]?)=fun m=>xs[i+m]?:=by
  funext m;have:((i:Int)+(m:Int)*1).toNat=i+m:=by omega
  rw[this]
 rw[e];have:=pick_run xs i k;rw[List.filterMap_map] at this;have e2:((fun x=>xs[x]?)∘fun x=>i+x)=fun m=>xs[i+m]?:=rfl;rw[e2] at this;rw[this]
theorem zCZ{t sl:Addr}{items:Array Value}{vl vu:Value}{lo hi:Option Int}{Q:Value->Shared->Prop}(ht:IsTup s.heap t items)(hs:s.heap.IsSliceOf sl vl vu .none)(pl:IsPart vl lo)(pu:IsPart vu hi)
  (hw:¬ (yt items.size 0 lo=0/\yt items.size items.size hi=items.size))
  (h:Q (.ref s.heap.objs.size) { s with heap:=s.heap.push { cls:=.type "tuple",data:=.seq ((items.toList.drop (yt items.size 0 lo)).take (yt items.size items.size hi-yt items.size 0 lo)).toArray } })
  (hsz:items.size<=sizeLine):wpAny (model prog w) A (getItem (.ref t) (.ref sl)) Q E s:=by
 have htake:sizeOk (.seq ((items.toList.drop (yt items.size 0 lo)).take (yt items.size items.size hi-yt items.size 0 lo)).toArray):=by
  show((items.toList.drop (yt items.size 0 lo)).take (yt items.size items.size hi-yt items.size 0 lo)).toArray.size<=sizeLine;rw[bH,cT,eB,bK];omega
 have hj:yt items.size items.size hi<=items.size:=zPX _ _ (bE _) hi;obtain⟨os,hos,hcs,hds⟩:=id hs;have hTs:s.TypeIs (.ref sl) "slice":=⟨os,hos,hcs⟩
 unfold getItem
 try with_reducible refine bZ ?_
 first | refine bi (bm ?_) | skip
 refine bi (wpAny_sequenceKey ht.typeIs (by decide) ?_);refine bi (wpAny_callSpecial?_slot (name:=Str.ofString "__getitem__") ht.typeIs PyProof.Rows.slot_tuple_getitem
  (bT PyProof.Rows.slot_tuple_getitem ht.typeIs entry_tuple_getitem ?_ (args_tuple_getitem _ _)))
 show wpAny _ _ (Builtin.Tuple.tupleItemsOf (.ref t)>>=_) _ _ s;refine bi (tupleItemsOf_ ht ?_);refine bi (dC hTs ?_);rw[if_pos (by decide)];refine bi (zAn hs pl pu ?_);have hno:¬ ((((yt items.size 0 lo:Nat):Int)==0&&(1:Int)==1&&(yt items.size items.size hi-yt items.size 0 lo)==items.size)=true):=by
  intro q;rw[dN,dN] at q;have q1:((yt items.size 0 lo:Nat):Int)=0:=eq_of_beq q.1.1;have q2:yt items.size items.size hi-yt items.size 0 lo=items.size:=eq_of_beq q.2;exact hw ⟨by omega,by omega⟩
 show wpAny _ _ (if (((yt items.size 0 lo:Nat):Int)==0&&(1:Int)==1&&(yt items.size items.size hi-yt items.size 0 lo)==items.size)=true then _ else _) _ _ s;rw[if_neg hno,zKx]
 first
  | exact bi (m:=Builtin.Tuple.tupleExact _) (bS (bm ⟨_,rfl,bm h⟩) htake)
  | exact bi (m:=Builtin.Tuple.tupleExact _) (bS (bi (bm (bm ⟨_,rfl,bm h⟩))) htake)
  | exact bi (bi (m:=Builtin.Tuple.tupleExact _) (bS (bm (bm ⟨_,rfl,bm h⟩)) htake))
  | exact bi (bi (m:=Builtin.Tuple.tupleExact _) (bS (bm ⟨_,rfl,bm h⟩) htake))
end
end HT
namespace L2
noncomputable abbrev TO:=St->Hp->(Option Int->Hp->Prop)->Prop
noncomputable def PO(X:Cx)(e:Option Expr)(t:TO):Prop :=
 ∀(pins:List (Addr×Obj)) (s:Shared) (σ:St) (H:Hp) (Q:Option Int->Hp->Prop),zU X pins σ H s->t σ H Q ->
  wpAny (model X.prog X.w) X.A (evalPart e X.env) (fun u s'=>∃ o H',zU X pins σ H' s'/\IsPart u o/\Q o H') X.xe s
noncomputable def zM8:TO:=fun u0 H Q=>Q none H
noncomputable def zQ3(t:TE):TO:=fun σ H Q=>t σ H fun x H1=>∃ i,x=.int i/\Q (some i) H1
theorem intsAre_of{ns:List Int}:∀ {us:List Value},zX (ns.map V.int) us->IntsAre us ns:=by
 induction ns with
 | nil=>intro us r;rw[List.map_nil] at r;cases r;exact .nil
 | cons n ns ih =>
  intro us r;rw[cz] at r;cases r with
  | cons r1 r2 =>
   obtain⟨t,e⟩:=r1;subst e;exact .cons n t (ih r2)
section
variable {X:Cx} {e:Expr} {te:TE} {lo hi:Option Expr} {tl th:TO} {pos p2:Pos}
theorem zM9:PO X none zM8:=by
 intro pins s σ H Q I h;rw[evalPart_none];exact bm ⟨none,H,I,.none,h⟩
theorem zNA(h:PE X e te):PO X (some e) (zQ3 te):=by
 intro pins s σ H Q I hw;rw[evalPart_some];refine yU (h pins s σ H _ I hw) fun u s1 u9=>?_;obtain⟨x,H1,I1,r1,q1⟩:=u9;obtain⟨i,rfl,q⟩:=q1;obtain⟨t,rfl⟩:=r1;exact⟨some i,H1,I1,.int i t,q⟩
noncomputable def SlR(X:Cx)(r:V->Option Int->Option Int->Hp->VK->Prop):Prop :=
 ∀(pins:List (Addr×Obj)) (s:Shared) (σ:St) (H:Hp) (x:V) (v vl vu:Value) (lo hi:Option Int) (sl:Addr) (Q:VK),zU X pins σ H s->RelV x v->s.heap.IsSliceOf sl vl vu .none->IsPart vl lo->IsPart vu hi->r x lo hi H Q ->
  ∃ T id,typeLookup (.type T) "__getitem__"=pure (some (.builtin id))/\s.TypeIs v T/\wpAny (model X.prog X.w) X.A (getItem v (.ref sl)) (EP X pins σ Q) X.xe s
theorem SlR.or{r r':V->Option Int->Option Int->Hp->VK->Prop}(h:SlR X r)(h':SlR X r'):SlR X (fun x lo hi H Q=>r x lo hi H Q\/r' x lo hi H Q):=by
 intro pins s σ H x v vl vu lo hi sl Q I rx hs pl pu q;rcases q with q | q
 ·exact h pins s σ H x v vl vu lo hi sl Q I rx hs pl pu q
 ·exact h' pins s σ H x v vl vu lo hi sl Q I rx hs pl pu q
noncomputable def tSl(r:V->Option Int->Option Int->Hp->VK->Prop)(te:TE)(tl th:TO):TE:=fun σ H Q=>te σ H fun x H1=>tl σ H1 fun l H2=>th σ H2 fun u H3=>r x l u H3 Q
theorem zGs{r:V->Option Int->Option Int->Hp->VK->Prop}(hr:SlR X r)(he:PE X e te)(hl:PO X lo tl)(hu:PO X hi th):PE X (.Subscript e (.Slice lo hi none p2) pos) (tSl r te tl th):=by
 intro pins s σ H Q I h;refine Subscript_ (yU (he pins s σ H _ I h) fun v s1 u9=>?_);obtain⟨x,H1,I1,r1,q1⟩:=u9;refine wpAny_Slice (yU (hl pins s1 σ H1 _ I1 q1) fun vl s2 ⟨l,H2,I2,pl,q2⟩=>yU (hu pins s2 σ H2 _ I2 q2) fun vu s3 u9=>?_);obtain⟨u,H3,I3,pu,q3⟩:=u9;rw[evalPart_none];refine bm ?_;have I4:zU X pins σ H3 { s3 with heap:=s3.heap.push { cls:=.type "slice",data:=.fields #[vl,vu,.none] } }:=I3.kept (t':=s3.toks) fun b ob q=>bn _ q;obtain⟨T,id,hT,ht,hg⟩:=hr pins { s3 with heap:=s3.heap.push { cls:=.type "slice",data:=.fields #[vl,vu,.none] } } σ H3 x v vl vu l u s3.heap.objs.size Q I4 r1 (Heap.IsSliceOf.new ..) pl pu q3;show wpAny (model X.prog X.w) X.A (subscriptTail e (.Slice lo hi none p2) v (.ref s3.heap.objs.size)) (EP X pins σ Q) X.xe { s3 with heap:=s3.heap.push { cls:=.type "slice",data:=.fields #[vl,vu,.none] } };exact tail_any (ops:=[.ref s3.heap.objs.size,v]) ht hT hg (by with_unfolding_all rfl)
noncomputable def zGt(xs:List V)(lo hi:Option Int):List V:=(xs.drop (HT.yt xs.length 0 lo)).take (HT.yt xs.length xs.length hi-HT.yt xs.length 0 lo)
theorem zDS(xs:List V)(lo hi:Option Int):(zGt xs lo hi).length<=xs.length:=by
 unfold zGt;rw[cT,eB];omega
noncomputable def zR7(K:PySem.W.Frag):V->Option Int->Option Int->Hp->VK->Prop:=fun x lo hi H Q=>∃ a xs,x=.ref a/\SqT K H a xs /\
 ¬ (HT.yt xs.length 0 lo=0/\HT.yt xs.length xs.length hi=xs.length)/\∀ p,H p=none->Q (.ref p) (ye H p (.tup (zGt xs lo hi)))
theorem zPY:SlR X (zR7 X.K):=by
 intro pins s σ H x v vl vu lo hi sl Q I rx hs pl pu h;obtain⟨a,xs,rfl,hx,hw,q⟩:=h;cases rx;obtain⟨its,r,ht,hz⟩:=I.tuple hx;have hlen:its.toArray.size=xs.length:=by rw[bH];exact r.length.symm
 refine⟨"tuple",_,PyProof.Rows.slot_tuple_getitem.lookup,ht.typeIs,?_⟩;refine HT.zCZ ht hs pl pu (by rw[hlen];exact hw) ?_ (by rw[hlen];exact hz);rw[hlen];refine⟨.ref s.heap.objs.size,_,I.laid (t':=s.toks) (o:=.tup (zGt xs lo hi)) (fun b ob q=>bn _ q) (bE _) ?_,rfl,q _ (I.hok.fresh (bE _))⟩;exact⟨cK (zDS xs lo hi) hz,_,(r.drop (HT.yt xs.length 0 lo)).take (HT.yt xs.length xs.length hi-HT.yt xs.length 0 lo),zDb.new _ _⟩
noncomputable def zOU(K:PySem.W.Frag):R2:=fun x y H Q=>∃ a b xs ys,x=.ref a/\y=.ref b/\SqT K H a xs/\SqT K H b ys/\xs≠[]/\xs.length+ys.length<=sizeLine /\
 (ys=[]->Q (.ref a) H)/\(ys≠[]->∀ p,H p=none->Q (.ref p) (ye H p (.tup (xs++ys))))
theorem zX.nil_iff{xs:List V}{us:List Value}(r:zX xs us):us=[]↔xs=[]:=by
 cases r with
 | nil=>simp
 | cons _ _=>simp
theorem zNB:OpR X (binaryOp .Add) (zOU X.K):=by
 intro pins s σ H x y v u Q I rx ry h;obtain⟨a,b,xs,ys,rfl,rfl,ha,hb,hx,hz,q1,q2⟩:=h;cases rx;cases ry;obtain⟨its,r1,p1,u0⟩:=I.tuple ha;obtain⟨its2,r2,p2,u0⟩:=I.tuple hb;refine HT.zM7 p1 p2 (fun z=>hx (r1.nil_iff.mp z)) (fun z=>⟨.ref a,H,I,rfl,q1 (r2.nil_iff.mp z)⟩) (fun z=>?_) (by rw[<-r1.length,<-r2.length];exact hz);refine⟨.ref s.heap.objs.size,_,I.laid (t':=s.toks) (o:=.tup (xs++ys)) (fun b ob q=>bn _ q) (bE _) ?_,rfl,q2 (fun w=>z (r2.nil_iff.mpr w)) _ (I.hok.fresh (bE _))⟩;exact⟨by rw[bR];exact hz,_,r1.append r2,zDb.new _ _⟩
end
noncomputable def ixN(n:Nat)(i:Int):Option Nat:=if 0<=i then (if i<n then some i.toNat else none) else if -(n:Int)<=i then some (i+n).toNat else none
noncomputable def atI{α:Type}(xs:List α)(i:Int):Option α:=(ixN xs.length i).bind fun j=>xs[j]?
theorem zIn{n:Nat}{i:Int}{j:Nat}(h:ixN n i=some j):seqIndex? i n=some j/\j<n/\-(n:Int)<=i/\i<n:=by
 unfold ixN at h;by_cases h0:0<=i
 ·rw[if_pos h0] at h
  by_cases h1:i<n
  ·rw[if_pos h1] at h
   have e:i.toNat=j:=Option.some.inj h;exact⟨by rw[seqIndex_of h0 h1,e],by omega,by omega,h1⟩
  ·rw[if_neg h1] at h;cases h
 ·rw[if_neg h0] at h
  by_cases h1:-(n:Int)<=i
  ·rw[if_pos h1] at h
   have e:(i+n).toNat=j:=Option.some.inj h;exact⟨by rw[seqIndex_neg (by omega) h1,e],by omega,h1,by omega⟩
  ·rw[if_neg h1] at h;cases h
theorem zIo{α:Type}{xs:List α}{i:Int}{v:α}(h:atI xs i=some v):∃ j,seqIndex? i xs.length=some j/\xs[j]?=some v/\j<xs.length/\-(xs.length:Int)<=i/\i<xs.length:=by
 unfold atI at h;cases e:ixN xs.length i with
 | none=>rw[e] at h;cases h
 | some j =>
  rw[e] at h;obtain⟨h1,h2,h3,h4⟩:=zIn e;exact⟨j,h1,h,h2,h3,h4⟩
theorem zA6{α:Type}{xs:List α}{j:Nat}{v:α}(h:xs[j]?=some v):atI xs (j:Int)=some v:=by
 have hj:j<xs.length:=(bD.mp h).1;have e:ixN xs.length (j:Int)=some j:=by
  unfold ixN;rw[if_pos (by omega),if_pos (by omega)];simp
 unfold atI;rw[e];exact h
noncomputable def zFt(b:Expr):Prop:=∀ o i,subscripted b false o i=operate [o,i] (getItem o i)
noncomputable def IxR(X:Cx)(r:R2):Prop :=
 ∀(value slice:Expr) (pins:List (Addr×Obj)) (s:Shared) (σ:St) (H:Hp) (x y:V) (v u:Value) (Q:VK),zU X pins σ H s->RelV x v->RelV y u->r x y H Q ->
  subscripted slice false v u=operate [v,u] (getItem v u)->wpAny (model X.prog X.w) X.A (subscriptTail value slice v u) (EP X pins σ Q) X.xe s
noncomputable def MtR(X:Cx)(id:String)(r:V->List V->Hp->VK->Prop):Prop :=
 ∀(pins:List (Addr×Obj)) (s:Shared) (σ:St) (H:Hp) (x:V) (xs:List V) (v:Value) (us:List Value) (Q:VK),zU X pins σ H s->RelV x v->zX xs us->r x xs H Q ->
  wpAny (model X.prog X.w) X.A (call (.builtin id) (v::us)) (EP X pins σ Q) X.xe s
section
variable {X:Cx} {a b:Expr} {ta tb:TE} {pos:Pos}
theorem IxR.or{r r':R2}(h:IxR X r)(h':IxR X r'):IxR X (fun x y H Q=>r x y H Q\/r' x y H Q):=by
 intro value slice pins s σ H x y v u Q I rx ry q hs;rcases q with q | q
 ·exact h value slice pins s σ H x y v u Q I rx ry q hs
 ·exact h' value slice pins s σ H x y v u Q I rx ry q hs
theorem MtR.or{id:String}{r r':V->List V->Hp->VK->Prop}(h:MtR X id r)(h':MtR X id r'):MtR X id (fun x xs H Q=>r x xs H Q\/r' x xs H Q):=by
 intro pins s σ H x xs v us Q I rx rs q;rcases q with q | q
 ·exact h pins s σ H x xs v us Q I rx rs q
 ·exact h' pins s σ H x xs v us Q I rx rs q
theorem zOV{r:R2}(hr:IxR X r)(ha:PE X a ta)(hb:PE X b tb)(hs:zFt b):PE X (.Subscript a b pos) (tOp r ta tb):=by
 intro pins s σ H Q I h;exact Subscript_ (zPK ha hb I h fun v u s2 x y H2 I2 rx ry q=>hr a b pins s2 σ H2 x y v u Q I2 rx ry q (hs _ _))
noncomputable def zQ4(K:PySem.W.Frag):R2:=fun x y H Q=>∃ p xs i v,x=.ref p/\y=.int i/\SqL K H p xs/\atI xs i=some v/\Q v H
noncomputable def zQ5(K:PySem.W.Frag):R2:=fun x y H Q=>∃ p xs i v,x=.ref p/\y=.int i/\SqT K H p xs/\atI xs i=some v/\Q v H
theorem zNC:IxR X (zQ4 X.K):=by
 intro value slice pins s σ H x y v u Q I rx ry h hs;obtain⟨p,xs,i,z,rfl,rfl,hq,he,q⟩:=h;cases rx;obtain⟨t,rfl⟩:=ry;obtain⟨its,r,pl,hz⟩:=I.list hq;obtain⟨j,h1,h2,h3,h4,h5⟩:=zIo he;obtain⟨w,ew,rw'⟩:=r.get h2;have hl:=r.length;have hn:=zDz;have fin:EP X pins σ Q w s:=⟨z,H,I,rw',q⟩
 by_cases h0:0<=i
 ·have hj:i.toNat=j:=by
   rw[seqIndex_of h0 h5] at h1;exact Option.some.inj h1
  exact item_listR pl.isList h0 (by omega) (by rw[hj];simpa using ew) fin hs
 ·have hj:(i+(its.toArray.size:Int)).toNat=j:=by
   rw[seqIndex_neg (by omega) h4] at h1;rw[bH,<-hl];exact Option.some.inj h1
  exact subscriptTail_builtinR (x:=w) pl.isList.typeIs slot_list_getitem.lookup
   (wpAny_getItem_list_neg (Q:=fun r s'=>r=w/\EP X pins σ Q r s') pl.isList (by omega) (by rw[bH]<;>omega) (by omega) (by rw[hj];simpa using ew) ⟨rfl,fin⟩) hs
theorem zPZ:IxR X (zQ5 X.K):=by
 intro value slice pins s σ H x y v u Q I rx ry h hs;obtain⟨p,xs,i,z,rfl,rfl,hq,he,q⟩:=h;cases rx;obtain⟨t,rfl⟩:=ry;obtain⟨its,r,pl,hz⟩:=I.tuple hq;obtain⟨j,h1,h2,h3,h4,h5⟩:=zIo he;obtain⟨w,ew,rw'⟩:=r.get h2;have hl:=r.length;have hn:=zDz;have fin:EP X pins σ Q w s:=⟨z,H,I,rw',q⟩
 exact subscriptTail_builtinR (x:=w) pl.typeIs slot_tuple_getitem.lookup
  (getItem_tuple (j:=j) (Q:=fun r s'=>r=w/\EP X pins σ Q r s') pl (by omega) (by omega) (by rw[bH,<-hl];exact h1) (by simpa using ew) ⟨rfl,fin⟩) hs
theorem zHx(its:List Value)(n j:Nat)(u:Value):Obj.mapSeq (·.setIfInBounds j u) { cls:=.type "list",data:=.seq its.toArray n }={ cls:=.type "list",data:=.seq (its.set j u).toArray n }:=by
 simp[Obj.mapSeq]
theorem zU.lst{pins:List (Addr×Obj)}{σ:St}{H:Hp}{s:Shared}{p:Addr}{xs:List V}(I:zU X pins σ H s)(h:H p=some (.lst xs)) :
  ∃(its:List Value) (n:Nat),zX xs its/\s.heap.get? p=some { cls:=.type "list",data:=.seq its.toArray n }/\xs.length<=sizeLine:=by
 obtain⟨z,its,n,r,e⟩:=I.hok p _ h;exact⟨its,n,r,e,z⟩
theorem zU.lstUpd{pins:List (Addr×Obj)}{σ:St}{H:Hp}{s:Shared}{p:Addr}{xs ys:List V}{its its':List Value}{n n':Nat}{f:Obj->Obj}(I:zU X pins σ H s)(h:H p=some (.lst xs))
  (ho:s.heap.get? p=some { cls:=.type "list",data:=.seq its.toArray n }) (hf:f { cls:=.type "list",data:=.seq its.toArray n }={ cls:=.type "list",data:=.seq its'.toArray n' }) (r:zX ys its') (hz:ys.length<=sizeLine) (t:Nat) :
  zU X pins σ (ye H p (.lst ys)) { s with heap:=s.heap.update p f,toks:=t }:=by
 have e:(s.heap.update p f).get? p=some { cls:=.type "list",data:=.seq its'.toArray n' }:=by
  rw[cD f ho (by rw[hf]<;>rfl),hf]
 refine I.write (x:=p) (e:=p) (by rw[h];trivial) (.inl rfl) (fun b u hb q=>(dW _ _ (Ne.symm hb)).trans q) ⟨_,e⟩ ?_;exact⟨hz,its',n',r,e⟩
noncomputable def zQ6:V->V->V->Hp->(Hp->Prop)->Prop:=fun o i v H Q=>∃ p xs k j,o=.ref p/\i=.int k/\H p=some (.lst xs)/\ixN xs.length k=some j/\Q (ye H p (.lst (xs.set j v)))
theorem set_list:zPA X zQ6:=by
 intro pins s σ H o i v ov iv u Q I ro ri rv h;obtain⟨p,xs,k,j,rfl,rfl,hp,hj,q⟩:=h;cases ro;obtain⟨t,rfl⟩:=ri;obtain⟨its,n,r,ho,hz⟩:=I.lst hp;obtain⟨h1,h2,h3,h4⟩:=zIn hj;have hl:=r.length;have hn:=zDz;have I':zU X pins σ (ye H p (.lst (xs.set j v))) { s with heap:=s.heap.update p (Obj.mapSeq (·.setIfInBounds j u)) } :=
  I.lstUpd hp ho (zHx its n j u) (r.set rv j) (by rw[List.length_set];exact hz) s.toks
 by_cases h0:0<=k
 ·have hk:k.toNat=j:=by
   rw[seqIndex_of h0 h4] at h1;exact Option.some.inj h1
  exact PySem.W.ki_setAt ho h0 (by omega) (by rw[bH,<-hl];exact h4) (by rw[hk];exact⟨_,I',q⟩)
 ·have hk:(k+(its.toArray.size:Int)).toNat=j:=by
   rw[seqIndex_neg (by omega) h3] at h1;rw[bH,<-hl];exact Option.some.inj h1
  exact PySem.W.ki_setBack ho (by omega) (by rw[bH,<-hl];exact h3) (by omega) (by rw[hk];exact⟨_,I',q⟩)
theorem zFu(lo hi:Option Int)(n:Nat):(sliceBounds lo hi none n).1=((HT.yt n 0 lo:Nat):Int)/\(sliceBounds lo hi none n).2.1=((HT.yt n n hi:Nat):Int)/\(sliceBounds lo hi none n).2.2=1:=by
 refine⟨?_,?_,rfl⟩
 ·cases lo with
  | none=>simp[sliceBounds,HT.yt]
  | some i =>
   simp only[sliceBounds,HT.yt,Option.getD_none,show(1:Int)>0 by decide,if_true];by_cases h:i<0
   ·simp only[h,if_true]<;>omega
   ·simp only[h,if_false]<;>omega
 ·cases hi with
  | none=>simp[sliceBounds,HT.yt]
  | some i =>
   simp only[sliceBounds,HT.yt,Option.getD_none,show(1:Int)>0 by decide,if_true];by_cases h:i<0
   ·simp only[h,if_true]<;>omega
   ·simp only[h,if_false]<;>omega
theorem zEu(its:List Value)(lo hi:Option Int):slicePick its.toArray lo hi none=((its.drop (HT.yt its.length 0 lo)).take (HT.yt its.length its.length hi-HT.yt its.length 0 lo)).toArray:=by
 obtain⟨h1,h2,h3⟩:=zFu lo hi its.toArray.size;unfold slicePick;rw[h1,h2,h3];simp only[sliceRange_one,pick_run,bH]<;>rfl
noncomputable def zR8(K:PySem.W.Frag):V->Option Int->Option Int->Hp->VK->Prop:=fun x lo hi H Q=>∃ a xs,x=.ref a/\SqL K H a xs/\∀ p,H p=none->Q (.ref p) (ye H p (.lst (zGt xs lo hi)))
theorem zND:SlR X (zR8 X.K):=by
 intro pins s σ H x v vl vu lo hi sl Q I rx hs pl pu h;obtain⟨a,xs,rfl,hx,q⟩:=h;cases rx;obtain⟨its,r,ht,hz⟩:=I.list hx;have hlen:=r.length;refine⟨"list",_,slot_list_getitem.lookup,ht.isList.typeIs,?_⟩;refine wpAny_getItem_list_slice ht.isList hs pl pu .none (by simp) ?_ (by rw[bH]<;>omega);rw[zEu,<-hlen];refine⟨.ref s.heap.objs.size,_,I.laid (t':=s.toks) (o:=.lst (zGt xs lo hi)) (fun b ob q=>bn _ q) (bE _) ?_,rfl,q _ (I.hok.fresh (bE _))⟩;exact⟨cK (zDS xs lo hi) hz,_,0,(r.drop (HT.yt xs.length 0 lo)).take (HT.yt xs.length xs.length hi-HT.yt xs.length 0 lo),bB _ rfl⟩
noncomputable def zIp:V->Bool
 | .non=>true
 | .bl _=>true
 | .int _=>true
 | .str _=>true
 | _=>false
noncomputable def eqV:V->V->Bool
 | .non,.non=>true
 | .bl a,.bl b=>a==b
 | .bl a,.int b=>(if a then 1 else 0)==b
 | .int a,.bl b=>a==(if b then 1 else 0)
 | .int a,.int b=>a==b
 | .str a,.str b=>a==b
 | _,_=>false
theorem zKy{A:Around}{s:Shared}{y x:V}{u v:Value}(ry:RelV y u)(rx:RelV x v)(fy:zIp y=true)(fx:zIp x=true):SeqAt.EqAt A s u v (eqV y x):=by
 cases y with
 | non =>
  cases ry;cases x with
  | non=>cases rx;exact SeqAt.EqAt.same _
  | bl b=>cases rx;exact SeqAt.EqAt.none_bool b
  | int b=>obtain⟨t,rfl⟩:=rx;exact SeqAt.EqAt.none_int b t
  | str b=>obtain⟨t,rfl⟩:=rx;exact SeqAt.EqAt.none_str b t
  | _=>exact absurd (show false=true from fx) cQ
 | bl a =>
  cases ry;cases x with
  | non=>cases rx;exact SeqAt.EqAt.bool_none a
  | bl b=>cases rx;exact SeqAt.EqAt.bool_bool a b
  | int b=>obtain⟨t,rfl⟩:=rx;exact SeqAt.EqAt.bool_int a b t
  | str b=>obtain⟨t,rfl⟩:=rx;exact SeqAt.EqAt.bool_str a b t
  | _=>exact absurd (show false=true from fx) cQ
 | int a =>
  obtain⟨t',rfl⟩:=ry;cases x with
  | non=>cases rx;exact SeqAt.EqAt.int_none a t'
  | bl b=>cases rx;exact SeqAt.EqAt.int_bool a t' b
  | int b=>obtain⟨t,rfl⟩:=rx;exact SeqAt.EqAt.int_int a t' b t
  | str b=>obtain⟨t,rfl⟩:=rx;exact SeqAt.EqAt.int_str a t' b t
  | _=>exact absurd (show false=true from fx) cQ
 | str a =>
  obtain⟨t',rfl⟩:=ry;cases x with
  | non=>cases rx;exact SeqAt.EqAt.str_none a t'
  | bl b=>cases rx;exact SeqAt.EqAt.str_bool a t' b
  | int b=>obtain⟨t,rfl⟩:=rx;exact SeqAt.EqAt.str_int a t' b t
  | str b=>obtain⟨t,rfl⟩:=rx;exact SeqAt.EqAt.str_str a t' b t
  | _=>exact absurd (show false=true from fx) cQ
 | _=>exact absurd (show false=true from fy) cQ
theorem zFv:wO X (.builtin "len") (fun xs H Q=>∃ p ys,xs=[.ref p]/\(SqL X.K H p ys\/SqT X.K H p ys)/\Q (.int ys.length) H):=by
 intro pins s σ H xs us Q I r h;obtain⟨p,ys,rfl,hq,q⟩:=h;obtain⟨u,rfl,rx⟩:=vals1 r;cases rx;have hn:=zDz;rcases hq with hq | hq
 ·obtain⟨its,r',pl,hz⟩:=I.list hq
  have hlen:=r'.length;exact Calls.call_len_list pl.isList (by simp only[bH]<;>omega) ⟨.int ys.length,H,I.tok _,⟨s.toks+1,by rw[bH,hlen]⟩,q⟩
 ·obtain⟨its,r',pl,hz⟩:=I.tuple hq
  have hlen:=r'.length;exact len_tuple pl (by simp only[bH]<;>omega) ⟨.int ys.length,H,I.tok _,⟨s.toks+1,by rw[bH,hlen]⟩,q⟩
theorem wO.or{f:Value}{r r':List V->Hp->VK->Prop}(h:wO X f r)(h':wO X f r'):wO X f (fun xs H Q=>r xs H Q\/r' xs H Q):=by
 intro pins s σ H xs us Q I rs q;rcases q with q | q
 ·exact h pins s σ H xs us Q I rs q
 ·exact h' pins s σ H xs us Q I rs q
theorem zB9:wO X (.type "tuple") (fun xs H Q=>∃ p ys,xs=[.ref p]/\((SqL X.K H p ys/\∀ l,H l=none->Q (.ref l) (ye H l (.tup ys)))\/(SqT X.K H p ys/\Q (.ref p) H))):=by
 intro pins s σ H xs us Q I r h;obtain⟨p,ys,rfl,h⟩:=h;obtain⟨u,rfl,rx⟩:=vals1 r;cases rx;rcases h with ⟨hq,q⟩ | ⟨hq,q⟩
 ·obtain⟨its,r',pl,hz⟩:=I.list hq
  have hlen:=r'.length;refine call_tuple_list pl.isList (fun h' kp=>?_) (by simp only[bH]<;>omega);have I1:zU X pins σ H { s with heap:=h' }:=I.kept (t':=s.toks) kp;have I2:zU X pins σ (ye H h'.objs.size (.tup ys)) { s with heap:=h'.push { cls:=.type "tuple",data:=.seq its.toArray } } :=
   I1.laid (t':=s.toks) (fun b o e=>bn _ e) (bE _) (show zAE X.prog X.w _ _ _ (.tup ys) from⟨hz,its,r',zDb.new _ _⟩)
  exact⟨.ref h'.objs.size,_,I2,rfl,q _ (I1.hok.fresh (bE _))⟩
 ·obtain⟨its,r',pl,hz⟩:=I.tuple hq
  exact call_tuple_same pl ⟨.ref p,H,I,rfl,q⟩
noncomputable def tyV(K:PySem.W.Frag)(T:String)(x:V)(H:Hp):Prop:=match x with
 | .str _=>T="str"
 | .int _=>T="int"
 | .ref p=>(T="list"/\∃ xs,SqL K H p xs)\/(T="tuple"/\∃ xs,SqT K H p xs) \/
   (T="dict"/\((∃ kvs,H p=some (.dK kvs))\/∃ kvs,H p=some (.dT kvs)))\/(T="set"/\∃ S n,H p=some (.set S n))
 | _=>False
theorem zKz{pins:List (Addr×Obj)}{σ:St}{H:Hp}{s:Shared}{T:String}{x:V}{v:Value}(I:zU X pins σ H s)(r:RelV x v)(ty:tyV X.K T x H) :
  s.TypeIs v T/\∀ a,v=.ref a->∃ ob,s.heap.get? a=some ob/\ob.dict=none:=by
 cases x with
 | str z =>
  obtain⟨t,rfl⟩:=r;cases (show T="str" from ty);exact⟨typeIs_str s z t,fun u0 e=>nomatch e⟩
 | int i =>
  obtain⟨t,rfl⟩:=r;cases (show T="int" from ty);exact⟨typeIs_int s i t,fun u0 e=>nomatch e⟩
 | ref p =>
  cases r;rcases ty with ⟨rfl,xs,hq⟩ | ⟨rfl,xs,hq⟩ | ⟨rfl,hk⟩ | ⟨rfl,S,n,hk⟩
  ·obtain⟨its,u0,pl,u0⟩:=I.list hq
   refine⟨pl.isList.typeIs,fun a e=>?_⟩;cases e;obtain⟨o,n,e,c,hd,u0⟩:=pl;exact⟨o,e,hd⟩
  ·obtain⟨h1,o,h2,h3⟩:=I.noDict hq
   refine⟨h1,fun a e=>?_⟩;cases e;exact⟨o,h2,h3⟩
  ·have z:∃ o,s.heap.get? p=some o/\o.ExactDict:=by
    rcases hk with ⟨kvs,hk⟩ | ⟨kvs,hk⟩
    ·obtain⟨u0,u0,u0,u0,o,u0,u0,e,ex,u0⟩:=I.hok p _ hk
     exact⟨o,e,ex⟩
    ·obtain⟨u0,u0,u0,u0,o,u0,u0,e,ex,u0⟩:=I.hok p _ hk
     exact⟨o,e,ex⟩
   obtain⟨o,e,ex⟩:=z;refine⟨⟨o,e,ex.1⟩,fun a e2=>?_⟩;cases e2;exact⟨o,e,ex.2.1⟩
  ·obtain⟨o,u0,u0,u0,e,ex,u0⟩:=I.hok p _ hk
   refine⟨⟨o,e,ex.1⟩,fun a e2=>?_⟩;cases e2;exact⟨o,e,ex.2.1⟩
 | _=>exact False.elim ty
noncomputable def tBM(K:PySem.W.Frag)(T:String)(r:V->List V->Hp->VK->Prop)(to:TE)(t:TA):TE:=fun σ H Q=>to σ H fun x H1=>tyV K T x H1/\t σ H1 fun xs H2=>r x xs H2 Q
variable {o e:Expr} {es:List Expr} {to:TE} {t:TA} {name:Str} {apos cpos:Pos} {T id:String} {r:V->List V->Hp->VK->Prop}
theorem zK0(pa:PlainAttrs T)(slot:Slot T name id)(hty:typeOf (.builtin id)=pure (.type "method_descriptor"))(hm:MtR X id r)(ho:PE X o to)(ha:PA X (e::es) t)
  (hbase:autoParam (attributeBase o name X.env (eval o X.env)=eval o X.env) Zq4._auto_1)
  (hfew:autoParam (((backTo cpos (starEach (e::es) X.env)).all (fun x=>!x.1)&&(backToKw cpos (keywordEach [] X.env)).all (fun x=>x.1.isSome)
   && decide ((e::es).length+([]:List Keyword).length+(if ([]:List Keyword).isEmpty then 0 else 1)<30))=true) Zq4._auto_1)
  (hline:autoParam ((apos.endLine==cpos.line)=true) Zq4._auto_1) (hs:autoParam (starEach (e::es) X.env=(false,eval e X.env)::starEach es X.env) Zq4._auto_1) (hplain:autoParam ((backTo cpos (starEach es X.env)).any (·.1)=false) Zq4._auto_1) :
  PE X (.Call (.Attribute o name apos) (e::es) [] cpos) (tBM X.K T r to t):=by
 intro pins s σ H Q I h;refine wpAny_Call_method_late hbase hfew hline rfl (yU (ho pins s σ H _ I h) fun v s1 u9=>?_);obtain⟨x,H1,I1,r1,ty,q1⟩:=u9;obtain⟨h1,h2⟩:=zKz I1 r1 ty;refine⟨T,id,pa,slot,hty,h1,h2,?_⟩;have hA:=ha cpos pins s1 σ H1 _ I1 q1;rw[hs] at hA ⊢;refine Calls.callWith_builtin (by show(false||(backTo cpos (starEach es X.env)).any (·.1))=false;rw[hplain]<;>rfl) (Calls.evalArgs_plain ?_);exact yU hA fun us s2 ⟨vs,H2,I2,r2,q2⟩=>hm pins s2 σ H2 x vs v us Q I2 r1 r2 q2
end
noncomputable def MtM(X:Cx)(id:String)(r:V->List V->Hp->VK->Prop):Prop :=
 ∀(pins:List (Addr×Obj)) (s:Shared) (σ:St) (H:Hp) (x:V) (xs:List V) (v:Value) (us:List Value) (Q:VK),zU X pins σ H s->RelV x v->zX xs us->r x xs H Q ->
  wpAny (model X.prog X.w) X.A (call (.builtin id) (v::us)) (EP X pins σ Q) X.xe s
theorem zX.one:∀ {x:V} {us:List Value},zX [x] us->∃ u,us=[u]/\RelV x u
 | _,_,.cons r .nil=>⟨_,rfl,r⟩
theorem zX.zero:∀ {us:List Value},zX [] us->us=[]
 | _,.nil=>rfl
theorem zX.eraseIdx:∀ {xs:List V} {us:List Value} (i:Nat),zX xs us->zX (xs.eraseIdx i) (us.eraseIdx i)
 | _,_,_,.nil=>.nil
 | _,_,0,.cons _ t=>t
 | _,_,i+1,.cons r t=>.cons r (zX.eraseIdx i t)
theorem zX.reverse{xs:List V}{us:List Value}(h:zX xs us):zX xs.reverse us.reverse:=by
 induction h with
 | nil=>exact .nil
 | cons r t ih=>rw[el,el];exact zX.append ih (.cons r .nil)
theorem zX.rep{xs:List V}{us:List Value}(h:zX xs us):∀ k:Nat,zX (bP k xs).flatten (bP k us).flatten
 | 0=>.nil
 | k+1=>by
  rw[bo,bo,dQ,dQ];exact zX.append h (zX.rep h k)
theorem zFC{α:Type}:∀(l:List α) (i:Nat),(l.eraseIdx i).length<=l.length
 | [],_=>bE _
 | _::_,0=>eJ _
 | _::r,i+1=>Nat.succ_le_succ (zFC r i)
theorem foldl_rep(its:List Value):∀(k:Nat) (acc:List Value),
  List.foldl (fun x1 x2=>x1++x2) acc.toArray (bP k its.toArray)=(acc++(bP k its).flatten).toArray
 | 0,acc=>by simp
 | k+1,acc=>by
  have e:acc.toArray++its.toArray=(acc++its).toArray:=by simp
  have e2:(acc++its)++(bP k its).flatten=acc++(bP (k+1) its).flatten:=by
   rw[bo,dQ,en]
  rw[<-e2,<-foldl_rep its k (acc++its),<-e,bo,List.foldl_cons]
section
variable {X:Cx} {pins:List (Addr×Obj)} {σ:St} {H:Hp} {s:Shared} {l b:Addr} {xs ys zs:List V}
theorem zU.lset{its its':List Value}{n:Nat}{f:Array Value->Array Value}{t':Nat}(I:zU X pins σ H s)(hH:H l=some (.lst xs))
  (e:s.heap.get? l=some { cls:=.type "list",data:=.seq its.toArray n }) (hf:f its.toArray=its'.toArray) (hv:zX ys its') (hz:ys.length<=sizeLine) :
  zU X pins σ (ye H l (.lst ys)) { s with heap:=s.heap.update l (Obj.mapSeq f),toks:=t' }:=by
 have q:=PySem.IsL.update e f;rw[hf] at q;refine I.write (x:=l) (e:=l) (by rw[hH];exact trivial) (.inl rfl) (fun b' u hb hu=>(dW s.heap (Obj.mapSeq f) (Ne.symm hb)).trans hu) ⟨_,q⟩ ?_;exact⟨hz,its',_,hv,q⟩
theorem zU.lnew{its:List Value}{t':Nat}(I:zU X pins σ H s)(hv:zX ys its)(hz:ys.length<=sizeLine) :
  zU X pins σ (ye H s.heap.objs.size (.lst ys)) { s with heap:=s.heap.push { cls:=.type "list",data:=.seq its.toArray },toks:=t' } :=
 I.laid (fun u0 u0 q=>bn _ q) (bE _) ⟨hz,its,0,hv,bB _ rfl⟩
theorem zU.fresh(I:zU X pins σ H s):H s.heap.objs.size=none:=I.hok.fresh (bE _)
theorem zU.lstM(I:zU X pins σ H s)(hH:H l=some (.lst xs)):xs.length<=sizeLine/\∃(its:List Value) (n:Nat),zX xs its/\xs.length=its.length/\s.heap.get? l=some { cls:=.type "list",data:=.seq its.toArray n }:=by
 obtain⟨z,its,n,r,e⟩:=I.hok l _ hH;exact⟨z,its,n,r,r.length,e⟩
theorem zGu{n:Nat}(h:n<=sizeLine):Builtin.List.listTooLong n=false:=by
 unfold Builtin.List.listTooLong;exact decide_eq_false (by omega)
end
section
variable {X:Cx}
noncomputable def zNE:V->List V->Hp->VK->Prop:=fun x vs H Q=>∃ l xs y,x=.ref l/\vs=[y]/\H l=some (.lst xs)/\xs.length<sizeLine/\Q .non (ye H l (.lst (xs++[y])))
theorem zFD:MtM X "list.append" zNE:=by
 intro pins s σ H x vs v us Q I rx rv h;obtain⟨l,xs,y,rfl,rfl,hH,hz,q⟩:=h;cases rx;obtain⟨u,rfl,ru⟩:=rv.one;obtain⟨z,its,n,r,hl,e⟩:=I.lstM hH;refine call_meets F.slot_list_append ⟨_,e,rfl⟩ F.entry_list_append (F.args_list_append_2 _ _) (PySem.list_append l its.toArray n u (by rw[bH];omega)) ⟨e,?_⟩;refine⟨.non,_,I.lset (its':=its++[u]) hH e (by simp) (r.append (.cons ru .nil)) ?_,rfl,q⟩;rw[bR,List.length_singleton];omega
noncomputable def zNF:V->List V->Hp->VK->Prop:=fun x vs H Q=>∃ l b xs zs,x=.ref l/\vs=[.ref b]/\H l=some (.lst xs)/\H b=some (.lst zs)/\xs.length+zs.length<=sizeLine/\Q .non (ye H l (.lst (xs++zs)))
theorem zJg:MtM X "list.extend" zNF:=by
 intro pins s σ H x vs v us Q I rx rv h;obtain⟨l,b,xs,zs,rfl,rfl,hH,hB,hz,q⟩:=h;cases rx;obtain⟨u,rfl,ru⟩:=rv.one;cases ru;obtain⟨z,its,n,r,hl,e⟩:=I.lstM hH;obtain⟨z2,its2,n2,r2,hl2,e2⟩:=I.lstM hB;have hsz:its.toArray.size+its2.toArray.size<=sizeLine:=by rw[bH,bH];omega
 have hlong:¬ (!its.toArray.isEmpty&&Builtin.List.listTooLong (its.toArray.size+its2.toArray.size))=true:=by
  rw[zGu hsz,Bool.and_false];exact cQ
 refine call_meets F.slot_list_extend ⟨_,e,rfl⟩ F.entry_list_extend (F.args_list_extend_2 _ _)
  (AutoSeq1.list_extend_list_list_0 l its.toArray n b its2.toArray n2 hlong (by rw[bH];omega) (by omega)) ⟨e,e2,?_⟩
 refine⟨.non,_,I.lset (its':=its++its2) hH e (by simp) (r.append r2) ?_,rfl,q⟩;rw[bR];omega
noncomputable def zPa:V->List V->Hp->VK->Prop:=fun x vs H Q=>∃ l xs i k y,x=.ref l/\vs=[.int i]/\H l=some (.lst xs)/\-(2 ^ 63)<=i/\i<2 ^ 63/\seqIndex? i xs.length=some k/\xs[k]?=some y/\Q y (ye H l (.lst (xs.eraseIdx k)))
theorem zK1:MtM X "list.pop" zPa:=by
 intro pins s σ H x vs v us Q I rx rv h;obtain⟨l,xs,i,k,y,rfl,rfl,hH,h1,h2,hk,hy,q⟩:=h;cases rx;obtain⟨u,rfl,ru⟩:=rv.one;obtain⟨t,rfl⟩:=ru;obtain⟨z,its,n,r,hl,e⟩:=I.lstM hH;obtain⟨w,hw,rw'⟩:=r.get hy;refine call_meets F.slot_list_pop ⟨_,e,rfl⟩ F.entry_list_pop (F.args_list_pop_2 _ _)
  (MeetsSeq.list_pop_at l its.toArray n i t k w (fitsIndex_both h1 h2) (by rw[bH,<-hl];exact hk) (by rw[<-Array.getElem?_toList];exact hw) (by rw[bH];omega)) ⟨e,?_⟩
 refine⟨y,_,I.lset (its':=its.eraseIdx k) hH e ?_ (r.eraseIdx k) ?_,rw',q⟩
 ·show its.toArray.eraseIdxIfInBounds k=(its.eraseIdx k).toArray
  rw[List.eraseIdxIfInBounds_toArray]
 ·have:=zFC xs k
  omega
noncomputable def zR9:R2:=fun x y H Q=>∃ l b xs zs,x=.ref l/\y=.ref b/\H l=some (.lst xs)/\H b=some (.lst zs)/\xs.length+zs.length<=sizeLine/\∀ p,H p=none->Q (.ref p) (ye H p (.lst (xs++zs)))
theorem zPb:OpR X (binaryOp .Add) zR9:=by
 intro pins s σ H x y v u Q I rx ry h;obtain⟨l,b,xs,zs,rfl,rfl,hH,hB,hz,q⟩:=h;cases rx;cases ry;obtain⟨z,its,n,r,hl,e⟩:=I.lstM hH;obtain⟨z2,its2,n2,r2,hl2,e2⟩:=I.lstM hB;refine PySem.P.add_list e e2 ?_ (by rw[bH,bH];omega);have ea:its.toArray++its2.toArray=(its++its2).toArray:=by simp
 rw[ea];exact⟨.ref _,_,I.lnew (t':=s.toks) (r.append r2) (by rw[bR];omega),rfl,q _ I.fresh⟩
noncomputable def zSA:R2:=fun x y H Q=>∃ l k xs,x=.ref l/\y=.int k/\H l=some (.lst xs)/\-(2 ^ 63)<=k/\k<2 ^ 63/\xs.length*k.toNat<=sizeLine /\
 ∀ p,H p=none->Q (.ref p) (ye H p (.lst (bP k.toNat xs).flatten))
theorem len_rep{α:Type}(xs:List α)(k:Nat):(bP k xs).flatten.length=k*xs.length:=by
 induction k with
 | zero=>simp
 | succ k ih=>rw[bo,dQ,bR,ih,Nat.succ_mul,Nat.add_comm]
theorem zPc:OpR X (binaryOp .Mult) zSA:=by
 intro pins s σ H x y v u Q I rx ry h;obtain⟨l,k,xs,rfl,rfl,hH,h1,h2,hz,q⟩:=h;cases rx;obtain⟨t,rfl⟩:=ry;obtain⟨z,its,n,r,hl,e⟩:=I.lstM hH;have hlen:its.toArray.size*k.toNat<=sizeLine:=by rw[bH,<-hl];exact hz
 have hcap:¬ its.toArray.size*k.toNat>(2 ^ 63-1) / 8:=by
  have:(sizeLine:Nat)<=(2 ^ 63-1) / 8:=by decide
  omega
 have hfit:¬ (!Builtin.List.listFitsIndex k)=true:=by
  rw[fitsIndex_both h1 h2];exact cQ
 have hlong:¬ Builtin.List.listTooLong (its.toArray.size*k.toNat)=true:=by
  rw[zGu hlen];exact cQ
 have hnew:List.foldl (fun x1 x2=>x1++x2) #[] (bP (if its.toArray.isEmpty=true then 0 else k.toNat) its.toArray)=(bP k.toNat its).flatten.toArray:=by
  have f0:∀ m:Nat,List.foldl (fun x1 x2=>x1++x2) #[] (bP m its.toArray)=(bP m its).flatten.toArray:=fun m=>by
   have:=foldl_rep its m [];rw[bx] at this;exact this
  rw[f0];cases its with
  | nil=>simp
  | cons a r'=>rw[if_neg (by simp)]
 refine wpAny_binaryOp_repeat_ref (T:="list") (U:="int") (by decide) ⟨_,e,rfl⟩ (fun s'=>typeIs_int s' k t) noFill_list_mul F.fills_int_mul F.slot_int_rmul repeat_list F.slot_int_index.lookup
  (call_meets F.slot_int_rmul (typeIs_int s k t) F.entry_int_rmul (F.args_int_rmul_2 _ _) (int___rmul___int_list k t l its.toArray n)
   ⟨e,rfl,⟨_,e,rfl⟩,call_meets F.slot_list_mul ⟨_,e,rfl⟩ F.entry_list_mul (F.args_list_mul_2 _ _) (AutoListH.list___mul___list_int_3 l its.toArray n k t hfit hcap hlong) ⟨e,?_⟩⟩)
 rw[hnew];exact⟨.ref _,_,I.lnew (t':=s.toks) (r.rep k.toNat) (by rw[len_rep,Nat.mul_comm];exact hz),rfl,q _ I.fresh⟩
end
section
variable {prog:Program} {w:World} {A:Around} {E:Value->Shared->Prop} {s:Shared}
end
section
variable {X:Cx}
end
end L2
namespace Att
open PySem PySem.W PySem.Calls PyProof.Rows
theorem zDc{P:Params}{h:Heap}:∀(ns:List Int) (vs:List Value),WellAll P h vs (ns.map WData.int)->IntsAre vs ns:=by
 intro ns
 induction ns with
 | nil =>
  intro vs w;rw[List.map_nil] at w;cases w;exact .nil
 | cons n ns ih =>
  intro vs w;rw[cz] at w;cases w with
  | cons a b =>
   cases a;exact .cons _ _ (ih _ b)
theorem zJh{l:OpenLaw}{n:Nat}(hn:l.most=some n){P:Params}{h:Heap}{args:List WData}{vals:List Value}
  (hpre:l.row.toRowW.claim.pre args=true) (hwl:WellAll P h vals args) :
  ∃ a vs ns,vals=[Value.ref a]/\args=[WData.list (ns.map WData.int)]/\h.get? a=some { cls:=.type "list",data:=.seq vs.toArray }/\IntsAre vs ns/\ns.length<=n:=by
 have hsh:WShape.hasAll [] args [.list .int]=true:=(pre_splitW hpre).1;have hc:l.pre.holds [] { args:=args }=true:=(pre_splitW hpre).2;obtain⟨d,r,rfl,h1,h2⟩:=hasAllW_cons hsh;obtain rfl:=hasAllW_nil h2;obtain⟨xs,rfl,h3⟩:=hasW_list h1;obtain⟨ns,rfl⟩:=items_int h3;have hlen:ns.length<=n:=by
  unfold OpenLaw.pre at hc;have h4:(WTm.not (.lt (.lit (.int (n:Int))) (.len (.arg 0)))).holds [] { args:=[.list (ns.map .int)] }=true:=by
   have h4:=(holds_andW hc).1;rw[hn] at h4;exact h4
  have h5:=condW_of h4 (w_not (w_lt w_lit (w_len_list (w_arg rfl))));rw[bA] at h5;refine Nat.le_of_not_lt fun q=>?_;have q':(n:Int)<((ns.length:Nat):Int):=by omega
  first
   | (rw[decide_eq_true q'] at h5;exact absurd h5 (by decide))
   | (simp at h5;omega)
 cases hwl with
 | cons w1 w2 =>
  cases w2;cases w1 with
  | list ho hall=>exact⟨_,_,ns,rfl,rfl,ho,zDc ns _ hall,hlen⟩
theorem zJi(l:OpenLaw)(args:List WData):l.row.toRowW.claim.post args (.bool true) args=true :=
 postW_of (r:=l.row.toRowW) (X:=(true==true))
  (show WShape.has [] (.bool true) .bool=true by first | rfl | decide | simp[WShape.has,WShape.arms,WShape.armsAll])
  (show(WTm.eq .res (.lit (.bool true))).value [] { args:=args,res:=some (.bool true),after:=args }=some (.bool (true==true)) from w_eq_bool (w_res rfl) w_lit) rfl
theorem zGv{l:OpenLaw}{n:Nat}{q:Program}{loose:List Str}{XP:(Str->Option Value)->Heap->Prop}{YP:World->Heap->Prop}{d:DefRec}
  (hn:l.most=some n) (hdf:d.params.defaults=[])
  (call:∀(w:World) (s₀ s₁:Shared) (mg mb:Str->Option Value) (fa:Addr) (o:Obj) (pm cd doc:Value) (a:Addr) (vs:List Value) (ns:List Int),
   Ground q loose [] XP w s₀ mg mb s₁.heap->YP w s₁.heap ->
   s₁.heap.get? fa=some o->o.data=.func (docDef d.name d.params d.body d.scope pm cd doc)->s₁.heap.CodeRec cd d.name->mg d.name=some (.ref fa) ->
   s₁.heap.get? a=some { cls:=.type "list",data:=.seq vs.toArray }->IntsAre vs ns->ns.length<=n->s₁.gens=#[] ->
   codeAny (model l.prog w) callerA (.call (.ref fa) ⟨[.ref a],[]⟩) (fun r s'=>r=.ok (.ret (.bool true))/\OldK s₁.heap s'.heap/\s'.os=s₁.os/\AllBare s'.gens) s₁) :
  WalkO q loose XP YP l.row.toRowW d [] (fun f vs=>PySem.call f vs):=by
 intro w s₀ s₁ mg mb G Y fa o pm cd doc dV kV ho hd hcd hD hmg hg args vals as hpre hlay hrd hwl hlo;obtain rfl:dV=.none:=Dflts.none hD hdf;obtain rfl:kV=.none:=Dflts.noKw hD;obtain⟨a,vs,ns,rfl,rfl,hobj,hints,hlen⟩:=zJh hn hpre hwl;refine enter_call (cR (call w s₀ s₁ mg mb fa o pm cd doc a vs ns G Y ho (fd_plain hd) hcd hmg hobj hints hlen hg) fun r s' hq=>?_);obtain⟨rfl,h2,h3,h4⟩:=hq;exact⟨.inl ⟨.bool true,.bool true,[],rfl,fun u0=>rfl,.bool true,zJi l _,fun u0=>⟨dA.nil,fun u0 hm=>(nomatch hm)⟩⟩,h2,h3,h4⟩
section
variable {prog:Program} {w:World} {A:Around} {E:Value->Shared->Prop} {s:Shared} {K:Frag}
end
end Att
namespace L2
theorem zBm:∀ {vs:List Value} {ns:List Int},IntsAre vs ns->zX (ns.map V.int) vs
 | _,_,.nil=>.nil
 | _,_,.cons n t h=>.cons ⟨t,rfl⟩ (zBm h)
noncomputable def zNG(H:Hp):Prop:=∀ b,H b=none\/(∃ o xs,H b=some (.frz o (.lst xs)))\/∃ ps,H b=some (.tbl ps)
structure TabsAt (K:PySem.W.Frag) (h:Heap) (ts:List Addr) (qn:Addr->Str):Prop where
 obj:∀ P∈ts,h.get? P=some (PySem.W.tabObj #[])
 out:∀ P∈ts,K.lookup P=none
 code:∀ P∈ts,isCodeTable h P
 name:∀ x∈zIj,∀ c b,PySem.W.tabIn K x=some (c,b)->b∈ts/\qn b=x++".<locals>.<lambda>"
theorem zK2{P':Program}{w:World}{K:PySem.W.Frag}{mg mb:Str->Option Value}{CX:CXT}{k:Nat}{fa a:Addr}{fd:FuncData}{x:Str}{sp:Sp}{s₁:Shared}{vs:List Value}{ns:List Int}{ts:List Addr}{qn:Addr->Str}
  (TB:TabsAt K s₁.heap ts qn) (KX:K.In s₁.heap) (hns:s₁.heap.Ns mainGlobals mg) (hb:s₁.heap.Ns builtinsNs mb) (hbb:∀ x:Str,x≠"__name__"->mb x=bootBuiltins x) (hlim:s₁.heap.NoLimit) (hg:s₁.gens=#[])
  (ha:s₁.heap.get? a=some { cls:=.type "list",data:=.seq vs.toArray }) (hi:IntsAre vs ns) (hl:ns.length<=sizeLine) (hr:yR k callerA)
  (F:∀ base:Heap,K.In base->base.Ns mainGlobals mg->zCX P' w K mg base CX k fa fd [x] sp) (hbind:∀(s:Shared) (u:Value),BindsTo s fd ⟨[u],[]⟩ [(x,u)])
  (hsp:∀ H:Hp,zNG H->SqL K H a (ns.map V.int)->sp [.ref a] H (fun v u0=>v=.bl true) fun u0 u0 u0=>False)
  (hCX:∀ H e s',CX [] H s₁ (fun u0 u0 u0=>False) e s'->False) :
  codeAny (model P' w) callerA (.call (.ref fa) ⟨[.ref a],[]⟩) (fun r s'=>r=.ok (.ret (.bool true))/\OldK s₁.heap s'.heap/\s'.os=s₁.os/\AllBare s'.gens) s₁:=by
 have rv:=zBm hi;have lenV:=hi.length
 -- from an abstract heap in which nothing but the script may be tracked
 have core:∀ H:Hp,zNG H->SqL K H a (ns.map V.int)->HOk P' w H s₁.heap->(∀ b,H b≠none->b=a\/b∈ts)->(H a≠none->K.lookup a=none)->(∀ P∈ts,H P=some (.tbl #[.str (qn P) 0])) ->
   codeAny (model P' w) callerA (.call (.ref fa) ⟨[.ref a],[]⟩) (fun r s'=>r=.ok (.ret (.bool true))/\OldK s₁.heap s'.heap/\s'.os=s₁.os/\AllBare s'.gens) s₁:=by
  intro H hO hS hok hA hK hT;have base_of:∀ {b:Addr} {o:Obj},s₁.heap.get? b=some o->H b=none->(zFr s₁.heap H).get? b=some o:=fun e n=>zKq e n;have noA:∀ {b:Addr} {o:Obj} {es:Array DictEntry} {ep:Nat},s₁.heap.get? b=some o->o.data=.dict es ep->H b=none:=fun {b o es ep} e d=>by
   cases q:H b with
   | none=>rfl
   | some u =>
    rcases hA b (by rw[q];simp) with e' | e'
    ·subst e'
     rw[ha] at e;cases e;have d':Data.seq vs.toArray _=Data.dict es ep:=d;cases d'
    ·rw[TB.obj b e'] at e;cases e
     have d':Data.fields #[]=Data.dict es ep:=d;cases d'
  have nsK:∀ {b:Addr} {m:Str->Option Value},s₁.heap.Ns b m->(zFr s₁.heap H).Ns b m:=fun {b m} ⟨o,es,ep,e,d,r⟩=>⟨o,es,ep,base_of e (noA e d),d,r⟩
  have hKb:K.In (zFr s₁.heap H):=fun b o e=>base_of (KX b o e) (by
   cases q:H b with
   | none=>rfl
   | some u =>
    rcases hA b (by rw[q];simp) with e' | e'
    ·subst e'
     rw[hK (by rw[q];simp)] at e;cases e
    ·rw[TB.out b e'] at e;cases e)
  have hM:Mod K mg (zFr s₁.heap H):=⟨hKb,nsK hns,⟨mb,nsK hb,hbb⟩,let ⟨mc,h1,h2⟩:=hlim;⟨mc,nsK h1,h2⟩⟩
  have e0:zM6 P' w K mg (zFr s₁.heap H) callerA [] s₁ H:=⟨rfl,hM,fun b o e=>zMu e,Nat.le_of_eq (zJW _ _),trivial,fun b hb=>absurd (show b∈([]:List Addr) from hb) (by simp),hok,.of_eq hg,fun x hx c b e=>by
   obtain⟨z1,z2⟩:=TB.name x hx c b e;exact⟨0,by rw[<-z2];exact hT b z1⟩⟩
  refine cR ((F _ hKb (nsK hns)).run callerA [] s₁ H ⟨[.ref a],[]⟩ [.ref a] [.ref a] _ _ hr e0 (hbind s₁ (.ref a)) (.cons rfl .nil) (hsp H hO hS)) fun r s' h=>?_;cases r with
  | error e=>exact(hCX H e s' h).elim
  | ok fl =>
   cases fl with
   | next=>exact False.elim h
   | brk=>exact False.elim h
   | cont=>exact False.elim h
   | ret u =>
    obtain⟨v,H',os,bare,un,hok',r',q⟩:=h;have q':v=.bl true:=q;subst q';obtain rfl:u=Value.bool true:=r';have K1:∀ b o,b∉ts->s₁.heap.get? b=some o->s'.heap.get? b=some o:=fun b o hb e=>by
     cases q:H b with
     | none=>exact un.keep b o e q (by intro z;exact absurd (show b∈([]:List Addr) from z) (by simp)) (by simp)
     | some u =>
      rcases hO b with z | ⟨ob,xs,z⟩ | ⟨ps,z⟩
      ·rw[q] at z;cases z
      ·have z2:=un.frzs b ob _ z
       obtain⟨e1,u0⟩:=hok b _ z;obtain⟨e2,u0⟩:=hok' b _ z2;rw[e] at e1;cases e1;exact e2
      ·rcases hA b (by rw[q];simp) with e' | e'
       ·obtain⟨u0,u0,u0,u0,w1,u0⟩:=hok b _ z
        rw[e',ha] at w1;cases w1
       ·exact absurd e' hb
    have K2:∀ b,b∈ts->∃ vs,s'.heap.get? b=some (PySem.W.tabObj vs):=fun b hb=>by
     have z2:=un.tbls b _ (hT b hb);obtain⟨u0,u0,vs,u0,w1,u0⟩:=hok' b _ z2;exact⟨vs,w1⟩
    refine⟨rfl,⟨fun b o e=>?_,fun b o e=>?_⟩,os,bare⟩
    ·by_cases hb:b∈ts
     ·obtain⟨vs,w1⟩:=K2 b hb
      rw[TB.obj b hb] at e;cases e;exact .inr (.inl ⟨TB.code b hb,rfl,#[],vs,rfl,by simpa using w1⟩)
     ·exact .inl (K1 b o hb e)
    ·by_cases hb:b∈ts
     ·obtain⟨vs,w1⟩:=K2 b hb
      exact⟨_,w1⟩
     ·exact⟨o,K1 b o hb e⟩
 have naT:∀ P∈ts,P≠a:=fun P hP z=>by
  have e:=TB.obj P hP;rw[z,ha] at e;cases e
 have tok:∀(H:Hp),∀ P∈ts,zAE P' w H s₁.heap P (.tbl #[.str (qn P) 0]):=fun H P hP=>⟨qn P,0,#[],rfl,TB.obj P hP,trivial,fun pos cv e=>by cases e⟩
 cases hk:K.lookup a with
 | some o =>
  -- the script is one of the module's own objects
  have e:=KX a o hk;rw[ha] at e;cases e;refine core (fun b=>if b∈ts then some (.tbl #[.str (qn b) 0]) else none) (fun b=>?_) (.inr ⟨_,vs.toArray,_,hk,rfl,rfl,rfl,by rw[bH,lenV];exact hl,by simpa using rv⟩) (fun b u z=>?_) (fun b z=>?_) (fun z=>?_) fun P hP=>if_pos hP
  ·by_cases hb:b∈ts
   ·exact .inr (.inr ⟨_,if_pos hb⟩)
   ·exact .inl (if_neg hb)
  ·by_cases hb:b∈ts
   ·have z':=(if_pos hb).symm.trans z
    cases z';exact tok _ b hb
   ·have z':=(if_neg hb).symm.trans z
    cases z'
  ·by_cases hb:b∈ts
   ·exact .inr hb
   ·exact absurd (if_neg hb) z
  ·by_cases hb:a∈ts
   ·exact absurd rfl (naT a hb)
   ·exact absurd (if_neg hb) z
 | none =>
  refine core (fun b=>if b=a then some (.frz { cls:=.type "list",data:=.seq vs.toArray } (.lst (ns.map V.int))) else if b∈ts then some (.tbl #[.str (qn b) 0]) else none) (fun b=>?_) (.inl (.inr ⟨{ cls:=.type "list",data:=.seq vs.toArray },if_pos rfl⟩)) (fun b u z=>?_) (fun b z=>?_) (fun u0=>hk) fun P hP=>?_
  ·by_cases hb:b=a
   ·exact .inr (.inl ⟨_,_,if_pos hb⟩)
   ·by_cases hb2:b∈ts
    ·exact .inr (.inr ⟨_,(if_neg hb).trans (if_pos hb2)⟩)
    ·exact .inl ((if_neg hb).trans (if_neg hb2))
  ·by_cases hb:b=a
   ·have z':=(if_pos hb).symm.trans z
    cases z';subst hb;exact⟨ha,by rw[bA];exact hl,vs,_,rv,ha⟩
   ·by_cases hb2:b∈ts
    ·have z':=((if_neg hb).trans (if_pos hb2)).symm.trans z
     cases z';exact tok _ b hb2
    ·have z':=((if_neg hb).trans (if_neg hb2)).symm.trans z
     cases z'
  ·by_cases hb:b=a
   ·exact .inl hb
   ·by_cases hb2:b∈ts
    ·exact .inr hb2
    ·exact absurd ((if_neg hb).trans (if_neg hb2)) z
  ·exact(if_neg (naT P hP)).trans (if_pos hP)
theorem zNH{l:PySem.W.OpenLaw}{n k:Nat}{q:Program}{loose:List Str}{XP:(Str->Option Value)->Heap->Prop}{YP:World->Heap->Prop}{d:DefRec}{K:Params->PySem.W.Frag}{CX:World->CXT}{sp:World->Sp}{x:Str}
  (hn:l.most=some n) (hn2:n<=sizeLine) (hdf:d.params.defaults=[]) (hr:yR k callerA)
  (hY:∀(w:World) (h:Heap),YP w h->(K w.params).In h/\∃ ts qn,TabsAt (K w.params) h ts qn)
  (F:∀(w:World) (mg:Str->Option Value) (fa:Addr) (h:Heap),(K w.params).In h->h.Ns mainGlobals mg->mg d.name=some (.ref fa) ->
   ∃ fd:FuncData,(∀(s:Shared) (u:Value),BindsTo s fd ⟨[u],[]⟩ [(x,u)]) /\
    ∀ base:Heap,(K w.params).In base->base.Ns mainGlobals mg->zCX l.prog w (K w.params) mg base (CX w) k fa fd [x] (sp w))
  (hsp:∀(w:World) (H:Hp) (a:Addr) (ns:List Int),ns.length<=n->zNG H->SqL (K w.params) H a (ns.map V.int)->sp w [.ref a] H (fun v u0=>v=.bl true) fun u0 u0 u0=>False)
  (hCX:∀(w:World) (H:Hp) (s:Shared) (e:Value) (s':Shared),CX w [] H s (fun u0 u0 u0=>False) e s'->False) :
  PySem.W.WalkO q loose XP YP l.row.toRowW d [] (fun f vs=>PySem.call f vs):=by
 refine Att.zGv hn hdf fun w s₀ s₁ mg mb fa o pm cd doc a vs ns G Y ho hd hcd hmg hobj hints hlen hg=>?_;obtain⟨KX,ts,qn,TB⟩:=hY w _ Y;obtain⟨fd,hb,hF⟩:=F w mg fa _ KX G.T.g hmg;exact zK2 TB KX G.T.g G.T.b G.T.builtins G.T.nolimit hg hobj hints (cK hlen hn2) hr hF hb (fun H hO hS=>hsp w H a ns hlen hO hS) fun H e s'=>hCX w H s₁ e s'
noncomputable def za(s:Stmt):Arguments:=match s with
 | .FunctionDef _ a _ _ _ _ _ _ _ _=>a
 | _=>{ posonlyargs:=[],args:=[],vararg:=none,kwonlyargs:=[],kw_defaults:=[],kwarg:=none,defaults:=[] }
noncomputable def zV(s:Stmt):List Stmt:=match s with
 | .FunctionDef _ _ b _ _ _ _ _ _ _=>b
 | _=>[]
noncomputable def zG(s:Stmt):Scope:=match s with
 | .FunctionDef _ _ _ _ _ _ sc _ _ _=>sc
 | _=>{ kind:=.function,names:=[],isGenerator:=false,isCoroutine:=false }
noncomputable abbrev CX0:CXT:=fun u0 u0 u0 u0 u0 u0=>False
noncomputable abbrev E0:XK:=fun u0 u0 u0=>False
theorem zOW{X:Cx}:zHu CX0 X E0:=fun u0 u0 u0 u0 u0 u0 u0 h=>h.elim
structure Fun (K:PySem.W.Frag) (x qual:Str) (st:Stmt) (f:Addr) (fd:FuncData):Prop where
 ex:∃(oc:Value) (od:Option Addr) (kV doc pm:Value) (an:Option Addr) (cdv ct:Value) (osl:Array (Option Value)),
  fd=PySem.W.fnOf x qual (za st) (zV st) (zG st) .none kV doc pm an cdv ct/\K.lookup f=some ⟨oc,od,.func fd,osl⟩/\PySem.W.codeIn K cdv qual=true
 kp:PySem.W.keepIn K (.ref f)=true
section
variable {P:Program} {w:World} {K:PySem.W.Frag} {mg:Str->Option Value} {base:Heap}
theorem Fun.ok{x qual:Str}{st:Stmt}{f:Addr}{fd:FuncData}{N ps:List Str}{k:Nat}{sp:Sp}(F:Fun K x qual st f fd)(S:zY N ps (zG st))(len:∀ vs H Q E,sp vs H Q E->vs.length=ps.length)
  (hbody:∀(cdv:Value) (A:Around) (outer:List Env) (s:Shared) (H:Hp) (vs:List V) (Q:VK) (E:XK),yR k (A.deeper (envOfC qual (zG st) s.heap.objs.size f cdv))->sp vs H Q E ->
   ∃ t,PSs (zFs CX0 P w K mg base N qual (zG st) f cdv A outer s H E).nox (zV st) t/\t { nx:=fun u0 H'=>Q .non H',rt:=Q } (start N vs) H):zCX P w K mg base CX0 (k+1) f fd ps sp:=by
 obtain⟨oc,od,kV,doc,pm,an,cdv,ct,osl,rfl,lk,hcd⟩:=F.ex;refine zQ2 lk hcd S len fun A outer s H vs Q E hr hsp=>?_;obtain⟨t,h,q⟩:=hbody cdv A outer s H vs Q E hr hsp;exact⟨t,h.nox,q⟩
theorem Fun.binds{x qual:Str}{st:Stmt}{f:Addr}{fd:FuncData}{ps:List Str}(F:Fun K x qual st f fd)
  (h:∀(kV doc pm:Value) (an:Option Addr) (cdv ct:Value) (us:List Value),us.length=ps.length->bindArgs (PySem.W.fnOf x qual (za st) (zV st) (zG st) .none kV doc pm an cdv ct) ⟨us,[]⟩=pure (ps.zip us)):Binds K fd ps []:=by
 obtain⟨oc,od,kV,doc,pm,an,cdv,ct,osl,rfl,lk,hcd⟩:=F.ex;exact .all (h kV doc pm an cdv ct)
theorem zp{x qual:Str}{st:Stmt}{f:Addr}{oc:Value}{od an:Option Addr}{osl:Array (Option Value)}{kV doc pm cdv ct:Value}(l:K.lookup f=some ⟨oc,od,.func (PySem.W.fnOf x qual (za st) (zV st) (zG st) .none kV doc pm an cdv ct),osl⟩)
  (c:PySem.W.codeIn K cdv qual=true) (k:PySem.W.keepIn K (.ref f)=true):Fun K x qual st f (PySem.W.fnOf x qual (za st) (zV st) (zG st) .none kV doc pm an cdv ct):=⟨⟨oc,od,kV,doc,pm,an,cdv,ct,osl,rfl,l,c⟩,k⟩
end
section
variable {X:Cx}
end
end L2
set_option maxHeartbeats 4000000
namespace L2
noncomputable def zDE(env:Env):List (Str×NameKind)->List (Str×Addr)->List (Str×Addr)
 | [],cs=>cs
 | (n,k)::r,cs=>zDE env r (if k==.free then match env.cells.lookup n with | some a=>(n,a)::cs | none=>cs else cs)
noncomputable def zJj(sc:Scope)(env:Env):List (Str×Addr):=zDE env sc.names []
theorem zFE{env:Env}:∀ {ns:List (Str×NameKind)} {cs:List (Str×Addr)} {x:Str} {c:Addr},(∀ y a,cs.lookup y=some a->env.cells.lookup y=some a)->(zDE env ns cs).lookup x=some c->env.cells.lookup x=some c
 | [],_,_,_,h,e=>h _ _ e
 | (n,k)::r,cs,x,c,h,e=>by
  unfold zDE at e;refine zFE (ns:=r) (fun y a q=>?_) e;by_cases hk:(k==NameKind.free)=true
  ·rw[if_pos hk] at q
   cases hc:env.cells.lookup n with
   | none=>rw[hc] at q;exact h y a q
   | some d =>
    rw[hc] at q;cases hy:y==n with
    | true =>
     simp only[cE,hy] at q;have:y=n:=by simpa using hy
     rw[this,hc];exact q
    | false =>
     simp only[cE,hy] at q;exact h y a q
  ·rw[if_neg hk] at q;exact h y a q
theorem zJk{sc:Scope}{env:Env}{x:Str}{c:Addr}(e:(zJj sc env).lookup x=some c):env.cells.lookup x=some c :=
 zFE (fun u0 u0 q=>by simp at q) e
theorem zD1{env:Env}:∀ {ns:List (Str×NameKind)} {cs:List (Str×Addr)} {x:Str},(∀ y∈ns,y.2=.free->∃ c,env.cells.lookup y.1=some c)->((∃ c,cs.lookup x=some c)\/(x,NameKind.free)∈ns)->∃ c,(zDE env ns cs).lookup x=some c
 | [],cs,x,_,h=>by
  rcases h with h | h
  ·exact h
  ·cases h
 | (n,k)::r,cs,x,hh,h=>by
  unfold zDE;refine zD1 (ns:=r) (fun y hy=>hh y (bN _ hy)) ?_;by_cases hk:k=.free
  ·subst hk
   obtain⟨c,hc⟩:=hh (n,.free) bU rfl;have hc':env.cells.lookup n=some c:=hc;simp only[beq_self_eq_true,if_true,hc'];cases hx:x==n with
   | true=>exact .inl ⟨c,by simp[cE,hx]⟩
   | false =>
    rcases h with ⟨d,h⟩ | h
    ·exact .inl ⟨d,by simp[cE,hx,h]⟩
    ·rcases ce.mp h with e | h
     ·injection e with e1 _
      subst e1;simp at hx
     ·exact .inr h
  ·have hb:(k==NameKind.free)=false:=by simpa using hk
   simp only[hb,bj,if_false];rcases h with h | h
   ·exact .inl h
   ·rcases ce.mp h with e | h
    ·injection e with _ e2
     exact absurd e2.symm hk
    ·exact .inr h
theorem zGw{env:Env}:∀ {ns:List (Str×NameKind)} {cs:List (Str×Addr)},(∀ y∈ns,y.2=.free->∃ c,env.cells.lookup y.1=some c) ->
  (forIn ns cs fun(x:Str×NameKind) (r:List (Str×Addr))=>if (x.2==NameKind.free)=true then (do let a <-cellOf env x.1;pure (ForInStep.yield ((x.1,a)::r)):Sem _) else pure (ForInStep.yield r))=(pure (zDE env ns cs):Sem _)
 | [],_,_=>rfl
 | (n,k)::r,cs,hh=>by
  rw[List.forIn_cons];have ih:=fun cs'=>zGw (env:=env) (ns:=r) (cs:=cs') fun y hy=>hh y (bN _ hy);by_cases hk:k=.free
  ·subst hk
   obtain⟨c,hc⟩:=hh (n,.free) bU rfl;have hc':env.cells.lookup n=some c:=hc;have e:cellOf env n=pure c:=by unfold cellOf;rw[hc']
   simp only[beq_self_eq_true,if_true,e,pure_bind];rw[ih];have q:zDE env ((n,NameKind.free)::r) cs=zDE env r ((n,c)::cs):=by simp only[zDE,beq_self_eq_true,if_true,hc']
   rw[q]
  ·have hb:(k==NameKind.free)=false:=by simpa using hk
   simp only[hb,bj,if_false,pure_bind];rw[ih];have q:zDE env ((n,k)::r) cs=zDE env r cs:=by simp only[zDE,hb,bj,if_false]
   rw[q]
theorem zCA{sc:Scope}{env:Env}(hh:∀ y∈sc.names,y.2=.free->∃ c,env.cells.lookup y.1=some c):closureFor sc env=pure (zJj sc env):=by
 have e:=zGw (env:=env) (ns:=sc.names) (cs:=[]) hh;unfold closureFor;show(forIn sc.names [] (fun(x:Str×NameKind) (r:List (Str×Addr))=>(match x with | (name,kind)=>if (kind==NameKind.free)=true then (do let a <-cellOf env name;pure (ForInStep.yield ((name,a)::r))) else pure (ForInStep.yield r):Sem (ForInStep (List (Str×Addr)))))>>=fun s=>pure s)=_;have hb:(fun(x:Str×NameKind) (r:List (Str×Addr))=>(match x with | (name,kind)=>if (kind==NameKind.free)=true then (do let a <-cellOf env name;pure (ForInStep.yield ((name,a)::r))) else pure (ForInStep.yield r):Sem (ForInStep (List (Str×Addr))))) =
   fun(x:Str×NameKind) (r:List (Str×Addr))=>if (x.2==NameKind.free)=true then (do let a <-cellOf env x.1;pure (ForInStep.yield ((x.1,a)::r)):Sem _) else pure (ForInStep.yield r):=by
  funext x r;obtain⟨n,k⟩:=x;rfl
 rw[hb,e];rfl
noncomputable def Cx.comp(X:Cx)(N':List Str)(sc:Scope)(C:Addr)(s:Shared)(H:Hp)(fp:List Addr)(pins:List (Addr×Obj)):Cx :=
 { X with N:=N',s₀:=s,H₀:=H,env:=compEnvC sc (zJj sc X.env) C X.env,outer:=X.stack,ex:=fp,fn:=fun u0=>false,pn:=X.pn++pins,xe:=fun u0 u0=>False }
noncomputable def PTs(X:Cx)(ifs:List Expr)(t:TT):Prop :=
 ∀(pins:List (Addr×Obj)) (s:Shared) (σ:St) (H:Hp) (Q:Bool->Hp->Prop),zU X pins σ H s->t σ H Q ->
  wpAny (model X.prog X.w) X.A (forIn ifs true fun c r=>if r=true then do let ok <-isTrue c X.env (eval c X.env);pure (ForInStep.yield ok) else pure (ForInStep.yield r)) (TP X pins σ Q) X.xe s
noncomputable def zSB:TT:=fun u0 H Q=>Q true H
theorem zNI{X:Cx}:PTs X [] zSB:=fun u0 u0 u0 H u0 I h=>wpAny_tests_nil ⟨H,I,h⟩
theorem zNJ{X:Cx}{c:Expr}{t:TT}(h:PT X c t):PTs X [c] t:=fun pins s σ H Q I hq=>wpAny_tests_one (h pins s σ H Q I hq)
noncomputable def zK3(n0:Nat)(wi:TI)(g:TG)(tc:TT)(te:TE):TE:=fun σ H Q=>wi σ H fun J H1=>∀ D,H1 D=none->∃ W:Nat->Nat->Hp->Prop,(∃ m,W 0 m (ye H1 D (.lst []))) /\
 ∀ i m H2,W i m H2->(J.stop i H2/\Q (.ref D) H2) \/
  (J.go i H2/\∀ x H3,J.yld i H2 x H3->g x (σ++bP n0 none) H3 fun σ4 H4=>σ4.take σ.length=σ/\σ4.length=σ.length+n0/\tc σ4 H4 fun b H5 =>
   if b=true then te σ4 H5 fun v H6=>∃ acc,H6 D=some (.lst acc)/\acc.length<sizeLine/\∃ m',m'<m/\W (i+1) m' (ye H6 D (.lst (acc++[v]))) else ∃ m',m'<m/\W (i+1) m' H5)
theorem PE.mono{X:Cx}{e:Expr}{t t':TE}(h:PE X e t)(hm:∀ σ H Q,t' σ H Q->t σ H Q):PE X e t':=fun pins s σ H Q I q=>h pins s σ H Q I (hm σ H Q q)
theorem PT.mono{X:Cx}{e:Expr}{t t':TT}(h:PT X e t)(hm:∀ σ H Q,t' σ H Q->t σ H Q):PT X e t':=fun pins s σ H Q I q=>h pins s σ H Q I (hm σ H Q q)
theorem PS.mono{X:Cx}{e:Stmt}{t t':TS}(h:PS X e t)(hm:∀ D σ H,t' D σ H->t D σ H):PS X e t':=fun pins s σ H D I q=>h pins s σ H D I (hm D σ H q)
section
variable {X:Cx} {tg elt iter:Expr} {ifs:List Expr} {sc:Scope} {pos:Pos} {N0 own:List Str} {wi:TI} {g:TG} {tc:TT} {te:TE}
structure zDF (X:Cx) (sc:Scope) (N0:List Str):Prop where
 kind:sc.kind=.function
 cell:∀ y∈sc.names,y.2≠.cell
 names:∀ y∈sc.names,y.2=.local->sc.names.lookup y.1=some .local
 cap:∀ y∈sc.names,y.2=.free->X.env.kindOf y.1=some .cell\/X.env.kindOf y.1=some .free
 len:N0.length=X.N.length
 vis:∀(i:Nat) (x:Str),N0[i]?=some x->Vis (relabel sc X.env) x->X.N[i]?=some x/\sc.names.lookup x=some .free
theorem zAZ{env:Env}:∀ {names:List (Str×NameKind)} {x:Str},(∀ y∈names,y.2≠.cell) ->
    ((names.map fun(n,k)=>if (k==NameKind.free&&env.scope.kind==.function&&env.kindOf n==some .cell) then (n,NameKind.cell) else (n,k)).lookup x=some .cell \/
     (names.map fun(n,k)=>if (k==NameKind.free&&env.scope.kind==.function&&env.kindOf n==some .cell) then (n,NameKind.cell) else (n,k)).lookup x=some .free)->names.lookup x=some .free
  | [],_,_,h=>by rcases h with h | h<;>simp at h
  | (n,k)::r,x,hc,h=>by
    have ih:=@zAZ env r x fun y hy=>hc y (bN _ hy);have hk:k≠.cell:=hc (n,k) bU;have hd:∀(z:NameKind),(((n,k)::r).map fun(n,k)=>if (k==NameKind.free&&env.scope.kind==.function&&env.kindOf n==some .cell) then (n,NameKind.cell) else (n,k)).lookup x=some z ->
        if (x==n)=true then (if (k==NameKind.free&&env.scope.kind==.function&&env.kindOf n==some .cell)=true then z=.cell else z=k) else (r.map fun(n,k)=>if (k==NameKind.free&&env.scope.kind==.function&&env.kindOf n==some .cell) then (n,NameKind.cell) else (n,k)).lookup x=some z:=by
      intro z e;have e':List.lookup x ((if (k==NameKind.free&&env.scope.kind==.function&&env.kindOf n==some .cell)=true then (n,NameKind.cell) else (n,k))::(r.map fun(n,k)=>if (k==NameKind.free&&env.scope.kind==.function&&env.kindOf n==some .cell) then (n,NameKind.cell) else (n,k)))=some z:=e;cases hx:x==n with
      | true =>
        rw[if_pos rfl];by_cases hq:(k==NameKind.free&&env.scope.kind==.function&&env.kindOf n==some .cell)=true
        · rw[if_pos hq] at e' ⊢
          simp only[cE,hx] at e';exact(Option.some.inj e').symm
        · rw[if_neg hq] at e' ⊢
          simp only[cE,hx] at e';exact(Option.some.inj e').symm
      | false =>
        rw[if_neg (by simp)];by_cases hq:(k==NameKind.free&&env.scope.kind==.function&&env.kindOf n==some .cell)=true
        · rw[if_pos hq] at e';simpa only[cE,hx] using e'
        · rw[if_neg hq] at e';simpa only[cE,hx] using e'
    cases hx:x==n with
    | true =>
      simp only[cE,hx];rcases h with h | h
      · have q:=hd _ h
        rw[if_pos hx] at q;by_cases hq:(k==NameKind.free&&env.scope.kind==.function&&env.kindOf n==some .cell)=true
        · have:(k==NameKind.free)=true:=by
            cases hk':k==NameKind.free with
            | true=>rfl
            | false=>simp[hk'] at hq
          have:k=.free:=by simpa using this
          rw[this]
        · rw[if_neg hq] at q;exact absurd q.symm hk
      · have q:=hd _ h
        rw[if_pos hx] at q;by_cases hq:(k==NameKind.free&&env.scope.kind==.function&&env.kindOf n==some .cell)=true
        · rw[if_pos hq] at q;cases q
        · rw[if_neg hq] at q;rw[<-q]
    | false =>
      simp only[cE,hx];refine ih ?_;rcases h with h | h
      · have q:=hd _ h
        rw[if_neg (by simp[hx])] at q;exact .inl q
      · have q:=hd _ h
        rw[if_neg (by simp[hx])] at q;exact .inr q
theorem zJl{X':Cx}{σ:St}{it D:Addr}{fp:List Addr}{tn:Nat->Heap->Prop}{J:It}{Q:VK}{W:Nat->Nat->Hp->Prop}{Z:Hp->Shared->Prop}{H0:Hp}{s₅:Shared}{m0:Nat}(hc:X'.calm=true)(hx:∀ v s,X'.xe v s->False)(Tn:Turn X'.prog X'.w X'.K tg J fp it tn)
  (hg:PG X' tg g) (ht:PTs X' ifs tc) (he:PE X' elt te)
  (turn:∀ i m H2,W i m H2->(J.stop i H2/\Q (.ref D) H2) \/
    (J.go i H2/\∀ x H3,J.yld i H2 x H3->g x (σ++bP own.length none) H3 fun σ4 H4=>σ4.take σ.length=σ/\σ4.length=σ.length+own.length/\tc σ4 H4 fun b H5 =>
     if b=true then te σ4 H5 fun v H6=>∃ acc,H6 D=some (.lst acc)/\acc.length<sizeLine/\∃ m',m'<m/\W (i+1) m' (ye H6 D (.lst (acc++[v]))) else ∃ m',m'<m/\W (i+1) m' H5))
  (fpX:∀ {H:Hp},(∀ b∈fp,H b=none)->∀ b∈fp,zDB X' [] H b) (back:∀ {σ':St} {H':Hp} {s':Shared},zU X' [] σ' H' s'->Z H' s')
  (I4:zU X' [] (σ++bP own.length none) H0 s₅) (st4:tn 0 s₅.heap) (fpD:∀ b∈fp,H0 b=none) (w0:W 0 m0 H0) :
  codeAny (model X'.prog X'.w) X'.A (.compLoop (.ListComp elt [⟨tg,iter,ifs,0⟩] sc pos) 0 (.ref it) (.ref D) X'.env) (fun r s'=>∃ H',r=.ok .next/\Z H' s'/\Q (.ref D) H') s₅:=by
  refine codeAny_loop rfl (fun n s'=>∃ i H',zU X' [] (σ++bP own.length none) H' s'/\tn i s'.heap/\(∀ b∈fp,H' b=none)/\W i n H') (fun n s6=>?_) m0 ⟨0,_,I4,st4,fpD,w0⟩;rintro⟨i,H6,I6,st6,fr6,w6⟩;show wpAny _ X'.A ((compTurn (.ListComp elt [⟨tg,iter,ifs,0⟩] sc pos) 0 (.ref it) (.ref D) X'.env).onRaise (fun x=>do noteFrame x X'.env;theTreesLotGoes x)) _ _ s6;refine wpAny_noted ?_;rw[compTurn_list];have nox:∀ {α:Type} {t:Sem α} {Q:α->Shared->Prop} {E':Value->Shared->Prop} {s:Shared},wpAny (model X'.prog X'.w) X'.A t Q X'.xe s->wpAny (model X'.prog X'.w) X'.A t Q E' s:=fun h=>eN h (fun u0 u0 q=>q) fun v s z=>(hx v s z).elim;refine bi (wpAny_standAt (bi ?_));rcases turn i n H6 w6 with ⟨stop,qn⟩ | ⟨go,step⟩
  ·refine nox (yU (Tn.done X' rfl rfl rfl hc i [] s6 _ H6 _ I6 (fpX fr6) st6 stop) fun r s7 u9=>?_);obtain⟨hr,I7⟩:=u9
   subst hr;exact bm ⟨H6,rfl,back I7,qn⟩
  ·refine nox (yU (Tn.item X' rfl rfl rfl hc i [] s6 _ H6 _ I6 (fpX fr6) st6 go) fun r s7 u9=>?_);obtain⟨u,hr,h7⟩:=u9
   subst hr;refine bi (nox (yU h7 fun _ s8 u9=>?_));obtain⟨x,H8,I8,r8,y8,st8,fr8⟩:=u9;have I8':=I8.pinned (fpX fr8) (Tn.obj _ _ st8);refine bi (nox (yU (hg _ s8 _ H8 x u _ I8' r8 (step x H8 y8)) fun _ s9 u9=>?_));obtain⟨σ9,H9,I9,q1,q2,q9⟩:=u9;have again:∀ {s':Shared} {H':Hp},zU X' ([]++zDx fp s8.heap) σ9 H' s'->(∃ m',m'<n/\W (i+1) m' H')->∃ m,m<n/\∃ i H',zU X' [] (σ++bP own.length none) H' s'/\tn i s'.heap/\(∀ b∈fp,H' b=none)/\W i m H':=by
    intro s' H' J ⟨m',hm,w'⟩;refine⟨m',hm,i+1,H',?_,Tn.keep _ _ _ st8 fun b hb o e=>(J.pin (b,o) (ci _ (ci _ (zA5 hb e)))).1,fun b hb=>?_,w'⟩
    ·refine(J.unpinned).weak ?_ fun j v e=>?_
     ·rw[q2,bR,List.length_replicate]
     ·have hj:j<σ.length:=by
       by_cases hj:j<σ.length
       ·exact hj
       ·rw[cL (by omega),List.getElem?_replicate] at e
        split at e<;>cases e
      rw[cr hj] at e;rw[<-q1,List.getElem?_take_of_lt hj] at e;exact e
    ·obtain⟨o,e,d⟩:=Tn.obj _ _ st8 b hb
     exact(J.pin (b,o) (ci _ (ci _ (zA5 hb e)))).2.1
   refine bi (nox (yU (ht _ s9 σ9 H9 _ I9 q9) fun ok s10 u9=>?_));obtain⟨H10,I10,q10⟩:=u9;cases ok with
   | false=>exact bm ⟨rfl,again I10 q10⟩
   | true =>
    refine bi (bi (nox (yU (he _ s10 σ9 H10 _ I10 q10) fun uv s11 u9=>?_)));obtain⟨v,H11,I11,r11,acc,hD11,hz,q11⟩:=u9;refine bi (nox (yU (zFD _ s11 σ9 H11 (.ref D) [v] (.ref D) [uv] (fun u0 H12=>H12=ye H11 D (.lst (acc++[v]))) I11 rfl (.cons r11 .nil) ⟨_,acc,v,rfl,rfl,hD11,hz,rfl⟩) fun _ s12 u9=>?_));obtain⟨_,H12,I12,_,q12⟩:=u9;subst q12;exact bm (bm ⟨rfl,again I12 q11⟩)
theorem zD2{pins:List (Addr×Obj)}{σ:St}{s₂:Shared}{itv:Value}{Q:VK}{E:Value->Shared->Prop}(hc:X.calm=true)(T:zDF X sc N0)
  (hg:∀ C s H fp pins,PG (X.comp (N0++own) sc C s H fp pins) tg g) (ht:∀ C s H fp pins,PTs (X.comp (N0++own) sc C s H fp pins) ifs tc) (he:∀ C s H fp pins,PE (X.comp (N0++own) sc C s H fp pins) elt te)
  (h:PIE X pins σ tg (fun J H1=>∀ D,H1 D=none->∃ W:Nat->Nat->Hp->Prop,(∃ m,W 0 m (ye H1 D (.lst []))) /\
   ∀ i m H2,W i m H2->(J.stop i H2/\Q (.ref D) H2) \/
    (J.go i H2/\∀ x H3,J.yld i H2 x H3->g x (σ++bP own.length none) H3 fun σ4 H4=>σ4.take σ.length=σ/\σ4.length=σ.length+own.length/\tc σ4 H4 fun b H5 =>
     if b=true then te σ4 H5 fun v H6=>∃ acc,H6 D=some (.lst acc)/\acc.length<sizeLine/\∃ m',m'<m/\W (i+1) m' (ye H6 D (.lst (acc++[v]))) else ∃ m',m'<m/\W (i+1) m' H5)) itv s₂) :
  wpAny (model X.prog X.w) X.A (newList []) (fun acc s₃=>wpAny (model X.prog X.w) X.A (newFunctionEnv sc X.env.globals (zJj sc X.env) [] X.env.qual none .none (some X.env)) (fun cenv s₄ =>
   codeAny (model X.prog X.w) X.A (.compStart (.ListComp elt [⟨tg,iter,ifs,0⟩] sc pos) 0 itv acc { cenv with scope:=relabel sc X.env })
    (fun r s'=>∃ D H' m,r=.ok .next/\acc=.ref D/\zU X pins σ H' s'/\zDB X pins H' cenv.locals/\s'.heap.Ns cenv.locals m/\Q (.ref D) H') s₄) E s₃) E s₂:=by
 obtain⟨it,fp,tn,J,H1,rfl,I2,Tn,st2,f2,hR⟩:=h;refine bS (wpAny_newFunctionEnv T.cell (by intro y hy;simp at hy) (fun h₁ hns₁ hsb₁=>?_) T.kind);dsimp only at hns₁ hsb₁ ⊢;generalize hH2:s₂.heap.push { cls:=.type "list",dict:=none,data:=.seq ([]:List Value).toArray }=h3 at hns₁ hsb₁ ⊢;have hC:h3.objs.size=s₂.heap.objs.size+1:=by rw[<-hH2,dH]
 -- the list
 have I3:zU X pins σ (ye H1 s₂.heap.objs.size (.lst [])) { s₂ with heap:=h3 }:=by
  rw[<-hH2];exact I2.laid (t':=s₂.toks) (fun b u e=>bn _ e) (bE _) ⟨by simp,[],0,.nil,bB _ rfl⟩
 have fD:H1 s₂.heap.objs.size=none:=I2.hok.fresh (bE _);obtain⟨W,⟨m0,w0⟩,turn⟩:=hR _ fD;have kp:∀ b o,h3.get? b=some o->h₁.get? b=some o:=fun b o e=>hsb₁.extBut b o (bO (bC e)) (bn _ e);have fp2:∀ b∈fp,b<s₂.heap.objs.size:=fun b hb=>by
  obtain⟨o,e,u0⟩:=Tn.obj _ _ st2 b hb;exact bC e
 -- the block's context
 have CK:∀ x c,(zJj sc X.env).lookup x=some c->X.env.cells.lookup x=some c:=fun x c e=>zJk e;have nofs:∀ {b:Addr},h3.objs.size<=b->b∉frs X.stack:=fun {b} hb z=>by
  rcases ce.mp (I3.stkSub b z) with e | z
  ·exact absurd (bY I3.lt (show h3.objs.size<=X.env.locals by rw[<-e];exact hb)) (dO _)
  ·exact I3.nofs (a:=b) hb z
 have fpS:∀ b∈fp,b∉frs X.stack:=fun b hb z=>by
  rcases ce.mp (I3.stkSub b z) with e | z
  ·exact(f2 b hb).2.1 e
  ·exact(f2 b hb).2.2.1 z
 have fpD:∀ b∈fp,ye H1 s₂.heap.objs.size (.lst []) b=none:=fun b hb=>by rw[zq (bO (fp2 b hb))];exact(f2 b hb).1
 have pinS:∀ p∈X.pn++pins,p.1∉frs X.stack:=fun p hp z=>by
  obtain⟨u0,u0,n1,n2,u0⟩:=I3.pin p hp;rcases ce.mp (I3.stkSub p.1 z) with e | z
  ·exact n1 e
  ·exact n2 z
 let X':=X.comp (N0++own) sc h3.objs.size { s₂ with heap:=h3 } (ye H1 s₂.heap.objs.size (.lst [])) fp pins;have cells':∀ x,(X'.env.kindOf x=some .cell\/X'.env.kindOf x=some .free)->sc.names.lookup x=some .free:=fun x hx=>zAZ T.cell hx;have hfree:∀ y∈sc.names,y.2=.free->∃ c,X.env.cells.lookup y.1=some c:=fun y hy hf=>I2.ok.has _ (T.cap y hy hf);have ok':X'.Ok:=by
  refine⟨I3.ok.mod,?_,I3.ok.glob,I3.ok.blt,bE _,fun x y c e1 e2=>I3.ok.inj x y c (CK _ _ e1) (CK _ _ e2),fun x hx=>?_,fun x c z=>(by cases z),I3.ok.hd,I3.ok.frames,.inl rfl,fun b hb=>⟨?_,fun x c e=>?_⟩,I3.bs,cK I3.ok.bsz I3.sz,fun b o e hb=>?_,fpS,I3.stack,I3.stkFree,I3.tabs⟩
  ·exact T.kind
  ·have hx':=cells' x hx
   exact zD1 hfree (.inr (PySem.mem_of_lookup hx'))
  ·exact bO (bY (fp2 b hb) (by show s₂.heap.objs.size<=h3.objs.size;rw[hC];exact eJ _))
  ·exact(f2 b hb).2.2.2.2.1 x c (CK x c e)
  ·have:=(I3.bs b o e).1
   rcases(f2 b hb).2.2.2.1 with z | z
   ·exact I3.ok.noex b o e z
   ·have:=bY (bC e) I3.ok.bsz
    exact absurd (bY this z) (dO _)
 have hlook:∀(i:Nat) (x:Str) (v:V),(N0++own)[i]?=some x->(σ++bP own.length none)[i]?=some (some v)->Vis (relabel sc X.env) x->∃ c u,RelV v u/\X'.env.cells.lookup x=some c/\(X'.env.kindOf x=some .cell\/X'.env.kindOf x=some .free)/\h3.IsCell c (some u):=by
  intro i x v e1 e2 e3;have hi:i<σ.length:=by
   by_cases hi:i<σ.length
   ·exact hi
   ·rw[cL (by omega),List.getElem?_replicate] at e2
    split at e2<;>cases e2
  have e2':σ[i]?=some (some v):=by rw[cr hi] at e2;exact e2
  have hi0:i<N0.length:=by rw[T.len,<-I3.len];exact hi
  have e1':N0[i]?=some x:=by rw[cr hi0] at e1;exact e1
  obtain⟨n1,n2⟩:=T.vis i x e1' e3;have cp:=T.cap _ (PySem.mem_of_lookup n2) rfl;obtain⟨m,hn,hl⟩:=I3.loc;have vis:Vis X.env.scope x:=by
   rcases cp with z | z
   ·exact .inr (.inl z)
   ·exact .inr (.inr z)
  obtain⟨u,r,l⟩:=hl i x v n1 e2' vis;obtain⟨c',hc'⟩:=zD1 (env:=X.env) (ns:=sc.names) (cs:=[]) (x:=x) hfree (.inr (PySem.mem_of_lookup n2));have hc2:(zJj sc X.env).lookup x=some c':=hc';rcases l with ⟨z,u0⟩ | ⟨u0,c,e,q⟩
  ·rcases cp with z' | z'<;>(rw[z] at z';cases z')
  ·have:c=c':=by
    have:=CK _ _ hc2;rw[e] at this;exact Option.some.inj this
   subst this;refine⟨c,u,r,hc2,?_,q⟩;rcases e3 with z | z | z
   ·exfalso
    have:=lookup_relabel_local (env:=X.env) (names:=sc.names) (x:=x)
    -- a free name is not relabelled local
    have nl:∀ {names:List (Str×NameKind)},names.lookup x=some .free->(names.map fun(n,k)=>if (k==NameKind.free&&X.env.scope.kind==.function&&X.env.kindOf n==some .cell) then (n,NameKind.cell) else (n,k)).lookup x≠some .local:=by
     intro names
     induction names with
     | nil=>intro h;simp at h
     | cons p r ih =>
      obtain⟨n,k⟩:=p;intro h;show List.lookup x ((if (k==NameKind.free&&X.env.scope.kind==.function&&X.env.kindOf n==some .cell)=true then (n,NameKind.cell) else (n,k))::_)≠_;cases hx:x==n with
      | true =>
       simp only[cE,hx] at h;cases h;by_cases hq:(NameKind.free==NameKind.free&&X.env.scope.kind==.function&&X.env.kindOf n==some .cell)=true
       ·rw[if_pos hq];simp[cE,hx]
       ·rw[if_neg hq];simp[cE,hx]
      | false =>
       simp only[cE,hx] at h;by_cases hq:(k==NameKind.free&&X.env.scope.kind==.function&&X.env.kindOf n==some .cell)=true
       ·rw[if_pos hq];simp only[cE,hx];exact ih h
       ·rw[if_neg hq];simp only[cE,hx];exact ih h
    exact nl n2 z
   ·exact .inl z
   ·exact .inr z
 have σl:(σ++bP own.length none).length=(N0++own).length:=by
  rw[bR,bR,List.length_replicate,T.len,<-I3.len]
 have I4:zU X' [] (σ++bP own.length none) (ye H1 s₂.heap.objs.size (.lst [])) { s₂ with heap:=h₁,toks:=s₂.toks+([]:List (Str×Value)).length }:=by
  refine⟨ok',rfl,I3.bare,Un.kept kp,⟨_,hns₁,fun i x v e1 e2 e3=>?_⟩,fun x c e=>?_,I3.hok.fresh (bE _),fun x c e=>I3.freeC x c (CK x c e),fun p hp=>?_,I3.hok.kept kp,σl⟩
  ·obtain⟨c,u,r,q1,q2,q3⟩:=hlook i x v e1 e2 e3
   obtain⟨o,ho,hd⟩:=q3;exact⟨u,r,.inr ⟨q2,c,q1,o,kp c o ho,hd⟩⟩
  ·obtain⟨v,o,ho,hd⟩:=I3.cell x c (CK x c e)
   exact⟨v,o,kp c o ho,hd⟩
  ·have hp':p∈X.pn++pins:=by
    have:p∈(X.pn++pins)++[]:=hp;simpa using this
   obtain⟨e,n,ne,nf,d⟩:=I3.pin p hp';exact⟨kp _ _ e,n,bO (bC e),pinS p hp',d⟩
 have fpX:∀ {H:Hp},(∀ b∈fp,H b=none)->∀ b∈fp,zDB X' [] H b:=fun {H} hn b hb=>by
  refine⟨hn b hb,(ok'.exf b hb).1,fpS b hb,.inl hb,(ok'.exf b hb).2,fun p hp=>?_⟩;have hp':p∈X.pn++pins:=by
   have:p∈(X.pn++pins)++[]:=hp;simpa using this
  exact(f2 b hb).2.2.2.2.2 p hp'
 have st4:tn 0 h₁:=Tn.keep 0 s₂.heap h₁ st2 fun b hb o e=>kp b o (hH2▸bn _ e)
 -- back to the context around
 have back:∀ {σ':St} {H':Hp} {s':Shared},zU X' [] σ' H' s'->zU X pins σ H' s'/\zDB X pins H' h3.objs.size/\∃ m,s'.heap.Ns h3.objs.size m:=fun {σ' H' s'} J=>by
  have u:Un (frs X.stack) fp (ye H1 s₂.heap.objs.size (.lst [])) H' h3 s'.heap:=J.base;have J3:zU X pins σ H' s':=I3.call' J.os u J.hok J.bare fun b hb=>⟨(f2 b hb).2.2.2.1,(f2 b hb).2.1,(f2 b hb).2.2.2.2.1,(f2 b hb).2.2.2.2.2⟩
  obtain⟨m,hn,u0⟩:=J.loc;refine⟨J3,?_,m,hn⟩;refine⟨J.free,fe I3.lt,I3.nofs (bE _),.inr I3.sz,fun x c e z=>?_,fun p hp z=>?_⟩
  ·obtain⟨v,q⟩:=I3.cell x c e
   exact absurd (bY q.lt (by rw[z];exact bE _)) (dO _)
  ·exact absurd (bY (bC (I3.pin p hp).1) (by rw[z];exact bE _)) (dO _)
 have loop:∀ s₅:Shared,s₅={ s₂ with heap:=h₁,toks:=s₂.toks+([]:List (Str×Value)).length } ->
   codeAny (model X.prog X.w) X.A (.compLoop (.ListComp elt [⟨tg,iter,ifs,0⟩] sc pos) 0 (.ref it) (.ref s₂.heap.objs.size) X'.env)
    (fun r s'=>∃ D H' m,r=.ok .next/\Value.ref s₂.heap.objs.size=.ref D/\zU X pins σ H' s'/\zDB X pins H' h3.objs.size/\s'.heap.Ns h3.objs.size m/\Q (.ref D) H') s₅:=by
  rintro s₅ rfl;exact cR (zJl (X':=X') (Z:=fun H' s'=>zU X pins σ H' s'/\zDB X pins H' h3.objs.size/\∃ m,s'.heap.Ns h3.objs.size m) hc (fun u0 u0 z=>z) Tn (hg _ _ _ _ _) (ht _ _ _ _ _) (he _ _ _ _ _) turn fpX back I4 st4 fpD w0) fun r s' ⟨H',e,⟨b1,b2,m,b3⟩,q⟩=>⟨_,H',m,e,rfl,b1,b2,b3,q⟩
 exact codeAny_compStart_list (loop _ rfl) (Tn.self _ 0 _ _ _ st4 (loop _ rfl))
theorem zNK(hc:X.calm=true)(T:zDF X sc N0)(hi:PI X tg iter wi)
  (hg:∀ C s H fp pins,PG (X.comp (N0++own) sc C s H fp pins) tg g) (ht:∀ C s H fp pins,PTs (X.comp (N0++own) sc C s H fp pins) ifs tc) (he:∀ C s H fp pins,PE (X.comp (N0++own) sc C s H fp pins) elt te)
  (hs:autoParam (∀ x,foldedSetIterable iter X.env x=pure x) Zq3._auto_1):PE X (.ListComp elt [⟨tg,iter,ifs,0⟩] sc pos) (zK3 own.length wi g tc te):=by
 intro pins s σ H Q I h;rw[eval_ListComp];refine wpAny_comprehension_free (use:=none) rfl hs (zCA fun y hy hf=>I.ok.has _ (T.cap y hy hf)) T.kind T.names ?_;refine yU (hi pins s σ H _ I h) fun xv s₁ h₁=>yU h₁ fun it s₂ h₂=>?_;refine yU (zD2 (iter:=iter) (pos:=pos) (E:=X.xe) (Q:=Q) hc T hg ht he h₂) fun acc s₃ h₃=>yU h₃ fun cenv s₄ h₄=>cR h₄ fun r s' hr=>?_;obtain⟨D,H',m,rfl,rfl,J,f,hn,q⟩:=hr;refine⟨m,hn,fun h' hs'=>⟨.ref D,H',?_,rfl,q⟩⟩;exact J.turned (t':=s'.toks) (fun b o hb e=>(hs'.2 b hb).trans e) f.1 f.2.1 f.2.2.2.1 f.2.2.2.2.1 f.2.2.2.2.2
theorem zHy{i:Nat}{y:Str}{py spos:Pos}(hc:X.calm=true)(T:zDF X sc N0)(hi:PI X tg iter wi)
  (hg:∀ C s H fp pins,PG (X.comp (N0++own) sc C s H fp pins) tg g) (ht:∀ C s H fp pins,PTs (X.comp (N0++own) sc C s H fp pins) ifs tc) (he:∀ C s H fp pins,PE (X.comp (N0++own) sc C s H fp pins) elt te)
  (hN:X.N.Nodup) (hy:X.N[i]?=some y) (hl:X.env.scope.names.lookup y=some .local)
  (hsw:swapsWith (.ListComp elt [⟨tg,iter,ifs,0⟩] sc pos) (some (.Name y py)) spos.line X.env=pure true)
  (hs:autoParam (∀ x,foldedSetIterable iter X.env x=pure x) Zq3._auto_1):PS X (.Assign [.Name y py] (.ListComp elt [⟨tg,iter,ifs,0⟩] sc pos) spos) (fun D σ H=>zK3 own.length wi g tc te σ H fun v H1=>D.nx (σ.set i (some v)) H1):=by
 intro pins s σ H D I h;rw[exec_Assign_Name_used _ _ _ _ hsw];refine bi (wpAny_standAt (bi ?_));show wpAny _ X.A (do let _ <-comprehension (.ListComp elt [⟨tg,iter,ifs,0⟩] sc pos) sc X.env _ (newList []) false (eval iter X.env) (some (assign (.Name y py) X.env))) _ _ s;refine bi (eN (wpAny_comprehension_free (use:=some (assign (.Name y py) X.env)) (Q:=fun u0 s'=>SP X pins D .next s') rfl hs (zCA fun y hy hf=>I.ok.has _ (T.cap y hy hf)) T.kind T.names
  (yU (hi pins s σ H _ I h) fun xv s₁ h₁=>yU h₁ fun it s₂ h₂=>?_)) (fun u0 s' hq=>bm (bm hq)) fun u0 u0 e=>e)
 refine yU (zD2 (iter:=iter) (pos:=pos) (E:=X.xe) (Q:=fun v H1=>D.nx (σ.set i (some v)) H1) hc T hg ht he h₂) fun acc s₃ h₃=>yU h₃ fun cenv s₄ h₄=>cR h₄ fun r s' hr=>?_;obtain⟨A,H',m,rfl,rfl,J,f,hn,q⟩:=hr;show wpAny _ X.A (assign (.Name y py) X.env (.ref A)) _ _ _;refine wpAny_assign_Name (zE7 J hN hy (.inl hl) (v:=.ref A) rfl (fun s'' J' ⟨a,sb,ha⟩=>?_) (.inr hl));have hCa:cenv.locals≠a:=by
  rcases ha with z | z
  ·rw[z];exact f.2.1
  ·exact fun e=>f.2.2.2.2.1 y a z e.symm
 refine⟨m,hn.sameBut sb hCa,fun h' hs'=>⟨_,H',?_,q⟩⟩;exact J'.turned (t':=s''.toks) (fun b o hb e=>(hs'.2 b hb).trans e) f.1 f.2.1 f.2.2.2.1 f.2.2.2.2.1 f.2.2.2.2.2
end
end L2
namespace HW
open PySem
structure EK (prog:Program) (w:World) (κ:Type) [DecidableEq κ] where
 is:Heap->κ->Value->Prop
 hash:κ->Int
 draws:κ->Nat
 lv:Nat
 inj:∀ {h:Heap} {x y:κ} {v:Value},is h x v->is h y v->x=y
 keeps:∀ {h h':Heap} {x:κ} {v:Value} {d:Addr} {o:Obj} {es ep},is h x v->h.get? d=some o->o.data=.dict es ep->bX d h h'->is h' x v
 mono:∀ {h h':Heap} {x:κ} {v:Value},is h x v->(∀ c o,h.get? c=some o->o.cls=.type "tuple"->h'.get? c=some o)->is h' x v
 hs:∀ {A:Around} {E:Value->Shared->Prop} {s:Shared} {x:κ} {v:Value} {Q:Int->Shared->Prop},A.units+lv<cLine->is s.heap x v->Q (hash x) { s with toks:=s.toks+draws x }->wpAny (model prog w) A (PySem.pyHash v) Q E s
 eq:∀ {A:Around} {E:Value->Shared->Prop} {s:Shared} {x y:κ} {u v:Value} {Q:Bool->Shared->Prop},A.units+lv<cLine->is s.heap x u->is s.heap y v->Q (decide (x=y)) s->wpAny (model prog w) A (PySem.eqBool u v) Q E s
 qt:∀ {A:Around} {E:Value->Shared->Prop} {s:Shared} {x:κ} {v:Value} {n:Nat} {Q:Bool->Shared->Prop},lv<=n->is s.heap x v->Q true s->wpAny (model prog w) A (eqIsQuiet n v) Q E s
section
variable {prog:Program} {w:World} {κ:Type} [DecidableEq κ]
noncomputable def zSC(k:PySem.KeyKind prog w κ):EK prog w κ where
 is:=fun u0 x v=>k.is x v=true
 hash:=k.hash
 draws:=fun u0=>1
 lv:=0
 inj:=fun a b=>k.inj _ _ _ a b
 keeps:=fun a u0 u0 u0=>a
 mono:=fun a u0=>a
 hs:=fun u0 a q=>k.pyHash a q
 eq:=fun u0 a b q=>k.eqBool a b q
 qt:=fun u0 a q=>by rw[eqIsQuiet_byValue _ (k.byValue _ _ a)];exact bm q
noncomputable def zQ7{κ':Type}[DecidableEq κ'](a:EK prog w κ)(b:EK prog w κ')(ap:∀ {h x y v},a.is h x v->b.is h y v->False)
  (ne:∀ {A:Around} {E:Value->Shared->Prop} {s:Shared} {x:κ} {y:κ'} {u v:Value} {Q:Bool->Shared->Prop},A.units+(a.lv+b.lv)<cLine->a.is s.heap x u->b.is s.heap y v->Q false s->wpAny (model prog w) A (PySem.eqBool u v) Q E s/\wpAny (model prog w) A (PySem.eqBool v u) Q E s):EK prog w (κ ⊕ κ') where
 is:=fun h x v=>match x with | .inl x=>a.is h x v | .inr x=>b.is h x v
 hash:=fun x=>match x with | .inl x=>a.hash x | .inr x=>b.hash x
 draws:=fun x=>match x with | .inl x=>a.draws x | .inr x=>b.draws x
 lv:=a.lv+b.lv
 inj:=fun {h x y v} p q=>by
  cases x<;>cases y
  ·exact congrArg _ (a.inj p q)
  ·exact(ap p q).elim
  ·exact(ap q p).elim
  ·exact congrArg _ (b.inj p q)
 keeps:=fun {h h' x v d o es ep} p=>by
  cases x
  ·exact a.keeps p
  ·exact b.keeps p
 mono:=fun {h h' x v} p=>by
  cases x
  ·exact a.mono p
  ·exact b.mono p
 hs:=fun {A E s x v Q} r p q=>by
  cases x
  ·exact a.hs (by omega) p q
  ·exact b.hs (by omega) p q
 eq:=fun {A E s x y u v Q} r p q z=>by
  cases x<;>cases y
  ·refine a.eq (by omega) p q ?_;simpa using z
  ·exact(ne r p q (by simpa using z)).1
  ·exact(ne r q p (by simpa using z)).2
  ·refine b.eq (by omega) p q ?_;simpa using z
 qt:=fun {A E s x v n Q} r p q=>by
  cases x
  ·exact a.qt (by omega) p q
  ·exact b.qt (by omega) p q
set_option genInjectivity true in
inductive Its (p:κ->Value->Prop):List κ->List Value->Prop
 | nil:Its p [] []
 | cons {x:κ} {v:Value} {xs:List κ} {vs:List Value}:p x v->Its p xs vs->Its p (x::xs) (v::vs)
theorem Its.imp{p q:κ->Value->Prop}(f:∀ x v,p x v->q x v){xs:List κ}{vs:List Value}(h:Its p xs vs):Its q xs vs:=by
 induction h with
 | nil=>exact .nil
 | cons a _ ih=>exact .cons (f _ _ a) ih
theorem Its.inj{p:κ->Value->Prop}(f:∀ {x y v},p x v->p y v->x=y){xs ys:List κ}{vs:List Value}(h:Its p xs vs)(h':Its p ys vs):xs=ys:=by
 induction h generalizing ys with
 | nil=>cases h';rfl
 | cons a _ ih =>
  cases h' with
  | cons b t=>rw[f a b,ih t]
variable (e:EK prog w κ)
noncomputable def zAo(h:Heap)(xs:List κ)(a:Addr):Prop:=∃ o its n,h.get? a=some o/\o.cls=.type "tuple"/\o.data=.seq its n/\Its (e.is h) xs its.toList
variable {e} {A:Around} {E:Value->Shared->Prop} {s:Shared}
theorem zAo.typ{xs:List κ}{a:Addr}(t:zAo e s.heap xs a):s.TypeIs (.ref a) "tuple":=let ⟨o,_,_,h1,h2,_⟩:=t;⟨o,h1,h2⟩
theorem zAo.inj{h:Heap}{a:Addr}{xs ys:List κ}(t:zAo e h xs a)(t':zAo e h ys a):xs=ys:=by
 obtain⟨o,i,n,h1,u0,h2,h3⟩:=t;obtain⟨o',i',n',g1,u0,g2,g3⟩:=t';rw[h1] at g1;cases g1;rw[h2] at g2;cases g2;exact Its.inj (p:=e.is h) (fun a b=>e.inj a b) h3 g3
theorem zAo.keeps{h h':Heap}{xs:List κ}{a d:Addr}{o:Obj}{es ep}(t:zAo e h xs a)(ho:h.get? d=some o)(hd:o.data=.dict es ep)(hs:bX d h h'):zAo e h' xs a:=by
 obtain⟨o',i,n,h1,h2,h3,h4⟩:=t;have ne:a≠d:=fun z=>by
  subst z;rw[h1] at ho;cases ho;rw[h3] at hd;cases hd
 exact⟨o',i,n,(hs.2 a ne).trans h1,h2,h3,h4.imp fun u0 u0 q=>e.keeps q ho hd hs⟩
theorem zAo.mono{h h':Heap}{xs:List κ}{a:Addr}(t:zAo e h xs a)(k:∀ c o,h.get? c=some o->o.cls=.type "tuple"->h'.get? c=some o):zAo e h' xs a:=by
 obtain⟨o,i,n,h1,h2,h3,h4⟩:=t;exact⟨o,i,n,k _ _ h1 h2,h2,h3,h4.imp fun u0 u0 q=>e.mono q k⟩
noncomputable def dr(e:EK prog w κ)(xs:List κ):Nat:=(xs.map e.draws).sum
noncomputable def hsT(e:EK prog w κ)(xs:List κ):Int:=reduceHash (Builtin.Tuple.tupleHashOf (xs.map e.hash))
theorem zK4{xs:List κ}{a:Addr}{Q:Int->Shared->Prop}(hu:A.units+(e.lv+1)<cLine)(t:zAo e s.heap xs a)(h:Q (hsT e xs) { s with toks:=s.toks+(dr e xs+1) }):wpAny (model prog w) A (pyHash (.ref a)) Q E s:=by
 have ty:=t.typ;obtain⟨o,its,n,h1,u0,h2,h3⟩:=t;unfold pyHash
 first | unfold pyHashByItsType | skip
 first | refine bi (wpAny_cRoomFor_or (.inr (by omega)) ?_) | skip
 refine bi (db ty F.slot_tuple_hash.lookup ?_);show wpAny _ _ (if (some (Value.builtin "tuple.__hash__")==some Value.none)=true then _ else _) Q E s;rw[if_neg (fun z=>by rw[beq_builtin_none] at z;cases z)];refine bi (db ty F.slot_tuple_hash.lookup ?_);show wpAny _ _ (callSpecialIfBoundUnlessNone? (.ref a) "__hash__" _>>=_) Q E s;refine bi (wpAny_callSpecialIfBoundUnlessNone?_slot ty F.slot_tuple_hash (bT F.slot_tuple_hash ty F.entry_tuple_hash ?_ (F.args_tuple_hash_1 _)));show wpAny _ _ (Builtin.Tuple.tupleItemsOf (.ref a)>>=_) _ _ s;refine bi (wpAny_tupleItemsOf h1 h2 (bi ?_));rw[<-Array.forIn_toList];refine dX _ (fun rest (b:Array Int) s'=>∃ l r,xs=l++r/\Its (e.is s.heap) r rest/\b.toList=l.map e.hash/\s'={ s with toks:=s.toks+dr e l }) _ ?_ ?_ _ _ ⟨[],xs,rfl,h3,rfl,rfl⟩
 ·rintro x rest b s' ⟨l,r,rfl,g1,g2,rfl⟩
  cases g1 with
  | @cons y _ r' _ p1 p2 =>
   refine bi (e.hs (by rw[Around.in1_units];omega) p1 ?_);have fin:∃ l' r1,l++y::r'=l'++r1/\Its (e.is s.heap) r1 rest/\(b.push (e.hash y)).toList=l'.map e.hash/\({ s with toks:=s.toks+dr e l+e.draws y }:Shared)={ s with toks:=s.toks+dr e l' } :=
    ⟨l++[y],r',by simp,p2,by simp[g2],by simp[dr,Nat.add_assoc]⟩
   first
    | exact bm fin
    | exact bi (bm (bm fin))
 ·rintro b s' ⟨l,r,rfl,g1,g2,rfl⟩
  cases g1;rw[eM] at h;show wpAny _ _ (retInt (Builtin.Tuple.tupleHashOf b.toList)) _ _ _;rw[g2];refine wpAny_ret_mkInt ?_;unfold hsT reduceHash at h;show wpAny _ _ (if (decide (-(2:Int) ^ 63<=Builtin.Tuple.tupleHashOf (l.map e.hash))&&decide (Builtin.Tuple.tupleHashOf (l.map e.hash)<2 ^ 63))=true then _ else _) Q E _;split at h
  next c =>
   rw[if_pos c];exact bm (by simpa[Nat.add_assoc] using h)
  next c =>
   rw[if_neg c];exact bi (dF (bm (by simpa[Nat.add_assoc] using h)))
theorem zNL{xs ys:List κ}{a b:Addr}{P:Fin->Shared->Prop}(hu:A.units+e.lv<cLine)(ta:zAo e s.heap xs a)(tb:zAo e s.heap ys b)(h:P (.done (.ret (.bool (decide (xs=ys))))) s) :
  wpAny (model prog w) A (Builtin.«tuple.__eq__» ⟨[.ref a,.ref b],[]⟩) P E s:=by
 have ty:=tb.typ;obtain⟨oa,ia,na,a1,u0,a2,a3⟩:=ta;obtain⟨ob,ib,nb,b1,u0,b2,b3⟩:=tb;show wpAny _ _ (isInstance (.ref b) (.type "tuple")>>=_) _ _ s;refine bi (cS ty isSubtype_tuple_tuple ?_);simp only[dB,bj,if_false];refine bi (wpAny_tupleItemsOf a1 a2 (bi (wpAny_tupleItemsOf b1 b2 (bi ?_))));refine dX _ (fun rest r s'=>r.1=none/\s'=s/\∃ p q ps qs,rest=List.zip ps qs/\Its (e.is s.heap) p ps/\Its (e.is s.heap) q qs/\decide (p=q)=decide (xs=ys)/\(ps.length==qs.length)=(ia.size==ib.size)) _ ?_ ?_ _ _ ⟨rfl,rfl,xs,ys,ia.toList,ib.toList,rfl,a3,b3,rfl,by simp⟩
 ·rintro⟨u,v⟩ rest r s' ⟨hr,rfl,p,q,ps,qs,z,hp,hq,hd,hl⟩
  cases hp with
  | nil=>simp at z
  | @cons k1 _ p' ps' m1 m2 =>
   cases hq with
   | nil=>simp at z
   | @cons k2 _ q' qs' n1 n2 =>
    simp only[List.zip_cons_cons,List.cons.injEq,Prod.mk.injEq] at z;obtain⟨⟨rfl,rfl⟩,rfl⟩:=z;refine bi (e.eq hu m1 n1 ?_);by_cases c:k1=k2
    ·subst c
     rw[decide_eq_true rfl];simp only[dB,bj,if_false];exact bm ⟨rfl,rfl,p',q',ps',qs',rfl,m2,n2,by rw[<-hd];simp,by simpa using hl⟩
    ·rw[decide_eq_false c]
     simp only[Bool.not_false,if_true];have hf:decide (xs=ys)=false:=by rw[<-hd];simp[c]
     rw[hf] at h;exact bi (bm (bm (bm h)))
 ·rintro⟨r1,r2⟩ s' ⟨hr,rfl,p,q,ps,qs,z,hp,hq,hd,hl⟩
  cases (show r1=none from hr);refine bm ?_;show P (.done (.ret (.bool (ia.size==ib.size)))) s';rw[<-hl];have hz:(ps.length==qs.length)=decide (p=q):=by cases hp<;>cases hq<;>simp at z ⊢
  rw[hz,hd];exact h
theorem zPd{xs ys:List κ}{a b:Addr}{Q:Bool->Shared->Prop}(hu:A.units+(e.lv+1)<cLine)(ta:zAo e s.heap xs a)(tb:zAo e s.heap ys b)(h:Q (decide (xs=ys)) s):wpAny (model prog w) A (eqBool (.ref a) (.ref b)) Q E s:=by
 unfold eqBool
 try with_reducible refine bZ ?_
 show wpAny _ _ (if (Value.ref a==Value.ref b)=true then _ else _) Q E s;by_cases c:(Value.ref a==Value.ref b)=true
 ·rw[if_pos c]
  cases eq_of_beq c;cases ta.inj tb;exact bi (dF (bm (by simpa using h)))
 ·rw[if_neg c]
  exact bi (wpAny_richCompare_same_room (op:=.Eq) ta.typ tb.typ F.slot_tuple_eq (bT F.slot_tuple_eq ta.typ F.entry_tuple_eq (zNL (by rw[Around.in1_units];omega) ta tb ⟨_,rfl,(fun z=>by cases z),d9 h⟩) (F.args_tuple_eq_2 _ _)) (by omega))
theorem zJm{xs:List κ}{a:Addr}{n:Nat}{Q:Bool->Shared->Prop}(hn:e.lv<=n)(t:zAo e s.heap xs a)(h:Q true s):wpAny (model prog w) A (eqIsQuiet (n+1) (.ref a)) Q E s:=by
 have ty:=t.typ;obtain⟨o,its,m,h1,u0,h2,h3⟩:=t;unfold eqIsQuiet;refine bi (db ty F.slot_tuple_eq.lookup ?_);show wpAny _ _ (isInstance (.ref a) (.type "tuple")>>=_) _ _ s;refine bi (cS ty isSubtype_tuple_tuple ?_);simp only[dB,bj,if_false];refine bi (wpAny_seqItems h1 h2 (bi ?_));show wpAny _ _ (forIn its _ _) _ _ s;rw[<-Array.forIn_toList];refine dX _ (fun rest r s'=>r.1=none/\s'=s/\∃ ys,Its (e.is s.heap) ys rest) _ ?_ ?_ _ _ ⟨rfl,rfl,xs,h3⟩
 ·rintro v rest r s' ⟨hr,rfl,ys,g⟩
  cases g with
  | cons p1 p2 =>
   refine bi (e.qt hn p1 ?_);simp only[dB,bj,if_false];exact bm ⟨rfl,rfl,_,p2⟩
 ·rintro⟨r1,r2⟩ s' ⟨hr,rfl,u0⟩
  cases (show r1=none from hr);exact bm h
noncomputable def zAp(e:EK prog w κ):EK prog w (List κ) where
 is:=fun h xs v=>∃ a,v=.ref a/\zAo e h xs a
 hash:=hsT e
 draws:=fun xs=>dr e xs+1
 lv:=e.lv+1
 inj:=fun⟨a,z,t⟩ ⟨b,z',t'⟩=>by subst z;cases z';exact t.inj t'
 keeps:=fun⟨a,z,t⟩ ho hd hs=>⟨a,z,t.keeps ho hd hs⟩
 mono:=fun⟨a,z,t⟩ k=>⟨a,z,t.mono k⟩
 hs:=fun hu ⟨a,z,t⟩ q=>by subst z;exact zK4 hu t q
 eq:=fun hu ⟨a,z,t⟩ ⟨b,z',t'⟩ q=>by subst z z';exact zPd hu t t' q
 qt:=fun {A E s x v n Q} hn ⟨a,z,t⟩ q=>by
  subst z;obtain⟨m,rfl⟩:∃ m,n=m+1:=⟨n-1,by omega⟩
  exact zJm (by omega) t q
noncomputable def zSD(e:EK prog w κ)(h8:e.lv<=8):HeapKind prog w κ where
 is:=fun h x a=>e.is h x (.ref a)
 hash:=e.hash
 draws:=e.draws
 room:=fun A=>A.units+e.lv<cLine
 inj:=fun p q=>e.inj p q
 keeps:=fun p ho hd hs=>e.keeps p ho hd hs
 pyHash:=fun hu p q=>e.hs hu p q
 eqBool:=fun hu p q z=>e.eq hu p q z
 quiet:=fun p q=>e.qt h8 p q
end
section
variable {prog:Program} {w:World}
noncomputable abbrev Wb:=List (Int ⊕ List (List Int))
noncomputable def ekI(prog:Program)(w:World):EK prog w Int:=zSC (intKind prog w)
theorem isI{h:Heap}{i:Int}{v:Value}:(ekI prog w).is h i v↔∃ t,v=.int i t:=by
 refine⟨fun p=>?_,fun⟨t,p⟩=>by subst p;exact intKind_is _ _ _ _⟩;exact Value.isInt_shape p
noncomputable def ekX(prog:Program)(w:World):EK prog w (Int ⊕ List (List Int)):=zQ7 (ekI prog w) (zAp (zAp (ekI prog w))) (fun p ⟨a,z,_⟩=>by obtain⟨t,rfl⟩:=isI.mp p;cases z)
 (fun {A E s x y u v Q} hu p q z=>by
  obtain⟨t,rfl⟩:=isI.mp p;obtain⟨a,rfl,o,its,n,h1,h2,h3,u0⟩:=q;have tp:s.heap.IsTuple a its:=⟨o,h1,h2,n,h3⟩
  exact⟨SeqAt.EqAt.int_tuple _ _ tp (by omega) _ _ _ _ z,SeqAt.EqAt.tuple_int _ _ tp (by omega) _ _ _ _ z⟩)
noncomputable def ekW(prog:Program)(w:World):EK prog w Wb:=zAp (ekX prog w)
noncomputable def zCM(prog:Program)(w:World):HeapKind prog w Wb:=zSD (ekW prog w) (show 3<=8 by decide)
theorem zAq{A:Around}:(zCM prog w).room A↔A.units+3<cLine:=Iff.rfl
end
end HW
namespace L3
open L2
set_option genInjectivity true in
inductive D where
 | non | bl (b:Bool) | int (i:Int) | str (x:Str) | tup (ds:List D) | adr (a:Addr) | dic (a:Addr)
mutual
noncomputable def zO(K:PySem.W.Frag)(H:Hp):D->V->Prop
 | .non,v=>v=V.non
 | .bl b,v=>v=V.bl b
 | .int i,v=>v=V.int i
 | .str x,v=>v=V.str x
 | .adr a,v=>v=V.ref a
 | .dic a,v=>v=V.ref a/\∃ o x,H a=some (.frz o (.own x))/\o.cls=.type "dict"
 | .tup ds,v=>∃ a xs,v=V.ref a/\SqT K H a xs/\Dens K H ds xs
noncomputable def Dens(K:PySem.W.Frag)(H:Hp):List D->List V->Prop
 | [],xs=>xs=[]
 | d::ds,xs=>∃ x r,xs=x::r/\zO K H d x/\Dens K H ds r
end
noncomputable def wbI:Int ⊕ List (List Int)->D
 | .inl i=>.int i
 | .inr l=>.tup (l.map fun p=>.tup (p.map D.int))
noncomputable def wu(k:HW.Wb):D:=.tup (k.map wbI)
noncomputable def wbH(k:HW.Wb):Int:=reduceHash (Builtin.Tuple.tupleHashOf (k.map fun x=>match x with | .inl i=>hashInt i | .inr l=>reduceHash (Builtin.Tuple.tupleHashOf (l.map fun p=>reduceHash (Builtin.Tuple.tupleHashOf (p.map hashInt))))))
noncomputable def DW(a:Addr)(xs:List (HW.Wb×Addr×V)):Heap->Prop:=fun h=>(a==sysModules)=false/\xs.length<=sizeLine/\∃ ys:List (HW.Wb×Addr×Value),Paired (fun x y=>x.1=y.1/\x.2.1=y.2.1/\RelV x.2.2 y.2.2) xs ys/\(ys.map (·.1)).Nodup /\
 ∃ o es ep,h.get? a=some o/\o.ExactDict/\o.data=.dict es ep/\es.toList=ys.map fun y=>(⟨wbH y.1,.ref y.2.1,y.2.2⟩:DictEntry)
structure Gp where
 m:Addr->Option (List D)
 ro:Addr->Option (List D)
 dc:Addr->Option (List (HW.Wb×D))
noncomputable def zDd(G:Gp)(a:Addr)(o:List (HW.Wb×D)):Gp:={ G with dc:=fun b=>if b=a then some o else G.dc b }
theorem zBn{G:Gp}{a:Addr}{o:List (HW.Wb×D)}:(zDd G a o).dc a=some o:=if_pos rfl
theorem zDh{G:Gp}{a b:Addr}{o:List (HW.Wb×D)}(h:b≠a):(zDd G a o).dc b=G.dc b:=if_neg h
noncomputable def zd(G:Gp)(a:Addr)(o:List D):Gp:={ G with m:=fun b=>if b=a then some o else G.m b }
theorem zL{G:Gp}{a:Addr}{o:List D}:(zd G a o).m a=some o:=if_pos rfl
theorem ze{G:Gp}{a b:Addr}{o:List D}(h:b≠a):(zd G a o).m b=G.m b:=if_neg h
theorem zAr{G:Gp}{a:Addr}{o u:List D}:zd (zd G a o) a u=zd G a u:=by
 unfold zd;congr 1;funext b;by_cases h:b=a
 ·simp only[if_pos h]
 ·simp only[if_neg h]
theorem gne{G:Gp}{a b:Addr}{o:List D}(h:G.m a=some o)(h':G.m b=none):a≠b:=fun e=>by rw[e,h'] at h;cases h
structure Sub (G G':Gp):Prop where
 m:∀ a o,G.m a=some o->G'.m a=some o
 ro:∀ a o,G.ro a=some o->G'.ro a=some o
 dc:∀ a o,G.dc a=some o->G'.dc a=some o
theorem Sub.refl(G:Gp):Sub G G:=⟨fun u0 u0 h=>h,fun u0 u0 h=>h,fun u0 u0 h=>h⟩
theorem Sub.trans{G G1 G2:Gp}(h:Sub G G1)(h':Sub G1 G2):Sub G G2:=⟨fun a o e=>h'.m a o (h.m a o e),fun a o e=>h'.ro a o (h.ro a o e),fun a o e=>h'.dc a o (h.dc a o e)⟩
theorem Sub.new{G:Gp}{p:Addr}{o:List D}(h:G.m p=none):Sub G (zd G p o):=⟨fun a u e=>by rw[ze (gne e h)];exact e,fun u0 u0 e=>e,fun u0 u0 e=>e⟩
noncomputable def Ls(G:Gp)(a:Addr)(ds:List D):Prop:=G.m a=some ds\/G.ro a=some ds
theorem Ls.sub{G G':Gp}{a:Addr}{ds:List D}(h:Ls G a ds)(s:Sub G G'):Ls G' a ds:=by
 rcases h with h | h
 ·exact .inl (s.m a ds h)
 ·exact .inr (s.ro a ds h)
theorem Ls.own{G:Gp}{a:Addr}{ds:List D}:Ls (zd G a ds) a ds:=.inl zL
noncomputable def RoL(K:PySem.W.Frag)(H:Hp)(a:Addr)(xs:List V):Prop :=
 (∃ o,H a=some (.frz o (.lst xs)))\/∃(o:Obj) (its:Array Value) (n:Nat),K.lookup a=some o/\o.cls=.type "list"/\o.dict=none/\o.data=.seq its n/\its.size<=sizeLine/\zX xs its.toList
theorem RoL.sq{K:PySem.W.Frag}{H:Hp}{a:Addr}{xs:List V}(h:RoL K H a xs):SqL K H a xs:=by
 rcases h with h | h
 ·exact .inl (.inr h)
 ·exact .inr h
structure zl (K:PySem.W.Frag) (G:Gp) (H:Hp):Prop where
 m:∀ a ds,G.m a=some ds->∃ xs,H a=some (.lst xs)/\Dens K H ds xs
 ro:∀ a ds,G.ro a=some ds->∃ xs,RoL K H a xs/\Dens K H ds xs
 dc:∀ a kvs,G.dc a=some kvs->∃ xs,H a=some (.ext (DW a xs))/\Paired (fun kv x=>kv.1=x.1/\zO K H (wu x.1) (.ref x.2.1)/\zO K H kv.2 x.2.2) kvs xs
structure zn (H H':Hp):Prop where
 tups:∀ a xs,H a=some (.tup xs)->H' a=some (.tup xs)
 frzs:∀ a o u,H a=some (.frz o u)->H' a=some (.frz o u)
section
variable {K:PySem.W.Frag} {H H' H'':Hp} {G G':Gp}
theorem zn.refl(H:Hp):zn H H:=⟨fun u0 u0 h=>h,fun u0 u0 u0 h=>h⟩
theorem zn.trans(a:zn H H')(b:zn H' H''):zn H H'':=⟨fun c xs h=>b.tups c xs (a.tups c xs h),fun c o u h=>b.frzs c o u (a.frzs c o u h)⟩
theorem zn.fresh{p:Addr}{o:HO}(h:H p=none):zn H (ye H p o):=⟨fun a xs e=>by rw[zq (yK e h)];exact e,fun a o u e=>by rw[zq (yK e h)];exact e⟩
theorem zn.lst{p:Addr}{xs:List V}{o:HO}(h:H p=some (.lst xs)):zn H (ye H p o) :=
 ⟨fun a ys e=>by rw[zq (zE6 e h (by intro z;cases z))];exact e,fun a o u e=>by rw[zq (zE6 e h (by intro z;cases z))];exact e⟩
theorem zn.sqT(g:zn H H'){a:Addr}{xs:List V}(h:SqT K H a xs):SqT K H' a xs:=by
 rcases h with (h | ⟨o,h⟩) | h
 ·exact .inl (.inl (g.tups _ _ h))
 ·exact .inl (.inr ⟨o,g.frzs _ _ _ h⟩)
 ·exact .inr h
theorem zn.roL(g:zn H H'){a:Addr}{xs:List V}(h:RoL K H a xs):RoL K H' a xs:=by
 rcases h with ⟨o,h⟩ | h
 ·exact .inl ⟨o,g.frzs _ _ _ h⟩
 ·exact .inr h
mutual
theorem zO.grow(g:zn H H'):∀ {d:D} {v:V},zO K H d v->zO K H' d v
 | .non,_,h=>by unfold zO at h ⊢;exact h
 | .bl _,_,h=>by unfold zO at h ⊢;exact h
 | .int _,_,h=>by unfold zO at h ⊢;exact h
 | .str _,_,h=>by unfold zO at h ⊢;exact h
 | .adr _,_,h=>by unfold zO at h ⊢;exact h
 | .dic _,_,h=>by unfold zO at h ⊢;obtain⟨e,o,x,q,c⟩:=h;exact⟨e,o,x,g.frzs _ _ _ q,c⟩
 | .tup ds,v,h=>by
  unfold zO at h ⊢;obtain⟨a,xs,e,s,r⟩:=h;exact⟨a,xs,e,g.sqT s,Dens.grow g r⟩
theorem Dens.grow(g:zn H H'):∀ {ds:List D} {xs:List V},Dens K H ds xs->Dens K H' ds xs
 | [],_,h=>by unfold Dens at h ⊢;exact h
 | d::ds,xs,h=>by
  unfold Dens at h ⊢;obtain⟨x,r,e,h1,h2⟩:=h;exact⟨x,r,e,zO.grow g h1,Dens.grow g h2⟩
end
theorem Dens.length:∀ {ds:List D} {xs:List V},Dens K H ds xs->ds.length=xs.length
 | [],xs,h=>by unfold Dens at h;rw[h];rfl
 | d::ds,xs,h=>by
  unfold Dens at h;obtain⟨x,r,rfl,u0,h2⟩:=h;simp[Dens.length h2]
theorem Dens.get:∀ {ds:List D} {xs:List V} {i:Nat} {d:D},Dens K H ds xs->ds[i]?=some d->∃ x,xs[i]?=some x/\zO K H d x
 | [],_,_,_,_,e=>by simp at e
 | d::ds,xs,0,d',h,e=>by
  unfold Dens at h;obtain⟨x,r,rfl,h1,u0⟩:=h;simp at e;subst e;exact⟨x,rfl,h1⟩
 | d::ds,xs,i+1,d',h,e=>by
  unfold Dens at h;obtain⟨x,r,rfl,u0,h2⟩:=h;obtain⟨y,e1,e2⟩:=Dens.get (i:=i) (d:=d') h2 (by simpa using e);exact⟨y,by simpa using e1,e2⟩
theorem Dens.got:∀ {ds:List D} {xs:List V} {i:Nat} {x:V},Dens K H ds xs->xs[i]?=some x->∃ d,ds[i]?=some d/\zO K H d x
 | ds,xs,i,x,h,e=>by
  have hl:=h.length;have hi:i<ds.length:=by rw[hl];exact(bD.mp e).1
  obtain⟨y,e1,e2⟩:=h.get (i:=i) (d:=ds[i]) (by simp[hi]);rw[e] at e1;cases e1;exact⟨ds[i],by simp[hi],e2⟩
theorem Dens.nil:Dens K H [] []:=by unfold Dens;rfl
theorem Dens.cons{d:D}{ds:List D}{x:V}{xs:List V}(h:zO K H d x)(h':Dens K H ds xs):Dens K H (d::ds) (x::xs):=by unfold Dens;exact⟨x,xs,rfl,h,h'⟩
theorem Dens.append:∀ {ds es:List D} {xs ys:List V},Dens K H ds xs->Dens K H es ys->Dens K H (ds++es) (xs++ys)
 | [],_,xs,_,h,h'=>by unfold Dens at h;rw[h];exact h'
 | d::ds,_,xs,_,h,h'=>by
  unfold Dens at h;obtain⟨x,r,rfl,h1,h2⟩:=h;exact Dens.cons h1 (Dens.append h2 h')
theorem Dens.of_get:∀ {ds:List D} {xs:List V},ds.length=xs.length->(∀(i:Nat) d x,ds[i]?=some d->xs[i]?=some x->zO K H d x)->Dens K H ds xs
 | [],[],_,_=>.nil
 | [],_::_,h,_=>by simp at h
 | _::_,[],h,_=>by simp at h
 | d::ds,x::xs,h,g=>.cons (g 0 d x rfl rfl) (Dens.of_get (by simpa using h) fun i d' x' e1 e2=>g (i+1) d' x' (by simpa using e1) (by simpa using e2))
theorem Dens.take{n:Nat}{ds:List D}{xs:List V}(h:Dens K H ds xs):Dens K H (ds.take n) (xs.take n) :=
 .of_get (by simp[h.length]) fun i d x e1 e2=>by
  rw[List.getElem?_take] at e1 e2;split at e1
  ·rename_i hi
   rw[if_pos hi] at e2;obtain⟨y,e,r⟩:=h.get e1;rw[e2] at e;cases e;exact r
  ·cases e1
theorem Dens.drop{n:Nat}{ds:List D}{xs:List V}(h:Dens K H ds xs):Dens K H (ds.drop n) (xs.drop n) :=
 .of_get (by simp[h.length]) fun i d x e1 e2=>by
  rw[List.getElem?_drop] at e1 e2;obtain⟨y,e,r⟩:=h.get e1;rw[e2] at e;cases e;exact r
theorem Dens.set{ds:List D}{xs:List V}{d:D}{x:V}(i:Nat)(h:Dens K H ds xs)(hd:zO K H d x):Dens K H (ds.set i d) (xs.set i x) :=
 .of_get (by simp[h.length]) fun j d' x' e1 e2=>by
  by_cases hj:i=j
  ·subst hj
   have hi:i<ds.length:=by
    have:=(bD.mp e1).1;simpa using this
   rw[dU hi] at e1;rw[dU (by rw[<-h.length];exact hi)] at e2;cases e1;cases e2;exact hd
  ·rw[eU hj] at e1 e2
   obtain⟨y,e,r⟩:=h.get e1;rw[e2] at e;cases e;exact r
theorem Dens.eraseIdx:∀ {ds:List D} {xs:List V} (i:Nat),Dens K H ds xs->Dens K H (ds.eraseIdx i) (xs.eraseIdx i)
 | [],xs,i,h=>by unfold Dens at h;subst h;exact .nil
 | d::ds,xs,0,h=>by
  unfold Dens at h;obtain⟨x,r,rfl,h1,h2⟩:=h;exact h2
 | d::ds,xs,i+1,h=>by
  unfold Dens at h;obtain⟨x,r,rfl,h1,h2⟩:=h;exact .cons h1 (Dens.eraseIdx i h2)
theorem Dens.reverse:∀ {ds:List D} {xs:List V},Dens K H ds xs->Dens K H ds.reverse xs.reverse
 | [],xs,h=>by unfold Dens at h;subst h;exact .nil
 | d::ds,xs,h=>by
  unfold Dens at h;obtain⟨x,r,rfl,h1,h2⟩:=h;rw[el,el];exact(Dens.reverse h2).append (.cons h1 .nil)
theorem Dens.ints(ns:List Int):Dens K H (ns.map D.int) (ns.map V.int):=by
 induction ns with
 | nil=>exact .nil
 | cons n r ih=>exact .cons (by unfold zO;rfl) ih
theorem zl.fresh{p:Addr}{o:HO}(h:H p=none)(r:zl K G H):zl K G (ye H p o) :=
  ⟨fun a ds e=>by
    obtain⟨xs,e1,e2⟩:=r.m a ds e;exact⟨xs,by rw[zq (yK e1 h)];exact e1,e2.grow (.fresh h)⟩,
   fun a ds e=>by
    obtain⟨xs,e1,e2⟩:=r.ro a ds e;exact⟨xs,(zn.fresh h).roL e1,e2.grow (.fresh h)⟩,
   fun a ds e=>by
    obtain⟨xs,e1,e2⟩:=r.dc a ds e;exact⟨xs,by rw[zq (yK e1 h)];exact e1,L2.Paired.mapP e2 fun u0 u0 z=>⟨z.1,z.2.1.grow (.fresh h),z.2.2.grow (.fresh h)⟩⟩⟩
theorem zl.free{p:Addr}(r:zl K G H)(h:H p=none):G.m p=none:=by
 cases q:G.m p with
 | none=>rfl
 | some ds=>obtain⟨xs,e1,u0⟩:=r.m p _ q;rw[h] at e1;cases e1
theorem zl.own{l:Addr}{ds:List D}{xs:List V}(r:zl K G H)(e:H l=some (.lst xs))(d:Dens K H ds xs):zl K (zd G l ds) H :=
  ⟨fun b u q=>by
    by_cases hb:b=l
    · subst hb;rw[zL] at q;cases q;exact⟨xs,e,d⟩
    · rw[ze hb] at q;exact r.m b u q,
   r.ro,r.dc⟩
theorem zl.new{p:Addr}{ds:List D}{xs:List V}(h:H p=none)(r:zl K G H)(d:Dens K H ds xs):zl K (zd G p ds) (ye H p (.lst xs)) :=
 (r.fresh h).own zf (d.grow (.fresh h))
theorem zl.put{p:Addr}{ds':List D}{xs xs':List V}(h:H p=some (.lst xs))(r:zl K G H)(d:Dens K H ds' xs'):zl K (zd G p ds') (ye H p (.lst xs')) :=
  ⟨fun a u e=>by
    by_cases ha:a=p
    · subst ha
      rw[zL] at e;cases e;exact⟨xs',zf,d.grow (.lst h)⟩
    · rw[ze ha] at e
      obtain⟨ys,e1,e2⟩:=r.m a u e;exact⟨ys,by rw[zq ha];exact e1,e2.grow (.lst h)⟩,
   fun a u e=>by
    obtain⟨ys,e1,e2⟩:=r.ro a u e;exact⟨ys,(zn.lst h).roL e1,e2.grow (.lst h)⟩,
   fun a u e=>by
    obtain⟨ys,e1,e2⟩:=r.dc a u e;exact⟨ys,by rw[zq (zE6 e1 h (by intro z;cases z))];exact e1,L2.Paired.mapP e2 fun u0 u0 z=>⟨z.1,z.2.1.grow (.lst h),z.2.2.grow (.lst h)⟩⟩⟩
theorem zl.sub(s:Sub G G')(r:zl K G' H):zl K G H:=⟨fun a u e=>r.m a u (s.m a u e),fun a u e=>r.ro a u (s.ro a u e),fun a u e=>r.dc a u (s.dc a u e)⟩
theorem zl.sq{a:Addr}{ds:List D}(r:zl K G H)(e:Ls G a ds):∃ xs,SqL K H a xs/\Dens K H ds xs:=by
 rcases e with e | e
 ·obtain⟨xs,e1,e2⟩:=r.m a _ e
  exact⟨xs,.of e1,e2⟩
 ·obtain⟨xs,e1,e2⟩:=r.ro a _ e
  exact⟨xs,e1.sq,e2⟩
end
noncomputable abbrev S2:=List (Option D)
noncomputable abbrev zj:=S2->Gp->(D->Gp->Prop)->Prop
noncomputable abbrev TT2:=S2->Gp->(Bool->Gp->Prop)->Prop
noncomputable abbrev yh:=S2->Gp->(List D->Gp->Prop)->Prop
structure yF where
 nx:S2->Gp->Prop
 rt:D->Gp->Prop
 bk:S2->Gp->Prop:=fun u0 u0=>False
 ct:S2->Gp->Prop:=fun u0 u0=>False
noncomputable abbrev yS:=yF->S2->Gp->Prop
noncomputable def look:S2->Nat->Option D
 | [],_=>none
 | o::_,0=>o
 | _::r,i+1=>look r i
theorem zD3:∀ {σ:S2} {i:Nat} {d:D},look σ i=some d->σ[i]?=some (some d)
 | [],_,_,e=>by cases e
 | o::_,0,d,e=>by simp[look] at e;simp[e]
 | _::r,i+1,d,e=>by simpa using zD3 (σ:=r) (i:=i) (d:=d) e
structure Rel (K:PySem.W.Frag) (σ:S2) (G:Gp) (σ1:L2.St) (H:Hp):Prop where
 g:zl K G H
 len:σ.length=σ1.length
 val:∀(i:Nat) d,σ[i]?=some (some d)->∃ v,σ1[i]?=some (some v)/\zO K H d v
theorem Rel.to{K:PySem.W.Frag}{σ:S2}{G G':Gp}{σ1:L2.St}{H H':Hp}(r:Rel K σ G σ1 H)(g:zn H H')(r':zl K G' H'):Rel K σ G' σ1 H' :=
 ⟨r',r.len,fun i d e=>by obtain⟨v,e1,e2⟩:=r.val i d e;exact⟨v,e1,e2.grow g⟩⟩
theorem Rel.set{K:PySem.W.Frag}{σ:S2}{G:Gp}{σ1:L2.St}{H:Hp}(r:Rel K σ G σ1 H)(i:Nat){d:D}{v:V}(h:zO K H d v):Rel K (σ.set i (some d)) G (σ1.set i (some v)) H :=
 ⟨r.g,by simp[r.len],fun j d' e=>by
  by_cases hj:i=j
  ·subst hj
   have hi:i<σ.length:=by
    have:=(bD.mp e).1;simpa using this
   rw[dU hi] at e;cases e;exact⟨v,by rw[dU (by rw[<-r.len];exact hi)],h⟩
  ·rw[eU hj] at e
   obtain⟨u,e1,e2⟩:=r.val j d' e;exact⟨u,by rw[eU hj];exact e1,e2⟩⟩
noncomputable def lE(K:PySem.W.Frag)(t:zj):TE:=fun σ1 H Q=>∃ σ G R,Rel K σ G σ1 H/\t σ G R/\∀ d G',R d G'->∀ v H',zn H H'->zl K G' H'->zO K H' d v->Q v H'
noncomputable def lT(K:PySem.W.Frag)(t:TT2):TT:=fun σ1 H Q=>∃ σ G R,Rel K σ G σ1 H/\t σ G R/\∀ b G',R b G'->∀ H',zn H H'->zl K G' H'->Q b H'
noncomputable def lA(K:PySem.W.Frag)(t:yh):TA:=fun σ1 H Q=>∃ σ G R,Rel K σ G σ1 H/\t σ G R/\∀ ds G',R ds G'->∀ vs H',zn H H'->zl K G' H'->Dens K H' ds vs->Q vs H'
structure ER (K:PySem.W.Frag) (H:Hp) (D2:yF) (E:Ends):Prop where
 nx:∀ σ G,D2.nx σ G->∀ σ1 H',zn H H'->Rel K σ G σ1 H'->E.nx σ1 H'
 bk:∀ σ G,D2.bk σ G->∀ σ1 H',zn H H'->Rel K σ G σ1 H'->E.bk σ1 H'
 ct:∀ σ G,D2.ct σ G->∀ σ1 H',zn H H'->Rel K σ G σ1 H'->E.ct σ1 H'
 rt:∀ d G,D2.rt d G->∀ v H',zn H H'->zl K G H'->zO K H' d v->E.rt v H'
theorem ER.to{K:PySem.W.Frag}{H H':Hp}{D2:yF}{E:Ends}(e:ER K H D2 E)(g:zn H H'):ER K H' D2 E :=
 ⟨fun σ G h σ1 H1 g1=>e.nx σ G h σ1 H1 (g.trans g1),fun σ G h σ1 H1 g1=>e.bk σ G h σ1 H1 (g.trans g1),fun σ G h σ1 H1 g1=>e.ct σ G h σ1 H1 (g.trans g1),fun d G h v H1 g1=>e.rt d G h v H1 (g.trans g1)⟩
noncomputable def lS(K:PySem.W.Frag)(t:yS):TS:=fun E σ1 H=>∃ σ G D2,Rel K σ G σ1 H/\t D2 σ G/\ER K H D2 E
noncomputable def E2(X:Cx)(e:Expr)(t:zj):Prop:=PE X e (lE X.K t)
noncomputable def T2(X:Cx)(e:Expr)(t:TT2):Prop:=PT X e (lT X.K t)
noncomputable def A2(X:Cx)(es:List Expr)(t:yh):Prop:=PA X es (lA X.K t)
noncomputable def P2(X:Cx)(st:Stmt)(t:yS):Prop:=PS X st (lS X.K t)
noncomputable def Ps2(X:Cx)(st:List Stmt)(t:yS):Prop:=PSs X st (lS X.K t)
section
variable {X:Cx} {a b c e o:Expr} {es:List Expr} {pos p:Pos} {ta tb tc te:zj}
noncomputable def zD(i:Nat):zj:=fun σ G R=>match look σ i with | some d=>R d G | none=>False
noncomputable def xC(d:D):zj:=fun u0 G R=>R d G
theorem zC(i:Nat){x:Str}(hN:autoParam (X.N[i]?=some x) Zq4._auto_1)(hv:autoParam (Vis X.env.scope x) Zq5._auto_1)(hd:autoParam ((x==("__debug__":Str))=false) Zq2._auto_1)
  (hcd:autoParam ((x==("__classdict__":Str))=false) Zq2._auto_1):E2 X (.Name x pos) (zD i):=by
 refine PE.mono (zO0 hN hv hd hcd) ?_;rintro σ1 H Q ⟨σ,G,R,r,t,k⟩;unfold zD at t;cases q:look σ i with
 | none=>rw[q] at t;exact t.elim
 | some d =>
  rw[q] at t;obtain⟨v,e1,e2⟩:=r.val i d (zD3 q);exact⟨v,e1,k d G t v H (.refl H) r.g e2⟩
theorem zQ{i j}:E2 X (.Constant (.int i) j pos) (xC (.int i)):=by
 refine PE.mono zO1 ?_;rintro σ1 H Q ⟨σ,G,R,r,t,k⟩;exact k _ G t _ H (.refl H) r.g (by unfold zO;rfl)
theorem zDe{i j}:E2 X (.Constant (.bool i) j pos) (xC (.bl i)):=by
 refine PE.mono zQk ?_;rintro σ1 H Q ⟨σ,G,R,r,t,k⟩;exact k _ G t _ H (.refl H) r.g (by unfold zO;rfl)
theorem zQ8{j}:E2 X (.Constant .none j pos) (xC .non):=by
 refine PE.mono zO2 ?_;rintro σ1 H Q ⟨σ,G,R,r,t,k⟩;exact k _ G t _ H (.refl H) r.g (by unfold zO;rfl)
noncomputable abbrev Q2:=D->Gp->Prop
noncomputable def Fit(K:PySem.W.Frag)(r:R2)(f:D->D->Gp->Q2->Prop):Prop :=
 ∀ dx dy G R x y H Q,f dx dy G R->zl K G H->zO K H dx x->zO K H dy y->(∀ d G',R d G'->∀ v H',zn H H'->zl K G' H'->zO K H' d v->Q v H')->r x y H Q
noncomputable def zZ(f:D->D->Gp->Q2->Prop)(ta tb:zj):zj:=fun σ G R=>ta σ G fun x G1=>tb σ G1 fun y G2=>f x y G2 R
theorem zGx{K:PySem.W.Frag}{r:R2}{f:D->D->Gp->Q2->Prop}(hf:Fit K r f){σ1:L2.St}{H:Hp}{Q:VK}(h:lE K (zZ f ta tb) σ1 H Q):tOp r (lE K ta) (lE K tb) σ1 H Q:=by
 obtain⟨σ,G,R,rl,t,k⟩:=h;refine⟨σ,G,_,rl,t,fun dx G1 t1 x H1 g1 r1 d1=>?_⟩;refine⟨σ,G1,_,rl.to g1 r1,t1,fun dy G2 t2 y H2 g2 r2 d2=>?_⟩;exact hf dx dy G2 R x y H2 Q t2 r2 (d1.grow g2) d2 fun d G' q v H' g' r' d'=>k d G' q v H' ((g1.trans g2).trans g') r' d'
theorem zJn{op:Operator}{r:R2}{f:D->D->Gp->Q2->Prop}(ho:OpR X (binaryOp op) r)(hf:Fit X.K r f)(ha:E2 X a ta)(hb:E2 X b tb):E2 X (.BinOp a op b pos) (zZ f ta tb) :=
 PE.mono (zKv ho ha hb) fun σ1 H Q h=>zGx hf h
theorem zOX{op:CmpOp}{r:R2}{f:D->D->Gp->Q2->Prop}(ho:OpR X (compareOp op) r)(hf:Fit X.K r f)(ha:E2 X a ta)(hb:E2 X b tb)(hm:behindInMarks op b=false):E2 X (.Compare a [op] [b] pos) (zZ f ta tb) :=
 PE.mono (zM4 ho ha hb hm) fun σ1 H Q h=>zGx hf h
noncomputable def xB(t:zj):TT2:=fun σ G R=>t σ G fun d G1=>match d with | .bl b=>R b G1 | _=>False
theorem zDT{op:CmpOp}{r:R2}{f:D->D->Gp->Q2->Prop}(ho:OpR X (compareOp op) r)(hf:Fit X.K r f)(ha:E2 X a ta)(hb:E2 X b tb)(hm:behindInMarks op b=false):T2 X (.Compare a [op] [b] pos) (xB (zZ f ta tb)):=by
 refine PT.mono (zM5 ho ha hb hm) ?_;rintro σ1 H Q ⟨σ,G,R,rl,t,k⟩;refine zGx hf ⟨σ,G,_,rl,t,fun d G' q v H' g' r' d'=>?_⟩;cases d with
 | bl b =>
  unfold zO at d';exact⟨b,d',k b G' q H' g' r'⟩
 | _=>exact q.elim
noncomputable def fII(g:Int->Int->D):D->D->Gp->Q2->Prop:=fun x y G R=>match x,y with | .int i,.int j=>R (g i j) G | _,_=>False
noncomputable def zK5:D->Bool
 | .tup _=>false
 | .adr _=>false
 | .dic _=>false
 | _=>true
noncomputable def vOf:D->V
 | .non=>.non | .bl b=>.bl b | .int i=>.int i | .str x=>.str x | .tup _=>.non | .adr a=>.ref a | .dic a=>.ref a
theorem zIq{K:PySem.W.Frag}{H:Hp}{d:D}(h:zK5 d=true):zO K H d (vOf d):=by
 cases d<;>first | (cases h;done) | (unfold zO;rfl)
theorem zFw{K:PySem.W.Frag}{gv:Int->Int->V}{g:Int->Int->D}(hg:∀ i j,zK5 (g i j)=true/\gv i j=vOf (g i j)):Fit K (rI0 gv) (fII g):=by
 intro dx dy G R x y H Q h r d1 d2 k;unfold fII at h;cases dx with
 | int i =>
  cases dy with
  | int j =>
   unfold zO at d1 d2;subst d1 d2;exact⟨i,j,rfl,rfl,k _ G h _ H (.refl H) r (by rw[(hg i j).2];exact zIq (hg i j).1)⟩
  | _=>exact h.elim
 | _=>exact h.elim
noncomputable def yu(C:Int->Int->Prop)(g:Int->Int->D):D->D->Gp->Q2->Prop:=fun x y G R=>match x,y with | .int i,.int j=>C i j/\R (g i j) G | _,_=>False
theorem zDi{K:PySem.W.Frag}{C:Int->Int->Prop}{gv:Int->Int->V}{g:Int->Int->D}(hg:∀ i j,zK5 (g i j)=true/\gv i j=vOf (g i j)):Fit K (rI C gv) (yu C g):=by
 intro dx dy G R x y H Q h r d1 d2 k;unfold yu at h;cases dx with
 | int i =>
  cases dy with
  | int j =>
   unfold zO at d1 d2;subst d1 d2;exact⟨i,j,rfl,rfl,h.1,k _ G h.2 _ H (.refl H) r (by rw[(hg i j).2];exact zIq (hg i j).1)⟩
  | _=>exact h.elim
 | _=>exact h.elim
noncomputable abbrev TL2:=S2->Gp->(List D->Gp->Prop)->Prop
noncomputable def lL(K:PySem.W.Frag)(t:TL2):TE:=fun σ1 H Q=>∃ σ G R,Rel K σ G σ1 H/\t σ G R/\∀ ds G',R ds G'->∀ l xs H',zn H H'->zl K G' H'->G'.m l=none->H' l=some (.lst xs)->Dens K H' ds xs->Q (.ref l) H'
noncomputable def F2(X:Cx)(e:Expr)(t:TL2):Prop:=PE X e (lL X.K t)
noncomputable def yA(t:TL2):zj:=fun σ G R=>t σ G fun ds G'=>∀ l,G'.m l=none->R (.adr l) (zd G' l ds)
theorem yN{t:TL2}(h:F2 X e t):E2 X e (yA t):=by
 refine PE.mono h ?_;rintro σ1 H Q ⟨σ,G,R,r,q,k⟩;exact⟨σ,G,_,r,q,fun ds G' q' l xs H' g r' n e' d=>k _ _ (q' l n) _ H' g (r'.own e' d) (by unfold zO;rfl)⟩
noncomputable def zI:yh:=fun u0 G R=>R [] G
noncomputable def zA(ta:zj)(tr:yh):yh:=fun σ G R=>ta σ G fun x G1=>tr σ G1 fun xs G2=>R (x::xs) G2
theorem zH:A2 X [] zI:=by
 intro pos pins s σ1 H Q I h;refine zDD pos pins s σ1 H Q I ?_;obtain⟨σ,G,R,r,q,k⟩:=h;exact k [] G q [] H (.refl H) r.g .nil
theorem zB{tr:yh}(ha:E2 X e ta)(hr:A2 X es tr)(hs:autoParam (starEach (e::es) X.env=(false,eval e X.env)::starEach es X.env) Zq4._auto_1):A2 X (e::es) (zA ta tr):=by
 intro pos pins s σ1 H Q I h;refine zBk ha hr hs pos pins s σ1 H Q I ?_;obtain⟨σ,G,R,r,q,k⟩:=h;refine⟨σ,G,_,r,q,fun d G1 q1 v H1 g1 r1 d1=>?_⟩;refine⟨σ,G1,_,r.to g1 r1,q1,fun ds G2 q2 vs H2 g2 r2 d2=>?_⟩;exact k _ G2 q2 _ H2 (g1.trans g2) r2 (.cons (d1.grow g2) d2)
noncomputable def wU(t:yh):zj:=fun σ G R=>t σ G fun ds G1=>ds.length<=sizeLine/\R (.tup ds) G1
theorem zBM{t:yh}{x1}(h:A2 X es t):E2 X (.Tuple es x1 pos) (wU t):=by
 refine PE.mono (zPU h) ?_;rintro σ1 H Q ⟨σ,G,R,r,q,k⟩;refine⟨σ,G,_,r,q,fun ds G1 q1 vs H1 g1 r1 d1=>⟨by rw[<-d1.length];exact q1.1,fun p hp=>?_⟩⟩;refine k _ G1 q1.2 _ _ (g1.trans (.fresh hp)) (r1.fresh hp) ?_;unfold zO;exact⟨p,vs,rfl,.of zf,d1.grow (.fresh hp)⟩
noncomputable def zAC(t:yh):TL2:=fun σ G R=>t σ G fun ds G1=>ds.length<=sizeLine/\R ds G1
theorem zAs{t:yh}(h:A2 X es t):F2 X (.List es pos) (zAC t):=by
 refine PE.mono (zPV h) ?_;rintro σ1 H Q ⟨σ,G,R,r,q,k⟩;refine⟨σ,G,_,r,q,fun ds G1 q1 vs H1 g1 r1 d1=>⟨by rw[<-d1.length];exact q1.1,fun p hp=>?_⟩⟩;exact k ds G1 q1.2 p vs _ (g1.trans (.fresh hp)) (r1.fresh hp) (r1.free hp) zf (d1.grow (.fresh hp))
noncomputable abbrev wV:=List D->Gp->Q2->Prop
noncomputable def lSp(K:PySem.W.Frag)(sp:wV):Sp:=fun vs H Q u0=>∃ ds G R,Dens K H ds vs/\zl K G H/\sp ds G R/\∀ d G',R d G'->∀ v H',zn H H'->zl K G' H'->zO K H' d v->Q v H'
noncomputable def Df(P:Program)(w:World)(K:PySem.W.Frag)(mg:Str->Option Value)(base:Heap)(k:Nat)(x:Str)(ps:List Str)(sp:wV):Prop :=
 ∃ f fd,zCX P w K mg base CX0 k f fd ps (lSp K sp)/\mg x=some (.ref f)/\PySem.W.keepIn K (.ref f)=true/\Binds K fd ps []
noncomputable def zJ(sp:wV)(t:yh):zj:=fun σ G R=>t σ G fun ds G1=>sp ds G1 R
theorem zS{sp:wV}{t:yh}{k k':Nat}{x:Str}{ps:List Str}(F:Df X.prog X.w X.K X.mg X.base k x ps sp)(hr:yR k' X.A)(hk:k<=k')(hg:Gl X x)(ha:A2 X (e::es) t)
  (hdb:autoParam ((x==("__debug__":Str))=false) Zq2._auto_1) (he:autoParam (starEach (e::es) X.env=(false,eval e X.env)::starEach es X.env) Zq4._auto_1) (hpl:autoParam ((backTo pos (starEach es X.env)).any (·.1)=false) Zq4._auto_1) :
  E2 X (.Call (.Name x p) (e::es) [] pos) (zJ sp t):=by
 obtain⟨f,fd,F,hm,hkp,hb⟩:=F;refine PE.mono (zIl (dvs:=[]) F (hr.mono hk) hg hm hkp hb .nil zOW ha hdb he hpl) ?_;rintro σ1 H Q ⟨σ,G,R,r,q,kk⟩;refine⟨σ,G,_,r,q,fun ds G1 q1 vs H1 g1 r1 d1=>?_⟩;show lSp X.K _ (vs++[]) H1 Q E0;rw[eM];exact⟨ds,G1,R,d1,r1,q1,fun d G' q' v H' g'=>kk d G' q' v H' (g1.trans g')⟩
noncomputable def spL(sp:List D->Gp->(List D->Gp->Prop)->Prop):wV:=fun ds G R=>sp ds G fun ls G'=>∀ l,G'.m l=none->R (.adr l) (zd G' l ls)
noncomputable def zy(sp:List D->Gp->(List D->Gp->Prop)->Prop)(t:yh):TL2:=fun σ G R=>t σ G fun ds G1=>sp ds G1 R
theorem zAD{sp:List D->Gp->(List D->Gp->Prop)->Prop}{t:yh}{k k':Nat}{x:Str}{ps:List Str}(F:Df X.prog X.w X.K X.mg X.base k x ps (spL sp))(hmono:∀ ds G R R',(∀ ls G',R ls G'->R' ls G')->sp ds G R->sp ds G R')(hr:yR k' X.A)(hk:k<=k')(hg:Gl X x)(ha:A2 X (e::es) t)
  (hdb:autoParam ((x==("__debug__":Str))=false) Zq2._auto_1) (he:autoParam (starEach (e::es) X.env=(false,eval e X.env)::starEach es X.env) Zq4._auto_1) (hpl:autoParam ((backTo pos (starEach es X.env)).any (·.1)=false) Zq4._auto_1) :
  F2 X (.Call (.Name x p) (e::es) [] pos) (zy sp t):=by
 obtain⟨f,fd,F,hm,hkp,hb⟩:=F;refine PE.mono (zIl (dvs:=[]) F (hr.mono hk) hg hm hkp hb .nil zOW ha hdb he hpl) ?_;rintro σ1 H Q ⟨σ,G,R,r,q,kk⟩;refine⟨σ,G,_,r,q,fun ds G1 q1 vs H1 g1 r1 d1=>?_⟩;show lSp X.K _ (vs++[]) H1 Q E0;rw[eM];refine⟨ds,G1,fun d G'=>∃ l ls G0,d=.adr l/\G0.m l=none/\G'=zd G0 l ls/\R ls G0,d1,r1,hmono _ _ _ _ (fun ls G' q l n=>⟨l,ls,G',rfl,n,rfl,q⟩) q1,?_⟩;rintro d G' ⟨l,ls,G0,rfl,n,rfl,q'⟩ v H' g' r' dv;unfold zO at dv;subst dv;obtain⟨xs,e1,e2⟩:=r'.m l ls zL;exact kk ls G0 q' l xs H' (g1.trans g') (r'.sub (.new n)) n e1 e2
section
variable {st:Stmt} {rest:List Stmt} {t u:yS}
noncomputable def zx:yS:=fun E σ G=>E.nx σ G
noncomputable def zT(t u:yS):yS:=fun E σ G=>t { E with nx:=u E } σ G
theorem yL:Ps2 X [] zx:=by
 intro pins s σ1 H E I h;refine zMy pins s σ1 H E I ?_;obtain⟨σ,G,D2,r,q,k⟩:=h;exact k.nx σ G q σ1 H (.refl H) r
theorem zK(h1:P2 X st t)(h2:Ps2 X rest u):Ps2 X (st::rest) (zT t u):=by
 intro pins s σ1 H E I h;refine zKr h1 h2 pins s σ1 H E I ?_;obtain⟨σ,G,D2,r,q,k⟩:=h;refine⟨σ,G,_,r,q,⟨fun σ' G' q' σ1' H' g' r'=>⟨σ',G',D2,r',q',k.to g'⟩,k.bk,k.ct,k.rt⟩⟩
theorem zR(h1:P2 X st t):Ps2 X [st] t:=zMz h1
noncomputable def zm(te:zj):yS:=fun E σ G=>te σ G E.rt
theorem zh(he:E2 X e te):P2 X (.Return (some e) pos) (zm te):=by
 refine PS.mono (L2.zO9 he) ?_;rintro E σ1 H ⟨σ,G,D2,r,q,k⟩;exact⟨σ,G,_,r,q,fun d G' q' v H' g' r' d'=>k.rt d G' q' v H' g' r' d'⟩
noncomputable def wF(te:zj):yS:=fun E σ G=>te σ G fun u0 G1=>E.nx σ G1
theorem zBT(he:E2 X e te)(hs:autoParam (swapsWith e none pos.line X.env=pure false) Zq4._auto_1):P2 X (.Expr e pos) (wF te):=by
 refine PS.mono (L2.zM0 he hs) ?_;rintro E σ1 H ⟨σ,G,D2,r,q,k⟩;exact⟨σ,G,_,r,q,fun d G' q' v H' g' r' d'=>k.nx σ G' q' σ1 H' g' (r.to g' r')⟩
noncomputable def xIf(c:TT2)(t u:yS):yS:=fun E σ G=>c σ G fun b G1=>if b=true then t E σ G1 else u E σ G1
theorem zAh{x y:List Stmt}{tc:TT2}(hc:T2 X c tc)(ha:Ps2 X x t)(hb:Ps2 X y u):P2 X (.If c x y pos) (xIf tc t u):=by
 refine PS.mono (L2.zQp hc ha hb) ?_;rintro E σ1 H ⟨σ,G,D2,r,q,k⟩;refine⟨σ,G,_,r,q,fun b G' q' H' g' r'=>?_⟩;cases b with
 | true=>exact⟨σ,G',D2,r.to g' r',q',k.to g'⟩
 | false=>exact⟨σ,G',D2,r.to g' r',q',k.to g'⟩
noncomputable abbrev TG2:=D->S2->Gp->(S2->Gp->Prop)->Prop
noncomputable def lG(K:PySem.W.Frag)(g:TG2):TG:=fun v σ1 H Q=>∃ σ G d R,Rel K σ G σ1 H/\zO K H d v/\g d σ G R/\∀ σ' G',R σ' G'->∀ σ1' H',zn H H'->Rel K σ' G' σ1' H'->Q σ1' H'
noncomputable def G2(X:Cx)(tg:Expr)(g:TG2):Prop:=PG X tg (lG X.K g)
theorem PG.mono{tg:Expr}{t t':TG}(h:PG X tg t)(hm:∀ v σ H Q,t' v σ H Q->t v σ H Q):PG X tg t':=fun pins s σ H v u Q I r q=>h pins s σ H v u Q I r (hm v σ H Q q)
noncomputable def gN(i:Nat):TG2:=fun d σ G R=>R (σ.set i (some d)) G
theorem zAi(i:Nat){x:Str}(hN:X.N.Nodup)(hi:autoParam (X.N[i]?=some x) Zq4._auto_1)(hx:autoParam (Loc X.env.scope x) Zq6._auto_1)(hf:autoParam (X.fn x=true\/X.env.scope.names.lookup x=some .local) Zq1._auto_1):G2 X (.Name x pos) (gN i):=by
 refine PG.mono (zCV hN hi hx hf) ?_;rintro v σ1 H Q ⟨σ,G,d,R,r,dv,q,k⟩;exact k _ G q _ H (.refl H) (r.set i dv)
noncomputable def gNN(i j:Nat):TG2:=fun d σ G R=>match d with | .tup [a,b]=>R ((σ.set i (some a)).set j (some b)) G | _=>False
theorem zQ9(i j:Nat){x y:Str}{px py:Pos}{kk:Nat}(hc:X.calm=true)(hN:X.N.Nodup)(hi:autoParam (X.N[i]?=some x) Zq4._auto_1)(hj:autoParam (X.N[j]?=some y) Zq4._auto_1)(hx:autoParam (Loc X.env.scope x) Zq6._auto_1)(hy:autoParam (Loc X.env.scope y) Zq6._auto_1)
  (hf:autoParam (X.fn x=true\/X.env.scope.names.lookup x=some .local) Zq1._auto_1) (hf':autoParam (X.fn y=true\/X.env.scope.names.lookup y=some .local) Zq1._auto_1) :
  G2 X (.Tuple [.Name x px,.Name y py] kk pos) (gNN i j):=by
 refine PG.mono (zPB (n:=2) hc (zGn (zCV hN hi hx hf) (zGn (zCV hN hj hy hf') zM2))) ?_;rintro v σ1 H Q ⟨σ,G,d,R,r,dv,q,k⟩;unfold gNN at q;split at q
 ·rename_i d1 d2
  unfold zO at dv;obtain⟨a,xs,rfl,hs,hd⟩:=dv;unfold Dens at hd;obtain⟨x1,r1,rfl,h1,hd⟩:=hd;unfold Dens at hd;obtain⟨x2,r2,rfl,h2,hd⟩:=hd;unfold Dens at hd;subst hd;exact⟨a,[x1,x2],rfl,hs,rfl,x1,[x2],rfl,x2,[],rfl,rfl,k _ G q _ H (.refl H) ((r.set i h1).set j h2)⟩
 ·exact q.elim
noncomputable def zk(te:zj)(g:TG2):yS:=fun E σ G=>te σ G fun d G1=>g d σ G1 E.nx
theorem zK6{g:TG2}{E:Ends}{σ1:L2.St}{H:Hp}{K:PySem.W.Frag}(h:lS K (zk te g) E σ1 H):zPC (lE K te) (lG K g) E σ1 H:=by
 obtain⟨σ,G,D2,r,q,k⟩:=h;refine⟨σ,G,_,r,q,fun d G' q' v H' g' r' d'=>⟨σ,G',d,_,r.to g' r',d',q',fun σ' G'' q'' σ1' H'' g'' r''=>k.nx σ' G'' q'' σ1' H'' (g'.trans g'') r''⟩⟩
theorem zo(i:Nat){x:Str}{pos':Pos}(hN:X.N.Nodup)(he:E2 X e te)(hi:autoParam (X.N[i]?=some x) Zq4._auto_1)(hx:autoParam (Loc X.env.scope x) Zq6._auto_1)(hs:autoParam (swapsWith e (some (.Name x pos')) pos.line X.env=pure false) Zq4._auto_1)(hf:autoParam (X.fn x=true\/X.env.scope.names.lookup x=some .local) Zq1._auto_1) :
  P2 X (.Assign [.Name x pos'] e pos) (zk te (gN i)):=by
 refine PS.mono (L2.zPE hN hi hx he hs hf) fun E σ1 H h=>?_;obtain⟨σ,G,D2,r,q,k⟩:=h;refine⟨σ,G,_,r,q,fun d G' q' v H' g' r' d'=>?_⟩;exact k.nx _ G' q' _ H' g' ((r.to g' r').set i d')
theorem zK7{tg:Expr}{g:TG2}(he:E2 X e te)(hg:G2 X tg g)(hs:autoParam (swapsWithSole [tg] e pos.line X.env=pure false) Zq4._auto_1)(hw:autoParam (swappedStores [tg] e X.env=pure none) Zq4._auto_1)
  (h1:autoParam ((assignEach [tg] X.env).map (·.2)=[assign tg X.env]) Zq4._auto_1):P2 X (.Assign [tg] e pos) (zk te g) :=
 PS.mono (L2.zPD he hg hs hw h1) fun u0 u0 u0 h=>zK6 h
noncomputable def gIx(to ti:zj):TG2:=fun d σ G R=>to σ G fun o G1=>ti σ G1 fun i G2=>match o,i with
 | .adr l,.int k=>match G2.m l with
  | some ds=>match ixN ds.length k with | some j=>R σ (zd G2 l (ds.set j d)) | none=>False
  | none=>False
 | _,_=>False
theorem zRA{i:Expr}{to ti:zj}(ho:E2 X o to)(hi:E2 X i ti)
  (ha:autoParam (∀ v,assign (.Subscript o i pos) X.env v=(do
   let ov <-holding [v] (eval o X.env);let iv <-holding [v,ov] (eval i X.env)
   standAt pos
   holding [v,ov,iv] (setItem ov iv v)
   release [v,ov,iv] [])) Zq3._auto_1):G2 X (.Subscript o i pos) (gIx to ti):=by
 refine PG.mono (zKs ho hi set_list ha) ?_;rintro v σ1 H Q ⟨σ,G,d,R,r,dv,q,k⟩;refine⟨σ,G,_,r,q,fun dx G1 q1 x H1 g1 r1 d1=>⟨σ,G1,_,r.to g1 r1,q1,fun dy G2' q2 y H2 g2 r2 d2=>?_⟩⟩;cases dx with
 | adr l =>
  cases dy with
  | int j =>
   dsimp only at q2;cases e1:G2'.m l with
   | none=>rw[e1] at q2;exact q2.elim
   | some ds =>
    rw[e1] at q2;dsimp only at q2;cases e2:ixN ds.length j with
    | none=>rw[e2] at q2;exact q2.elim
    | some jj =>
     rw[e2] at q2;dsimp only at q2;have d1':=d1.grow g2;unfold zO at d1' d2;subst d1' d2;obtain⟨xs,h1,h2⟩:=r2.m l ds e1;refine⟨l,xs,j,jj,rfl,rfl,h1,by rw[<-h2.length];exact e2,?_⟩;have g3:zn H2 (ye H2 l (.lst (xs.set jj v))):=.lst h1;exact k _ _ q2 _ _ ((g1.trans g2).trans g3) ((r.to (g1.trans g2) r2).to g3 (r2.put h1 (h2.set jj (dv.grow (g1.trans g2)))))
  | _=>exact q2.elim
 | _=>exact q2.elim
end
end
noncomputable abbrev TI2:=S2->Gp->(List D->(Gp->Prop)->Gp->Prop)->Prop
structure Walk (K:PySem.W.Frag) (H0:Hp) (ds:List D) (gd:Gp->Prop) (J:It):Prop where
 go:∀ i G H,gd G->zl K G H->zn H0 H->i<ds.length->J.go i H
 stop:∀ G H,gd G->zl K G H->zn H0 H->J.stop ds.length H
 yld:∀ i G H x H',gd G->zl K G H->zn H0 H->i<ds.length->J.yld i H x H'->zn H H'/\zl K G H'/\∃ d,ds[i]?=some d/\zO K H' d x
noncomputable def lI(K:PySem.W.Frag)(wi:TI2):TI:=fun σ1 H R=>∃ σ G R2,Rel K σ G σ1 H/\wi σ G R2/\∀ ds gd G',R2 ds gd G'->∀ J H',zn H H'->zl K G' H'->Walk K H' ds gd J->ds.length<=sizeLine->R J H'
noncomputable def I2(X:Cx)(tg iter:Expr)(wi:TI2):Prop:=PI X tg iter (lI X.K wi)
theorem PI.mono{X:Cx}{tg iter:Expr}{t t':TI}(h:PI X tg iter t)(hm:∀ σ H R,t' σ H R->t σ H R):PI X tg iter t':=fun pins s σ H R I q=>h pins s σ H R I (hm σ H R q)
section
variable {X:Cx} {tg:Expr} {a b c e o l iter elt:Expr} {es:List Expr} {pos p:Pos} {ta tb te:zj}
theorem zK8{l:Expr}{tl:TE}(hl:PE X l tl):PI X tg l (fun σ H R=>tl σ H fun x H1=>∃ a xs,x=.ref a/\((SqL X.K H1 a xs/\(xs.length<=sizeLine->R (Itl X.K a) H1))\/(SqT X.K H1 a xs/\(xs.length<=sizeLine->R (Itt X.K a) H1)))):=by
 intro pins s σ H R I h;refine yU (hl pins s σ H _ I h) fun v s1 u9=>?_;obtain⟨x,H1,I1,r1,q1⟩:=u9;obtain⟨a,xs,e,q⟩:=q1;subst e;cases r1;have fpk:∀ b∈[s1.heap.objs.size],zDB X pins H1 b:=fun b hb=>by
  have e:b=s1.heap.objs.size:=by simpa using hb
  subst e;exact I1.fpOk (bE _) (I1.hok.fresh (bE _))
 rcases q with ⟨hq,q⟩ | ⟨hq,q⟩
 ·obtain⟨its,rv,p,hz⟩:=I1.list hq
  refine wpAny_pyIter_list p.isList ?_;exact⟨s1.heap.objs.size,[s1.heap.objs.size],_,_,H1,rfl,I1.kept (t':=s1.toks) fun b o e=>bn _ e,zJX a _,⟨_,bB _ rfl,rfl,rfl⟩,fpk,q hz⟩
 ·obtain⟨its,rv,p,hz⟩:=I1.tuple hq
  refine wpAny_pyIter_tuple (show s1.heap.IsTuple a its.toArray from p) ?_;exact⟨s1.heap.objs.size,[s1.heap.objs.size],_,_,H1,rfl,I1.kept (t':=s1.toks) fun b o e=>bn _ e,zHr a _,⟨_,bB _ rfl,rfl,rfl⟩,fpk,q hz⟩
theorem zFF{K:PySem.W.Frag}{H0:Hp}{a:Addr}{ds:List D}:Walk K H0 ds (fun G=>Ls G a ds) (Itl K a) where
 go:=fun i G H g r u0 hi=>by
  obtain⟨xs,h1,h2⟩:=r.sq g;exact⟨xs,xs[i]'(by rw[<-h2.length];exact hi),h1,by simp⟩
 stop:=fun G H g r u0=>by
  obtain⟨xs,h1,h2⟩:=r.sq g;exact⟨xs,h1,Nat.le_of_eq h2.length.symm⟩
 yld:=fun i G H x H' g r u0 hi y=>by
  obtain⟨xs,h1,h2⟩:=r.sq g;obtain⟨e,y⟩:=y;subst e;obtain⟨d,e1,e2⟩:=h2.got (y xs h1);exact⟨.refl _,r,d,e1,e2⟩
theorem zK9{K:PySem.W.Frag}{H0:Hp}{a:Addr}{xs:List V}{ds:List D}(h:SqT K H0 a xs)(hd:Dens K H0 ds xs):Walk K H0 ds (fun u0=>True) (Itt K a) where
 go:=fun i G H u0 r g hi=>⟨xs,xs[i]'(by rw[<-hd.length];exact hi),g.sqT h,by simp⟩
 stop:=fun G H u0 r g=>⟨xs,g.sqT h,Nat.le_of_eq hd.length.symm⟩
 yld:=fun i G H x H' u0 r g hi y=>by
  obtain⟨e,y⟩:=y;subst e;obtain⟨d,e1,e2⟩:=(hd.grow g).got (y xs (g.sqT h));exact⟨.refl _,r,d,e1,e2⟩
noncomputable def yI(lo:Int)(n:Nat):List D:=(bz n).map fun(k:Nat)=>D.int (lo+(k:Int))
theorem wC(lo:Int)(n:Nat):(yI lo n).length=n:=by simp[yI]
theorem zD4{lo:Int}{n i:Nat}(h:i<n):(yI lo n)[i]?=some (.int (lo+i)):=by simp[yI,h]
theorem zD5{K:PySem.W.Frag}{H0:Hp}{lo:Int}{n:Nat}:Walk K H0 (yI lo n) (fun u0=>True) (Itr lo n) where
 go:=fun i G H u0 u0 u0 hi=>by rw[wC] at hi;exact hi
 stop:=fun G H u0 u0 u0=>by rw[wC];exact bE _
 yld:=fun i G H x H' u0 r u0 hi y=>by
  rw[wC] at hi;obtain⟨e,rfl⟩:=y;subst e;exact⟨.refl _,r,_,zD4 hi,by unfold zO;rfl⟩
noncomputable def iV(t:zj):TI2:=fun σ G R=>t σ G fun d G1=>match d with
 | .tup ds=>R ds (fun u0=>True) G1
 | .adr a=>∃ ds,Ls G1 a ds/\R ds (fun G=>Ls G a ds) G1
 | _=>False
theorem zD6(h:E2 X l ta):I2 X tg l (iV ta):=by
 refine PI.mono (zK8 h) ?_;rintro σ1 H R ⟨σ,G,R2,r,q,k⟩;refine⟨σ,G,_,r,q,fun d G1 q1 v H1 g1 r1 d1=>?_⟩;cases d with
 | tup ds =>
  unfold zO at d1;obtain⟨a,xs,rfl,h1,h2⟩:=d1;exact⟨a,xs,rfl,.inr ⟨h1,fun hz=>k ds _ G1 q1 _ H1 g1 r1 (zK9 h1 h2) (by rw[h2.length];exact hz)⟩⟩
 | adr a =>
  unfold zO at d1;subst d1;obtain⟨ds,e,q1⟩:=q1;obtain⟨xs,h1,h2⟩:=r1.sq e;exact⟨a,xs,rfl,.inl ⟨h1,fun hz=>k ds _ G1 q1 _ H1 g1 r1 zFF (by rw[h2.length];exact hz)⟩⟩
 | _=>exact q1.elim
noncomputable def iF(t:TL2):TI2:=fun σ G R=>t σ G fun ds G1=>∀ a,G1.m a=none->R ds (fun G=>Ls G a ds) (zd G1 a ds)
theorem zIr{t:TL2}(h:F2 X l t):I2 X tg l (iF t):=by
 refine PI.mono (zK8 h) ?_;rintro σ1 H R ⟨σ,G,R2,r,q,k⟩;refine⟨σ,G,_,r,q,fun ds G1 q1 a xs H1 g1 r1 n e1 d1=>?_⟩;exact⟨a,xs,rfl,.inl ⟨.of e1,fun hz=>k ds _ _ (q1 a n) _ H1 g1 (r1.own e1 d1) zFF (by rw[d1.length];exact hz)⟩⟩
noncomputable def iR1(t:yh):TI2:=fun σ G R=>t σ G fun ds G1=>match ds with | [.int j]=>(-1000000<=j/\j<=1000000)/\R (yI 0 j.toNat) (fun u0=>True) G1 | _=>False
noncomputable def iR2(t:yh):TI2:=fun σ G R=>t σ G fun ds G1=>match ds with | [.int i,.int j]=>((-1000000<=i/\i<=1000000)/\-1000000<=j/\j<=1000000)/\R (yI i (j-i).toNat) (fun u0=>True) G1 | _=>False
theorem wv{t:yh}(hg:Gl X "range")(hm:X.mg "range"=none)(ha:A2 X [a] t)(hs:autoParam (starEach [a] X.env=[(false,eval a X.env)]) Zq4._auto_1):I2 X tg (.Call (.Name "range" p) [a] [] pos) (iR1 t):=by
 refine PI.mono (zJY hg hm ha hs) ?_;rintro σ1 H R ⟨σ,G,R2,r,q,k⟩;refine⟨σ,G,_,r,q,fun ds G1 q1 vs H1 g1 r1 d1=>?_⟩;split at q1
 ·rename_i j
  unfold Dens at d1;obtain⟨x,r',rfl,d1,d2⟩:=d1;unfold zO at d1;unfold Dens at d2;subst d1 d2;refine⟨j,rfl,by omega,by omega,k _ _ G1 q1.2 _ H1 g1 r1 zD5 ?_⟩;rw[wC,sizeLine_eq];omega
 ·exact q1.elim
theorem zGy{t:yh}(hg:Gl X "range")(hm:X.mg "range"=none)(ha:A2 X [a,b] t)(hs:autoParam (starEach [a,b] X.env=[(false,eval a X.env),(false,eval b X.env)]) Zq4._auto_1)(hs2:autoParam (starEach [b] X.env=[(false,eval b X.env)]) Zq4._auto_1):I2 X tg (.Call (.Name "range" p) [a,b] [] pos) (iR2 t):=by
 refine PI.mono (zJZ hg hm ha hs hs2) ?_;rintro σ1 H R ⟨σ,G,R2,r,q,k⟩;refine⟨σ,G,_,r,q,fun ds G1 q1 vs H1 g1 r1 d1=>?_⟩;split at q1
 ·rename_i i j
  unfold Dens at d1;obtain⟨x,r',rfl,d1,d2⟩:=d1;unfold Dens at d2;obtain⟨y,r',rfl,d2,d3⟩:=d2;unfold zO at d1 d2;unfold Dens at d3;subst d1 d2 d3;refine⟨i,j,rfl,⟨by omega,by omega,by omega,by omega⟩,k _ _ G1 q1.2 _ H1 g1 r1 zD5 ?_⟩;rw[wC,sizeLine_eq];omega
 ·exact q1.elim
structure wS (σ σ':S2):Prop where
 len:σ.length=σ'.length
 val:∀(i:Nat) d,σ[i]?=some (some d)->σ'[i]?=some (some d)
theorem wS.refl(σ:S2):wS σ σ:=⟨rfl,fun u0 u0 h=>h⟩
noncomputable def Fg(P:S2->Gp->Prop):S2->Gp->Prop:=fun σ G=>∃ σ' G',wS σ' σ/\Sub G' G/\P σ' G'
theorem Fg.of{P:S2->Gp->Prop}{σ:S2}{G:Gp}(h:P σ G):Fg P σ G:=⟨σ,G,.refl σ,.refl G,h⟩
theorem Rel.sub{K:PySem.W.Frag}{σ σ':S2}{G G':Gp}{σ1:L2.St}{H:Hp}(r:Rel K σ G σ1 H)(s:wS σ' σ)(g:Sub G' G):Rel K σ' G' σ1 H :=
 ⟨r.g.sub g,s.len.trans r.len,fun i d e=>r.val i d (s.val i d e)⟩
noncomputable def zRB(wi:TI2)(g:TG2)(tb:yS):yS:=fun E σ G=>wi σ G fun ds gd G1=>∃ Pv:Nat->S2->Gp->Prop,Pv 0 σ G1/\(∀ i σ G,i<=ds.length->Pv i σ G->gd G) /\
 (∀ i x σ G,ds[i]?=some x->Pv i σ G->g x σ G fun σ2 G2=>tb { E with nx:=Fg (Pv (i+1)),ct:=Fg (Pv (i+1)),bk:=E.nx } σ2 G2)/\∀ σ G,Pv ds.length σ G->E.nx σ G
theorem zRC{wi:TI2}{g:TG2}{tb:yS}{body:List Stmt}(hp:PassesOwn (model X.prog X.w) X.A X.env X.xe)(hc:X.calm=true)(hi:I2 X tg iter wi)(hg:G2 X tg g)(hb:Ps2 X body tb)
  (hs:autoParam (∀ x,foldedSetIterable iter X.env x=pure x) Zq3._auto_1):P2 X (.For tg iter body [] pos) (zRB wi g tb):=by
 refine PS.mono (L2.zPJ hp hc hi hg hb hs) ?_;rintro E σ1 H ⟨σ,G,D2,r,q,k⟩;refine⟨σ,G,_,r,q,fun ds gd G1 q1 J H1 g1 r1 W hz=>?_⟩;obtain⟨Pv,p0,pg,pt,pd⟩:=q1;refine⟨fun i m σ1' H'=>m=ds.length-i/\i<=ds.length/\zn H1 H'/\∃ σ' G',Rel X.K σ' G' σ1' H'/\Pv i σ' G',⟨ds.length,by simp,cg _,.refl _,σ,G1,r.to g1 r1,p0⟩,?_⟩;rintro i m σ1' H' ⟨rfl,hi',g',σ',G',r',p'⟩;have gd':=pg i σ' G' hi' p';by_cases hlt:i<ds.length
 ·refine .inr ⟨W.go i G' H' gd' r'.g g' hlt,fun σ1'' H''=>zn H1 H''/\∃ σ'' G'',Rel X.K σ'' G'' σ1'' H''/\Pv (i+1) σ'' G'',fun σ1'' H'' ⟨a1,σ'',G'',a2,a3⟩=>⟨ds.length-(i+1),by omega,rfl,hlt,a1,σ'',G'',a2,a3⟩,fun x H'' y=>?_⟩
  obtain⟨gy,ry,d,e1,e2⟩:=W.yld i G' H' x H'' gd' r'.g g' hlt y
  replace g':=g'.trans gy
  refine⟨σ',G',d,_,r'.to gy ry,e2,pt i d σ' G' e1 p',fun σ2 G2 q2 σ12 H2 g2 r2=>⟨σ2,G2,_,r2,q2,?_⟩⟩;have back:∀ σ3 G3,Fg (Pv (i+1)) σ3 G3->∀ σ13 H3,zn H2 H3->Rel X.K σ3 G3 σ13 H3->zn H1 H3/\∃ σ'' G'',Rel X.K σ'' G'' σ13 H3/\Pv (i+1) σ'' G'':=by
   rintro σ3 G3 ⟨σ4,G4,a1,a2,a3⟩ σ13 H3 g3 r3;exact⟨(g'.trans g2).trans g3,σ4,G4,r3.sub a1 a2,a3⟩
  exact⟨back,fun σ3 G3 q3 σ13 H3 g3 r3=>k.nx σ3 G3 q3 σ13 H3 (((g1.trans g').trans g2).trans g3) r3,back,fun d3 G3 q3 v3 H3 g3 r3 dv=>k.rt d3 G3 q3 v3 H3 (((g1.trans g').trans g2).trans g3) r3 dv⟩
 ·have e:i=ds.length:=by omega
  subst e;exact .inl ⟨W.stop G' H' gd' r'.g g',k.nx σ' G' (pd σ' G' p') σ1' H' (g1.trans g') r'⟩
noncomputable def FgG(P:Gp->Prop):Gp->Prop:=fun G=>∃ G',Sub G' G/\P G'
theorem FgG.of{P:Gp->Prop}{G:Gp}(h:P G):FgG P G:=⟨G,.refl G,h⟩
noncomputable def yv(wi:TI2)(bd:D->Option (List D))(tc:TT2)(te:zj):TL2:=fun σ G R=>wi σ G fun ds gd G1=>∀ A,G1.m A=none->∃ Pv:Nat->List D->Gp->Prop,Pv 0 [] (zd G1 A [])/\(∀ i acc G,i<=ds.length->Pv i acc G->gd G/\G.m A=some acc/\acc.length<=i) /\
 (∀ i x acc G,ds[i]?=some x->Pv i acc G->match bd x with
  | some us=>tc (σ++us.map some) G fun b G3=>if b=true then te (σ++us.map some) G3 fun d G4=>G4.m A=some acc/\FgG (Pv (i+1) (acc++[d])) (zd G4 A (acc++[d])) else FgG (Pv (i+1) acc) G3
  | none=>False)/\∀ acc G,Pv ds.length acc G->∃ G',G'.m A=none/\Sub G' G/\R acc G'
noncomputable def Ts2(X:Cx)(ifs:List Expr)(t:TT2):Prop:=PTs X ifs (lT X.K t)
noncomputable def zEv:TT2:=fun u0 G R=>R true G
theorem zFx:Ts2 X [] zEv:=by
 intro pins s σ1 H Q I h;refine zNI pins s σ1 H Q I ?_;obtain⟨σ,G,R,r,q,k⟩:=h;exact k true G q H (.refl H) r.g
theorem zDG{t:TT2}(h:T2 X c t):Ts2 X [c] t:=zNJ h
theorem Rel.app{K:PySem.W.Frag}{σ:S2}{G:Gp}{σ1:L2.St}{H:Hp}(r:Rel K σ G σ1 H){ds:List D}{vs:List V}(h:Dens K H ds vs):Rel K (σ++ds.map some) G (σ1++vs.map some) H :=
 ⟨r.g,by simp[r.len,h.length],fun i d e=>by
  by_cases hi:i<σ.length
  ·rw[cr hi] at e
   obtain⟨v,e1,e2⟩:=r.val i d e;exact⟨v,by rw[cr (by rw[<-r.len];exact hi)];exact e1,e2⟩
  ·rw[cL (by omega),cb] at e
   cases q:ds[i-σ.length]? with
   | none=>rw[q] at e;cases e
   | some d' =>
    rw[q] at e;cases e;obtain⟨v,e1,e2⟩:=h.get q;exact⟨v,by rw[cL (by rw[<-r.len];omega),cb,<-r.len,e1];rfl,e2⟩⟩
theorem zFG{K:PySem.W.Frag}{wi:TI2}{bd:D->Option (List D)}{tc:TT2}{te:zj}{n:Nat}{g:TG}{N:Nat}
  (hb:∀(σ1:L2.St) (H:Hp) (d:D) (v:V) (us:List D) (Q:L2.St->Hp->Prop),σ1.length=N->zO K H d v->bd d=some us->us.length=n->(∀ vs,Dens K H us vs->Q (σ1++vs.map some) H)->g v (σ1++bP n none) H Q)
  (hn:∀ d us,bd d=some us->us.length=n)
  {σ1:L2.St} {H:Hp} {Q:VK} (hl:σ1.length=N) (h:lL K (yv wi bd tc te) σ1 H Q):zK3 n (lI K wi) g (lT K tc) (lE K te) σ1 H Q:=by
 obtain⟨σ,G,R,r,q,k⟩:=h;refine⟨σ,G,_,r,q,fun ds gd G1 q1 J H1 g1 r1 W hz A hA=>?_⟩;obtain⟨Pv,p0,pg,pt,pd⟩:=q1 A (r1.free hA);refine⟨fun i m H2=>m=ds.length-i/\i<=ds.length/\zn H1 H2/\∃ as G2,zl K G2 H2/\Pv i as G2,⟨ds.length,by simp,cg _,.fresh hA,[],zd G1 A [],r1.new hA .nil,p0⟩,?_⟩;rintro i m H2 ⟨rfl,hi',g2,as,G2,r2,p2⟩;obtain⟨gd2,al,hlen⟩:=pg i as G2 hi' p2;by_cases hlt:i<ds.length
 ·refine .inr ⟨W.go i G2 H2 gd2 r2 g2 hlt,fun x H3 y=>?_⟩
  obtain⟨gy,ry,d,e3,dv⟩:=W.yld i G2 H2 x H3 gd2 r2 g2 hlt y
  replace g2:=g2.trans gy
  replace r2:=ry
  have q3:=pt i d as G2 e3 p2;cases eb:bd d with
  | none=>rw[eb] at q3;exact q3.elim
  | some us =>
   rw[eb] at q3;dsimp only at q3;have hus:=hn d us eb;refine hb σ1 H3 d x us _ hl dv eb hus fun vs hv=>⟨?_,?_,?_⟩
   ·rw[List.take_append_of_le_length (bE _),et]
   ·rw[bR,bA,<-hv.length,hus]
   ·have rr:Rel K (σ++us.map some) G2 (σ1++vs.map some) H3:=(r.to (g1.trans g2) r2).app hv
    refine⟨σ++us.map some,G2,_,rr,q3,fun b G4 q4 H4 g4 r4=>?_⟩;cases b with
    | false =>
     obtain⟨G5,s5,p5⟩:=q4;exact⟨ds.length-(i+1),by omega,rfl,hlt,g2.trans g4,as,G5,r4.sub s5,p5⟩
    | true =>
     refine⟨σ++us.map some,G4,_,rr.to g4 r4,q4,fun d5 G5 q5 v H5 g5 r5 d5v=>?_⟩;obtain⟨a5,G6,s6,p6⟩:=q5;obtain⟨acc,e6,d6⟩:=r5.m A as a5;refine⟨acc,e6,by rw[<-d6.length];omega,ds.length-(i+1),by omega,rfl,hlt,((g2.trans g4).trans g5).trans (.lst e6),as++[d5],G6,?_,p6⟩;exact(r5.put e6 (d6.append (.cons d5v .nil))).sub s6
 ·have e:i=ds.length:=by omega
  subst e;obtain⟨G',n',s',q'⟩:=pd as G2 p2;obtain⟨acc,e6,d6⟩:=r2.m A as al;exact .inl ⟨W.stop G2 H2 gd2 r2 g2,k as G' q' A acc H2 (g1.trans g2) (r2.sub s') n' e6 d6⟩
noncomputable def bd1:D->Option (List D):=fun d=>some [d]
section
variable {ifs:List Expr} {sc:Scope} {N0:List Str} {wi:TI2} {tc:TT2}
theorem PE.at{t t':TE}(h:PE X e t)(hm:∀ σ H Q,σ.length=X.N.length->t' σ H Q->t σ H Q):PE X e t':=fun pins s σ H Q I q=>h pins s σ H Q I (hm σ H Q I.len q)
theorem PS.at{st:Stmt}{t t':TS}(h:PS X st t)(hm:∀ E σ H,σ.length=X.N.length->t' E σ H->t E σ H):PS X st t':=fun pins s σ H E I q=>h pins s σ H E I (hm E σ H I.len q)
theorem zLA(s t:List (Option V))(x:Option V):List.set (s++t) (List.length s) x=s++t.set 0 x:=by
 rw[List.set_append_right _ _ (bE _),Nat.sub_self]
theorem bind1{K:PySem.W.Frag}{N:Nat}(σ1:L2.St)(H:Hp)(d:D)(v:V)(us:List D)(Q:L2.St->Hp->Prop)(hl:σ1.length=N)(dv:zO K H d v)(eb:bd1 d=some us)(hus:us.length=1)(h:∀ vs,Dens K H us vs->Q (σ1++vs.map some) H):zGm N v (σ1++bP 1 none) H Q:=by
 cases eb;have:=h [v] (.cons dv .nil);show Q (List.set (σ1++[none]) N (some v)) H;rw[<-hl,zLA];exact this
theorem zNM(x:Str){px:Pos}(hc:X.calm=true)(T:zDF X sc N0)(hi:I2 X (.Name x px) iter wi)
  (hnd:(N0++[x]).Nodup) (hx:(relabel sc X.env).names.lookup x=some .local)
  (ht:∀ C s H fp pins,Ts2 (X.comp (N0++[x]) sc C s H fp pins) ifs tc) (he:∀ C s H fp pins,E2 (X.comp (N0++[x]) sc C s H fp pins) elt te)
  (hs:autoParam (∀ x,foldedSetIterable iter X.env x=pure x) Zq3._auto_1):F2 X (.ListComp elt [⟨.Name x px,iter,ifs,0⟩] sc pos) (yv wi bd1 tc te):=by
 refine PE.at (zNK (own:=[x]) (g:=zGm X.N.length) (tc:=lT X.K tc) (te:=lE X.K te) hc T hi (fun C s H fp pins=>zCV (X:=X.comp (N0++[x]) sc C s H fp pins) hnd (by
  show(N0++[x])[X.N.length]?=some x;rw[<-T.len];simp) (.inl hx) (.inr hx)) ht he hs) fun σ H Q hl h=>?_
 exact zFG (n:=1) (N:=X.N.length) bind1 (fun d us e=>by cases e;rfl) hl h
noncomputable def zCa(i:Nat)(t:TL2):yS:=fun E σ G=>t σ G fun ds G'=>∀ l,G'.m l=none->E.nx (σ.set i (some (.adr l))) (zd G' l ds)
theorem zHz(i:Nat)(x:Str){y:Str}{px py spos:Pos}(hc:X.calm=true)(T:zDF X sc N0)(hi:I2 X (.Name x px) iter wi)
  (hnd:(N0++[x]).Nodup) (hx:(relabel sc X.env).names.lookup x=some .local)
  (ht:∀ C s H fp pins,Ts2 (X.comp (N0++[x]) sc C s H fp pins) ifs tc) (he:∀ C s H fp pins,E2 (X.comp (N0++[x]) sc C s H fp pins) elt te)
  (hN:X.N.Nodup) (hy:X.N[i]?=some y) (hl:X.env.scope.names.lookup y=some .local)
  (hsw:swapsWith (.ListComp elt [⟨.Name x px,iter,ifs,0⟩] sc pos) (some (.Name y py)) spos.line X.env=pure true)
  (hs:autoParam (∀ x,foldedSetIterable iter X.env x=pure x) Zq3._auto_1):P2 X (.Assign [.Name y py] (.ListComp elt [⟨.Name x px,iter,ifs,0⟩] sc pos) spos) (zCa i (yv wi bd1 tc te)):=by
 refine PS.at (zHy (own:=[x]) (g:=zGm X.N.length) (tc:=lT X.K tc) (te:=lE X.K te) hc T hi (fun C s H fp pins=>zCV (X:=X.comp (N0++[x]) sc C s H fp pins) hnd (by
  show(N0++[x])[X.N.length]?=some x;rw[<-T.len];simp) (.inl hx) (.inr hx)) ht he hN hy hl hsw hs) fun E σ1 H hl h=>?_
 obtain⟨σ,G,D2,r,q,k⟩:=h;refine zFG (n:=1) (N:=X.N.length) bind1 (fun d us e=>by cases e;rfl) hl ⟨σ,G,_,r,q,fun ds G' q' l xs H' g' r' n e d=>?_⟩;exact k.nx _ _ (q' l n) _ H' g' ((r.to g' (r'.own e d)).set i (by unfold zO;rfl))
end
end
section
variable {X:Cx} {a b c e o:Expr} {es:List Expr} {pos p:Pos} {ta tb te:zj}
noncomputable def zPe(ta tb:zj):zj:=fun σ G R=>ta σ G fun x G1=>match x with | .bl c=>if c=true then tb σ G1 R else R (.bl false) G1 | _=>False
theorem zRD{op}(h:E2 X a ta):E2 X (.BoolOp op [a] pos) ta:=zO7 h
theorem zRE{rest:List Expr}(ha:E2 X a ta)(hb:E2 X (.BoolOp .And (b::rest) pos) tb):E2 X (.BoolOp .And (a::b::rest) pos) (zPe ta tb):=by
 refine PE.mono (zO8 ha hb) ?_;rintro σ1 H Q ⟨σ,G,R,r,q,k⟩;refine⟨σ,G,_,r,q,fun d G1 q1 v H1 g1 r1 d1=>?_⟩;cases d with
 | bl c =>
  unfold zO at d1;refine⟨c,d1,?_⟩;cases c with
  | true=>exact⟨σ,G1,R,r.to g1 r1,q1,fun d G' q' v H' g'=>k d G' q' v H' (g1.trans g')⟩
  | false=>exact k _ G1 q1 _ H1 g1 r1 (by unfold zO;rfl)
 | _=>exact q1.elim
theorem zCB(h:E2 X e te)(he:autoParam (∀ whole,isTrue e X.env whole=(do let v <-whole;standAt e.pos;holding [v] (truthy v))) Zq3._auto_1):T2 X e (xB te):=by
 refine PT.mono (zO3 h he) ?_;rintro σ1 H Q ⟨σ,G,R,r,q,k⟩;refine⟨σ,G,_,r,q,fun d G1 q1 v H1 g1 r1 d1=>?_⟩;cases d with
 | bl c =>
  unfold zO at d1;exact⟨c,d1,k _ G1 q1 H1 g1 r1⟩
 | _=>exact q1.elim
section
variable {t u:TT2} {rest:List Expr}
noncomputable def W2(X:Cx)(e:Expr)(t:TT2):Prop:=PW X e (lT X.K t)
theorem W2.test(h:W2 X e t):T2 X e t:=PW.pt h
noncomputable def zAt(t u:TT2):TT2:=fun σ G R=>t σ G fun c G1=>if c=true then u σ G1 R else R false G1
noncomputable def zBU(t u:TT2):TT2:=fun σ G R=>t σ G fun c G1=>if c=true then R true G1 else u σ G1 R
noncomputable def ww(t:TT2):TT2:=fun σ G R=>t σ G fun c G1=>R (!c) G1
theorem PW.mono{t t':TT}(h:PW X e t)(hm:∀ σ H Q,t' σ H Q->t σ H Q):PW X e t':=fun w pins s σ H Q I q=>h w pins s σ H Q I (hm σ H Q q)
theorem zH0(ha:T2 X a t):W2 X (.BoolOp .And [a] pos) t:=zMx ha
theorem zIs(ha:T2 X a t):W2 X (.BoolOp .Or [a] pos) t:=zO4 ha
theorem w_and(ha:T2 X a t)(hb:W2 X (.BoolOp .And (b::rest) pos) u):W2 X (.BoolOp .And (a::b::rest) pos) (zAt t u):=by
 refine PW.mono (zO5 ha hb) ?_;rintro σ1 H Q ⟨σ,G,R,r,q,k⟩;refine⟨σ,G,_,r,q,fun c G1 q1 H1 g1 r1=>?_⟩;cases c with
 | true=>exact⟨σ,G1,R,r.to g1 r1,q1,fun b G' q' H' g'=>k b G' q' H' (g1.trans g')⟩
 | false=>exact k _ G1 q1 H1 g1 r1
theorem w_or(ha:T2 X a t)(hb:W2 X (.BoolOp .Or (b::rest) pos) u):W2 X (.BoolOp .Or (a::b::rest) pos) (zBU t u):=by
 refine PW.mono (zQl ha hb) ?_;rintro σ1 H Q ⟨σ,G,R,r,q,k⟩;refine⟨σ,G,_,r,q,fun c G1 q1 H1 g1 r1=>?_⟩;cases c with
 | true=>exact k _ G1 q1 H1 g1 r1
 | false=>exact⟨σ,G1,R,r.to g1 r1,q1,fun b G' q' H' g'=>k b G' q' H' (g1.trans g')⟩
theorem zFH(ha:T2 X a t):T2 X (.UnaryOp .Not a pos) (ww t):=by
 refine PT.mono (zO6 ha) ?_;rintro σ1 H Q ⟨σ,G,R,r,q,k⟩;exact⟨σ,G,_,r,q,fun c G1 q1 H1 g1 r1=>k _ G1 q1 H1 g1 r1⟩
end
theorem zOY(ha:E2 X a ta)(hb:E2 X b tb):E2 X (.BinOp a .Sub b pos) (zZ (fII fun i j=>.int (i-j)) ta tb):=zJn zPN (zFw fun u0 u0=>⟨rfl,rfl⟩) ha hb
theorem zDH(ha:E2 X a ta)(hb:E2 X b tb):E2 X (.BinOp a .Mult b pos) (zZ (yu zEt fun i j=>.int (i*j)) ta tb):=zJn zPO (zDi fun u0 u0=>⟨rfl,rfl⟩) ha hb
theorem zD7(ha:E2 X a ta)(hb:E2 X b tb):E2 X (.BinOp a .FloorDiv b pos) (zZ (yu zGp fun i j=>.int (i / j)) ta tb):=zJn zM3 (zDi fun u0 u0=>⟨rfl,rfl⟩) ha hb
theorem zFI(ha:E2 X a ta)(hb:E2 X b tb):E2 X (.BinOp a .Mod b pos) (zZ (yu (fun u0 j=>0<j) fun i j=>.int (i%j)) ta tb):=zJn zPP (zDi fun u0 u0=>⟨rfl,rfl⟩) ha hb
theorem zOZ(ha:E2 X a ta)(hb:E2 X b tb):E2 X (.BinOp a .Pow b pos) (zZ (yu zJb fun i j=>.int (i ^ j.toNat)) ta tb):=zJn zPQ (zDi fun u0 u0=>⟨rfl,rfl⟩) ha hb
theorem zPf(ha:E2 X a ta)(hb:E2 X b tb):T2 X (.Compare a [.Lt] [b] pos) (xB (zZ (fII fun i j=>.bl (decide (i<j))) ta tb)):=zDT zQv (zFw fun u0 u0=>⟨rfl,rfl⟩) ha hb (zDC _)
theorem zSE(ha:E2 X a ta)(hb:E2 X b tb):T2 X (.Compare a [.Gt] [b] pos) (xB (zZ (fII fun i j=>.bl (decide (j<i))) ta tb)):=zDT zQw (zFw fun u0 u0=>⟨rfl,rfl⟩) ha hb (zDC _)
theorem zSF(ha:E2 X a ta)(hb:E2 X b tb):T2 X (.Compare a [.GtE] [b] pos) (xB (zZ (fII fun i j=>.bl (decide (j<=i))) ta tb)):=zDT zQx (zFw fun u0 u0=>⟨rfl,rfl⟩) ha hb (zDC _)
mutual
noncomputable def yz:D->D->Bool
 | .non,.non=>true
 | .bl a,.bl b=>a==b
 | .int a,.int b=>a==b
 | .bl a,.int b=>(if a then 1 else 0)==b
 | .int a,.bl b=>a==(if b then 1 else 0)
 | .str a,.str b=>a==b
 | .tup a,.tup b=>eqDs a b
 | _,_=>false
noncomputable def eqDs:List D->List D->Bool
 | [],[]=>true
 | x::xs,y::ys=>yz x y&&eqDs xs ys
 | _,_=>false
end
noncomputable def flat:Nat->D->Bool
 | _,.non=>true
 | _,.bl _=>true
 | _,.int _=>true
 | _,.str _=>true
 | _,.adr _=>false
 | _,.dic _=>false
 | 0,.tup _=>false
 | n+1,.tup ds=>ds.all (flat n)
theorem zD8:∀(xs ys:List D),eqDs xs ys=((bz (min xs.length ys.length)).all (fun j=>yz (xs.getD j .non) (ys.getD j .non))&&xs.length==ys.length)
 | [],[]=>by simp[eqDs]
 | [],y::ys=>by simp[eqDs]
 | x::xs,[]=>by simp[eqDs]
 | x::xs,y::ys=>by
  unfold eqDs;rw[zD8 xs ys];have e1:min (x::xs).length (y::ys).length=min xs.length ys.length+1:=by simp only[bu];omega
  rw[e1,List.range_succ_eq_map,List.all_cons,List.all_map];have e2:((x::xs).length==(y::ys).length)=(xs.length==ys.length):=by
   rw[cG];simp
  rw[e2,Bool.and_assoc];rfl
mutual
theorem zBV:∀ d:D,(∀ n,flat n d=true->yz d d=true)
 | .non,_,_=>rfl
 | .bl b,_,_=>by show(b==b)=true;simp
 | .int b,_,_=>by show(b==b)=true;simp
 | .str b,_,_=>by show(b==b)=true;simp
 | .adr _,n,h=>by cases n<;>simp[flat] at h
 | .dic _,n,h=>by cases n<;>simp[flat] at h
 | .tup ds,0,h=>by simp[flat] at h
 | .tup ds,n+1,h=>by
  show eqDs ds ds=true;exact eqDs_refl ds n (by simpa[flat] using h)
theorem eqDs_refl:∀ ds:List D,(∀ n,(∀ d∈ds,flat n d=true)->eqDs ds ds=true)
 | [],_,_=>rfl
 | d::ds,n,h=>by
  show(yz d d&&eqDs ds ds)=true;rw[zBV d n (h d bU),eqDs_refl ds n fun x hx=>h x (bN _ hx)];rfl
end
section
variable {pins:List (Addr×Obj)} {σ1:L2.St} {H:Hp} {s:Shared}
mutual
theorem zO.inj(I:zU X pins σ1 H s):∀ {d d':D} {v:V} {n n':Nat},zO X.K H d v->zO X.K H d' v->flat n d=true->flat n' d'=true->d=d' 
 | .non,d',v,n,n',h,h',f,f'=>by
  unfold zO at h;subst h;cases d' with
  | tup _=>unfold zO at h';obtain⟨u0,u0,e,u0⟩:=h';cases e
  | dic _=>unfold zO at h';cases h'.1
  | _=>unfold zO at h';first | rfl | cases h'
 | .bl b,d',v,n,n',h,h',f,f'=>by
  unfold zO at h;subst h;cases d' with
  | tup _=>unfold zO at h';obtain⟨u0,u0,e,u0⟩:=h';cases e
  | dic _=>unfold zO at h';cases h'.1
  | _=>unfold zO at h';first | cases h';rfl | cases h'
 | .int b,d',v,n,n',h,h',f,f'=>by
  unfold zO at h;subst h;cases d' with
  | tup _=>unfold zO at h';obtain⟨u0,u0,e,u0⟩:=h';cases e
  | dic _=>unfold zO at h';cases h'.1
  | _=>unfold zO at h';first | cases h';rfl | cases h'
 | .str b,d',v,n,n',h,h',f,f'=>by
  unfold zO at h;subst h;cases d' with
  | tup _=>unfold zO at h';obtain⟨u0,u0,e,u0⟩:=h';cases e
  | dic _=>unfold zO at h';cases h'.1
  | _=>unfold zO at h';first | cases h';rfl | cases h'
 | .adr _,d',v,n,n',h,h',f,f'=>by cases n<;>simp[flat] at f
 | .dic _,d',v,n,n',h,h',f,f'=>by cases n<;>simp[flat] at f
 | .tup ds,d',v,n,n',h,h',f,f'=>by
  unfold zO at h;obtain⟨a,xs,rfl,hs,hd⟩:=h;cases d' with
  | tup ds' =>
   unfold zO at h';obtain⟨a',xs',e,hs',hd'⟩:=h';cases e;have:=I.tuple_inj hs hs';subst this;cases n with
   | zero=>simp[flat] at f
   | succ n =>
    cases n' with
    | zero=>simp[flat] at f'
    | succ n'=>rw[Dens.inj I hd hd' (by simpa[flat] using f) (by simpa[flat] using f')]
  | adr _=>cases n'<;>simp[flat] at f'
  | dic _=>cases n'<;>simp[flat] at f'
  | _=>unfold zO at h';cases h'
theorem Dens.inj(I:zU X pins σ1 H s):∀ {ds ds':List D} {xs:List V} {n n':Nat},Dens X.K H ds xs->Dens X.K H ds' xs->(∀ d∈ds,flat n d=true)->(∀ d∈ds',flat n' d=true)->ds=ds'
 | [],ds',xs,n,n',h,h',f,f'=>by
  unfold Dens at h;subst h;cases ds' with
  | nil=>rfl
  | cons _ _=>unfold Dens at h';obtain⟨u0,u0,e,u0⟩:=h';cases e
 | d::ds,ds',xs,n,n',h,h',f,f'=>by
  unfold Dens at h;obtain⟨x,r,rfl,h1,h2⟩:=h;cases ds' with
  | nil=>unfold Dens at h';cases h'
  | cons d' ds' =>
   unfold Dens at h';obtain⟨x',r',e,h1',h2'⟩:=h';cases e;rw[zO.inj I h1 h1' (f d bU) (f' d' bU),Dens.inj I h2 h2' (fun z hz=>f z (bN _ hz)) fun z hz=>f' z (bN _ hz)]
end
theorem in1_units{A:Around}:A.in1.units=A.units+1:=rfl
theorem zH1(I:zU X pins σ1 H s):∀(n:Nat) (d d':D) (v v':V) (u u':Value) (A:Around),zO X.K H d v->zO X.K H d' v'->RelV v u->RelV v' u'->flat n d=true->flat n d'=true->A.units+n<cLine->SeqAt.EqAt A s u u' (yz d d'):=by
 intro n
 induction n with
 | zero =>
  intro d d' v v' u u' A h h' r r' f f' hu;have fv:∀ {d:D} {v:V},flat 0 d=true->zO X.K H d v->zIp v=true/\v=vOf d:=fun {d v} f h=>by
   cases d<;>first | (simp[flat] at f;done) | (unfold zO at h;subst h;exact⟨rfl,rfl⟩)
  obtain⟨f1,e1⟩:=fv f h;obtain⟨f2,e2⟩:=fv f' h';have q:=zKy (A:=A) (s:=s) r r' f1 f2;have e:eqV v v'=yz d d':=by
   rw[e1,e2];cases d<;>first | (simp[flat] at f;done) | (cases d'<;>first | (simp[flat] at f';done) | rfl)
  rw[<-e];exact q
 | succ n ih =>
  intro d d' v v' u u' A h h' r r' f f' hu;by_cases hs:flat 0 d=true/\flat 0 d'=true
  ·have fv:∀ {d:D} {v:V},flat 0 d=true->zO X.K H d v->zIp v=true/\v=vOf d:=fun {d v} f h=>by
    cases d<;>first | (simp[flat] at f;done) | (unfold zO at h;subst h;exact⟨rfl,rfl⟩)
   obtain⟨f1,e1⟩:=fv hs.1 h;obtain⟨f2,e2⟩:=fv hs.2 h';have q:=zKy (A:=A) (s:=s) r r' f1 f2;have e:eqV v v'=yz d d':=by
    rw[e1,e2];cases d<;>first | (simp[flat] at hs;done) | (cases d'<;>first | (simp[flat] at hs;done) | rfl)
   rw[<-e];exact q
  ·have hu0:A.units<cLine:=by omega
   cases d with
   | tup ds =>
    unfold zO at h;obtain⟨a,xs,rfl,hsq,hd⟩:=h;cases r;obtain⟨its,rv,tp,u0⟩:=I.tuple hsq;have tp':s.heap.IsTuple a its.toArray:=tp;cases d' with
    | tup ds' =>
     unfold zO at h';obtain⟨a',xs',rfl,hsq',hd'⟩:=h';cases r';obtain⟨its',rv',tp2,u0⟩:=I.tuple hsq';by_cases ha:a=a'
     ·subst ha
      have:=I.tuple_inj hsq hsq';subst this;have hds:ds=ds':=Dens.inj I hd hd' (by simpa[flat] using f) (by simpa[flat] using f');subst hds;have e:yz (.tup ds) (.tup ds)=true:=zBV _ _ f;rw[e];exact SeqAt.EqAt.same _
     ·have q:=SeqAt.EqAt.of_refs ha (SeqAt.RcAt.tuples (A:=A) (s:=s) (e:=fun j=>yz (ds.getD j .non) (ds'.getD j .non)) tp' (show s.heap.IsTuple a' its'.toArray from tp2) hu0 fun j h1 h2=>by
       have h1':j<its.length:=by simpa using h1
       have h2':j<its'.length:=by simpa using h2
       have l1:=hd.length;have l2:=rv.length;have l3:=hd'.length;have l4:=rv'.length;obtain⟨x,ex,dx⟩:=hd.get (i:=j) (d:=ds[j]'(by omega)) (by simp);obtain⟨y,ey,dy⟩:=hd'.get (i:=j) (d:=ds'[j]'(by omega)) (by simp);obtain⟨ux,eux,rx⟩:=rv.get ex;obtain⟨uy,euy,ry⟩:=rv'.get ey;have e1:its.toArray[j]=ux:=by
        have:=(bD.mp eux).2;simpa using this
       have e2:its'.toArray[j]=uy:=by
        have:=(bD.mp euy).2;simpa using this
       have g1:ds.getD j .non=ds[j]'(by omega):=by simp[cO,(show j<ds.length by omega)]
       have g2:ds'.getD j .non=ds'[j]'(by omega):=by simp[cO,(show j<ds'.length by omega)]
       rw[e1,e2];show SeqAt.EqAt A.in1 s ux uy (yz (ds.getD j .non) (ds'.getD j .non));rw[g1,g2];refine ih _ _ x y ux uy A.in1 dx dy rx ry ?_ ?_ (by rw[in1_units];omega)
       ·have:∀ d∈ds,flat n d=true:=by simpa[flat] using f
        exact this _ (cJ _)
       ·have:∀ d∈ds',flat n d=true:=by simpa[flat] using f'
        exact this _ (cJ _))
      have e:yz (.tup ds) (.tup ds')=((bz (min its.toArray.size its'.toArray.size)).all (fun j=>yz (ds.getD j .non) (ds'.getD j .non))&&its.toArray.size==its'.toArray.size):=by
       show eqDs ds ds'=_;rw[zD8];simp[hd.length,rv.length,hd'.length,rv'.length]
      rw[e];exact q
    | adr _=>simp[flat] at f'
    | dic _=>simp[flat] at f'
    | non=>unfold zO at h';subst h';cases r';exact SeqAt.EqAt.tuple_none tp' hu0
    | bl _=>unfold zO at h';subst h';cases r';exact SeqAt.EqAt.tuple_bool _ tp' hu0
    | int _=>unfold zO at h';subst h';obtain⟨t,rfl⟩:=r';exact SeqAt.EqAt.tuple_int _ _ tp' hu0
    | str _=>unfold zO at h';subst h';obtain⟨t,rfl⟩:=r';exact SeqAt.EqAt.tuple_str _ _ tp' hu0
   | adr _=>simp[flat] at f
   | dic _=>simp[flat] at f
   | non =>
    cases d' with
    | tup ds' =>
     unfold zO at h h';subst h;cases r;obtain⟨a',xs',rfl,hsq',hd'⟩:=h';cases r';obtain⟨its',rv',tp2,u0⟩:=I.tuple hsq';exact SeqAt.EqAt.none_tuple (show s.heap.IsTuple a' its'.toArray from tp2) hu0
    | adr _=>simp[flat] at f'
    | dic _=>simp[flat] at f'
    | _=>exact absurd ⟨rfl,rfl⟩ hs
   | bl _ =>
    cases d' with
    | tup ds' =>
     unfold zO at h h';subst h;cases r;obtain⟨a',xs',rfl,hsq',hd'⟩:=h';cases r';obtain⟨its',rv',tp2,u0⟩:=I.tuple hsq';exact SeqAt.EqAt.bool_tuple _ (show s.heap.IsTuple a' its'.toArray from tp2) hu0
    | adr _=>simp[flat] at f'
    | dic _=>simp[flat] at f'
    | _=>exact absurd ⟨rfl,rfl⟩ hs
   | int _ =>
    cases d' with
    | tup ds' =>
     unfold zO at h h';subst h;obtain⟨t,rfl⟩:=r;obtain⟨a',xs',rfl,hsq',hd'⟩:=h';cases r';obtain⟨its',rv',tp2,u0⟩:=I.tuple hsq';exact SeqAt.EqAt.int_tuple _ _ (show s.heap.IsTuple a' its'.toArray from tp2) hu0
    | adr _=>simp[flat] at f'
    | dic _=>simp[flat] at f'
    | _=>exact absurd ⟨rfl,rfl⟩ hs
   | str _ =>
    cases d' with
    | tup ds' =>
     unfold zO at h h';subst h;obtain⟨t,rfl⟩:=r;obtain⟨a',xs',rfl,hsq',hd'⟩:=h';cases r';obtain⟨its',rv',tp2,u0⟩:=I.tuple hsq';exact SeqAt.EqAt.str_tuple _ _ (show s.heap.IsTuple a' its'.toArray from tp2) hu0
    | adr _=>simp[flat] at f'
    | dic _=>simp[flat] at f'
    | _=>exact absurd ⟨rfl,rfl⟩ hs
end
end
section
variable {X:Cx} {pins:List (Addr×Obj)} {σ1:L2.St} {H:Hp} {s:Shared} {A:Around}
theorem zDj(I:zU X pins σ1 H s){n:Nat}{ds ds':List D}{xs xs':List V}{its its':List Value}(hd:Dens X.K H ds xs)(hd':Dens X.K H ds' xs')(rv:zX xs its)(rv':zX xs' its')
  (f:∀ d∈ds,flat n d=true) (f':∀ d∈ds',flat n d=true) (hu:A.units+n<cLine) (j:Nat) (h1:j<its.toArray.size) (h2:j<its'.toArray.size) :
  SeqAt.EqAt A s its.toArray[j] its'.toArray[j] (yz (ds.getD j .non) (ds'.getD j .non)):=by
 have h1':j<its.length:=by simpa using h1
 have h2':j<its'.length:=by simpa using h2
 have l1:=hd.length;have l2:=rv.length;have l3:=hd'.length;have l4:=rv'.length;obtain⟨x,ex,dx⟩:=hd.get (i:=j) (d:=ds[j]'(by omega)) (by simp);obtain⟨y,ey,dy⟩:=hd'.get (i:=j) (d:=ds'[j]'(by omega)) (by simp);obtain⟨ux,eux,rx⟩:=rv.get ex;obtain⟨uy,euy,ry⟩:=rv'.get ey;have e1:its.toArray[j]=ux:=by
  have:=(bD.mp eux).2;simpa using this
 have e2:its'.toArray[j]=uy:=by
  have:=(bD.mp euy).2;simpa using this
 have g1:ds.getD j .non=ds[j]'(by omega):=by simp[cO,(show j<ds.length by omega)]
 have g2:ds'.getD j .non=ds'[j]'(by omega):=by simp[cO,(show j<ds'.length by omega)]
 rw[e1,e2,g1,g2];exact zH1 I n _ _ x y ux uy A dx dy rx ry (f _ (cJ _)) (f' _ (cJ _)) hu
theorem zA7{ds ds':List D}{n n':Nat}(h:ds.length=n)(h':ds'.length=n'):eqDs ds ds'=((bz (min n n')).all (fun j=>yz (ds.getD j .non) (ds'.getD j .non))&&n==n'):=by
 rw[zD8,h,h']
theorem zPg(I:zU X pins σ1 H s){n:Nat}{d d':D}{v v':V}{u u':Value}(h:zO X.K H d v)(h':zO X.K H d' v')(r:RelV v u)(r':RelV v' u')(f:flat n d=true)(f':flat n d'=true)(hu:A.units+n+1<cLine) :
  SeqAt.RcAt A s u u' (yz d d'):=by
 have hu0:A.units<cLine:=by omega
 have tupI:∀ {d:D} {v:V} {u:Value} {ds:List D},d=.tup ds->zO X.K H d v->RelV v u->∃ a xs its,u=.ref a/\Dens X.K H ds xs/\zX xs its/\s.heap.IsTuple a its.toArray:=fun {d v u ds} e h r=>by
  subst e;unfold zO at h;obtain⟨a,xs,rfl,hs,hd⟩:=h;cases r;obtain⟨its,rv,tp,u0⟩:=I.tuple hs;exact⟨a,xs,its,rfl,hd,rv,tp⟩
 cases d with
 | tup ds =>
  obtain⟨a,xs,its,rfl,hd,rv,tp⟩:=tupI rfl h r;cases d' with
  | tup ds' =>
   obtain⟨a',xs',its',rfl,hd',rv',tp'⟩:=tupI rfl h' r';cases n with
   | zero=>simp[flat] at f
   | succ n =>
    have q:=SeqAt.RcAt.tuples (A:=A) (s:=s) tp tp' hu0 (zDj (A:=A.in1) I hd hd' rv rv' (by simpa[flat] using f) (by simpa[flat] using f') (by rw[in1_units];omega));have e:yz (.tup ds) (.tup ds')=((bz (min its.toArray.size its'.toArray.size)).all (fun j=>yz (ds.getD j .non) (ds'.getD j .non))&&its.toArray.size==its'.toArray.size) :=
     zA7 (by simp[hd.length,rv.length]) (by simp[hd'.length,rv'.length])
    rw[e];exact q
  | adr _=>cases n<;>simp[flat] at f'
  | dic _=>cases n<;>simp[flat] at f'
  | non=>unfold zO at h';subst h';cases r';exact SeqAt.RcAt.tuple_none tp hu0
  | bl _=>unfold zO at h';subst h';cases r';exact SeqAt.RcAt.tuple_bool _ tp hu0
  | int _=>unfold zO at h';subst h';obtain⟨t,rfl⟩:=r';exact SeqAt.RcAt.tuple_int _ _ tp hu0
  | str _=>unfold zO at h';subst h';obtain⟨t,rfl⟩:=r';exact SeqAt.RcAt.tuple_str _ _ tp hu0
 | adr _=>cases n<;>simp[flat] at f
 | dic _=>cases n<;>simp[flat] at f
 | non =>
  unfold zO at h;subst h;cases r;cases d' with
  | tup ds'=>obtain⟨a',xs',its',rfl,hd',rv',tp'⟩:=tupI rfl h' r';exact SeqAt.RcAt.none_tuple tp' hu0
  | adr _=>cases n<;>simp[flat] at f'
  | dic _=>cases n<;>simp[flat] at f'
  | non=>unfold zO at h';subst h';cases r';exact SeqAt.RcAt.none_none
  | bl _=>unfold zO at h';subst h';cases r';exact SeqAt.RcAt.none_bool _
  | int _=>unfold zO at h';subst h';obtain⟨t,rfl⟩:=r';exact SeqAt.RcAt.none_int _ _
  | str _=>unfold zO at h';subst h';obtain⟨t,rfl⟩:=r';exact SeqAt.RcAt.none_str _ _
 | bl _ =>
  unfold zO at h;subst h;cases r;cases d' with
  | tup ds'=>obtain⟨a',xs',its',rfl,hd',rv',tp'⟩:=tupI rfl h' r';exact SeqAt.RcAt.bool_tuple _ tp' hu0
  | adr _=>cases n<;>simp[flat] at f'
  | dic _=>cases n<;>simp[flat] at f'
  | non=>unfold zO at h';subst h';cases r';exact SeqAt.RcAt.bool_none _
  | bl _=>unfold zO at h';subst h';cases r';exact SeqAt.RcAt.bool_bool _ _
  | int _=>unfold zO at h';subst h';obtain⟨t,rfl⟩:=r';exact SeqAt.RcAt.bool_int _ _ _
  | str _=>unfold zO at h';subst h';obtain⟨t,rfl⟩:=r';exact SeqAt.RcAt.bool_str _ _ _
 | int _ =>
  unfold zO at h;subst h;obtain⟨t,rfl⟩:=r;cases d' with
  | tup ds'=>obtain⟨a',xs',its',rfl,hd',rv',tp'⟩:=tupI rfl h' r';exact SeqAt.RcAt.int_tuple _ _ tp' hu0
  | adr _=>cases n<;>simp[flat] at f'
  | dic _=>cases n<;>simp[flat] at f'
  | non=>unfold zO at h';subst h';cases r';exact SeqAt.RcAt.int_none _ _
  | bl _=>unfold zO at h';subst h';cases r';exact SeqAt.RcAt.int_bool _ _ _
  | int _=>unfold zO at h';subst h';obtain⟨t,rfl⟩:=r';exact SeqAt.RcAt.int_int _ _ _ _
  | str _=>unfold zO at h';subst h';obtain⟨t,rfl⟩:=r';exact SeqAt.RcAt.int_str _ _ _ _
 | str _ =>
  unfold zO at h;subst h;obtain⟨t,rfl⟩:=r;cases d' with
  | tup ds'=>obtain⟨a',xs',its',rfl,hd',rv',tp'⟩:=tupI rfl h' r';exact SeqAt.RcAt.str_tuple _ _ tp' hu0
  | adr _=>cases n<;>simp[flat] at f'
  | dic _=>cases n<;>simp[flat] at f'
  | non=>unfold zO at h';subst h';cases r';exact SeqAt.RcAt.str_none _ _
  | bl _=>unfold zO at h';subst h';cases r';exact SeqAt.RcAt.str_bool _ _ _
  | int _=>unfold zO at h';subst h';obtain⟨t,rfl⟩:=r';exact SeqAt.RcAt.str_int _ _ _ _
  | str _=>unfold zO at h';subst h';obtain⟨t,rfl⟩:=r';exact SeqAt.RcAt.str_str _ _ _ _
theorem zPh(I:zU X pins σ1 H s){n:Nat}{ds ds':List D}{xs xs':List V}{a a':Addr}(hs:SqL X.K H a xs)(hd:Dens X.K H ds xs)(hs':SqL X.K H a' xs')(hd':Dens X.K H ds' xs')(f:∀ d∈ds,flat n d=true)(f':∀ d∈ds',flat n d=true)(hu:A.units+n+1<cLine) :
  SeqAt.RcAt A s (.ref a) (.ref a') (eqDs ds ds'):=by
 have hu0:A.units<cLine:=by omega
 obtain⟨its,rv,pl,u0⟩:=I.list hs;obtain⟨its',rv',pl',u0⟩:=I.list hs';have e:=zA7 (ds:=ds) (ds':=ds') (n:=its.toArray.size) (n':=its'.toArray.size) (by simp[hd.length,rv.length]) (by simp[hd'.length,rv'.length]);by_cases hl:its.toArray.size=its'.toArray.size
 ·have q:=SeqAt.RcAt.lists (A:=A) (s:=s) pl.isList pl'.isList hl hu0 (zDj (A:=A.in1) I hd hd' rv rv' f f' (by rw[in1_units];omega))
  have e':eqDs ds ds'=(bz its.toArray.size).all (fun j=>yz (ds.getD j .non) (ds'.getD j .non)):=by
   rw[e,<-hl];simp
  rw[e'];exact q
 ·have e':eqDs ds ds'=false:=by
   rw[e];have:(its.toArray.size==its'.toArray.size)=false:=by simpa using hl
   rw[this,Bool.and_false]
  rw[e'];exact SeqAt.RcAt.lists_lengths pl.isList pl'.isList (by simpa using hl) hu0
noncomputable def zPi(K:PySem.W.Frag)(ng:Bool):R2:=fun x y H Q=>(∃ d d',zO K H d x/\zO K H d' y/\flat 8 d=true/\flat 8 d'=true/\Q (.bl (if ng then !yz d d' else yz d d')) H) \/
 (∃ a a' xs xs' ds ds',x=.ref a/\y=.ref a'/\SqL K H a xs/\SqL K H a' xs'/\Dens K H ds xs/\Dens K H ds' xs'/\(∀ d∈ds,flat 8 d=true)/\(∀ d∈ds',flat 8 d=true)/\Q (.bl (if ng then !eqDs ds ds' else eqDs ds ds')) H)
theorem zLB(hu:X.A.units+10<cLine):OpR X (compareOp .Eq) (zPi X.K false):=by
 intro pins s σ H x y v u Q I rx ry h;rcases h with ⟨d,d',h1,h2,f1,f2,q⟩ | ⟨a,a',xs,xs',ds,ds',rfl,rfl,h1,h2,h3,h4,f1,f2,q⟩
 ·exact zPg (A:=X.A) I h1 h2 rx ry f1 f2 (by omega) X.prog X.w X.xe _ ⟨.bl _,H,I,rfl,q⟩
 ·cases rx;cases ry
  exact zPh (A:=X.A) I h1 h3 h2 h4 f1 f2 (by omega) X.prog X.w X.xe _ ⟨.bl _,H,I,rfl,q⟩
theorem zPj(I:zU X pins σ1 H s){n:Nat}{d d':D}{v v':V}{u u':Value}(h:zO X.K H d v)(h':zO X.K H d' v')(r:RelV v u)(r':RelV v' u')(f:flat n d=true)(f':flat n d'=true)(hu:A.units+n+1<cLine) :
  SeqAt.RcNeAt A s u u' (!yz d d'):=by
 have hu0:A.units<cLine:=by omega
 have tupI:∀ {d:D} {v:V} {u:Value} {ds:List D},d=.tup ds->zO X.K H d v->RelV v u->∃ a xs its,u=.ref a/\Dens X.K H ds xs/\zX xs its/\s.heap.IsTuple a its.toArray:=fun {d v u ds} e h r=>by
  subst e;unfold zO at h;obtain⟨a,xs,rfl,hs,hd⟩:=h;cases r;obtain⟨its,rv,tp,u0⟩:=I.tuple hs;exact⟨a,xs,its,rfl,hd,rv,tp⟩
 cases d with
 | tup ds =>
  obtain⟨a,xs,its,rfl,hd,rv,tp⟩:=tupI rfl h r;cases d' with
  | tup ds' =>
   obtain⟨a',xs',its',rfl,hd',rv',tp'⟩:=tupI rfl h' r';cases n with
   | zero=>simp[flat] at f
   | succ n =>
    have q:=SeqAt.RcNeAt.tuples (A:=A) (s:=s) tp tp' hu0 (zDj (A:=A.in1) I hd hd' rv rv' (by simpa[flat] using f) (by simpa[flat] using f') (by rw[in1_units];omega));have e:yz (.tup ds) (.tup ds')=((bz (min its.toArray.size its'.toArray.size)).all (fun j=>yz (ds.getD j .non) (ds'.getD j .non))&&its.toArray.size==its'.toArray.size) :=
     zA7 (by simp[hd.length,rv.length]) (by simp[hd'.length,rv'.length])
    rw[e];exact q
  | adr _=>cases n<;>simp[flat] at f'
  | dic _=>cases n<;>simp[flat] at f'
  | non=>unfold zO at h';subst h';cases r';exact SeqAt.RcNeAt.tuple_none tp hu0
  | bl _=>unfold zO at h';subst h';cases r';exact SeqAt.RcNeAt.tuple_bool _ tp hu0
  | int _=>unfold zO at h';subst h';obtain⟨t,rfl⟩:=r';exact SeqAt.RcNeAt.tuple_int _ _ tp hu0
  | str _=>unfold zO at h';subst h';obtain⟨t,rfl⟩:=r';exact SeqAt.RcNeAt.tuple_str _ _ tp hu0
 | adr _=>cases n<;>simp[flat] at f
 | dic _=>cases n<;>simp[flat] at f
 | non =>
  unfold zO at h;subst h;cases r;cases d' with
  | tup ds'=>obtain⟨a',xs',its',rfl,hd',rv',tp'⟩:=tupI rfl h' r';exact SeqAt.RcNeAt.none_tuple tp' hu0
  | adr _=>cases n<;>simp[flat] at f'
  | dic _=>cases n<;>simp[flat] at f'
  | non=>unfold zO at h';subst h';cases r';exact SeqAt.RcNeAt.none_none
  | bl _=>unfold zO at h';subst h';cases r';exact SeqAt.RcNeAt.none_bool _
  | int _=>unfold zO at h';subst h';obtain⟨t,rfl⟩:=r';exact SeqAt.RcNeAt.none_int _ _
  | str _=>unfold zO at h';subst h';obtain⟨t,rfl⟩:=r';exact SeqAt.RcNeAt.none_str _ _
 | bl _ =>
  unfold zO at h;subst h;cases r;cases d' with
  | tup ds'=>obtain⟨a',xs',its',rfl,hd',rv',tp'⟩:=tupI rfl h' r';exact SeqAt.RcNeAt.bool_tuple _ tp' hu0
  | adr _=>cases n<;>simp[flat] at f'
  | dic _=>cases n<;>simp[flat] at f'
  | non=>unfold zO at h';subst h';cases r';exact SeqAt.RcNeAt.bool_none _
  | bl _=>unfold zO at h';subst h';cases r';exact SeqAt.RcNeAt.bool_bool _ _
  | int _=>unfold zO at h';subst h';obtain⟨t,rfl⟩:=r';exact SeqAt.RcNeAt.bool_int _ _ _
  | str _=>unfold zO at h';subst h';obtain⟨t,rfl⟩:=r';exact SeqAt.RcNeAt.bool_str _ _ _
 | int _ =>
  unfold zO at h;subst h;obtain⟨t,rfl⟩:=r;cases d' with
  | tup ds'=>obtain⟨a',xs',its',rfl,hd',rv',tp'⟩:=tupI rfl h' r';exact SeqAt.RcNeAt.int_tuple _ _ tp' hu0
  | adr _=>cases n<;>simp[flat] at f'
  | dic _=>cases n<;>simp[flat] at f'
  | non=>unfold zO at h';subst h';cases r';exact SeqAt.RcNeAt.int_none _ _
  | bl _=>unfold zO at h';subst h';cases r';exact SeqAt.RcNeAt.int_bool _ _ _
  | int _=>unfold zO at h';subst h';obtain⟨t,rfl⟩:=r';exact SeqAt.RcNeAt.int_int _ _ _ _
  | str _=>unfold zO at h';subst h';obtain⟨t,rfl⟩:=r';exact SeqAt.RcNeAt.int_str _ _ _ _
 | str _ =>
  unfold zO at h;subst h;obtain⟨t,rfl⟩:=r;cases d' with
  | tup ds'=>obtain⟨a',xs',its',rfl,hd',rv',tp'⟩:=tupI rfl h' r';exact SeqAt.RcNeAt.str_tuple _ _ tp' hu0
  | adr _=>cases n<;>simp[flat] at f'
  | dic _=>cases n<;>simp[flat] at f'
  | non=>unfold zO at h';subst h';cases r';exact SeqAt.RcNeAt.str_none _ _
  | bl _=>unfold zO at h';subst h';cases r';exact SeqAt.RcNeAt.str_bool _ _ _
  | int _=>unfold zO at h';subst h';obtain⟨t,rfl⟩:=r';exact SeqAt.RcNeAt.str_int _ _ _ _
  | str _=>unfold zO at h';subst h';obtain⟨t,rfl⟩:=r';exact SeqAt.RcNeAt.str_str _ _ _ _
theorem zPk(I:zU X pins σ1 H s){n:Nat}{ds ds':List D}{xs xs':List V}{a a':Addr}(hs:SqL X.K H a xs)(hd:Dens X.K H ds xs)(hs':SqL X.K H a' xs')(hd':Dens X.K H ds' xs')(f:∀ d∈ds,flat n d=true)(f':∀ d∈ds',flat n d=true)(hu:A.units+n+1<cLine) :
  SeqAt.RcNeAt A s (.ref a) (.ref a') (!eqDs ds ds'):=by
 have hu0:A.units<cLine:=by omega
 obtain⟨its,rv,pl,u0⟩:=I.list hs;obtain⟨its',rv',pl',u0⟩:=I.list hs';have e:=zA7 (ds:=ds) (ds':=ds') (n:=its.toArray.size) (n':=its'.toArray.size) (by simp[hd.length,rv.length]) (by simp[hd'.length,rv'.length]);by_cases hl:its.toArray.size=its'.toArray.size
 ·have q:=SeqAt.RcNeAt.lists (A:=A) (s:=s) pl.isList pl'.isList hl hu0 (zDj (A:=A.in1) I hd hd' rv rv' f f' (by rw[in1_units];omega))
  have e':eqDs ds ds'=(bz its.toArray.size).all (fun j=>yz (ds.getD j .non) (ds'.getD j .non)):=by
   rw[e,<-hl];simp
  rw[e'];exact q
 ·have e':eqDs ds ds'=false:=by
   rw[e];have:(its.toArray.size==its'.toArray.size)=false:=by simpa using hl
   rw[this,Bool.and_false]
  rw[e'];exact SeqAt.RcNeAt.lists_lengths pl.isList pl'.isList (by simpa using hl) hu0
theorem zPl(hu:X.A.units+10<cLine):OpR X (compareOp .NotEq) (zPi X.K true):=by
 intro pins s σ H x y v u Q I rx ry h;rcases h with ⟨d,d',h1,h2,f1,f2,q⟩ | ⟨a,a',xs,xs',ds,ds',rfl,rfl,h1,h2,h3,h4,f1,f2,q⟩
 ·exact zPj (A:=X.A) I h1 h2 rx ry f1 f2 (by omega) X.prog X.w X.xe _ ⟨.bl _,H,I,rfl,q⟩
 ·cases rx;cases ry
  exact zPk (A:=X.A) I h1 h3 h2 h4 f1 f2 (by omega) X.prog X.w X.xe _ ⟨.bl _,H,I,rfl,q⟩
noncomputable def zPm(K:PySem.W.Frag)(ng:Bool):R2:=fun x y H Q=>∃ d ds a xs,zO K H d x/\y=.ref a/\(SqL K H a xs\/SqT K H a xs)/\Dens K H ds xs/\flat 8 d=true/\(∀ z∈ds,flat 8 z=true)/\Q (.bl (if ng then !ds.any fun z=>yz z d else ds.any fun z=>yz z d)) H
theorem zFJ{its:List Value}{ds:List D}(g:D->Bool)(hl:its.length=ds.length)(hinj:∀(i j:Nat) (u:Value) (z z':D),its[i]?=some u->its[j]?=some u->ds[i]?=some z->ds[j]?=some z'->z=z') :
  ∃ e:Value->Bool,(∀(j:Nat) (u:Value) (z:D),its[j]?=some u->ds[j]?=some z->e u=g z)/\its.any e=ds.any g:=by
 classical
 have key:∀(j:Nat) (u:Value) (z:D),its[j]?=some u->ds[j]?=some z->decide (∃(j:Nat) (z:D),its[j]?=some u/\ds[j]?=some z/\g z=true)=g z:=by
  intro j u z h1 h2;cases hg:g z with
  | true=>exact decide_eq_true ⟨j,z,h1,h2,hg⟩
  | false =>
   refine decide_eq_false ?_;rintro⟨j',z',h3,h4,h5⟩;rw[hinj j j' u z z' h1 h3 h2 h4,h5] at hg;cases hg
 refine⟨fun u=>decide (∃(j:Nat) (z:D),its[j]?=some u/\ds[j]?=some z/\g z=true),key,?_⟩;rw[cG,eD,eD];constructor
 ·rintro⟨u,hu,he⟩
  obtain⟨j,z,h1,h2,h3⟩:=of_decide_eq_true he;exact⟨z,bM h2,h3⟩
 ·rintro⟨z,hz,hg⟩
  obtain⟨j,hj⟩:=eV hz;have hj':j<ds.length:=(bD.mp hj).1;refine⟨its[j]'(by omega),cJ _,decide_eq_true ⟨j,z,by simp,hj,hg⟩⟩
theorem zDk(I:zU X pins σ1 H s){n:Nat}{ds:List D}{xs:List V}{its:List Value}{d:D}{v:V}{u:Value}(hd:Dens X.K H ds xs)(rv:zX xs its)(h:zO X.K H d v)(r:RelV v u)(f:∀ z∈ds,flat n z=true)(f':flat n d=true)(hu:A.units+n<cLine) :
  ∃ e:Value->Bool,(∀ y,y∈its.toArray->SeqAt.EqAt A s y u (e y))/\its.toArray.any e=ds.any fun z=>yz z d:=by
 have l1:=hd.length;have l2:=rv.length;obtain⟨e,h1,h2⟩:=zFJ (its:=its) (ds:=ds) (fun z=>yz z d) (by omega) (by
  intro i j w z z' a1 a2 a3 a4;obtain⟨x,b1,b2⟩:=hd.get a3;obtain⟨x',b3,b4⟩:=hd.get a4;obtain⟨w1,c1,c2⟩:=rv.get b1;obtain⟨w2,c3,c4⟩:=rv.get b3;rw[a1] at c1;cases c1;rw[a2] at c3;cases c3;have:=c2.inj c4;subst this;exact zO.inj I b2 b4 (f z (bM a3)) (f z' (bM a4)))
 refine⟨e,fun y hy=>?_,by simpa using h2⟩;have hy':y∈its:=by simpa using hy
 obtain⟨j,hj⟩:=eV hy';have hjl:j<its.length:=(bD.mp hj).1;obtain⟨x,b1,b2⟩:=hd.get (i:=j) (d:=ds[j]'(by omega)) (by simp);obtain⟨w1,c1,c2⟩:=rv.get b1;rw[hj] at c1;cases c1;rw[h1 j _ (ds[j]'(by omega)) hj (by simp)];exact zH1 I n _ _ x v _ u A b2 h c2 r (f _ (cJ _)) f' hu
theorem zLC(hu:X.A.units+10<cLine):OpR X (compareOp .In) (zPm X.K false):=by
 intro pins s σ H x y v u Q I rx ry h;obtain⟨d,ds,a,xs,h1,rfl,h2,h3,f1,f2,q⟩:=h;cases ry;rcases h2 with h2 | h2
 ·obtain⟨its,rv,pl,u0⟩:=I.list h2
  obtain⟨e,e1,e2⟩:=zDk (A:=X.A.in1) I h3 rv h1 rx f2 f1 (by rw[in1_units];omega);exact SeqAt.in_listAt e pl.isList e1 ⟨.bl _,H,I,rfl,by rw[e2];exact q⟩
 ·obtain⟨its,rv,tp,u0⟩:=I.tuple h2
  obtain⟨e,e1,e2⟩:=zDk (A:=X.A.in1) I h3 rv h1 rx f2 f1 (by rw[in1_units];omega);exact SeqAt.in_tupleAt e (show s.heap.IsTuple a its.toArray from tp) e1 ⟨.bl _,H,I,rfl,by rw[e2];exact q⟩
theorem zJo(hu:X.A.units+10<cLine):OpR X (compareOp .NotIn) (zPm X.K true):=by
 intro pins s σ H x y v u Q I rx ry h;obtain⟨d,ds,a,xs,h1,rfl,h2,h3,f1,f2,q⟩:=h;cases ry;rcases h2 with h2 | h2
 ·obtain⟨its,rv,pl,u0⟩:=I.list h2
  obtain⟨e,e1,e2⟩:=zDk (A:=X.A.in1) I h3 rv h1 rx f2 f1 (by rw[in1_units];omega);exact SeqAt.notIn_listAt e pl.isList e1 ⟨.bl _,H,I,rfl,by rw[e2];exact q⟩
 ·obtain⟨its,rv,tp,u0⟩:=I.tuple h2
  obtain⟨e,e1,e2⟩:=zDk (A:=X.A.in1) I h3 rv h1 rx f2 f1 (by rw[in1_units];omega);exact SeqAt.notIn_tupleAt e (show s.heap.IsTuple a its.toArray from tp) e1 ⟨.bl _,H,I,rfl,by rw[e2];exact q⟩
end
section
variable {X:Cx} {a b c e o:Expr} {es:List Expr} {pos p:Pos} {ta tb te:zj}
noncomputable def fEq(ng:Bool):D->D->Gp->Q2->Prop:=fun x y G R=>match x,y with
 | .adr l,.adr l'=>∃ ds ds',Ls G l ds/\Ls G l' ds'/\(∀ d∈ds,flat 8 d=true)/\(∀ d∈ds',flat 8 d=true)/\R (.bl (if ng then !eqDs ds ds' else eqDs ds ds')) G
 | x,y=>flat 8 x=true/\flat 8 y=true/\R (.bl (if ng then !yz x y else yz x y)) G
theorem zH2{K:PySem.W.Frag}{ng:Bool}:Fit K (zPi K ng) (fEq ng):=by
 intro dx dy G R x y H Q h r d1 d2 k;unfold fEq at h;split at h
 ·rename_i l l'
  obtain⟨ds,ds',e1,e2,f1,f2,h⟩:=h;obtain⟨xs,s1,t1⟩:=r.sq e1;obtain⟨xs',s2,t2⟩:=r.sq e2;unfold zO at d1 d2;exact .inr ⟨l,l',xs,xs',ds,ds',d1,d2,s1,s2,t1,t2,f1,f2,k _ G h _ H (.refl H) r (by unfold zO;rfl)⟩
 ·obtain⟨f1,f2,h⟩:=h
  exact .inl ⟨_,_,d1,d2,f1,f2,k _ G h _ H (.refl H) r (by unfold zO;rfl)⟩
noncomputable def fIn(ng:Bool):D->D->Gp->Q2->Prop:=fun x y G R=>match y with
 | .adr l=>∃ ds,Ls G l ds/\flat 8 x=true/\(∀ d∈ds,flat 8 d=true)/\R (.bl (if ng then !ds.any fun z=>yz z x else ds.any fun z=>yz z x)) G
 | .tup ds=>flat 8 x=true/\(∀ d∈ds,flat 8 d=true)/\R (.bl (if ng then !ds.any fun z=>yz z x else ds.any fun z=>yz z x)) G
 | _=>False
theorem zH3{K:PySem.W.Frag}{ng:Bool}:Fit K (zPm K ng) (fIn ng):=by
 intro dx dy G R x y H Q h r d1 d2 k;unfold fIn at h;split at h
 ·rename_i l
  obtain⟨ds,e1,f1,f2,h⟩:=h;obtain⟨xs,s1,t1⟩:=r.sq e1;unfold zO at d2;exact⟨dx,ds,l,xs,d1,d2,.inl s1,t1,f1,f2,k _ G h _ H (.refl H) r (by unfold zO;rfl)⟩
 ·rename_i ds
  obtain⟨f1,f2,h⟩:=h;unfold zO at d2;obtain⟨l,xs,e,s1,t1⟩:=d2;exact⟨dx,ds,l,xs,d1,e,.inr s1,t1,f1,f2,k _ G h _ H (.refl H) r (by unfold zO;rfl)⟩
 ·exact h.elim
theorem zLD{k:Nat}(hr:yR k X.A)(ha:E2 X a ta)(hb:E2 X b tb):E2 X (.Compare a [.Eq] [b] pos) (zZ (fEq false) ta tb):=zOX (zLB (by have:=hr.units;omega)) zH2 ha hb (zDC _)
theorem zRF{k:Nat}(hr:yR k X.A)(ha:E2 X a ta)(hb:E2 X b tb)(hm:autoParam (behindInMarks .In b=false) Zq4._auto_1):E2 X (.Compare a [.In] [b] pos) (zZ (fIn false) ta tb):=zOX (zLC (by have:=hr.units;omega)) zH3 ha hb hm
theorem zLE{k:Nat}(hr:yR k X.A)(ha:E2 X a ta)(hb:E2 X b tb):T2 X (.Compare a [.Eq] [b] pos) (xB (zZ (fEq false) ta tb)):=zDT (zLB (by have:=hr.units;omega)) zH2 ha hb (zDC _)
theorem zD9{k:Nat}(hr:yR k X.A)(ha:E2 X a ta)(hb:E2 X b tb):T2 X (.Compare a [.NotEq] [b] pos) (xB (zZ (fEq true) ta tb)):=zDT (zPl (by have:=hr.units;omega)) zH2 ha hb (zDC _)
theorem zSG{k:Nat}(hr:yR k X.A)(ha:E2 X a ta)(hb:E2 X b tb)(hm:autoParam (behindInMarks .In b=false) Zq4._auto_1):T2 X (.Compare a [.In] [b] pos) (xB (zZ (fIn false) ta tb)):=zDT (zLC (by have:=hr.units;omega)) zH3 ha hb hm
theorem zIt{k:Nat}(hr:yR k X.A)(ha:E2 X a ta)(hb:E2 X b tb)(hm:autoParam (behindInMarks .NotIn b=false) Zq4._auto_1):T2 X (.Compare a [.NotIn] [b] pos) (xB (zZ (fIn true) ta tb)):=zDT (zJo (by have:=hr.units;omega)) zH3 ha hb hm
noncomputable def yg:D->D->Gp->Q2->Prop:=fun x y G R=>match x,y with
 | .adr l,.int k=>∃ ds d,Ls G l ds/\atI ds k=some d/\R d G
 | .tup ds,.int k=>match atI ds k with | some d=>R d G | none=>False
 | _,_=>False
theorem zGz{K:PySem.W.Frag}{H:Hp}{ds:List D}{xs:List V}{k:Int}{d:D}(h:Dens K H ds xs)(e:atI ds k=some d):∃ x,atI xs k=some x/\zO K H d x:=by
 unfold atI at e ⊢;rw[h.length] at e;cases q:ixN xs.length k with
 | none=>rw[q] at e;cases e
 | some j =>
  rw[q] at e;exact h.get e
theorem zPn{K:PySem.W.Frag}:Fit K (fun x y H Q=>zQ4 K x y H Q\/zQ5 K x y H Q) yg:=by
 intro dx dy G R x y H Q h r d1 d2 k;unfold yg at h;split at h
 ·rename_i l i
  obtain⟨ds,d,e1,e2,h⟩:=h;obtain⟨xs,s1,t1⟩:=r.sq e1;obtain⟨z,e3,t2⟩:=zGz t1 e2;unfold zO at d1 d2;exact .inl ⟨l,xs,i,z,d1,d2,s1,e3,k _ G h _ H (.refl H) r t2⟩
 ·rename_i ds i
  split at h
  ·rename_i d e2
   unfold zO at d1 d2;obtain⟨l,xs,e,s1,t1⟩:=d1;obtain⟨z,e3,t2⟩:=zGz t1 e2;exact .inr ⟨l,xs,i,z,e,d2,s1,e3,k _ G h _ H (.refl H) r t2⟩
  ·exact h.elim
 ·exact h.elim
theorem yO(ha:E2 X a ta)(hb:E2 X b tb)(hs:autoParam (zFt b) Zq7._auto_1):E2 X (.Subscript a b pos) (zZ yg ta tb) :=
 PE.mono (zOV (zNC.or zPZ) ha hb hs) fun σ1 H Q h=>zGx zPn h
noncomputable def zJp(K:PySem.W.Frag)(r:List V->Hp->VK->Prop)(f:wV):Prop :=
 ∀ ds G R vs H Q,f ds G R->zl K G H->Dens K H ds vs->(∀ d G',R d G'->∀ v H',zn H H'->zl K G' H'->zO K H' d v->Q v H')->r vs H Q
theorem zFK{K:PySem.W.Frag}{r:List V->Hp->VK->Prop}{f:wV}{t:yh}(hf:zJp K r f){σ1:L2.St}{H:Hp}{Q:VK}(h:lE K (zJ f t) σ1 H Q):tCB r (lA K t) σ1 H Q:=by
 obtain⟨σ,G,R,rl,q,k⟩:=h;exact⟨σ,G,_,rl,q,fun ds G1 q1 vs H1 g1 r1 d1=>hf ds G1 R vs H1 Q q1 r1 d1 fun d G' q' v H' g'=>k d G' q' v H' (g1.trans g')⟩
theorem zFy{id:String}{x:Str}{r:List V->Hp->VK->Prop}{f:wV}{t:yh}(hc:wO X (.builtin id) r)(hf:zJp X.K r f)(hg:Gl X x)(hm:X.mg x=none)(hv:bootBuiltins x=some (.builtin id))(ha:A2 X (e::es) t)(hn:autoParam (x≠"__name__") Zq2._auto_1)(hdb:autoParam ((x==("__debug__":Str))=false) Zq2._auto_1)
  (he:autoParam (starEach (e::es) X.env=(false,eval e X.env)::starEach es X.env) Zq4._auto_1) (hpl:autoParam ((backTo pos (starEach es X.env)).any (·.1)=false) Zq4._auto_1):E2 X (.Call (.Name x p) (e::es) [] pos) (zJ f t) :=
 PE.mono (zCY hc hg hm hv ha hn hdb he hpl) fun σ1 H Q h=>zFK hf h
theorem zLF{T:String}{x:Str}{r:List V->Hp->VK->Prop}{f:wV}{t:yh}(hc:wO X (.type T) r)(hf:zJp X.K r f)(hg:Gl X x)(hm:X.mg x=none)(hv:bootBuiltins x=some (.type T))(ha:A2 X (e::es) t)(hn:autoParam (x≠"__name__") Zq2._auto_1)(hdb:autoParam ((x==("__debug__":Str))=false) Zq2._auto_1)
  (he:autoParam (starEach (e::es) X.env=(false,eval e X.env)::starEach es X.env) Zq4._auto_1) (hpl:autoParam ((backTo pos (starEach es X.env)).any (·.1)=false) Zq4._auto_1):E2 X (.Call (.Name x p) (e::es) [] pos) (zJ f t) :=
 PE.mono (zBl hc hg hm hv ha hn hdb he hpl) fun σ1 H Q h=>zFK hf h
noncomputable def zCb(G:Gp):D->List D->Prop
 | .tup es,ds=>es=ds
 | .adr l,ds=>Ls G l ds
 | _,_=>False
theorem zFz{K:PySem.W.Frag}{G:Gp}{H:Hp}{d:D}{v:V}{ds:List D}(r:zl K G H)(h:zO K H d v)(e:zCb G d ds):∃ l xs,v=.ref l/\(SqL K H l xs\/SqT K H l xs)/\Dens K H ds xs:=by
 cases d with
 | tup _ =>
  have e:_=ds:=e;subst e;unfold zO at h;obtain⟨l,xs,e,s1,t1⟩:=h;exact⟨l,xs,e,.inr s1,t1⟩
 | adr l =>
  unfold zO at h;obtain⟨xs,s1,t1⟩:=r.sq (show Ls G l ds from e);exact⟨l,xs,h,.inl s1,t1⟩
 | _=>exact e.elim
theorem zAF{K:PySem.W.Frag}{H:Hp}{d:D}{vs:List V}(h:Dens K H [d] vs):∃ v,vs=[v]/\zO K H d v:=by
 unfold Dens at h;obtain⟨v,r,e,h1,h2⟩:=h;unfold Dens at h2;subst h2;exact⟨v,e,h1⟩
theorem zLG{K:PySem.W.Frag}{H:Hp}{d d':D}{vs:List V}(h:Dens K H [d,d'] vs):∃ v v',vs=[v,v']/\zO K H d v/\zO K H d' v':=by
 unfold Dens at h;obtain⟨v,r,e,h1,h2⟩:=h;obtain⟨v',e2,h3⟩:=zAF h2;subst e2;exact⟨v,v',e,h1,h3⟩
noncomputable def yi:wV:=fun ds G R=>match ds with | [d]=>∃ l,zCb G d l/\R (.int l.length) G | _=>False
theorem zNN:zJp X.K (fun xs H Q=>∃ p ys,xs=[.ref p]/\(SqL X.K H p ys\/SqT X.K H p ys)/\Q (.int ys.length) H) yi:=by
 intro ds G R vs H Q h r d k;unfold yi at h;split at h
 ·rename_i d0
  obtain⟨v,rfl,d1⟩:=zAF d;obtain⟨l,e,h⟩:=h;obtain⟨a,xs,rfl,s1,t1⟩:=zFz r d1 e;exact⟨a,xs,rfl,s1,k _ G h _ H (.refl H) r (by rw[<-t1.length];unfold zO;rfl)⟩
 ·exact h.elim
theorem zBW{t:yh}(hg:Gl X "len")(hm:X.mg "len"=none)(ha:A2 X [e] t)(he:autoParam (starEach [e] X.env=(false,eval e X.env)::starEach [] X.env) Zq4._auto_1)(hpl:autoParam ((backTo pos (starEach [] X.env)).any (·.1)=false) Zq4._auto_1):E2 X (.Call (.Name "len" p) [e] [] pos) (zJ yi t):=zFy zFv zNN hg hm PySem.boot_len ha (by decide) (by decide) he hpl
noncomputable def zAa:wV:=fun ds G R=>match ds with | [.int i,.int j]=>R (.int (if j<i then j else i)) G | _=>False
noncomputable def zAu:wV:=fun ds G R=>match ds with | [.int i,.int j]=>R (.int (if j>i then j else i)) G | _=>False
theorem zLH{f:Int->Int->Int}{sp:wV}(hs:∀ ds G R,sp ds G R->∃ i j,ds=[.int i,.int j]/\R (.int (f i j)) G):zJp X.K (fun xs H Q=>∃ i j,xs=[.int i,.int j]/\Q (.int (f i j)) H) sp:=by
 intro ds G R vs H Q h r d k;obtain⟨i,j,rfl,h'⟩:=hs ds G R h;obtain⟨v,v',rfl,d1,d2⟩:=zLG d;unfold zO at d1 d2;subst d1 d2;exact⟨i,j,rfl,k _ G h' _ H (.refl H) r (by unfold zO;rfl)⟩
theorem zOa{t:yh}{e':Expr}(hc:X.calm=true)(hg:Gl X "min")(hm:X.mg "min"=none)(ha:A2 X [e,e'] t)(he:autoParam (starEach [e,e'] X.env=(false,eval e X.env)::starEach [e'] X.env) Zq4._auto_1)(hpl:autoParam ((backTo pos (starEach [e'] X.env)).any (·.1)=false) Zq4._auto_1):E2 X (.Call (.Name "min" p) [e,e'] [] pos) (zJ zAa t):=zFy (zJd hc) (zLH fun ds G R h=>by unfold zAa at h;split at h;exact⟨_,_,rfl,h⟩;exact h.elim) hg hm (by decide +kernel) ha (by decide) (by decide) he hpl
theorem zOb{t:yh}{e':Expr}(hc:X.calm=true)(hg:Gl X "max")(hm:X.mg "max"=none)(ha:A2 X [e,e'] t)(he:autoParam (starEach [e,e'] X.env=(false,eval e X.env)::starEach [e'] X.env) Zq4._auto_1)(hpl:autoParam ((backTo pos (starEach [e'] X.env)).any (·.1)=false) Zq4._auto_1):E2 X (.Call (.Name "max" p) [e,e'] [] pos) (zJ zAu t):=zFy (zJc hc) (zLH fun ds G R h=>by unfold zAu at h;split at h;exact⟨_,_,rfl,h⟩;exact h.elim) hg hm (by decide +kernel) ha (by decide) (by decide) he hpl
end
section
variable {X:Cx} {a b c e o:Expr} {es:List Expr} {pos p p2:Pos} {ta tb te to:zj} {tl:TL2}
noncomputable def zNO(K:PySem.W.Frag)(r:List V->Hp->VK->Prop)(g:wV):Prop :=
 ∀ ds G R l xs H Q,g ds G R->zl K G H->H l=some (.lst xs)->Dens K H ds xs->(∀ d G',R d G'->∀ v H',zn H H'->zl K G' H'->zO K H' d v->Q v H')->r [.ref l] H Q
noncomputable def zw(g:wV)(t:TL2):zj:=fun σ G R=>t σ G fun ds G1=>g ds G1 R
theorem zEA{K:PySem.W.Frag}{r:List V->Hp->VK->Prop}{g:wV}(hf:zNO K r g){σ1:L2.St}{H:Hp}{Q:VK}(h:lE K (zw g tl) σ1 H Q):tCB r (zOT (lL K tl) zQ0) σ1 H Q:=by
 obtain⟨σ,G,R,rl,q,k⟩:=h;exact⟨σ,G,_,rl,q,fun ds G1 q1 l xs H1 g1 r1 n e d1=>hf ds G1 R l xs H1 Q q1 r1 e d1 fun d G' q' v H' g'=>k d G' q' v H' (g1.trans g')⟩
theorem zJq{T:String}{x:Str}{r:List V->Hp->VK->Prop}{g:wV}(hc:wO X (.type T) r)(hf:zNO X.K r g)(hg:Gl X x)(hm:X.mg x=none)(hv:bootBuiltins x=some (.type T))(ha:F2 X e tl)(hn:autoParam (x≠"__name__") Zq2._auto_1)(hdb:autoParam ((x==("__debug__":Str))=false) Zq2._auto_1)
  (he:autoParam (starEach [e] X.env=(false,eval e X.env)::starEach [] X.env) Zq4._auto_1) (hpl:autoParam ((backTo pos (starEach [] X.env)).any (·.1)=false) Zq4._auto_1):E2 X (.Call (.Name x p) [e] [] pos) (zw g tl) :=
 PE.mono (zBl hc hg hm hv (zBk ha zDD he) hn hdb he hpl) fun σ1 H Q h=>zEA hf h
theorem zLI{id:String}{x:Str}{r:List V->Hp->VK->Prop}{g:wV}(hc:wO X (.builtin id) r)(hf:zNO X.K r g)(hg:Gl X x)(hm:X.mg x=none)(hv:bootBuiltins x=some (.builtin id))(ha:F2 X e tl)(hn:autoParam (x≠"__name__") Zq2._auto_1)(hdb:autoParam ((x==("__debug__":Str))=false) Zq2._auto_1)
  (he:autoParam (starEach [e] X.env=(false,eval e X.env)::starEach [] X.env) Zq4._auto_1) (hpl:autoParam ((backTo pos (starEach [] X.env)).any (·.1)=false) Zq4._auto_1):E2 X (.Call (.Name x p) [e] [] pos) (zw g tl) :=
 PE.mono (zCY hc hg hm hv (zBk ha zDD he) hn hdb he hpl) fun σ1 H Q h=>zEA hf h
noncomputable def yM:wV:=fun ds G R=>R (.tup ds) G
theorem zH4{K:PySem.W.Frag}:zNO K (fun xs H Q=>∃ p ys,xs=[.ref p]/\((SqL K H p ys/\∀ l,H l=none->Q (.ref l) (ye H l (.tup ys)))\/(SqT K H p ys/\Q (.ref p) H))) yM:=by
 intro ds G R l xs H Q h r e d k;refine⟨l,xs,rfl,.inl ⟨.of e,fun l' n=>k _ G h _ _ (.fresh n) (r.fresh n) ?_⟩⟩;unfold zO;exact⟨l',xs,rfl,.of zf,d.grow (.fresh n)⟩
theorem zA8(hg:Gl X "tuple")(hm:X.mg "tuple"=none)(ha:F2 X e tl)(he:autoParam (starEach [e] X.env=(false,eval e X.env)::starEach [] X.env) Zq4._auto_1)(hpl:autoParam ((backTo pos (starEach [] X.env)).any (·.1)=false) Zq4._auto_1) :
  E2 X (.Call (.Name "tuple" p) [e] [] pos) (zw yM tl):=zJq zB9 zH4 hg hm (by decide +kernel) ha (by decide) (by decide) he hpl
noncomputable def zCc:wV:=fun ds G R=>match ds with | [d]=>∃ l,zCb G d l/\R (.tup l) G | _=>False
theorem zJr{K:PySem.W.Frag}:zJp K (fun xs H Q=>∃ p ys,xs=[.ref p]/\((SqL K H p ys/\∀ l,H l=none->Q (.ref l) (ye H l (.tup ys)))\/(SqT K H p ys/\Q (.ref p) H))) zCc:=by
 intro ds G R vs H Q h r d k;unfold zCc at h;split at h
 ·rename_i d0
  obtain⟨v,rfl,d1⟩:=zAF d;obtain⟨l,e,h⟩:=h;obtain⟨a,xs,rfl,s1,t1⟩:=zFz r d1 e;rcases s1 with s1 | s1
  ·refine⟨a,xs,rfl,.inl ⟨s1,fun l' n=>k _ G h _ _ (.fresh n) (r.fresh n) ?_⟩⟩
   unfold zO;exact⟨l',xs,rfl,.of zf,t1.grow (.fresh n)⟩
  ·refine⟨a,xs,rfl,.inr ⟨s1,k _ G h _ H (.refl H) r ?_⟩⟩
   unfold zO;exact⟨a,xs,rfl,s1,t1⟩
 ·exact h.elim
theorem zIu{t:yh}(hg:Gl X "tuple")(hm:X.mg "tuple"=none)(ha:A2 X [e] t)(he:autoParam (starEach [e] X.env=(false,eval e X.env)::starEach [] X.env) Zq4._auto_1)(hpl:autoParam ((backTo pos (starEach [] X.env)).any (·.1)=false) Zq4._auto_1) :
  E2 X (.Call (.Name "tuple" p) [e] [] pos) (zJ zCc t):=zLF zB9 zJr hg hm (by decide +kernel) ha (by decide) (by decide) he hpl
theorem zBX:∀ {xs:List V} {us:List Value},xs.length=us.length->(∀(i:Nat) (x:V) (u:Value),xs[i]?=some x->us[i]?=some u->RelV x u)->zX xs us
 | [],[],_,_=>.nil
 | [],_::_,h,_=>by cases h
 | _::_,[],h,_=>by cases h
 | x::xs,u::us,h,g=>.cons (g 0 x u rfl rfl) (zBX (by simpa using h) fun i y w e1 e2=>g (i+1) y w (by simpa using e1) (by simpa using e2))
theorem Dens.ints_inv{K:PySem.W.Frag}{H:Hp}:∀ {ns:List Int} {xs:List V},Dens K H (ns.map D.int) xs->xs=ns.map V.int
 | [],xs,h=>by unfold Dens at h;exact h
 | n::r,xs,h=>by
  rw[cz] at h;unfold Dens at h;obtain⟨x,y,rfl,h1,h2⟩:=h;unfold zO at h1;rw[h1,Dens.ints_inv h2];rfl
theorem zFL{t:TA}(hg:Gl X "range")(hm:X.mg "range"=none)(ha:PA X [a] t)(hs:autoParam (starEach [a] X.env=[(false,eval a X.env)]) Zq4._auto_1) :
  PE X (.Call (.Name "range" p) [a] [] pos) (fun σ H Q=>t σ H fun vs H1=>∃ j:Int,vs=[.int j]/\∀ l,H1 l=none->Q (.ref l) (ye H1 l (.rng 0 j))):=by
 intro pins s σ H Q I h;refine Call_ (zAB I hg hm boot_range (PyProof.Rows.callWith_type1 (yU (ha pos pins s σ H _ I h) fun us s1 ⟨vs,H1,I1,r1,q1⟩=>?_) hs rfl));obtain⟨j,e,q⟩:=q1;subst e;cases r1 with
 | cons r rr =>
  cases rr;obtain⟨t,rfl⟩:=r;refine call_range_1 ?_;have hn:H1 s1.heap.objs.size=none:=I1.hok.fresh (bE _);exact⟨.ref s1.heap.objs.size,_,I1.laid (o:=.rng 0 j) (fun b u e=>bn _ e) (bE _) ⟨_,_,_,bB _ rfl⟩,rfl,q _ hn⟩
theorem zH5(hc:X.calm=true):wO X (.type "list") (fun xs H Q=>∃ p j,xs=[.ref p]/\H p=some (.rng 0 j)/\(0<=j/\j<=1000000)/\∀ l,H l=none->Q (.ref l) (ye H l (.lst ((bz j.toNat).map fun(k:Nat)=>V.int k)))):=by
 intro pins s σ H xs us Q I r h;obtain⟨p,j,rfl,hp,⟨h0,h1⟩,q⟩:=h;obtain⟨u,rfl,rx⟩:=vals1 r;cases rx;obtain⟨t1,t2,t3,ho⟩:∃ t u v,s.heap.get? p=some { cls:=.type "range",data:=.fields #[.int 0 t,.int j u,.int 1 v] }:=I.hok p _ hp;have hsz:Builtin.Range.rangeSize 0 j 1=((j.toNat:Nat):Int):=by rw[rangeSize_one];split<;>omega
 refine call_list_range (I.ok.hd hc) (show IsRange s.heap p 0 j 1 t1 t2 t3 from ho) (small_one (by omega) (by omega) (by omega) (by omega)) hsz (by omega) fun h' tk acc' c' kp e hacc=>?_;have hn:H s.heap.objs.size=none:=I.hok.fresh (bE _);refine⟨.ref s.heap.objs.size,_,I.laid (o:=.lst ((bz j.toNat).map fun(k:Nat)=>V.int k)) kp (bE _) ?_,rfl,q _ hn⟩;refine⟨?_,acc'.toList,c',?_,by rw[e]⟩
 ·rw[bA,ck,sizeLine_eq];omega
 ·refine zBX (by simp[hacc.1]) fun i x v e1 e2=>?_
  have e2':acc'[i]?=some v:=by simpa using e2
  obtain⟨t,rfl⟩:=hacc.2 i v e2';rw[cb] at e1;cases q':(bz j.toNat)[i]? with
  | none=>rw[q'] at e1;cases e1
  | some k =>
   rw[q'] at e1;cases e1;have hk:k=i:=by
    have:=(bD.mp q').2;simpa using this.symm
   subst hk;refine⟨t,?_⟩;congr 1;omega
noncomputable def zEB(t:yh):TL2:=fun σ G R=>t σ G fun ds G1=>match ds with | [.int j]=>(0<=j/\j<=1000000)/\R (yI 0 j.toNat) G1 | _=>False
theorem zIv{t:yh}{pos':Pos}(hc:X.calm=true)(hg:Gl X "list")(hm:X.mg "list"=none)(hg2:Gl X "range")(hm2:X.mg "range"=none)(ha:A2 X [a] t)(hs:autoParam (starEach [a] X.env=[(false,eval a X.env)]) Zq4._auto_1)
  (he:autoParam (starEach [.Call (.Name "range" p2) [a] [] pos] X.env=(false,eval (.Call (.Name "range" p2) [a] [] pos) X.env)::starEach [] X.env) Zq4._auto_1) (hpl:autoParam ((backTo pos' (starEach [] X.env)).any (·.1)=false) Zq4._auto_1) :
  F2 X (.Call (.Name "list" p) [.Call (.Name "range" p2) [a] [] pos] [] pos') (zEB t):=by
 refine PE.mono (zBl (zH5 hc) hg hm (by decide +kernel) (zBk (zFL hg2 hm2 ha hs) zDD he) (by decide) (by decide) he hpl) ?_;rintro σ1 H Q ⟨σ,G,R,rl,q,k⟩;refine⟨σ,G,_,rl,q,fun ds G1 q1 vs H1 g1 r1 d1=>?_⟩;split at q1
 ·rename_i j
  obtain⟨v,rfl,d2⟩:=zAF d1;unfold zO at d2;subst d2;refine⟨j,rfl,fun l n=>⟨l,j,rfl,zf,q1.1,fun l' n'=>?_⟩⟩;have g2:zn H1 (ye H1 l (.rng 0 j)):=.fresh n;have r2:=r1.fresh (o:=.rng 0 j) n;refine k _ G1 q1.2 l' _ _ ((g1.trans g2).trans (.fresh n')) (r2.fresh n') (r2.free n') zf ?_;have:(bz j.toNat).map (fun(k:Nat)=>V.int k)=((bz j.toNat).map fun(k:Nat)=>(k:Int)).map V.int:=by simp
  rw[this];have e2:yI 0 j.toNat=((bz j.toNat).map fun(k:Nat)=>(k:Int)).map D.int:=by simp[yI]
  rw[e2];exact Dens.ints _
 ·exact q1.elim
noncomputable def zPo(ta tb:zj):TL2:=fun σ G R=>ta σ G fun x G1=>tb σ G1 fun y G2=>match x,y with
 | .adr l,.int k=>match G2.m l with
  | some ds=>(0<=k/\k<=1000)/\ds.length<=1000/\R ((bP k.toNat ds).flatten) G2
  | none=>False
 | _,_=>False
theorem Dens.rep{K:PySem.W.Frag}{H:Hp}{ds:List D}{xs:List V}(h:Dens K H ds xs):∀ n:Nat,Dens K H (bP n ds).flatten (bP n xs).flatten
 | 0=>.nil
 | n+1=>by
  rw[bo,dQ,bo,dQ];exact h.append (Dens.rep h n)
theorem zRG(ha:E2 X a ta)(hb:E2 X b tb):F2 X (.BinOp a .Mult b pos) (zPo ta tb):=by
 refine PE.mono (zKv zPc ha hb) ?_;rintro σ1 H Q ⟨σ,G,R,rl,q,k⟩;refine⟨σ,G,_,rl,q,fun dx G1 q1 x H1 g1 r1 d1=>⟨σ,G1,_,rl.to g1 r1,q1,fun dy G2 q2 y H2 g2 r2 d2=>?_⟩⟩;split at q2
 ·rename_i l i
  split at q2
  ·rename_i ds e
   obtain⟨⟨h0,h1⟩,hz,q3⟩:=q2;have d1':=d1.grow g2;unfold zO at d1' d2;subst d1' d2;obtain⟨xs,e1,e2⟩:=r2.m l ds e;have hlen:=e2.length;refine⟨l,i,xs,rfl,rfl,e1,by omega,by omega,?_,fun l' n'=>?_⟩
   ·have h3:i.toNat<=1000:=by omega
    have h4:xs.length<=1000:=by omega
    have:=Nat.mul_le_mul h4 h3;rw[sizeLine_eq];omega
   ·exact k _ G2 q3 l' _ _ ((g1.trans g2).trans (.fresh n')) (r2.fresh n') (r2.free n') zf ((e2.rep i.toNat).grow (.fresh n'))
  ·exact q2.elim
 ·exact q2.elim
noncomputable def zEC(to:zj)(t:yh):zj:=fun σ G R=>to σ G fun x G1=>match x with
 | .adr l=>match G1.m l with
  | some _=>t σ G1 fun ds G2=>match ds with
   | [d]=>(match G2.m l with | some xs=>xs.length<=1000000/\R .non (zd G2 l (xs++[d])) | none=>False)
   | _=>False
  | none=>False
 | _=>False
theorem zBY{t:yh}{apos:Pos}(ho:E2 X o to)(ha:A2 X [e] t)
  (hbase:autoParam (attributeBase o "append" X.env (eval o X.env)=eval o X.env) Zq4._auto_1)
  (hfew:autoParam (((backTo pos (starEach [e] X.env)).all (fun x=>!x.1)&&(backToKw pos (keywordEach [] X.env)).all (fun x=>x.1.isSome)
   && decide ([e].length+([]:List Keyword).length+(if ([]:List Keyword).isEmpty then 0 else 1)<30))=true) Zq4._auto_1)
  (hline:autoParam ((apos.endLine==pos.line)=true) Zq4._auto_1) (hs:autoParam (starEach [e] X.env=(false,eval e X.env)::starEach [] X.env) Zq4._auto_1) (hplain:autoParam ((backTo pos (starEach [] X.env)).any (·.1)=false) Zq4._auto_1) :
  E2 X (.Call (.Attribute o "append" apos) [e] [] pos) (zEC to t):=by
 refine PE.mono (zK0 PySem.F.plainAttrs_list PySem.F.slot_list_append PySem.F.type_list_append zFD ho ha hbase hfew hline hs hplain) ?_;rintro σ1 H Q ⟨σ,G,R,rl,q,k⟩;refine⟨σ,G,_,rl,q,fun dx G1 q1 x H1 g1 r1 d1=>?_⟩;split at q1
 ·rename_i l
  split at q1
  ·rename_i ds0 e0
   unfold zO at d1;subst d1;obtain⟨xs0,a1,a2⟩:=r1.m l ds0 e0;refine⟨.inl ⟨rfl,xs0,.of a1⟩,σ,G1,_,rl.to g1 r1,q1,fun ds G2 q2 vs H2 g2 r2 d2=>?_⟩;split at q2
   ·rename_i d
    split at q2
    ·rename_i xs e1
     obtain⟨v,rfl,d3⟩:=zAF d2;obtain⟨ys,b1,b2⟩:=r2.m l xs e1;have hlen:=b2.length;refine⟨l,ys,v,rfl,rfl,b1,by rw[sizeLine_eq];omega,?_⟩;exact k _ _ q2.2 _ _ ((g1.trans g2).trans (.lst b1)) (r2.put b1 (b2.append (.cons d3 .nil))) (by unfold zO;rfl)
    ·exact q2.elim
   ·exact q2.elim
  ·exact q1.elim
 ·exact q1.elim
noncomputable def zNP(to:zj)(t:TL2):zj:=fun σ G R=>to σ G fun x G1=>match x with
 | .adr l=>match G1.m l with
  | some _=>t σ G1 fun zs G2=>match G2.m l with | some xs=>xs.length+zs.length<=1000000/\R .non (zd G2 l (xs++zs)) | none=>False
  | none=>False
 | _=>False
theorem zLJ{apos:Pos}(ho:E2 X o to)(ha:F2 X e tl)
  (hbase:autoParam (attributeBase o "extend" X.env (eval o X.env)=eval o X.env) Zq4._auto_1)
  (hfew:autoParam (((backTo pos (starEach [e] X.env)).all (fun x=>!x.1)&&(backToKw pos (keywordEach [] X.env)).all (fun x=>x.1.isSome)
   && decide ([e].length+([]:List Keyword).length+(if ([]:List Keyword).isEmpty then 0 else 1)<30))=true) Zq4._auto_1)
  (hline:autoParam ((apos.endLine==pos.line)=true) Zq4._auto_1) (hs:autoParam (starEach [e] X.env=(false,eval e X.env)::starEach [] X.env) Zq4._auto_1) (hplain:autoParam ((backTo pos (starEach [] X.env)).any (·.1)=false) Zq4._auto_1) :
  E2 X (.Call (.Attribute o "extend" apos) [e] [] pos) (zNP to tl):=by
 refine PE.mono (zK0 PySem.F.plainAttrs_list PySem.F.slot_list_extend PySem.F.type_list_extend zJg ho (zBk ha zDD hs) hbase hfew hline hs hplain) ?_;rintro σ1 H Q ⟨σ,G,R,rl,q,k⟩;refine⟨σ,G,_,rl,q,fun dx G1 q1 x H1 g1 r1 d1=>?_⟩;split at q1
 ·rename_i l
  split at q1
  ·rename_i ds0 e0
   unfold zO at d1;subst d1;obtain⟨xs0,a1,a2⟩:=r1.m l ds0 e0;refine⟨.inl ⟨rfl,xs0,.of a1⟩,σ,G1,_,rl.to g1 r1,q1,fun zs G2 q2 l2 ys H2 g2 r2 n2 e2 d2=>?_⟩;split at q2
   ·rename_i xs e1
    obtain⟨ws,b1,b2⟩:=r2.m l xs e1;have hl1:=b2.length;have hl2:=d2.length;refine⟨l,l2,ws,ys,rfl,rfl,b1,e2,by rw[sizeLine_eq];omega,?_⟩;exact k _ _ q2.2 _ _ ((g1.trans g2).trans (.lst b1)) (r2.put b1 (b2.append d2)) (by unfold zO;rfl)
   ·exact q2.elim
  ·exact q1.elim
 ·exact q1.elim
noncomputable def zLK(to:zj)(t:yh):zj:=fun σ G R=>to σ G fun x G1=>match x with
 | .adr l=>match G1.m l with
  | some _=>t σ G1 fun ds G2=>match ds with
   | [.int i]=>(match G2.m l with
    | some xs=>(0<=i/\i<xs.length/\i<=1000000)/\(match xs[i.toNat]? with | some d=>R d (zd G2 l (xs.eraseIdx i.toNat)) | none=>False)
    | none=>False)
   | _=>False
  | none=>False
 | _=>False
theorem zOc{t:yh}{apos:Pos}(ho:E2 X o to)(ha:A2 X [e] t)
  (hbase:autoParam (attributeBase o "pop" X.env (eval o X.env)=eval o X.env) Zq4._auto_1)
  (hfew:autoParam (((backTo pos (starEach [e] X.env)).all (fun x=>!x.1)&&(backToKw pos (keywordEach [] X.env)).all (fun x=>x.1.isSome)
   && decide ([e].length+([]:List Keyword).length+(if ([]:List Keyword).isEmpty then 0 else 1)<30))=true) Zq4._auto_1)
  (hline:autoParam ((apos.endLine==pos.line)=true) Zq4._auto_1) (hs:autoParam (starEach [e] X.env=(false,eval e X.env)::starEach [] X.env) Zq4._auto_1) (hplain:autoParam ((backTo pos (starEach [] X.env)).any (·.1)=false) Zq4._auto_1) :
  E2 X (.Call (.Attribute o "pop" apos) [e] [] pos) (zLK to t):=by
 refine PE.mono (zK0 PySem.F.plainAttrs_list PySem.F.slot_list_pop PySem.F.type_list_pop zK1 ho ha hbase hfew hline hs hplain) ?_;rintro σ1 H Q ⟨σ,G,R,rl,q,k⟩;refine⟨σ,G,_,rl,q,fun dx G1 q1 x H1 g1 r1 d1=>?_⟩;split at q1
 ·rename_i l
  split at q1
  ·rename_i ds0 e0
   unfold zO at d1;subst d1;obtain⟨xs0,a1,a2⟩:=r1.m l ds0 e0;refine⟨.inl ⟨rfl,xs0,.of a1⟩,σ,G1,_,rl.to g1 r1,q1,fun ds G2 q2 vs H2 g2 r2 d2=>?_⟩;split at q2
   ·rename_i i
    split at q2
    ·rename_i xs e1
     obtain⟨⟨h0,h1,h9⟩,q2⟩:=q2;split at q2
     ·rename_i d e2
      obtain⟨v,rfl,d3⟩:=zAF d2;unfold zO at d3;subst d3;obtain⟨ys,b1,b2⟩:=r2.m l xs e1;have hlen:=b2.length;obtain⟨z,c1,c2⟩:=b2.get e2;refine⟨l,ys,i,i.toNat,z,rfl,rfl,b1,by omega,by omega,?_,c1,?_⟩
      ·have hi:¬ i<0:=by omega
       unfold seqIndex?;simp only[if_neg hi];rw[if_pos (by rw[dN];exact⟨decide_eq_true h0,decide_eq_true (by omega)⟩)]
      ·exact k _ _ q2 _ _ ((g1.trans g2).trans (.lst b1)) (r2.put b1 (b2.eraseIdx i.toNat)) (c2.grow (.lst b1))
     ·exact q2.elim
    ·exact q2.elim
   ·exact q2.elim
  ·exact q1.elim
 ·exact q1.elim
noncomputable def zEw(i:Nat)(te:zj)(f:Int->Int->Int):yS:=fun E σ G=>match look σ i with
 | some (.int a)=>te σ G fun y G1=>match y with | .int b=>E.nx (σ.set i (some (.int (f a b)))) G1 | _=>False
 | _=>False
theorem zLL(i:Nat){x:Str}{pos':Pos}(hN:X.N.Nodup)(he:E2 X e te)(hi:autoParam (X.N[i]?=some x) Zq4._auto_1)(hx:autoParam (Loc X.env.scope x) Zq6._auto_1)(hf:autoParam (X.fn x=true\/X.env.scope.names.lookup x=some .local) Zq1._auto_1) :
  P2 X (.AugAssign (.Name x pos') .Add e pos) (zEw i te fun a b=>a+b):=by
 refine PS.mono (L2.zPG hN hi hx he zPH hf) ?_;rintro E σ1 H ⟨σ,G,D2,r,q,k⟩;unfold zEw at q;split at q
 ·rename_i a e1
  obtain⟨v,e2,d2⟩:=r.val i _ (zD3 e1);unfold zO at d2;subst d2;refine⟨_,e2,σ,G,_,r,q,fun d G1 q1 v H1 g1 r1 d1=>?_⟩;cases d with
  | int b =>
   unfold zO at d1;subst d1;exact⟨a,b,rfl,rfl,k.nx _ G1 q1 _ H1 g1 ((r.to g1 r1).set i (by unfold zO;rfl))⟩
  | _=>exact q1.elim
 ·exact q.elim
noncomputable def zLM(tc:TT2)(tb:yS):yS:=fun E σ G=>∃ Pv:Nat->S2->Gp->Prop,(∃ m,Pv m σ G)/\∀ m σ G,Pv m σ G->tc σ G fun b G1=>if b=true then tb { E with nx:=Fg fun σ' G'=>∃ m',m'<m/\Pv m' σ' G',ct:=Fg fun σ' G'=>∃ m',m'<m/\Pv m' σ' G',bk:=E.nx } σ G1 else E.nx σ G1
theorem zNQ{tc:TT2}{tb:yS}{body:List Stmt}(hp:PassesOwn (model X.prog X.w) X.A X.env X.xe)(hc:T2 X c tc)(hb:Ps2 X body tb):P2 X (.While c body [] pos) (zLM tc tb):=by
 refine PS.mono (L2.zKt hp hc hb) ?_;rintro E σ1 H ⟨σ,G,D2,r,⟨Pv,⟨m0,p0⟩,pt⟩,k⟩;refine⟨fun m σ1' H'=>zn H H'/\∃ σ' G',Rel X.K σ' G' σ1' H'/\Pv m σ' G',⟨m0,.refl H,σ,G,r,p0⟩,?_⟩;rintro m σ1' H' ⟨g',σ',G',r',p'⟩;refine⟨σ',G',_,r',pt m σ' G' p',fun b G1 q1 H1 g1 r1=>?_⟩;cases b with
 | false=>exact k.nx _ G1 q1 _ H1 (g'.trans g1) (r'.to g1 r1)
 | true =>
  refine⟨fun σ1'' H''=>∃ m',m'<m/\(zn H H''/\∃ σ'' G'',Rel X.K σ'' G'' σ1'' H''/\Pv m' σ'' G''),fun σ1'' H'' h=>h,σ',G1,_,r'.to g1 r1,q1,?_⟩;have back:∀ σ3 G3,Fg (fun σ' G'=>∃ m',m'<m/\Pv m' σ' G') σ3 G3->∀ σ13 H3,zn H1 H3->Rel X.K σ3 G3 σ13 H3->∃ m',m'<m/\(zn H H3/\∃ σ'' G'',Rel X.K σ'' G'' σ13 H3/\Pv m' σ'' G''):=by
   rintro σ3 G3 ⟨σ4,G4,a1,a2,m',hm,a3⟩ σ13 H3 g3 r3;exact⟨m',hm,(g'.trans g1).trans g3,σ4,G4,r3.sub a1 a2,a3⟩
  exact⟨back,fun σ3 G3 q3 σ13 H3 g3 r3=>k.nx σ3 G3 q3 σ13 H3 ((g'.trans g1).trans g3) r3,back,fun d3 G3 q3 v3 H3 g3 r3 dv=>k.rt d3 G3 q3 v3 H3 ((g'.trans g1).trans g3) r3 dv⟩
end
section
variable {P:Program} {w:World} {K:PySem.W.Frag} {mg:Str->Option Value} {base:Heap}
noncomputable def FgR(R:Q2):Q2:=fun d G=>∃ G',Sub G' G/\R d G'
theorem FgR.of{R:Q2}{d:D}{G:Gp}(h:R d G):FgR R d G:=⟨G,.refl G,h⟩
noncomputable def zW(N:List Str)(ds:List D):S2:=ds.map some++bP (N.length-ds.length) none
theorem zFM{N:List Str}{ds:List D}{vs:List V}{G:Gp}{H:Hp}(r:zl K G H)(d:Dens K H ds vs):Rel K (zW N ds) G (L2.start N vs) H :=
 ⟨r,by simp[zW,L2.start,d.length],fun i x e=>by
  unfold zW at e;unfold L2.start;by_cases hi:i<ds.length
  ·rw[cr (by simpa using hi),cb] at e
   cases q:ds[i]? with
   | none=>rw[q] at e;cases e
   | some y =>
    rw[q] at e;cases e;obtain⟨v,e1,e2⟩:=d.get q;refine⟨v,?_,e2⟩;rw[cr (by rw[bA,<-d.length];exact hi),cb,e1];rfl
  ·rw[cL (by simpa using hi),List.getElem?_replicate] at e
   split at e<;>cases e⟩
theorem zRH{x qual:Str}{st:Stmt}{f:Addr}{fd:FuncData}{N ps:List Str}{k:Nat}{sp:wV}(F:Fun K x qual st f fd)(S:zY N ps (zG st))(hm:mg x=some (.ref f))(hb:Binds K fd ps [])(len:∀ ds G R,sp ds G R->ds.length=ps.length)
  (hbody:∀(cdv:Value) (A:Around) (outer:List Env) (s:Shared) (H:Hp) (E:XK),yR k (A.deeper (envOfC qual (zG st) s.heap.objs.size f cdv)) ->
   ∃ t,Ps2 (zFs CX0 P w K mg base N qual (zG st) f cdv A outer s H E).nox (zV st) t/\∀ ds G R,sp ds G R->t { nx:=fun u0 G'=>FgR R .non G',rt:=FgR R } (zW N ds) G):Df P w K mg base (k+1) x ps sp:=by
 refine⟨f,fd,F.ok S ?_ ?_,hm,F.kp,hb⟩
 ·rintro vs H Q E ⟨ds,G,R,d,r,h,u0⟩
  rw[<-d.length];exact len ds G R h
 ·intro cdv A outer s H vs Q E hr h
  obtain⟨ds,G,R,d,r,h,kk⟩:=h;obtain⟨t,ht,q⟩:=hbody cdv A outer s H E hr;refine⟨_,ht,zW N ds,G,_,zFM r d,q ds G R h,⟨?_,?_,?_,?_⟩⟩
  ·rintro σ G' ⟨G'',s',q'⟩ σ1 H' g' r'
   exact kk _ G'' q' _ H' g' (r'.g.sub s') (by unfold zO;rfl)
  ·intro σ G' h;exact h.elim
  ·intro σ G' h;exact h.elim
  ·rintro d' G' ⟨G'',s',q'⟩ v H' g' r' dv
   exact kk _ G'' q' _ H' g' (r'.sub s') dv
noncomputable abbrev zg(R:Q2):yF:={ nx:=fun u0 G'=>FgR R .non G',rt:=FgR R }
theorem zr{x qual:Str}{st:Stmt}{f:Addr}{fd:FuncData}{N ps:List Str}{k:Nat}{sp:wV}(t:yS)(F:Fun K x qual st f fd)(S:zY N ps (zG st))(hm:mg x=some (.ref f))(hb:Binds K fd ps [])
  (ht:∀(cdv:Value) (A:Around) (outer:List Env) (s:Shared) (H:Hp) (E:XK),yR k (A.deeper (envOfC qual (zG st) s.heap.objs.size f cdv))->Ps2 (zFs CX0 P w K mg base N qual (zG st) f cdv A outer s H E).nox (zV st) t)
  (hs:∀ ds G R,sp ds G R->ds.length=ps.length/\t (zg R) (zW N ds) G):Df P w K mg base (k+1) x ps sp :=
 zRH F S hm hb (fun ds G R h=>(hs ds G R h).1) fun cdv A outer s H E hr=>⟨t,ht cdv A outer s H E hr,fun ds G R h=>(hs ds G R h).2⟩
theorem zPp{x qual:Str}{st:Stmt}{f:Addr}{fd:FuncData}{N ps:List Str}{k:Nat}{sp:wV}(t:yS)(F:Fun K x qual st f fd)(S:zY N ps (zG st))
  (ht:∀(cdv:Value) (A:Around) (outer:List Env) (s:Shared) (H:Hp) (E:XK),yR k (A.deeper (envOfC qual (zG st) s.heap.objs.size f cdv))->Ps2 (zFs CX0 P w K mg base N qual (zG st) f cdv A outer s H E).nox (zV st) t)
  (hs:∀ ds G R,sp ds G R->ds.length=ps.length/\t (zg R) (zW N ds) G):zCX P w K mg base CX0 (k+1) f fd ps (lSp K sp):=by
 refine F.ok S ?_ ?_
 ·rintro vs H Q E ⟨ds,G,R,d,r,h,u0⟩
  rw[<-d.length];exact(hs ds G R h).1
 ·intro cdv A outer s H vs Q E hr h
  obtain⟨ds,G,R,d,r,h,kk⟩:=h;refine⟨_,ht cdv A outer s H E hr,zW N ds,G,_,zFM r d,(hs ds G R h).2,⟨?_,?_,?_,?_⟩⟩
  ·rintro σ G' ⟨G'',s',q'⟩ σ1 H' g' r'
   exact kk _ G'' q' _ H' g' (r'.g.sub s') (by unfold zO;rfl)
  ·intro σ G' h;exact h.elim
  ·intro σ G' h;exact h.elim
  ·rintro d' G' ⟨G'',s',q'⟩ v H' g' r' dv
   exact kk _ G'' q' _ H' g' (r'.sub s') dv
end
noncomputable def zFN(osc sc:Scope):List (Str×NameKind):=sc.names.map fun(n,k)=>if (k==NameKind.free&&osc.kind==.function&&osc.names.lookup n==some .cell) then (n,NameKind.cell) else (n,k)
noncomputable def zPq(ns:List (Str×NameKind))(x:Str):Bool:=match ns.lookup x with | some .local=>true | some .cell=>true | some .free=>true | _=>false
noncomputable def zOd(osc sc:Scope)(N N0 own:List Str):Bool :=
 decide (sc.kind=.function)&&sc.names.all (fun y=>decide (y.2≠.cell))&&sc.names.all (fun y=>decide (y.2=.local->sc.names.lookup y.1=some .local))
 && sc.names.all (fun y=>decide (y.2=.free->osc.names.lookup y.1=some .cell\/osc.names.lookup y.1=some .free))
 && decide (N0.length=N.length)&&(bz N0.length).all (fun i=>match N0[i]? with | some x=>!zPq (zFN osc sc) x||decide (N[i]?=some x/\sc.names.lookup x=some .free) | none=>true)
 && decide ((N0++own).Nodup)&&own.all (fun x=>decide ((zFN osc sc).lookup x=some .local))
structure zLN (X:Cx) (sc:Scope) (N0 own:List Str):Prop where
 ok:zDF X sc N0
 nd:(N0++own).Nodup
 loc:∀ x∈own,(relabel sc X.env).names.lookup x=some .local
theorem yw{X:Cx}{osc sc:Scope}{N N0 own:List Str}(h:zOd osc sc N N0 own=true)(e1:autoParam (X.env.scope=osc) Zq4._auto_1)(e2:autoParam (X.N=N) Zq4._auto_1):zLN X sc N0 own:=by
 subst e1 e2;unfold zOd at h;simp only[dN,decide_eq_true_eq,eZ] at h;obtain⟨⟨⟨⟨⟨⟨⟨h1,h2⟩,h3⟩,h4⟩,h5⟩,h6⟩,h7⟩,h8⟩:=h;refine⟨⟨h1,h2,h3,h4,h5,fun i x e v=>?_⟩,h7,h8⟩;have hi:i<N0.length:=(bD.mp e).1;have q:=h6 i (bV.mpr hi);rw[e] at q;dsimp only at q;have hv:zPq (zFN X.env.scope sc) x=true:=by
  have v':(zFN X.env.scope sc).lookup x=some .local\/(zFN X.env.scope sc).lookup x=some .cell\/(zFN X.env.scope sc).lookup x=some .free:=v;unfold zPq;rcases v' with v' | v' | v'<;>rw[v']
 rw[hv] at q;simpa using q
section
variable {X:Cx} {elt iter:Expr} {pos:Pos} {te:zj} {ifs:List Expr} {sc:Scope} {N0:List Str} {wi:TI2} {tc:TT2}
theorem zG0(x:Str){px:Pos}(hc:X.calm=true)(T:zLN X sc N0 [x])(hi:I2 X (.Name x px) iter wi)
  (ht:∀ C s H fp pins,Ts2 (X.comp (N0++[x]) sc C s H fp pins) ifs tc) (he:∀ C s H fp pins,E2 (X.comp (N0++[x]) sc C s H fp pins) elt te)
  (hs:autoParam (∀ x,foldedSetIterable iter X.env x=pure x) Zq3._auto_1):F2 X (.ListComp elt [⟨.Name x px,iter,ifs,0⟩] sc pos) (yv wi bd1 tc te) :=
 zNM x hc T.ok hi T.nd (T.loc x (by simp)) ht he hs
theorem zIw(i:Nat)(x:Str){y:Str}{px py spos:Pos}(hc:X.calm=true)(T:zLN X sc N0 [x])(hi:I2 X (.Name x px) iter wi)
  (ht:∀ C s H fp pins,Ts2 (X.comp (N0++[x]) sc C s H fp pins) ifs tc) (he:∀ C s H fp pins,E2 (X.comp (N0++[x]) sc C s H fp pins) elt te)
  (hN:X.N.Nodup) (hy:autoParam (X.N[i]?=some y) Zq4._auto_1) (hl:autoParam (X.env.scope.names.lookup y=some .local) Zq4._auto_1)
  (hsw:autoParam (swapsWith (.ListComp elt [⟨.Name x px,iter,ifs,0⟩] sc pos) (some (.Name y py)) spos.line X.env=pure true) Zq4._auto_1)
  (hs:autoParam (∀ x,foldedSetIterable iter X.env x=pure x) Zq3._auto_1):P2 X (.Assign [.Name y py] (.ListComp elt [⟨.Name x px,iter,ifs,0⟩] sc pos) spos) (zCa i (yv wi bd1 tc te)) :=
 zHz i x hc T.ok hi T.nd (T.loc x (by simp)) ht he hN hy hl hsw hs
end
structure Ext (G G':Gp):Prop where
 sub:Sub G G'
 ro:G'.ro=G.ro
theorem Ext.refl(G:Gp):Ext G G:=⟨.refl G,rfl⟩
theorem Ext.trans{G G1 G2:Gp}(h:Ext G G1)(h':Ext G1 G2):Ext G G2:=⟨h.sub.trans h'.sub,h'.ro.trans h.ro⟩
theorem Ext.new{G:Gp}{l:Addr}{o:List D}(h:G.m l=none):Ext G (zd G l o):=⟨.new h,rfl⟩
theorem Ext.ls{G G':Gp}(h:Ext G G'){a:Addr}{ds:List D}(e:Ls G a ds):Ls G' a ds:=e.sub h.sub
theorem Ext.own{G G':Gp}(h:Ext G G'){A:Addr}(n:G'.m A=none):G.m A=none:=by
 cases q:G.m A with
 | none=>rfl
 | some u=>rw[h.sub.m A u q] at n;cases n
noncomputable def zi(t:zj)(σ:S2)(G:Gp)(d:D):Prop:=∀ G2,Ext G G2->∀ R:D->Gp->Prop,R d G2->t σ G2 R
noncomputable def PuT(t:TT2)(σ:S2)(G:Gp)(b:Bool):Prop:=∀ G2,Ext G G2->∀ R:Bool->Gp->Prop,R b G2->t σ G2 R
noncomputable def PuL(t:TL2)(σ:S2)(G:Gp)(ds:List D):Prop:=∀ G2,Ext G G2->∀ R:List D->Gp->Prop,R ds G2->t σ G2 R
noncomputable def PuA(t:yh)(σ:S2)(G:Gp)(ds:List D):Prop:=∀ G2,Ext G G2->∀ R:List D->Gp->Prop,R ds G2->t σ G2 R
noncomputable def PuI(t:TI2)(σ:S2)(G:Gp)(ds:List D):Prop:=∀ G2,Ext G G2->∀ R:List D->(Gp->Prop)->Gp->Prop,(∀ gd G3,Ext G2 G3->(∀ G4,Ext G3 G4->gd G4)->R ds gd G3)->t σ G2 R
theorem zi.mono{t:zj}{σ:S2}{G G':Gp}{d:D}(h:zi t σ G d)(e:Ext G G'):zi t σ G' d:=fun G2 x=>h G2 (e.trans x)
section
variable {σ:S2} {G:Gp}
theorem zE{i:Nat}{d:D}(h:look σ i=some d):zi (zD i) σ G d:=fun G2 u0 R q=>by unfold zD;rw[h];exact q
theorem wL{d:D}:zi (xC d) σ G d:=fun u0 u0 u0 q=>q
theorem zP:PuA zI σ G []:=fun u0 u0 u0 q=>q
theorem zF{ta:zj}{tr:yh}{d:D}{ds:List D}(h:zi ta σ G d)(h':PuA tr σ G ds):PuA (zA ta tr) σ G (d::ds):=fun G2 x R q=>h G2 x _ (h' G2 x _ q)
theorem zED{t:yh}{ds:List D}(h:PuA t σ G ds)(hl:ds.length<=100000):zi (wU t) σ G (.tup ds):=fun G2 x R q=>h G2 x _ ⟨by rw[sizeLine_eq];omega,q⟩
theorem yx{f:D->D->Gp->Q2->Prop}{ta tb:zj}{x y d:D}(ha:zi ta σ G x)(hb:zi tb σ G y)(h:∀ G2,Ext G G2->∀ R:D->Gp->Prop,R d G2->f x y G2 R):zi (zZ f ta tb) σ G d:=fun G2 e R q=>ha G2 e _ (hb G2 e _ (h G2 e R q))
theorem zLO{g:Int->Int->D}{ta tb:zj}{i j:Int}(ha:zi ta σ G (.int i))(hb:zi tb σ G (.int j)):zi (zZ (fII g) ta tb) σ G (g i j):=yx ha hb fun u0 u0 u0 q=>q
theorem zt{sp:wV}{t:yh}{ds:List D}{d:D}(ha:PuA t σ G ds)(h:∀ G2,Ext G G2->∀ R:D->Gp->Prop,R d G2->sp ds G2 R):zi (zJ sp t) σ G d:=fun G2 e R q=>ha G2 e _ (h G2 e R q)
theorem zCd{sp:List D->Gp->(List D->Gp->Prop)->Prop}{t:yh}{ds ls:List D}(ha:PuA t σ G ds)(h:∀ G2,Ext G G2->∀ R:List D->Gp->Prop,R ls G2->sp ds G2 R):PuL (zy sp t) σ G ls:=fun G2 e R q=>ha G2 e _ (h G2 e R q)
theorem zAQ{t:zj}{b:Bool}(h:zi t σ G (.bl b)):PuT (xB t) σ G b:=fun G2 e R q=>h G2 e _ q
theorem zPr:PuT zEv σ G true:=fun u0 u0 u0 q=>q
theorem zNR{t u:TT2}{b c:Bool}(h:PuT t σ G b)(h':b=true->PuT u σ G c):PuT (zAt t u) σ G (b&&c):=fun G2 e R q=>h G2 e _ (by
 cases b with
 | false=>simpa using q
 | true=>rw[if_pos rfl];exact h' rfl G2 e _ (by simpa using q))
theorem zPs{t u:TT2}{b c:Bool}(h:PuT t σ G b)(h':b=false->PuT u σ G c):PuT (zBU t u) σ G (b||c):=fun G2 e R q=>h G2 e _ (by
 cases b with
 | true=>simpa using q
 | false=>rw[if_neg (by simp)];exact h' rfl G2 e _ (by simpa using q))
theorem zBo{t:TT2}{b:Bool}(h:PuT t σ G b):PuT (ww t) σ G (!b):=fun G2 e R q=>h G2 e _ q
theorem zEE{tl:TL2}{ds:List D}(h:PuL tl σ G ds):zi (zw yM tl) σ G (.tup ds):=fun G2 e R q=>h G2 e _ q
theorem zJs{t:zj}{ds:List D}(h:zi t σ G (.tup ds)):PuI (iV t) σ G ds:=fun G2 e R q=>h G2 e _ (q _ G2 (.refl _) fun u0 u0=>trivial)
theorem zJt{t:zj}{a:Addr}{ds:List D}(h:zi t σ G (.adr a))(hr:Ls G a ds):PuI (iV t) σ G ds:=fun G2 e R q=>h G2 e _ ⟨ds,e.ls hr,q _ G2 (.refl _) fun G4 e4=>e4.ls (e.ls hr)⟩
theorem zOe{t:TL2}{ds:List D}(h:PuL t σ G ds):PuI (iF t) σ G ds:=fun G2 e R q=>h G2 e _ fun a n=>q _ _ (.new n) fun G4 e4=>e4.ls .own
end
end L3
namespace HT
section
variable {prog:Program} {w:World} {A:Around} {E:Value->Shared->Prop} {s:Shared}
theorem zLP{t b:Addr}{ws:List Value}{Q:Value->Shared->Prop}(ht:IsTup s.heap t #[])(hb:IsTup s.heap b ws.toArray)(h:Q (.ref b) s):wpAny (model prog w) A (binaryOp .Add (.ref t) (.ref b)) Q E s:=by
 obtain⟨⟨cls,dd,data,sl⟩,ho,hc,n,hd⟩:=id ht;obtain⟨⟨cls2,dd2,data2,sl2⟩,ho2,hc2,n2,hd2⟩:=id hb;simp only at hc hd hc2 hd2;subst hc hd hc2 hd2;exact concat_meets ⟨_,ho,rfl⟩ ⟨_,ho2,rfl⟩ noFill_tuple_add seq_tuple_add PySem.F.slot_tuple_add PySem.F.entry_tuple_add (PySem.F.args_tuple_add_2 _ _)
   (tuple_addW0 t b #[] ws.toArray n n2 dd dd2 sl sl2 rfl) ⟨ho,ho2,h⟩
theorem zG1{l:Addr}{vs:List Value}{Q:List Value->Shared->Prop}(hl:IsTup s.heap l vs.toArray)
  (h:Q vs { s with heap:=(s.heap.push (seqObj "list" #[] 0)).update s.heap.objs.size (Obj.mapSeq (·++vs.toArray)) }) (hsz:autoParam (vs.length<=sizeLine) Zq8._auto_1) :
  wpAny (model prog w) A (collect (.ref l)) Q E s:=by
 obtain⟨o,ho,hc,n,hd⟩:=id hl;unfold collect;refine bi (e8 (cf entry_proto_collect' ?_));show wpAny _ _ (do again (.builtin "list.__iadd__" ⟨[<-newList [],.ref l],[]⟩)) _ _ s;refine bi (wpAny_newList (bm ⟨Code.quiet_builtin _ (by decide +kernel),cf entry_list_iadd' ?_⟩));show wpAny _ _ (Builtin.List.listExtendWith (.ref s.heap.objs.size) (.ref l) (.ref s.heap.objs.size)) _ _ { s with heap:=s.heap.push (seqObj "list" #[] 0) };unfold Builtin.List.listExtendWith;have ho':(s.heap.push (seqObj "list" #[] 0)).get? l=some o:=bn _ ho;refine bi (dC (T:="tuple") ⟨o,ho',hc⟩ ?_);have ht:(Value.type "tuple"==Value.type "tuple")=true:=by rfl
 rw[if_pos (by rw[ht];simp)];refine bi (listItems_at ho' hd ?_);refine bi (listItems_at (xs:=#[]) (n:=0) (bB _ rfl) rfl ?_);rw[if_neg (by simp)];refine bi (listUpdate_at (xs:=#[]) (n:=0) (bB _ rfl) rfl ?_ (cg _) (by show(#[]++vs.toArray).size<=sizeLine+1;simp only[Array.size_append,bH,bw];omega));refine bm ?_;show wpAny (model prog w) A (do
   let o <-load s.heap.objs.size
   match o.data with
   | .seq xs _=>pure xs.toList
   | _=>unsupported "internal:collect") Q E { s with heap:=(s.heap.push (seqObj "list" #[] 0)).update s.heap.objs.size (Obj.mapSeq (·++vs.toArray)) }
 refine bi (wpAny_load (get?_update_seq (bB _ rfl) _) ?_);show wpAny _ _ (pure ((#[]:Array Value)++vs.toArray).toList) Q E _;rw[show((#[]:Array Value)++vs.toArray).toList=vs by simp];exact bm h
theorem zH6{l:Addr}{vs:List Value}{ns:List Int}{Q:Value->Shared->Prop}(hl:IsTup s.heap l vs.toArray)(hI:IntsAre vs ns)(h64:vs.length<64)
  (h:∀(out:Array Value) (ns':List Int),IntsAre out.toList ns'->ns'.Perm ns->ns'.Pairwise (·<=·)->Q (.ref (s.heap.objs.size+1)) { s with heap:=sortedAll s.heap vs out }) :
  wpAny (model prog w) A (call (.builtin "sorted") [.ref l]) Q E s:=by
 refine Calls.call_function_entry kind_sorted plain_sorted entry_sorted (args_sorted1 _) ?_;unfold Builtin.«sorted»;refine bi (m:=checkCount "sorted" 1 1 _) (bm ?_);refine bi (zG1 hl ?_);refine bi (wpAny_newList ?_);have hsz:((s.heap.push (seqObj "list" #[] 0)).update s.heap.objs.size (Obj.mapSeq (·++vs.toArray))).objs.size=s.heap.objs.size+1:=by
  rw[Heap.size_update,size_push']
 have hoL:(((s.heap.push (seqObj "list" #[] 0)).update s.heap.objs.size (Obj.mapSeq (·++vs.toArray))).push (seqObj "list" vs.toArray 0)).get? (s.heap.objs.size+1)=some (seqObj "list" vs.toArray 0):=by
  rw[<-hsz];exact bB _ rfl
 show wpAny _ _ _ _ _ { s with heap:=((s.heap.push (seqObj "list" #[] 0)).update s.heap.objs.size (Obj.mapSeq (·++vs.toArray))).push (seqObj "list" vs.toArray 0) };rw[hsz];refine bi (bZ (bT slot_list_sort ⟨_,hoL,rfl⟩ entry_list_sort (list_sort_tree hoL hI h64 fun out ns' a1 a2 a3=>⟨_,rfl,?_⟩) (args_list_sort _)));exact bm ⟨_,rfl,h out ns' a1 a2 a3⟩
theorem zEx{Q:List Value->Shared->Prop}{r:Addr}{a b c:Int}{t u v:Tok}{n:Nat}(hh:A.handled=none)(hr:IsRange s.heap r a b c t u v)(hsmall:Builtin.Range.small a b c=true)
  (hn:Builtin.Range.rangeSize a b c=n) (hlen:n<=2 ^ 24)
  (hQ:∀ h' tk acc,(∀ b o,s.heap.get? b=some o->h'.get? b=some o)->ItemsOf (fun i v=>∃ t,v=.int (a+i*c) t) acc n->Q acc.toList { s with heap:=h',toks:=tk }) :
  wpAny (model prog w) A (collect (.ref r)) Q E s:=by
 unfold collect;refine bi (e8 (cf PySem.F.entry_proto_collect ?_));rw[Around.under_plainId PySem.F.plain_proto_collect _];show wpAny _ A.in1 (newList []>>=fun l=>again (.builtin "list.__iadd__" ⟨[l,.ref r],[]⟩)) _ _ s;refine bi (bS ?_);refine bm ⟨plainId_quiet PySem.F.plain_list_iadd _,cf PySem.F.entry_list_iadd ?_⟩;rw[Around.under_plainId PySem.F.plain_list_iadd _];show wpAny _ A.in1 (Builtin.List.listExtendWith (.ref s.heap.objs.size) (.ref r) (.ref s.heap.objs.size)) _ _ _;have hS:(s.heap.push { cls:=.type "list",data:=.seq ([]:List Value).toArray }).get? s.heap.objs.size=some { cls:=.type "list",data:=.seq #[] 0 }:=bB _ rfl;refine eN (wpAny_extend_range (A:=A) (R:=fun res s'=>∃ h' tk acc c',res=.ok (.ret (.ref s.heap.objs.size))/\s'={ s with heap:=h',toks:=tk }/\(∀ b o,s.heap.get? b=some o->h'.get? b=some o)/\h'.get? s.heap.objs.size=some { cls:=.type "list",dict:=none,data:=.seq acc c',slots:=#[] }/\ItemsOf (fun i v=>∃ t,v=.int (a+i*c) t) acc n)
  (s:={ s with heap:=s.heap.push { cls:=.type "list",data:=.seq ([]:List Value).toArray } }) hh (bn _ hr) hsmall hn hlen s.heap.objs.size (.ref s.heap.objs.size) 0 hS fun h' tk acc' c' hk hS' hacc=>?_) (fun fin s' h=>?_) (fun e s' h=>?_)
 ·exact⟨h',tk,acc',c',rfl,rfl,fun b o e=>hk b o (bO (bC e)) (bn _ e),hS',hacc⟩
 ·have fin':∀ {r' s''},(∃ h' tk acc c',r'=(.ok (.ret (.ref s.heap.objs.size)):Result)/\s''={ s with heap:=h',toks:=tk }/\(∀ b o,s.heap.get? b=some o->h'.get? b=some o)/\h'.get? s.heap.objs.size=some { cls:=.type "list",dict:=none,data:=.seq acc c',slots:=#[] }/\ItemsOf (fun i v=>∃ t,v=.int (a+i*c) t) acc n) ->
    wpAny (model prog w) A (match Value.ref s.heap.objs.size with
     | Value.ref a=>do
      match (<-load a).data with
       | Data.seq xs _=>pure xs.toList
       | _=>unsupported "internal:collect"
     | _=>unsupported "internal:collect") Q E s'':=by
   rintro r' s'' ⟨h',tk,acc,c',rfl,rfl,hk,hS',hacc⟩;show wpAny _ A (load s.heap.objs.size>>=_) _ _ _;refine bi (wpAny_load hS' ?_);exact bm (hQ h' tk acc hk hacc)
  cases fin with
  | done f =>
   have hf:=h;obtain⟨h',tk,acc,c',e,u0⟩:=h;cases e;exact fin' hf
  | again c'=>exact⟨h.1,cR h.2 fun r s'' hr=>by
    have hf:=hr;obtain⟨h',tk,acc,c',e,u0⟩:=hr;subst e;exact fin' hf⟩
 ·obtain⟨u0,u0,u0,u0,e,u0⟩:=h
  cases e
theorem zBQ(r:Addr)(a b c:Int)(t u v:Tok)(n:Nat)(hsmall:Builtin.Range.small a b c=true)(hn:Builtin.Range.rangeSize a b c=n)(hlen:n<=2 ^ 24) :
  Meets (Builtin.«tuple.__new__» ⟨[.type "tuple",.ref r],[]⟩)
   (fun A R s=>A.handled=none/\IsRange s.heap r a b c t u v/\∀(h':Heap) tk acc,(∀ b o',s.heap.get? b=some o'->h'.get? b=some o')->ItemsOf (fun i v=>∃ t,v=.int (a+i*c) t) acc n->R (.ok (.ret (.ref h'.objs.size))) { s with heap:=h'.push { cls:=.type "tuple",data:=.seq acc },toks:=tk }) :=
 .of_wp fun prog w A R s h=>by
  obtain⟨hp,g,d,tk,os⟩:=s;obtain⟨hh,ht,h⟩:=h;have hsub:=sub_tuple_self;have hinit:=init_tuple_lookup;have hmh:=madeHere_tuple;have hT:Shared.TypeIs ⟨hp,g,d,tk,os⟩ (.ref r) "range":=⟨_,ht,rfl⟩
  wp_walk using dC hT,zEx (A:=A.in1) hh ht hsmall hn hlen
  intro h' tk' acc hk hacc;show wpAny _ _ (Builtin.Tuple.tupleExact acc.toList.toArray>>=fun v=>ret v) _ _ _;unfold Builtin.Tuple.tupleExact;refine bi (bS ?_ (by show acc.toList.toArray.size<=sizeLine;simp only[Array.toArray_toList];rw[hacc.1,sizeLine_eq];omega));refine bm ⟨_,rfl,?_⟩;have e:acc.toList.toArray=acc:=by simp
  rw[e];exact h h' tk' acc hk hacc
theorem zDI{Q:Value->Shared->Prop}{r:Addr}{a b c:Int}{t u v:Tok}{n:Nat}(hh:A.handled=none)(hr:IsRange s.heap r a b c t u v)(hsmall:Builtin.Range.small a b c=true)
  (hn:Builtin.Range.rangeSize a b c=n) (hlen:n<=2 ^ 24)
  (hQ:∀(h':Heap) tk acc,(∀ b o,s.heap.get? b=some o->h'.get? b=some o)->ItemsOf (fun i v=>∃ t,v=.int (a+i*c) t) acc n->Q (.ref h'.objs.size) { s with heap:=h'.push { cls:=.type "tuple",data:=.seq acc },toks:=tk }) :
  wpAny (model prog w) A (call (.type "tuple") [.ref r]) Q E s :=
 callType_new PySem.F.called_tuple (by decide) (PySem.F.typeCall_tuple_1 _) (PySem.F.newCall_tuple_1 _) (fun obj=>PySem.F.args_object_init_2 obj _) PySem.F.entry_tuple_new
  (zBQ r a b c t u v n hsmall hn hlen) ⟨hh,hr,fun h' tk acc hk hacc=>⟨⟨_,bB _ rfl,rfl⟩,hQ h' tk acc hk hacc⟩⟩
theorem zB6{t sl:Addr}{items:Array Value}{vl vu:Value}{lo hi:Option Int}{Q:Value->Shared->Prop}(ht:IsTup s.heap t items)(hs:s.heap.IsSliceOf sl vl vu .none)(pl:IsPart vl lo)(pu:IsPart vu hi)
  (hw:yt items.size 0 lo=0/\yt items.size items.size hi=items.size)
  (h:Q (.ref t) s):wpAny (model prog w) A (getItem (.ref t) (.ref sl)) Q E s:=by
 obtain⟨os,hos,hcs,hds⟩:=id hs;have hTs:s.TypeIs (.ref sl) "slice":=⟨os,hos,hcs⟩
 unfold getItem
 try with_reducible refine bZ ?_
 first | refine bi (bm ?_) | skip
 refine bi (wpAny_sequenceKey ht.typeIs (by decide) ?_);refine bi (wpAny_callSpecial?_slot (name:=Str.ofString "__getitem__") ht.typeIs PyProof.Rows.slot_tuple_getitem
  (bT PyProof.Rows.slot_tuple_getitem ht.typeIs entry_tuple_getitem ?_ (args_tuple_getitem _ _)))
 show wpAny _ _ (Builtin.Tuple.tupleItemsOf (.ref t)>>=_) _ _ s;refine bi (tupleItemsOf_ ht ?_);refine bi (dC hTs ?_);rw[if_pos (by decide)];refine bi (zAn hs pl pu ?_);have hyes:((((yt items.size 0 lo:Nat):Int)==0&&(1:Int)==1&&(yt items.size items.size hi-yt items.size 0 lo)==items.size)=true):=by
  rw[hw.1,hw.2];simp
 show wpAny _ _ (if (((yt items.size 0 lo:Nat):Int)==0&&(1:Int)==1&&(yt items.size items.size hi-yt items.size 0 lo)==items.size)=true then _ else _) _ _ s;rw[if_pos hyes];unfold Builtin.Tuple.tupleIsExact;refine bi (bi (dC ht.typeIs (bm ?_)));rw[if_pos (by rfl)];refine bi (dF ?_)
 first
  | exact bm ⟨_,rfl,bm h⟩
  | exact bi (bm (bm ⟨_,rfl,bm h⟩))
end
noncomputable def zDl(items:Array Value)(x:Value):Nat->(Option PySem.Fin×Unit)->Sem (ForInStep (Option PySem.Fin×Unit)):=fun i u0=>match items[i]? with
 | some y=>do
  let b <-eqBool y x
  if b=true then do
   let r <-retInt i
   pure (ForInStep.done (some r,()))
  else pure (ForInStep.yield (none,()))
 | _=>pure (ForInStep.yield (none,()))
theorem zEF{prog:Program}{w:World}{A:Around}{E:Value->Shared->Prop}{s:Shared}{items:Array Value}{x:Value}{e:Value->Bool}{j:Nat}(hj:j<items.size)(hit:e items[j]=true)(he:∀ y,y∈items->SeqAt.EqAt A s y x (e y)){Q:(Option PySem.Fin×Unit)->Shared->Prop}
  (hQ:Q (some (.done (.ret (.int j s.toks))),()) { s with toks:=s.toks+1 }):∀(k lo:Nat),lo<=j->j<lo+k->(∀ m (hm:m<items.size),lo<=m->m<j->e items[m]=false) ->
   wpAny (model prog w) A (forIn (List.range' lo k) (none,()) (zDl items x)) Q E s
 | 0,lo,h1,h2,_=>by omega
 | k+1,lo,h1,h2,hno=>by
  rw[List.range'_succ,List.forIn_cons];have hlo:lo<items.size:=by omega
  unfold zDl;have ei:items[lo]?=some items[lo]:=by simp[hlo]
  rw[ei];dsimp only;refine bi (bi (he _ (Array.getElem_mem hlo) prog w _ _ ?_));by_cases hl:lo=j
  ·subst hl
   rw[hit,if_pos rfl];obtain⟨hp,g,d,tk,os⟩:=s
   wp_walk
   exact hQ
  ·rw[hno lo hlo (bE _) (by omega),if_neg (by simp)]
   refine bm ?_;exact zEF hj hit he hQ k (lo+1) (by omega) (by omega) fun m hm a b=>hno m hm (by omega) b
theorem zF0(l:Addr)(items:Array Value)(n:Nat)(dd:Option Addr)(sl:Array (Option Value))(x:Value)(e:Value->Bool)(j:Nat)(hj:j<items.size)(hit:e items[j]=true)(hno:∀ m (hm:m<items.size),m<j->e items[m]=false) :
  Meets (Builtin.«tuple.index» ⟨[.ref l,x],[]⟩)
   (fun A R s=>s.heap.get? l=some { cls:=.type "tuple",dict:=dd,data:=.seq items n,slots:=sl }/\(∀ y,y∈items->SeqAt.EqAt A.in1 s y x (e y))/\R (.ok (.ret (.int j s.toks))) { s with toks:=s.toks+1 }) :=
 .of_wp fun prog w A R s h=>by
  obtain⟨hp,g,d,tk,os⟩:=s;obtain⟨hl,he,h⟩:=h
  wp_walk using wpAny_loadPart' hl
  show wpAny (model prog w) A.in1 (forIn ([: min items.size items.size]:Std.Legacy.Range) (none,()) (zDl items x)) _ _ _;rw[Std.Legacy.Range.forIn_eq_forIn_range'];have e1:List.range' ([: min items.size items.size]:Std.Legacy.Range).start ([: min items.size items.size]:Std.Legacy.Range).size ([: min items.size items.size]:Std.Legacy.Range).step=List.range' 0 items.size:=by
   simp[Std.Legacy.Range.size]
  rw[e1];refine zEF hj hit he ?_ _ _ (cg _) (by omega) fun m hm u0 b=>hno m hm b;exact bm ⟨_,rfl,h⟩
theorem zF1(l:Addr)(items:Array Value)(n:Nat)(dd:Option Addr)(sl:Array (Option Value))(x:Value)(e:Value->Bool)(lo:Nat)(u:Tok)(j:Nat)(hj:j<items.size)(hit:e items[j]=true)(hlo:lo<=j)(hno:∀ m (hm:m<items.size),lo<=m->m<j->e items[m]=false) :
  Meets (Builtin.«tuple.index» ⟨[.ref l,x,.int lo u],[]⟩)
   (fun A R s=>s.heap.get? l=some { cls:=.type "tuple",dict:=dd,data:=.seq items n,slots:=sl }/\(∀ y,y∈items->SeqAt.EqAt A.in1 s y x (e y))/\R (.ok (.ret (.int j s.toks))) { s with toks:=s.toks+1 }) :=
 .of_wp fun prog w A R s h=>by
  obtain⟨hp,g,d,tk,os⟩:=s;obtain⟨hl,he,h⟩:=h;have f1:=AutoSeq1.idx_int
  wp_walk using wpAny_loadPart' hl
  have e2:(max (if ((lo:Nat):Int)<0 then (lo:Int)+(items.size:Int) else (lo:Int)) 0).toNat=lo:=by
   rw[if_neg (by omega)];omega
  rw[e2];show wpAny (model prog w) A.in1 (forIn ([lo: min items.size items.size]:Std.Legacy.Range) (none,()) (zDl items x)) _ _ _;rw[Std.Legacy.Range.forIn_eq_forIn_range'];have e1:List.range' ([lo: min items.size items.size]:Std.Legacy.Range).start ([lo: min items.size items.size]:Std.Legacy.Range).size ([lo: min items.size items.size]:Std.Legacy.Range).step=List.range' lo (items.size-lo):=by
   simp[Std.Legacy.Range.size]
  rw[e1];refine zEF hj hit he ?_ _ _ hlo (by omega) hno;exact bm ⟨_,rfl,h⟩
end HT
namespace L3
open L2
section
variable {X:Cx} {a b c e o:Expr} {es:List Expr} {pos p:Pos} {ta tb te:zj}
noncomputable def ym:D->D->Gp->Q2->Prop:=fun x y G R=>match x,y with
 | .int i,.int j=>R (.int (i+j)) G
 | .tup xs,.tup ys=>xs.length+ys.length<=1000000/\R (.tup (xs++ys)) G
 | _,_=>False
theorem OpR.or{f:Value->Value->Sem Value}{r r':R2}(h:OpR X f r)(h':OpR X f r'):OpR X f (fun x y H Q=>r x y H Q\/r' x y H Q):=by
 intro pins s σ H x y v u Q I rx ry q;rcases q with q | q
 ·exact h pins s σ H x y v u Q I rx ry q
 ·exact h' pins s σ H x y v u Q I rx ry q
noncomputable def zOf(K:PySem.W.Frag):R2:=fun x y H Q=>∃ a b ys,x=.ref a/\y=.ref b/\SqT K H a []/\SqT K H b ys/\Q (.ref b) H
theorem zNS:OpR X (binaryOp .Add) (zOf X.K):=by
 intro pins s σ H x y v u Q I rx ry h;obtain⟨a,b,ys,rfl,rfl,ha,hb,q⟩:=h;cases rx;cases ry;obtain⟨its,r1,p1,u0⟩:=I.tuple ha;obtain⟨its2,r2,p2,u0⟩:=I.tuple hb;have:its=[]:=r1.nil_iff.mpr rfl;subst this;exact HT.zLP p1 p2 ⟨.ref b,H,I,rfl,q⟩
theorem zNT{K:PySem.W.Frag}:Fit K (fun x y H Q=>rI0 (fun i j=>.int (i+j)) x y H Q\/zOU K x y H Q\/zOf K x y H Q) ym:=by
 intro dx dy G R x y H Q h r d1 d2 k;unfold ym at h;split at h
 ·rename_i i j
  unfold zO at d1 d2;subst d1 d2;exact .inl ⟨i,j,rfl,rfl,k _ G h _ H (.refl H) r (by unfold zO;rfl)⟩
 ·rename_i xs ys
  obtain⟨hz,h⟩:=h;unfold zO at d1 d2;obtain⟨a,us,rfl,s1,t1⟩:=d1;obtain⟨b,ws,rfl,s2,t2⟩:=d2;have l1:=t1.length;have l2:=t2.length;by_cases hx:xs=[]
  ·subst hx
   have hu:us=[]:=du.mp (by rw[<-l1];rfl);subst hu;exact .inr (.inr ⟨a,b,ws,rfl,rfl,s1,s2,k _ G h _ H (.refl H) r (by unfold zO;exact⟨b,ws,rfl,s2,by simpa using t2⟩)⟩)
  ·refine .inr (.inl ⟨a,b,us,ws,rfl,rfl,s1,s2,fun z=>hx (du.mp (by rw[l1,z];rfl)),by rw[sizeLine_eq];omega,fun z=>?_,fun u0 p hp=>?_⟩)
   ·have hy:ys=[]:=du.mp (by rw[l2,z];rfl)
    subst hy;exact k _ G h _ H (.refl H) r (by unfold zO;exact⟨a,us,rfl,s1,by simpa using t1⟩)
   ·exact k _ G h _ _ (.fresh hp) (r.fresh hp) (by unfold zO;exact⟨p,us++ws,rfl,.of zf,(t1.append t2).grow (.fresh hp)⟩)
 ·exact h.elim
theorem wx(ha:E2 X a ta)(hb:E2 X b tb):E2 X (.BinOp a .Add b pos) (zZ ym ta tb):=zJn (zPM.or (zNB.or zNS)) zNT ha hb
noncomputable def zG2(ta tb:zj):TL2:=fun σ G R=>ta σ G fun x G1=>tb σ G1 fun y G2=>match x,y with
 | .adr l,.adr m=>∃ xs ys,G2.m l=some xs/\G2.m m=some ys/\xs.length+ys.length<=1000000/\R (xs++ys) G2
 | _,_=>False
theorem zRI(ha:E2 X a ta)(hb:E2 X b tb):F2 X (.BinOp a .Add b pos) (zG2 ta tb):=by
 refine PE.mono (zKv zPb ha hb) ?_;rintro σ1 H Q ⟨σ,G,R,rl,q,k⟩;refine⟨σ,G,_,rl,q,fun dx G1 q1 x H1 g1 r1 d1=>⟨σ,G1,_,rl.to g1 r1,q1,fun dy G2 q2 y H2 g2 r2 d2=>?_⟩⟩;split at q2
 ·rename_i l m
  obtain⟨xs,ys,e1,e2,hz,q3⟩:=q2;have d1':=d1.grow g2;unfold zO at d1' d2;subst d1' d2;obtain⟨us,a1,a2⟩:=r2.m l xs e1;obtain⟨ws,b1,b2⟩:=r2.m m ys e2;have l1:=a2.length;have l2:=b2.length;refine⟨l,m,us,ws,rfl,rfl,a1,b1,by rw[sizeLine_eq];omega,fun p hp=>?_⟩;exact k _ G2 q3 p _ _ ((g1.trans g2).trans (.fresh hp)) (r2.fresh hp) (r2.free hp) zf ((a2.append b2).grow (.fresh hp))
 ·exact q2.elim
theorem zF2:wO X (.builtin "sorted") (fun xs H Q=>∃(p:Addr) (ns:List Int),xs=[.ref p]/\(SqL X.K H p (ns.map V.int)\/SqT X.K H p (ns.map V.int))/\ns.length<64/\∀(l:Addr) (ns':List Int),H l=none->ns'.Perm ns->ns'.Pairwise (·<=·)->Q (.ref l) (ye H l (.lst (ns'.map V.int)))):=by
 intro pins s σ H xs us Q I r h;obtain⟨p,ns,rfl,hq,hz,q⟩:=h;obtain⟨u,rfl,rx⟩:=vals1 r;cases rx;have fin:∀(its:List Value) (out:Array Value) (ns':List Int),its.length=ns.length->IntsAre out.toList ns'->ns'.Perm ns->ns'.Pairwise (·<=·)->EP X pins σ Q (.ref (s.heap.objs.size+1)) { s with heap:=sortedAll s.heap its out }:=by
  intro its out ns' hl i1 i2 i3;obtain⟨e,he⟩:=sortedAll_at s.heap its out;have hn:H (s.heap.objs.size+1)=none:=I.hok.fresh (eJ _);refine⟨.ref (s.heap.objs.size+1),_,I.laid (t':=s.toks) (o:=.lst (ns'.map V.int)) (fun b u q=>sortedAll_old q) (eJ _) ?_,rfl,q _ ns' hn i2 i3⟩;have hp:=i2.length_eq;refine⟨?_,out.toList,e,zBm i1,?_⟩
  ·rw[bA,hp,sizeLine_eq];omega
  ·rw[he]<;>rfl
 rcases hq with hq | hq
 ·obtain⟨its,rv,pl,u0⟩:=I.list hq
  have hl:=rv.length;rw[bA] at hl;exact sorted_ints (vs:=its) (ns:=ns) pl.isList (intsAre_of rv) (by omega) fun out ns' i1 i2 i3=>fin its out ns' (by omega) i1 i2 i3
 ·obtain⟨its,rv,pl,u0⟩:=I.tuple hq
  have hl:=rv.length;rw[bA] at hl;exact HT.zH6 (vs:=its) (ns:=ns) pl (intsAre_of rv) (by omega) fun out ns' i1 i2 i3=>fin its out ns' (by omega) i1 i2 i3
noncomputable def zF3(t:yh):TL2:=fun σ G R=>t σ G fun ds G1=>match ds with
 | [d]=>∃ ns:List Int,zCb G1 d (ns.map D.int)/\ns.length<64/\∀(ns':List Int),ns'.Perm ns->ns'.Pairwise (·<=·)->R (ns'.map D.int) G1
 | _=>False
theorem zLQ{t:yh}(hg:Gl X "sorted")(hm:X.mg "sorted"=none)(ha:A2 X [e] t)(he:autoParam (starEach [e] X.env=(false,eval e X.env)::starEach [] X.env) Zq4._auto_1)(hpl:autoParam ((backTo pos (starEach [] X.env)).any (·.1)=false) Zq4._auto_1) :
  F2 X (.Call (.Name "sorted" p) [e] [] pos) (zF3 t):=by
 refine PE.mono (zCY zF2 hg hm boot_sorted ha (by decide) (by decide) he hpl) ?_;rintro σ1 H Q ⟨σ,G,R,rl,q,k⟩;refine⟨σ,G,_,rl,q,fun ds G1 q1 vs H1 g1 r1 d1=>?_⟩;split at q1
 ·rename_i d
  obtain⟨ns,e1,hl,q1⟩:=q1;obtain⟨v,rfl,d2⟩:=zAF d1;obtain⟨a,xs,rfl,s1,t1⟩:=zFz r1 d2 e1;have hxs:=t1.ints_inv;subst hxs;refine⟨a,ns,rfl,s1,hl,fun l' ns' n' h1 h2=>?_⟩;exact k _ G1 (q1 ns' h1 h2) l' _ _ (g1.trans (.fresh n')) (r1.fresh n') (r1.free n') zf (Dens.ints ns')
 ·exact q1.elim
theorem zJu(hc:X.calm=true):wO X (.type "tuple") (fun xs H Q=>∃ p j,xs=[.ref p]/\H p=some (.rng 0 j)/\(0<=j/\j<=1000000)/\∀ l,H l=none->Q (.ref l) (ye H l (.tup ((bz j.toNat).map fun(k:Nat)=>V.int k)))):=by
 intro pins s σ H xs us Q I r h;obtain⟨p,j,rfl,hp,⟨h0,h1⟩,q⟩:=h;obtain⟨u,rfl,rx⟩:=vals1 r;cases rx;obtain⟨t1,t2,t3,ho⟩:∃ t u v,s.heap.get? p=some { cls:=.type "range",data:=.fields #[.int 0 t,.int j u,.int 1 v] }:=I.hok p _ hp;have hsz:Builtin.Range.rangeSize 0 j 1=((j.toNat:Nat):Int):=by rw[rangeSize_one];split<;>omega
 refine HT.zDI (I.ok.hd hc) (show IsRange s.heap p 0 j 1 t1 t2 t3 from ho) (small_one (by omega) (by omega) (by omega) (by omega)) hsz (by omega) fun h' tk acc kp hacc=>?_;have I1:zU X pins σ H { s with heap:=h',toks:=tk }:=I.kept (t':=tk) kp;have hn:H h'.objs.size=none:=I1.hok.fresh (bE _);refine⟨.ref h'.objs.size,_,I1.laid (t':=tk) (o:=.tup ((bz j.toNat).map fun(k:Nat)=>V.int k)) (fun b ob q=>bn _ q) (bE _) ?_,rfl,q _ hn⟩;refine⟨?_,acc.toList,?_,by simpa using zDb.new _ _⟩
 ·rw[bA,ck,sizeLine_eq];omega
 ·refine zBX (by simp[hacc.1]) fun i x v e1 e2=>?_
  have e2':acc[i]?=some v:=by simpa using e2
  obtain⟨t,rfl⟩:=hacc.2 i v e2';rw[cb] at e1;cases q':(bz j.toNat)[i]? with
  | none=>rw[q'] at e1;cases e1
  | some k =>
   rw[q'] at e1;cases e1;have hk:k=i:=by
    have:=(bD.mp q').2;simpa using this.symm
   subst hk;refine⟨t,?_⟩;congr 1;omega
noncomputable def zLR(t:yh):zj:=fun σ G R=>t σ G fun ds G1=>match ds with | [.int j]=>(0<=j/\j<=1000000)/\R (.tup (yI 0 j.toNat)) G1 | _=>False
theorem zPt{t:yh}{pos' p2:Pos}(hc:X.calm=true)(hg:Gl X "tuple")(hm:X.mg "tuple"=none)(hg2:Gl X "range")(hm2:X.mg "range"=none)(ha:A2 X [a] t)(hs:autoParam (starEach [a] X.env=[(false,eval a X.env)]) Zq4._auto_1)
  (he:autoParam (starEach [.Call (.Name "range" p2) [a] [] pos] X.env=(false,eval (.Call (.Name "range" p2) [a] [] pos) X.env)::starEach [] X.env) Zq4._auto_1) (hpl:autoParam ((backTo pos' (starEach [] X.env)).any (·.1)=false) Zq4._auto_1) :
  E2 X (.Call (.Name "tuple" p) [.Call (.Name "range" p2) [a] [] pos] [] pos') (zLR t):=by
 refine PE.mono (zBl (zJu hc) hg hm (by decide +kernel) (zBk (zFL hg2 hm2 ha hs) zDD he) (by decide) (by decide) he hpl) ?_;rintro σ1 H Q ⟨σ,G,R,rl,q,k⟩;refine⟨σ,G,_,rl,q,fun ds G1 q1 vs H1 g1 r1 d1=>?_⟩;split at q1
 ·rename_i j
  obtain⟨v,rfl,d2⟩:=zAF d1;unfold zO at d2;subst d2;refine⟨j,rfl,fun l n=>⟨l,j,rfl,zf,q1.1,fun l' n'=>?_⟩⟩;have g2:zn H1 (ye H1 l (.rng 0 j)):=.fresh n;have r2:=r1.fresh (o:=.rng 0 j) n;refine k _ G1 q1.2 _ _ ((g1.trans g2).trans (.fresh n')) (r2.fresh n') ?_;have:(bz j.toNat).map (fun(k:Nat)=>V.int k)=((bz j.toNat).map fun(k:Nat)=>(k:Int)).map V.int:=by simp
  rw[this];have e2:yI 0 j.toNat=((bz j.toNat).map fun(k:Nat)=>(k:Int)).map D.int:=by simp[yI]
  rw[e2];unfold zO;exact⟨l',_,rfl,.of zf,Dens.ints _⟩
 ·exact q1.elim
noncomputable def zSH(K:PySem.W.Frag):V->Option Int->Option Int->Hp->VK->Prop:=fun x lo hi H Q=>∃ a xs,x=.ref a/\SqT K H a xs/\(HT.yt xs.length 0 lo=0/\HT.yt xs.length xs.length hi=xs.length)/\Q (.ref a) H
theorem zNU:SlR X (zSH X.K):=by
 intro pins s σ H x v vl vu lo hi sl Q I rx hs pl pu h;obtain⟨a,xs,rfl,hx,hw,q⟩:=h;cases rx;obtain⟨its,r,ht,hz⟩:=I.tuple hx;have hlen:its.toArray.size=xs.length:=by rw[bH];exact r.length.symm
 refine⟨"tuple",_,PyProof.Rows.slot_tuple_getitem.lookup,ht.typeIs,?_⟩;exact HT.zB6 ht hs pl pu (by rw[hlen];exact hw) ⟨.ref a,H,I,rfl,q⟩
noncomputable abbrev TO2:=S2->Gp->(Option Int->Gp->Prop)->Prop
noncomputable def lO(K:PySem.W.Frag)(t:TO2):TO:=fun σ1 H Q=>∃ σ G R,Rel K σ G σ1 H/\t σ G R/\∀ o G',R o G'->∀ H',zn H H'->zl K G' H'->Q o H'
noncomputable def O2(X:Cx)(e:Option Expr)(t:TO2):Prop:=PO X e (lO X.K t)
noncomputable def zA9:TO2:=fun u0 G R=>R none G
noncomputable def zAR(t:zj):TO2:=fun σ G R=>t σ G fun d G1=>match d with | .int i=>R (some i) G1 | _=>False
theorem zH7:O2 X none zA9:=by
 intro pins s σ1 H Q I h;refine zM9 pins s σ1 H Q I ?_;obtain⟨σ,G,R,r,q,k⟩:=h;exact k none G q H (.refl H) r.g
theorem zBA(h:E2 X e te):O2 X (some e) (zAR te):=by
 intro pins s σ1 H Q I q;refine zNA h pins s σ1 H Q I ?_;obtain⟨σ,G,R,r,q,k⟩:=q;refine⟨σ,G,_,r,q,fun d G1 q1 v H1 g1 r1 d1=>?_⟩;cases d with
 | int i =>
  unfold zO at d1;exact⟨i,d1,k _ G1 q1 H1 g1 r1⟩
 | _=>exact q1.elim
noncomputable def cutD(xs:List D)(lo hi:Option Int):List D:=(xs.drop (HT.yt xs.length 0 lo)).take (HT.yt xs.length xs.length hi-HT.yt xs.length 0 lo)
noncomputable def zAj(t:zj)(tl th:TO2):zj:=fun σ G R=>t σ G fun d G1=>tl σ G1 fun lo G2=>th σ G2 fun hi G3=>match d with | .tup xs=>R (.tup (cutD xs lo hi)) G3 | _=>False
theorem zCe{lo hi:Option Expr}{tl th:TO2}{p2:Pos}(he:E2 X e te)(hl:O2 X lo tl)(hu:O2 X hi th):E2 X (.Subscript e (.Slice lo hi none p2) pos) (zAj te tl th):=by
 refine PE.mono (zGs (zPY.or zNU) he hl hu) ?_;rintro σ1 H Q ⟨σ,G,R,r,q,k⟩;refine⟨σ,G,_,r,q,fun d G1 q1 v H1 g1 r1 d1=>⟨σ,G1,_,r.to g1 r1,q1,fun o1 G2 q2 H2 g2 r2=>⟨σ,G2,_,r.to (g1.trans g2) r2,q2,fun o2 G3 q3 H3 g3 r3=>?_⟩⟩⟩;cases d with
 | tup xs =>
  have d1':=(d1.grow g2).grow g3;unfold zO at d1';obtain⟨a,us,rfl,s1,t1⟩:=d1';have hl:=t1.length;by_cases hw:HT.yt us.length 0 o1=0/\HT.yt us.length us.length o2=us.length
  ·refine .inr ⟨a,us,rfl,s1,hw,k _ G3 q3 _ H3 ((g1.trans g2).trans g3) r3 ?_⟩
   have e:cutD xs o1 o2=xs:=by
    unfold cutD;rw[hl,hw.1,hw.2];simp[<-hl]
   rw[e];unfold zO;exact⟨a,us,rfl,s1,t1⟩
  ·refine .inl ⟨a,us,rfl,s1,hw,fun p hp=>k _ G3 q3 _ _ (((g1.trans g2).trans g3).trans (.fresh hp)) (r3.fresh hp) ?_⟩
   unfold zO;refine⟨p,_,rfl,.of zf,?_⟩;unfold cutD zGt;rw[hl];exact((t1.drop).take).grow (.fresh hp)
 | _=>exact q3.elim
theorem zX.reverse:∀ {xs:List V} {us:List Value},zX xs us->zX xs.reverse us.reverse
 | _,_,.nil=>.nil
 | _,_,.cons r rr=>by
  rw[el,el];exact(zX.reverse rr).append (.cons r .nil)
end
section
variable {σ:S2} {G:Gp}
theorem yn{α:Type}{ds:List α}{i:Nat}{x:α}(h:ds[i]?=some x):ds.take (i+1)=ds.take i++[x]:=by
 rw[List.take_add_one,h];rfl
theorem zCf{wi:TI2}{bd:D->Option (List D)}{tc:TT2}{te:zj}{ds:List D}(p:D->Bool)(f:D->D)(us:D->List D)(hw:PuI wi σ G ds)
  (hx:∀ x∈ds,bd x=some (us x)/\PuT tc (σ++(us x).map some) G (p x)/\(p x=true->zi te (σ++(us x).map some) G (f x))):PuL (yv wi bd tc te) σ G ((ds.filter p).map f):=by
 intro G2 e R q;refine hw G2 e _ fun gd G3 e3 hgd A nA=>?_;refine⟨fun i acc G'=>G'=zd G3 A acc/\acc=((ds.take i).filter p).map f,⟨rfl,by simp⟩,?_,?_,?_⟩
 ·rintro i acc G' hi ⟨rfl,rfl⟩
  refine⟨hgd _ (.new nA),zL,?_⟩;rw[bA];exact cK (e7 _ _) (by rw[cT];omega)
 ·rintro i x acc G' hi ⟨rfl,rfl⟩
  obtain⟨hb,ht,he⟩:=hx x (bM hi);rw[hb];dsimp only;have ex:Ext G (zd G3 A (((ds.take i).filter p).map f)):=(e.trans e3).trans (.new nA);refine ht _ ex _ ?_;cases hp:p x with
  | false =>
   rw[if_neg (by simp)];exact .of ⟨rfl,by rw[yn hi];simp[hp]⟩
  | true =>
   rw[if_pos rfl];refine he hp _ ex _ ⟨zL,.of ⟨zAr,by rw[yn hi];simp[hp]⟩⟩
 ·rintro acc G' ⟨rfl,rfl⟩
  exact⟨G2,e3.own nA,e3.sub.trans (.new nA),by rw[et];exact q⟩
theorem zLS{wi:TI2}{bd:D->Option (List D)}{te:zj}{ds:List D}(f:D->D)(us:D->List D)(hw:PuI wi σ G ds)
  (hx:∀ x∈ds,bd x=some (us x)/\zi te (σ++(us x).map some) G (f x)):PuL (yv wi bd zEv te) σ G (ds.map f):=by
 have:=zCf (tc:=zEv) (fun u0=>true) f us hw fun x h=>⟨(hx x h).1,zPr,fun u0=>(hx x h).2⟩
 rwa [List.filter_eq_self.mpr (fun u0 u0=>rfl)] at this
theorem zFO{t:yh}{j:Int}(h:PuA t σ G [.int j])(hj:-1000000<=j/\j<=1000000):PuI (iR1 t) σ G (yI 0 j.toNat):=fun G2 e R q=>h G2 e _ ⟨hj,q _ G2 (.refl _) fun u0 u0=>trivial⟩
theorem zJv{t:yh}{i j:Int}(h:PuA t σ G [.int i,.int j])(hj:(-1000000<=i/\i<=1000000)/\-1000000<=j/\j<=1000000):PuI (iR2 t) σ G (yI i (j-i).toNat):=fun G2 e R q=>h G2 e _ ⟨hj,q _ G2 (.refl _) fun u0 u0=>trivial⟩
theorem wS.nil:wS [] []:=.refl _
theorem wS.keep{o:Option D}{r r':S2}(h:wS r r'):wS (o::r) (o::r'):=⟨by simp[h.len],fun i d e=>by
 cases i with
 | zero=>simpa using e
 | succ i=>simpa using h.val i d (by simpa using e)⟩
theorem wS.skip{o:Option D}{r r':S2}(h:wS r r'):wS (none::r) (o::r'):=⟨by simp[h.len],fun i d e=>by
 cases i with
 | zero=>simp at e
 | succ i=>simpa using h.val i d (by simpa using e)⟩
theorem wS.trans{a b c:S2}(h:wS a b)(h':wS b c):wS a c:=⟨h.len.trans h'.len,fun i d e=>h'.val i d (h.val i d e)⟩
theorem zIx{σ:S2}{G:Gp}:Fg (fun σ' G'=>σ'=σ/\G'=G)=fun σ' G'=>wS σ σ'/\Sub G G':=by
 funext σ' G';apply propext;constructor
 ·rintro⟨u0,u0,h1,h2,rfl,rfl⟩
  exact⟨h1,h2⟩
 ·rintro⟨h1,h2⟩
  exact⟨σ,G,h1,h2,rfl,rfl⟩
noncomputable def wG(wi:TI2)(g:TG2)(tb:yS):yS:=fun E σ G=>Fg (fun σ' G'=>zRB wi g tb E σ' G') σ G
theorem zAS{X:Cx}{tg iter:Expr}{pos:Pos}{wi:TI2}{g:TG2}{tb:yS}{body:List Stmt}(hp:PassesOwn (model X.prog X.w) X.A X.env X.xe)(hc:X.calm=true)(hi:I2 X tg iter wi)(hg:G2 X tg g)(hb:Ps2 X body tb)
  (hs:autoParam (∀ x,foldedSetIterable iter X.env x=pure x) Zq3._auto_1):P2 X (.For tg iter body [] pos) (wG wi g tb):=by
 refine PS.mono (zRC hp hc hi hg hb hs) ?_;rintro E σ1 H ⟨σ,G,D2,r,⟨σ',G',s1,s2,q⟩,k⟩;exact⟨σ',G',D2,r.sub s1 s2,q,k⟩
noncomputable def zF4(tc:TT2)(tb:yS):yS:=fun E σ G=>Fg (fun σ' G'=>zLM tc tb E σ' G') σ G
theorem zG3{X:Cx}{c:Expr}{pos:Pos}{tc:TT2}{tb:yS}{body:List Stmt}(hp:PassesOwn (model X.prog X.w) X.A X.env X.xe)(hc:T2 X c tc)(hb:Ps2 X body tb):P2 X (.While c body [] pos) (zF4 tc tb):=by
 refine PS.mono (zNQ hp hc hb) ?_;rintro E σ1 H ⟨σ,G,D2,r,⟨σ',G',s1,s2,q⟩,k⟩;exact⟨σ',G',D2,r.sub s1 s2,q,k⟩
theorem zLT{wi:TI2}{g:TG2}{tb:yS}{E:yF}{ds:List D}(hw:PuI wi σ G ds)
  (hb:∀ x∈ds,∀ G1,Ext G G1->g x σ G1 fun σ2 G2=>tb { E with nx:=fun σ' G'=>wS σ σ'/\Sub G1 G',ct:=fun σ' G'=>wS σ σ'/\Sub G1 G',bk:=E.nx } σ2 G2) (h:∀ G1,Ext G G1->E.nx σ G1) {σ0:S2} (hf:autoParam (wS σ σ0) Zq9._auto_1):wG wi g tb E σ0 G:=by
 refine⟨σ,G,hf,.refl G,?_⟩;refine hw G (.refl G) _ fun gd G3 e3 hgd=>⟨fun i σ' G'=>σ'=σ/\G'=G3,⟨rfl,rfl⟩,?_,?_,?_⟩
 ·rintro i σ' G' u0 ⟨rfl,rfl⟩
  exact hgd _ (.refl _)
 ·rintro i x σ' G' hi ⟨rfl,rfl⟩
  rw[zIx];exact hb x (bM hi) _ e3
 ·rintro σ' G' ⟨rfl,rfl⟩
  exact h _ e3
end
noncomputable def zJw(ds:List D)(gd:Gp->Prop)(G1:Gp)(g:TG2)(tb:yS)(E:yF)(σ:S2):Prop:=∃ Pv:Nat->S2->Gp->Prop,Pv 0 σ G1/\(∀ i σ G,i<=ds.length->Pv i σ G->gd G) /\
 (∀ i x σ G,ds[i]?=some x->Pv i σ G->g x σ G fun σ2 G2=>tb { E with nx:=Fg (Pv (i+1)),ct:=Fg (Pv (i+1)),bk:=E.nx } σ2 G2)/\∀ σ G,Pv ds.length σ G->E.nx σ G
theorem zPu{σ:S2}{I:Gp->Prop}:Fg (fun σ' G'=>σ'=σ/\I G')=fun σ' G'=>wS σ σ'/\∃ G'',Sub G'' G'/\I G'':=by
 funext σ' G';apply propext;constructor
 ·rintro⟨u0,G'',h1,h2,rfl,h3⟩
  exact⟨h1,G'',h2,h3⟩
 ·rintro⟨h1,G'',h2,h3⟩
  exact⟨σ,G'',h1,h2,rfl,h3⟩
theorem zAb{ds:List D}{gd:Gp->Prop}{G1:Gp}{g:TG2}{tb:yS}{E:yF}{σ:S2}(I:Nat->Gp->Prop)(h0:I 0 G1)(hg:∀ i G',I i G'->gd G')
  (hb:∀ i x,ds[i]?=some x->∀ G2,I i G2->g x σ G2 fun σ2 G3=>tb { E with nx:=fun σ' G'=>wS σ σ'/\∃ G'',Sub G'' G'/\I (i+1) G'',ct:=fun σ' G'=>wS σ σ'/\∃ G'',Sub G'' G'/\I (i+1) G'',bk:=E.nx } σ2 G3)
  (h:∀ G2,I ds.length G2->E.nx σ G2):zJw ds gd G1 g tb E σ:=by
 refine⟨fun i σ' G'=>σ'=σ/\I i G',⟨rfl,h0⟩,?_,?_,?_⟩
 ·rintro i σ' G' u0 ⟨u0,h⟩
  exact hg i G' h
 ·rintro i x σ' G' hi ⟨rfl,hI⟩
  rw[zPu];exact hb i x hi G' hI
 ·rintro σ' G' ⟨rfl,hI⟩
  exact h G' hI
noncomputable def zOg(ds:List D)(gd:Gp->Prop)(G1:Gp)(A:Addr)(bd:D->Option (List D))(tc:TT2)(te:zj)(σ:S2)(R:List D->Gp->Prop):Prop:=∃ Pv:Nat->List D->Gp->Prop,Pv 0 [] (zd G1 A [])/\(∀ i acc G,i<=ds.length->Pv i acc G->gd G/\G.m A=some acc/\acc.length<=i) /\
 (∀ i x acc G,ds[i]?=some x->Pv i acc G->match bd x with
  | some us=>tc (σ++us.map some) G fun b G3=>if b=true then te (σ++us.map some) G3 fun d G4=>G4.m A=some acc/\FgG (Pv (i+1) (acc++[d])) (zd G4 A (acc++[d])) else FgG (Pv (i+1) acc) G3
  | none=>False)/\∀ acc G,Pv ds.length acc G->∃ G',G'.m A=none/\Sub G' G/\R acc G'
theorem zIy{wi:TI2}{bd:D->Option (List D)}{tc:TT2}{te:zj}{σ:S2}{G:Gp}{R:List D->Gp->Prop}(h:wi σ G fun ds gd G1=>∀ A,G1.m A=none->zOg ds gd G1 A bd tc te σ R):yv wi bd tc te σ G R:=h
theorem zG4{ds:List D}{gd:Gp->Prop}{G1:Gp}{bd:D->Option (List D)}{tc:TT2}{te:zj}{σ:S2}{R:List D->Gp->Prop}{A:Addr}(I:Nat->List D->Gp->Prop)(h0:I 0 [] (zd G1 A []))(hg:∀ i acc G',I i acc G'->gd G'/\G'.m A=some acc/\acc.length<=i)
  (hb:∀ i x acc G',ds[i]?=some x->I i acc G'->∃ us,bd x=some us/\tc (σ++us.map some) G' fun b G3=>if b=true then te (σ++us.map some) G3 fun d G4=>G4.m A=some acc/\FgG (I (i+1) (acc++[d])) (zd G4 A (acc++[d])) else FgG (I (i+1) acc) G3)
  (h:∀ acc G',I ds.length acc G'->∃ G'',G''.m A=none/\Sub G'' G'/\R acc G''):zOg ds gd G1 A bd tc te σ R:=by
 refine⟨I,h0,fun i acc G' u0 q=>hg i acc G' q,fun i x acc G' hi q=>?_,h⟩;obtain⟨us,e,q⟩:=hb i x acc G' hi q;rw[e];exact q
noncomputable def zFP:wV:=fun ds G R=>∃(a:Addr) (ns:List Int),ds=[.adr a]/\G.ro a=some (ns.map D.int)/\ns.length<=63/\(∀ l,G.m l=none)/\R (.bl true) G
theorem zPv{K:PySem.W.Frag}{H:Hp}{a:Addr}{ns:List Int}(hl:ns.length<=63)(hO:zNG H)(hS:SqL K H a (ns.map V.int)):lSp K zFP [.ref a] H (fun v u0=>v=.bl true) fun u0 u0 u0=>False:=by
 refine⟨[.adr a],⟨fun u0=>none,fun b=>if b=a then some (ns.map D.int) else none,fun u0=>none⟩,fun d u0=>d=.bl true,.cons (by unfold zO;rfl) .nil,⟨fun b ds e=>(by cases e),fun b ds e=>?_,fun b ds e=>(by cases e)⟩,⟨a,ns,rfl,by simp,hl,fun u0=>rfl,rfl⟩,fun d G' q v H' g r dv=>?_⟩
 ·by_cases hb:b=a
  ·subst hb
   simp at e;subst e;refine⟨_,?_,Dens.ints ns⟩;rcases hS with h | h
   ·rcases hO b with h' | ⟨o,xs,h'⟩ | ⟨ps,h'⟩
    ·rcases h with h | ⟨o,h⟩<;>(rw[h'] at h;cases h)
    ·rcases h with h | ⟨o',h⟩
     ·rw[h'] at h;cases h
     ·exact .inl ⟨o',h⟩
    ·rcases h with h | ⟨o',h⟩<;>(rw[h'] at h;cases h)
   ·exact .inr h
  ·simp[hb] at e
 ·subst q
  unfold zO at dv;exact dv
theorem zLU{l:PySem.W.OpenLaw}{k:Nat}{q:Program}{loose:List Str}{XP:(Str->Option Value)->Heap->Prop}{YP:World->Heap->Prop}{d:DefRec}{K:Params->PySem.W.Frag}(hn:l.most=some 63)(hdf:d.params.defaults=[])(hr:yR k callerA)
  (hY:∀(w:World) (h:Heap),YP w h->(K w.params).In h/\∃ ts qn,TabsAt (K w.params) h ts qn)
  (F:∀(w:World) (mg:Str->Option Value) (fa:Addr) (h:Heap),(K w.params).In h->h.Ns mainGlobals mg->mg d.name=some (.ref fa) ->
   ∃ fd:FuncData,(∀(s:Shared) (u:Value),BindsTo s fd ⟨[u],[]⟩ [("script",u)])/\∀ base:Heap,(K w.params).In base->base.Ns mainGlobals mg->zCX l.prog w (K w.params) mg base CX0 k fa fd ["script"] (lSp (K w.params) zFP)) :
  PySem.W.WalkO q loose XP YP l.row.toRowW d [] (fun f vs=>PySem.call f vs) :=
 L2.zNH (n:=63) (k:=k) (x:="script") (CX:=fun u0=>CX0) (sp:=fun w=>lSp (K w.params) zFP) hn (by decide) hdf hr hY F (fun u0 H a ns hl hO hS=>zPv hl hO hS) fun u0 u0 u0 u0 u0 z=>z
noncomputable def OkS(s:Int)(b:Bool):Prop:=b=false->0<=s/\s<2147483647
noncomputable def zAk(G:Gp)(l:Addr):Prop:=∃ s b,G.m l=some [.int s,.bl b]/\OkS s b
noncomputable def Dr(l:Addr)(G G':Gp):Prop:=∃ s b,G'=zd G l [.int s,.bl b]/\OkS s b
theorem Dr.st{l:Addr}{G G':Gp}(h:Dr l G G'):zAk G' l:=by
 obtain⟨s,b,rfl,h⟩:=h;exact⟨s,b,zL,h⟩
theorem Dr.trans{l:Addr}{G G1 G2:Gp}(h:Dr l G G1)(h':Dr l G1 G2):Dr l G G2:=by
 obtain⟨s,b,rfl,h⟩:=h;obtain⟨s',b',rfl,h'⟩:=h';exact⟨s',b',zAr,h'⟩
theorem zNV{G:Gp}{l:Addr}{o:List D}(h:G.m l=some o):zd G l o=G:=by
 cases G with
 | mk m ro =>
  unfold zd;congr 1;funext b;by_cases hb:b=l
  ·subst hb;rw[if_pos rfl];exact h.symm
  ·rw[if_neg hb]
theorem Dr.refl{l:Addr}{G:Gp}(h:zAk G l):Dr l G G:=by
 obtain⟨s,b,h1,h2⟩:=h;exact⟨s,b,(zNV h1).symm,h2⟩
theorem Dr.ro{l:Addr}{G G':Gp}(h:Dr l G G'):G'.ro=G.ro:=by
 obtain⟨s,b,rfl,h⟩:=h;rfl
theorem Dr.ne{l a:Addr}{G G':Gp}(h:Dr l G G')(ha:a≠l):G'.m a=G.m a:=by
 obtain⟨s,b,rfl,h⟩:=h;exact ze ha
theorem Dr.none{l a:Addr}{G G':Gp}(h:Dr l G G')(s:zAk G l)(ha:G.m a=none):G'.m a=none:=by
 obtain⟨u0,u0,h1,u0⟩:=s;rw[h.ne (fun e=>by subst e;rw[h1] at ha;cases ha)];exact ha
theorem zAk.ne{l a:Addr}{G:Gp}(s:zAk G l)(ha:G.m a=none):a≠l:=fun e=>by
 obtain⟨u0,u0,h1,u0⟩:=s;subst e;rw[h1] at ha;cases ha
theorem zAk.ext{l:Addr}{G G':Gp}(s:zAk G l)(h:Sub G G'):zAk G' l:=by
 obtain⟨x,b,h1,h2⟩:=s;exact⟨x,b,h.m l _ h1,h2⟩
theorem Dr.sub{l:Addr}{G G1 G2:Gp}(h:Dr l G1 G2)(e:Sub G G1):∃ G',Dr l G G'/\Sub G' G2:=by
 obtain⟨s,b,rfl,h⟩:=h;refine⟨zd G l [.int s,.bl b],⟨s,b,rfl,h⟩,⟨fun a o q=>?_,fun a o q=>e.ro a o q,fun a o q=>e.dc a o q⟩⟩;by_cases ha:a=l
 ·subst ha;rw[zL] at q ⊢;exact q
 ·rw[ze ha] at q ⊢;exact e.m a o q
theorem zCg{α:Type}(x:α)(r:List α):atI (x::r) 0=some x:=zA6 (j:=0) rfl
theorem zG5{α:Type}(x y:α)(r:List α):atI (x::y::r) 1=some y:=zA6 (j:=1) rfl
theorem zLV{α:Type}(x y z:α)(r:List α):atI (x::y::z::r) 2=some z:=zA6 (j:=2) rfl
theorem zCh{x:D}{r:List D}{G:Gp}{R:Q2}:yg (.tup (x::r)) (.int 0) G R=R x G:=by simp only[yg,zCg]
theorem zCi{x y:D}{r:List D}{G:Gp}{R:Q2}:yg (.tup (x::y::r)) (.int 1) G R=R y G:=by simp only[yg,zG5]
theorem zEG{x y z:D}{r:List D}{G:Gp}{R:Q2}:yg (.tup (x::y::z::r)) (.int 2) G R=R z G:=by simp only[yg,zLV]
theorem zBB{x:D}{ng:Bool}{ds:List D}{G:Gp}{R:Q2}:fIn ng x (.tup ds) G R=(flat 8 x=true/\(∀ d∈ds,flat 8 d=true)/\R (.bl (if ng then !ds.any fun z=>yz z x else ds.any fun z=>yz z x)) G):=rfl
theorem zH8:(0<=sizeLine)=True:=by rw[sizeLine_eq];simp
theorem zH9:(1<=sizeLine)=True:=by rw[sizeLine_eq];simp
theorem zIA:(2<=sizeLine)=True:=by rw[sizeLine_eq];simp
theorem zIB:(3<=sizeLine)=True:=by rw[sizeLine_eq];simp
theorem wW(p:Prop):(True/\p)=p:=by simp
theorem zBC{p q:Prop}:(if true=true then p else q)=p:=if_pos rfl
theorem zBD{p q:Prop}:(if false=true then p else q)=q:=if_neg (by simp)
section
variable {X:Cx} {pins:List (Addr×Obj)} {σ1:L2.St} {H:Hp} {s:Shared} {A:Around}
theorem zF5(I:zU X pins σ1 H s){n:Nat}{ds:List D}{xs:List V}{its:List Value}{d:D}{v:V}{u:Value}(hd:Dens X.K H ds xs)(rv:zX xs its)(h:zO X.K H d v)(r:RelV v u)(f:∀ z∈ds,flat n z=true)(f':flat n d=true)(hu:A.units+n<cLine) :
  ∃ e:Value->Bool,(∀ y,y∈its.toArray->SeqAt.EqAt A s y u (e y))/\its.length=ds.length/\∀(j:Nat) (w:Value) (z:D),its[j]?=some w->ds[j]?=some z->e w=yz z d:=by
 have l1:=hd.length;have l2:=rv.length;obtain⟨e,h1,h2⟩:=zFJ (its:=its) (ds:=ds) (fun z=>yz z d) (by omega) (by
  intro i j w z z' a1 a2 a3 a4;obtain⟨x,b1,b2⟩:=hd.get a3;obtain⟨x',b3,b4⟩:=hd.get a4;obtain⟨w1,c1,c2⟩:=rv.get b1;obtain⟨w2,c3,c4⟩:=rv.get b3;rw[a1] at c1;cases c1;rw[a2] at c3;cases c3;have:=c2.inj c4;subst this;exact zO.inj I b2 b4 (f z (bM a3)) (f z' (bM a4)))
 refine⟨e,fun y hy=>?_,by omega,h1⟩;have hy':y∈its:=by simpa using hy
 obtain⟨j,hj⟩:=eV hy';have hjl:j<its.length:=(bD.mp hj).1;obtain⟨x,b1,b2⟩:=hd.get (i:=j) (d:=ds[j]'(by omega)) (by simp);obtain⟨w1,c1,c2⟩:=rv.get b1;rw[hj] at c1;cases c1;rw[h1 j _ (ds[j]'(by omega)) hj (by simp)];exact zH1 I n _ _ x v _ u A b2 h c2 r (f _ (cJ _)) f' hu
end
section
variable {X:Cx} {e o:Expr} {es:List Expr} {to:zj} {t:yh} {name:Str} {apos cpos:Pos}
noncomputable def zOh(G:Gp)(d:D):Prop:=∃ ds,zCb G d ds
noncomputable def xMt(sp:wV)(to:zj)(t:yh):zj:=fun σ G R=>to σ G fun d G1=>zOh G1 d/\t σ G1 fun ds G2=>sp (d::ds) G2 R
theorem zPw{idT idL:String}{rT rL:V->List V->Hp->VK->Prop}{sp:wV}(slT:Slot "tuple" name idT)(slL:Slot "list" name idL)(tyT:typeOf (.builtin idT)=pure (.type "method_descriptor"))(tyL:typeOf (.builtin idL)=pure (.type "method_descriptor"))
  (mT:MtR X idT rT) (mL:MtR X idL rL)
  (fT:∀ xs ds G R a vs us H Q,sp (.tup xs::ds) G R->zl X.K G H->SqT X.K H a us->Dens X.K H xs us->Dens X.K H ds vs->(∀ d G',R d G'->∀ v H',zn H H'->zl X.K G' H'->zO X.K H' d v->Q v H')->rT (.ref a) vs H Q)
  (fL:∀ l ds G R vs H Q,sp (.adr l::ds) G R->zl X.K G H->Dens X.K H ds vs->(∀ d G',R d G'->∀ v H',zn H H'->zl X.K G' H'->zO X.K H' d v->Q v H')->rL (.ref l) vs H Q)
  (ho:E2 X o to) (ha:A2 X (e::es) t)
  (hbase:autoParam (attributeBase o name X.env (eval o X.env)=eval o X.env) Zq4._auto_1)
  (hfew:autoParam (((backTo cpos (starEach (e::es) X.env)).all (fun x=>!x.1)&&(backToKw cpos (keywordEach [] X.env)).all (fun x=>x.1.isSome)
   && decide ((e::es).length+([]:List Keyword).length+(if ([]:List Keyword).isEmpty then 0 else 1)<30))=true) Zq4._auto_1)
  (hline:autoParam ((apos.endLine==cpos.line)=true) Zq4._auto_1) (hs:autoParam (starEach (e::es) X.env=(false,eval e X.env)::starEach es X.env) Zq4._auto_1) (hplain:autoParam ((backTo cpos (starEach es X.env)).any (·.1)=false) Zq4._auto_1) :
  E2 X (.Call (.Attribute o name apos) (e::es) [] cpos) (xMt sp to t):=by
 intro pins s σ1 H Q I h;obtain⟨σ,G,R,r,q,k⟩:=h;refine wpAny_Call_method_late hbase hfew hline rfl (yU (ho pins s σ1 H (fun v H1=>∃ d G1,zn H H1/\zl X.K G1 H1/\zO X.K H1 d v/\zOh G1 d/\t σ G1 fun ds G2=>sp (d::ds) G2 R) I ⟨σ,G,_,r,q,fun d G1 q1 v H1 g1 r1 d1=>⟨d,G1,g1,r1,d1,q1.1,q1.2⟩⟩) fun v s1 u9=>?_);obtain⟨x,H1,I1,r1,d,G1,g1,rg,dn,sq,q1⟩:=u9;have args:∀ {us:List Value} {QQ:List V->Hp->Prop} (hq:∀ ds G2,sp (d::ds) G2 R->∀ vs H2,zn H1 H2->zl X.K G2 H2->Dens X.K H2 ds vs->QQ vs H2),lA X.K t σ1 H1 QQ:=fun hq =>
  ⟨σ,G1,_,r.to g1 rg,q1,hq⟩
 cases d with
 | tup xs =>
  unfold zO at dn;obtain⟨a,us0,rfl,hsq,hd⟩:=dn;cases r1;obtain⟨h1,ob,h2,h3⟩:=I1.noDict hsq;refine⟨"tuple",idT,PySem.F.plainAttrs_tuple,slT,tyT,h1,fun b eb=>by cases eb;exact⟨ob,h2,h3⟩,?_⟩;have hA:=ha cpos pins s1 σ1 H1 (fun vs H2=>rT (.ref a) vs H2 Q) I1 (args (us:=[]) fun ds G2 q2 vs H2 g2 r2 d2=>fT xs ds G2 R a vs us0 H2 Q q2 r2 (g2.sqT hsq) (hd.grow g2) d2 fun d G' q' v H' g'=>k d G' q' v H' ((g1.trans g2).trans g'));rw[hs] at hA ⊢;refine Calls.callWith_builtin (by show(false||(backTo cpos (starEach es X.env)).any (·.1))=false;rw[hplain]<;>rfl) (Calls.evalArgs_plain ?_);exact yU hA fun us s2 ⟨vs,H2,I2,r2,q2⟩=>mT pins s2 σ1 H2 (.ref a) vs _ us Q I2 rfl r2 q2
 | adr l =>
  unfold zO at dn;subst dn;cases r1;obtain⟨ds0,hq0⟩:=sq;obtain⟨us0,hsq,hd⟩:=rg.sq (show Ls G1 l ds0 from hq0);obtain⟨h1,h2⟩:=zKz (T:="list") (x:=.ref l) I1 rfl (.inl ⟨rfl,us0,hsq⟩);refine⟨"list",idL,PySem.F.plainAttrs_list,slL,tyL,h1,h2,?_⟩;have hA:=ha cpos pins s1 σ1 H1 (fun vs H2=>rL (.ref l) vs H2 Q) I1 (args (us:=[]) fun ds G2 q2 vs H2 g2 r2 d2=>fL l ds G2 R vs H2 Q q2 r2 d2 fun d G' q' v H' g'=>k d G' q' v H' ((g1.trans g2).trans g'));rw[hs] at hA ⊢;refine Calls.callWith_builtin (by show(false||(backTo cpos (starEach es X.env)).any (·.1))=false;rw[hplain]<;>rfl) (Calls.evalArgs_plain ?_);exact yU hA fun us s2 ⟨vs,H2,I2,r2,q2⟩=>mL pins s2 σ1 H2 (.ref l) vs _ us Q I2 rfl r2 q2
 | _=>obtain⟨u0,hq⟩:=sq;exact hq.elim
noncomputable def zBZ(ds:List D)(d:D)(lo j:Nat):Prop:=lo<=j/\(∃ z,ds[j]?=some z/\yz z d=true)/\∀ m z,lo<=m->m<j->ds[m]?=some z->yz z d=false
noncomputable def zOi(K:PySem.W.Frag)(two:Bool):V->List V->Hp->VK->Prop:=fun x vs H Q=>∃(a:Addr) (xs:List V) (ds:List D) (d:D) (v:V) (lo j:Nat),x=.ref a/\vs=(if two then [v,.int (lo:Int)] else [v])/\(two=false->lo=0)/\SqT K H a xs/\Dens K H ds xs/\zO K H d v/\flat 8 d=true/\(∀ z∈ds,flat 8 z=true)/\zBZ ds d lo j/\Q (.int (j:Int)) H
noncomputable def zRJ(K:PySem.W.Frag):V->List V->Hp->VK->Prop:=fun x vs H Q=>∃(a:Addr) (xs:List V) (ds:List D) (d:D) (v:V) (j:Nat),x=.ref a/\vs=[v]/\SqL K H a xs/\Dens K H ds xs/\zO K H d v/\flat 8 d=true/\(∀ z∈ds,flat 8 z=true)/\zBZ ds d 0 j/\Q (.int (j:Int)) H
theorem zLW(hu:X.A.units+10<cLine):MtR X "tuple.index" (zOi X.K false):=by
 intro pins s σ H x vs v us Q I rx rv h;obtain⟨a,xs,ds,d,v0,lo,j,rfl,rfl,h0,hs,hd,hv,f1,f2,⟨i1,⟨z,i2,i3⟩,i4⟩,q⟩:=h;have hlo:=h0 rfl;subst hlo;cases rx;obtain⟨u,rfl,ru⟩:=vals1 rv;obtain⟨its,r,ht,hz⟩:=I.tuple hs;obtain⟨e,e1,e2,e3⟩:=zF5 (A:=X.A.in1) I hd r hv ru f2 f1 (by rw[in1_units];omega);obtain⟨⟨cls,dd,data,sl⟩,ho,hc,n,hdt⟩:=id ht;simp only at hc hdt;subst hc hdt;have hj:j<ds.length:=(bD.mp i2).1;have hj':j<its.toArray.size:=by simpa[e2] using hj
 refine call_meets PySem.F.slot_tuple_index ⟨_,ho,rfl⟩ PySem.F.entry_tuple_index (PySem.F.args_tuple_index_2 _ _) (HT.zF0 a its.toArray n dd sl u e j hj' ?_ fun m hm hmj=>?_) ⟨ho,e1,⟨.int j,H,I.tok _,⟨_,rfl⟩,q⟩⟩
 ·rw[e3 j _ z (by simp at hj' ⊢) i2];exact i3
 ·have hm':m<its.length:=by simpa using hm
  rw[e3 m _ (ds[m]'(by omega)) (by simp) (by simp)];exact i4 m _ (cg _) hmj (by simp)
theorem zLX(hu:X.A.units+10<cLine):MtR X "tuple.index" (zOi X.K true):=by
 intro pins s σ H x vs v us Q I rx rv h;obtain⟨a,xs,ds,d,v0,lo,j,rfl,rfl,h0,hs,hd,hv,f1,f2,⟨i1,⟨z,i2,i3⟩,i4⟩,q⟩:=h;cases rx;obtain⟨u,u2,rfl,ru,ru2⟩:=vals2 rv;obtain⟨t2,rfl⟩:=ru2;obtain⟨its,r,ht,hz⟩:=I.tuple hs;obtain⟨e,e1,e2,e3⟩:=zF5 (A:=X.A.in1) I hd r hv ru f2 f1 (by rw[in1_units];omega);obtain⟨⟨cls,dd,data,sl⟩,ho,hc,n,hdt⟩:=id ht;simp only at hc hdt;subst hc hdt;have hj:j<ds.length:=(bD.mp i2).1;have hj':j<its.toArray.size:=by simpa[e2] using hj
 refine call_meets PySem.F.slot_tuple_index ⟨_,ho,rfl⟩ PySem.F.entry_tuple_index (PySem.F.args_tuple_index_3 _ _ _) (HT.zF1 a its.toArray n dd sl u e lo t2 j hj' ?_ i1 fun m hm hlm hmj=>?_) ⟨ho,e1,⟨.int j,H,I.tok _,⟨_,rfl⟩,q⟩⟩
 ·rw[e3 j _ z (by simp at hj' ⊢) i2];exact i3
 ·have hm':m<its.length:=by simpa using hm
  rw[e3 m _ (ds[m]'(by omega)) (by simp) (by simp)];exact i4 m _ hlm hmj (by simp)
theorem zNW(hu:X.A.units+10<cLine):MtR X "list.index" (zRJ X.K):=by
 intro pins s σ H x vs v us Q I rx rv h;obtain⟨a,xs,ds,d,v0,j,rfl,rfl,hs,hd,hv,f1,f2,⟨i1,⟨z,i2,i3⟩,i4⟩,q⟩:=h;cases rx;obtain⟨u,rfl,ru⟩:=vals1 rv;obtain⟨its,r,pl,hz⟩:=I.list hs;obtain⟨e,e1,e2,e3⟩:=zF5 (A:=X.A.in1) I hd r hv ru f2 f1 (by rw[in1_units];omega);obtain⟨⟨cls,dd,data,sl⟩,ho,hc,n,hdt⟩:=id pl.isList;simp only at hc hdt;subst hc hdt;have hj:j<ds.length:=(bD.mp i2).1;have hj':j<its.toArray.size:=by simpa[e2] using hj
 have hz':its.length<=sizeLine:=by rw[<-r.length];exact hz
 rw[sizeLine_eq] at hz';refine call_meets PySem.F.slot_list_index ⟨_,ho,rfl⟩ PySem.F.entry_list_index (PySem.F.args_list_index_2 _ _) (SeqAt.list_indexAt a its.toArray n dd sl u e j hj' (by simp at hj';omega) ?_ fun m hm hmj=>?_) ⟨ho,e1,⟨.int j,H,I.tok _,⟨_,rfl⟩,q⟩⟩
 ·rw[e3 j _ z (by simp at hj' ⊢) i2];exact i3
 ·have hm':m<its.length:=by simpa using hm
  rw[e3 m _ (ds[m]'(by omega)) (by simp) (by simp)];exact i4 m _ (cg _) hmj (by simp)
noncomputable def wH:wV:=fun ds G R=>match ds with
 | [o,d]=>∃ xs j,zCb G o xs/\flat 8 d=true/\(∀ z∈xs,flat 8 z=true)/\zBZ xs d 0 j/\R (.int (j:Int)) G
 | _=>False
noncomputable def zAv:wV:=fun ds G R=>match ds with
 | [.tup xs,d,.int lo]=>∃(l j:Nat),lo=(l:Int)/\flat 8 d=true/\(∀ z∈xs,flat 8 z=true)/\zBZ xs d l j/\R (.int (j:Int)) G
 | _=>False
theorem zCj{k:Nat}(hr:yR k X.A)(ho:E2 X o to)(ha:A2 X [e] t)
  (hbase:autoParam (attributeBase o "index" X.env (eval o X.env)=eval o X.env) Zq4._auto_1)
  (hfew:autoParam (((backTo cpos (starEach [e] X.env)).all (fun x=>!x.1)&&(backToKw cpos (keywordEach [] X.env)).all (fun x=>x.1.isSome)
   && decide ([e].length+([]:List Keyword).length+(if ([]:List Keyword).isEmpty then 0 else 1)<30))=true) Zq4._auto_1)
  (hline:autoParam ((apos.endLine==cpos.line)=true) Zq4._auto_1) (hs:autoParam (starEach [e] X.env=(false,eval e X.env)::starEach [] X.env) Zq4._auto_1) (hplain:autoParam ((backTo cpos (starEach [] X.env)).any (·.1)=false) Zq4._auto_1) :
  E2 X (.Call (.Attribute o "index" apos) [e] [] cpos) (xMt wH to t):=by
 refine zPw PySem.F.slot_tuple_index PySem.F.slot_list_index PySem.F.type_tuple_index PySem.F.type_list_index (zLW (by have:=hr.units;omega)) (zNW (by have:=hr.units;omega)) ?_ ?_ ho ha hbase hfew hline hs hplain
 ·intro xs ds G R a vs us H Q q r hsq hd d2 k
  unfold wH at q;split at q
  ·rename_i o d e
   cases e;obtain⟨xs',j,e1,f1,f2,i,q⟩:=q;cases (show xs=xs' from e1);obtain⟨v,rfl,d3⟩:=zAF d2;exact⟨a,us,xs,d,v,0,j,rfl,rfl,fun u0=>rfl,hsq,hd,d3,f1,f2,i,k _ G q _ H (.refl H) r (by unfold zO;rfl)⟩
  ·exact q.elim
 ·intro l ds G R vs H Q q r d2 k
  unfold wH at q;split at q
  ·rename_i o d e
   cases e;obtain⟨xs',j,e1,f1,f2,i,q⟩:=q;obtain⟨v,rfl,d3⟩:=zAF d2;obtain⟨us,hsq,hd⟩:=r.sq (show Ls G l xs' from e1);exact⟨l,us,xs',d,v,j,rfl,rfl,hsq,hd,d3,f1,f2,i,k _ G q _ H (.refl H) r (by unfold zO;rfl)⟩
  ·exact q.elim
theorem zG6{k:Nat}{e2:Expr}(hr:yR k X.A)(ho:E2 X o to)(ha:A2 X [e,e2] t)
  (hbase:autoParam (attributeBase o "index" X.env (eval o X.env)=eval o X.env) Zq4._auto_1)
  (hfew:autoParam (((backTo cpos (starEach [e,e2] X.env)).all (fun x=>!x.1)&&(backToKw cpos (keywordEach [] X.env)).all (fun x=>x.1.isSome)
   && decide ([e,e2].length+([]:List Keyword).length+(if ([]:List Keyword).isEmpty then 0 else 1)<30))=true) Zq4._auto_1)
  (hline:autoParam ((apos.endLine==cpos.line)=true) Zq4._auto_1) (hs:autoParam (starEach [e,e2] X.env=(false,eval e X.env)::starEach [e2] X.env) Zq4._auto_1) (hplain:autoParam ((backTo cpos (starEach [e2] X.env)).any (·.1)=false) Zq4._auto_1) :
  E2 X (.Call (.Attribute o "index" apos) [e,e2] [] cpos) (xMt zAv to t):=by
 refine zPw (rL:=fun u0 u0 u0 u0=>False) PySem.F.slot_tuple_index PySem.F.slot_list_index PySem.F.type_tuple_index PySem.F.type_list_index (zLX (by have:=hr.units;omega)) (fun u0 u0 u0 u0 u0 u0 u0 u0 u0 u0 u0 u0 z=>z.elim) ?_ ?_ ho ha hbase hfew hline hs hplain
 ·intro xs ds G R a vs us H Q q r hsq hd d2 k
  unfold zAv at q;split at q
  ·rename_i xs' d lo e
   cases e;obtain⟨l,j,rfl,f1,f2,i,q⟩:=q;obtain⟨v,v',rfl,d3,d4⟩:=zLG d2;unfold zO at d4;subst d4;exact⟨a,us,xs,d,v,l,j,rfl,rfl,fun z=>(by cases z),hsq,hd,d3,f1,f2,i,k _ G q _ H (.refl H) r (by unfold zO;rfl)⟩
  ·exact q.elim
 ·intro l ds G R vs H Q q r d2 k
  unfold zAv at q;split at q
  ·rename_i e;cases e
  ·exact q.elim
noncomputable def zRK(K:PySem.W.Frag):V->List V->Hp->VK->Prop:=fun x vs H Q=>∃ a xs ds d v,x=.ref a/\vs=[v]/\SqT K H a xs/\Dens K H ds xs/\zO K H d v/\flat 8 d=true/\(∀ z∈ds,flat 8 z=true)/\Q (.int ((ds.countP fun z=>yz z d:Nat):Int)) H
theorem zJx{its:List Value}{ds:List D}{e:Value->Bool}{g:D->Bool}:its.length=ds.length->(∀(j:Nat) (w:Value) (z:D),its[j]?=some w->ds[j]?=some z->e w=g z)->its.countP e=ds.countP g:=by
 induction its generalizing ds with
 | nil =>
  intro h u0;have:ds=[]:=du.mp h.symm;subst this;rfl
 | cons w r ih =>
  intro h hh;cases ds with
  | nil=>simp at h
  | cons z ds =>
   rw[List.countP_cons,List.countP_cons,ih (by simpa using h) fun j w' z' h1 h2=>hh (j+1) w' z' (by simpa using h1) (by simpa using h2),hh 0 w z rfl rfl]
theorem zNX(hu:X.A.units+10<cLine):MtR X "tuple.count" (zRK X.K):=by
 intro pins s σ H x vs v us Q I rx rv h;obtain⟨a,xs,ds,d,v0,rfl,rfl,hs,hd,hv,f1,f2,q⟩:=h;cases rx;obtain⟨u,rfl,ru⟩:=vals1 rv;obtain⟨its,r,ht,hz⟩:=I.tuple hs;obtain⟨e,e1,e2,e3⟩:=zF5 (A:=X.A.in1) I hd r hv ru f2 f1 (by rw[in1_units];omega);obtain⟨⟨cls,dd,data,sl⟩,ho,hc,n,hdt⟩:=id ht;simp only at hc hdt;subst hc hdt;refine call_meets PySem.F.slot_tuple_count ⟨_,ho,rfl⟩ PySem.F.entry_tuple_count (PySem.F.args_tuple_count_2 _ _) (SeqAt.tuple_countAt a its.toArray n dd sl u e) ⟨ho,e1,?_⟩;rw[List.toList_toArray,zJx e2 e3];exact⟨.int _,H,I.tok _,⟨_,rfl⟩,q⟩
noncomputable def zAw:wV:=fun ds G R=>match ds with
 | [.tup xs,d]=>flat 8 d=true/\(∀ z∈xs,flat 8 z=true)/\R (.int ((xs.countP fun z=>yz z d:Nat):Int)) G
 | _=>False
theorem zLY{k:Nat}(hr:yR k X.A)(ho:E2 X o to)(ha:A2 X [e] t)
  (hbase:autoParam (attributeBase o "count" X.env (eval o X.env)=eval o X.env) Zq4._auto_1)
  (hfew:autoParam (((backTo cpos (starEach [e] X.env)).all (fun x=>!x.1)&&(backToKw cpos (keywordEach [] X.env)).all (fun x=>x.1.isSome)
   && decide ([e].length+([]:List Keyword).length+(if ([]:List Keyword).isEmpty then 0 else 1)<30))=true) Zq4._auto_1)
  (hline:autoParam ((apos.endLine==cpos.line)=true) Zq4._auto_1) (hs:autoParam (starEach [e] X.env=(false,eval e X.env)::starEach [] X.env) Zq4._auto_1) (hplain:autoParam ((backTo cpos (starEach [] X.env)).any (·.1)=false) Zq4._auto_1) :
  E2 X (.Call (.Attribute o "count" apos) [e] [] cpos) (xMt zAw to t):=by
 refine zPw (rL:=fun u0 u0 u0 u0=>False) PySem.F.slot_tuple_count PySem.F.slot_list_count PySem.F.type_tuple_count PySem.F.type_list_count (zNX (by have:=hr.units;omega)) (fun u0 u0 u0 u0 u0 u0 u0 u0 u0 u0 u0 u0 z=>z.elim) ?_ ?_ ho ha hbase hfew hline hs hplain
 ·intro xs ds G R a vs us H Q q r hsq hd d2 k
  unfold zAw at q;split at q
  ·rename_i xs' d e
   cases e;obtain⟨f1,f2,q⟩:=q;obtain⟨v,rfl,d3⟩:=zAF d2;exact⟨a,us,xs,d,v,rfl,rfl,hsq,hd,d3,f1,f2,k _ G q _ H (.refl H) r (by unfold zO;rfl)⟩
  ·exact q.elim
 ·intro l ds G R vs H Q q r d2 k
  unfold zAw at q;split at q
  ·rename_i e;cases e
  ·exact q.elim
end
end L3
namespace HT
section
variable {prog:Program} {w:World} {A:Around} {R:Result->Shared->Prop} {I:Addr} {fp wr:List Addr} {n:Nat} {P:Nat->Value->Prop} {St:Nat->Heap->Prop}
end
section
variable {prog:Program} {w:World} {A:Around} {E:Value->Shared->Prop} {s:Shared}
theorem IsTup.at'{h h':Heap}{a:Addr}{its:Array Value}(x:IsTup h a its)(k:∀ o,h.get? a=some o->h'.get? a=some o):IsTup h' a its:=let ⟨o,h1,h2,h3⟩:=x;⟨o,k o h1,h2,h3⟩
end
end HT
namespace L3
open L2
section
variable {X:Cx} {a b c d e o:Expr} {es:List Expr} {pos p:Pos} {ta tb tc td te:zj} {tl:TL2}
theorem zIz{x:Str}{n:Int}{t:Tok}(hg:Gl X x)(hm:X.mg x=some (.int n t))(hd:autoParam ((x==("__debug__":Str))=false) Zq2._auto_1):E2 X (.Name x pos) (xC (.int n)):=by
 refine PE.mono (zMw (v:=.int n) hg hm ⟨t,rfl⟩ hd) ?_;rintro σ1 H Q ⟨σ,G,R,r,q,k⟩;exact k _ G q _ H (.refl H) r.g (by unfold zO;rfl)
theorem zG7{A:Around}{prog:Program}{w:World}{bs:List Bool}:TruthOf prog w A (fun i v=>(bs.map Value.bool).toArray[i]?=some v) (fun i=>bs.getD i false):=by
 intro i v s Q E h q;have hi:i<bs.length:=by
  have:=(cU.mp h).1;simpa using this
 have:v=.bool bs[i]:=by
  have:=h;simp[hi] at this;exact this.symm
 subst this;have e:bs.getD i false=bs[i]:=by simp[cO,hi]
 have q':Q (bs.getD i false) s:=q;rw[e] at q';exact d9 q'
theorem any_range(bs:List Bool):(bz bs.length).any (fun i=>bs.getD i false)=bs.any id:=by
 rw[cG];simp only[eD,bV,id];constructor
 ·rintro⟨i,hi,h⟩
  have:bs.getD i false=bs[i]:=by simp[cO,hi]
  rw[this] at h;exact⟨_,cJ _,h⟩
 ·rintro⟨x,hx,rfl⟩
  obtain⟨i,hi⟩:=eV hx;have hl:i<bs.length:=(bD.mp hi).1;exact⟨i,hl,by simp[cO,hi]⟩
theorem zEH:∀ {bs:List Bool} {us:List Value},zX (bs.map V.bl) us->us=bs.map Value.bool
 | [],_,h=>by cases h;rfl
 | b::r,_,h=>by
  rw[cz] at h;cases h with
  | cons h1 h2=>rw[zEH h2,(show _=Value.bool b from h1)];rfl
theorem zJy(hc:X.calm=true):wO X (.builtin "any") (fun xs H Q=>∃ l bs,xs=[.ref l]/\SqL X.K H l (bJ V.bl bs)/\Q (.bl (bs.any id)) H):=by
 intro pins s σ H xs us Q I r h;obtain⟨l,bs,rfl,hs,q⟩:=h;obtain⟨u,rfl,rx⟩:=vals1 r;cases rx;obtain⟨its,rv,pl,u0⟩:=I.list hs;have:=zEH rv;subst this;have hl:=pl.isList;have ll:l<s.heap.objs.size:=by obtain⟨o,e,u0⟩:=hl;exact bC e
 refine call_any_walkS (wpAny_pyIter_list hl ?_);refine⟨_,_,_,_,_,_,_,fun i=>bs.getD i false,rfl,(Walks.list (A:=X.A.in1) (I.ok.hd hc) s.heap.objs.size l (bO ll) (bs.map Value.bool).toArray).toS,⟨⟨_,bB _ rfl,rfl,rfl⟩,hl.push _⟩,zG7,fun s' hm=>?_⟩;have e1:(bs.map Value.bool).toArray.size=bs.length:=by simp
 rw[e1,any_range,Moved.eq_with hm];refine⟨.bl _,H,I.kept (t':=s'.toks) fun b o e=>hm.heap b o (fun z=>?_) (bn _ e),rfl,q⟩;rw[bG] at z;have:=bC e;rw[z] at this;exact absurd this (dO _)
noncomputable def zPx:wV:=fun ds G R=>∃ bs:List Bool,ds=bs.map D.bl/\R (.bl (bs.any id)) G
theorem Dens.bools_inv{K:PySem.W.Frag}{H:Hp}:∀ {bs:List Bool} {xs:List V},Dens K H (bs.map D.bl) xs->xs=bs.map V.bl
 | [],xs,h=>by unfold Dens at h;exact h
 | n::r,xs,h=>by
  rw[cz] at h;unfold Dens at h;obtain⟨x,y,rfl,h1,h2⟩:=h;unfold zO at h1;rw[h1,Dens.bools_inv h2];rfl
theorem zRL(hc:X.calm=true)(hg:Gl X "any")(hm:X.mg "any"=none)(ha:F2 X e tl)(he:autoParam (starEach [e] X.env=(false,eval e X.env)::starEach [] X.env) Zq4._auto_1)(hpl:autoParam ((backTo pos (starEach [] X.env)).any (·.1)=false) Zq4._auto_1) :
  E2 X (.Call (.Name "any" p) [e] [] pos) (zw zPx tl):=zLI (zJy hc) (by
   rintro ds G R l xs H Q ⟨bs,rfl,h⟩ r e d k;have:=d.bools_inv;subst this;exact⟨l,bs,rfl,.of e,k _ G h _ H (.refl H) r (by unfold zO;rfl)⟩) hg hm (by decide +kernel) ha (by decide) (by decide) he hpl
section
variable {op op' op'':CmpOp} {r r' r'':R2} {f g h:D->D->Gp->Q2->Prop}
end
end
end L3
namespace K
open L2 L3
noncomputable abbrev nD(n:Nat):D:=.int (n:Int)
noncomputable def yT(n:Nat):List (Nat×Nat):=(bz n).flatMap fun i=>(bz (n-(i+1))).map fun k=>(i,i+1+k)
noncomputable def wN(p:Nat×Nat):D:=.tup [nD p.1,nD p.2]
noncomputable def zM(n:Nat)(q:Nat×Nat->Bool):D:=.tup [nD n,.tup (((yT n).filter q).map wN)]
noncomputable def adj(q:Nat×Nat->Bool)(i j:Nat):Bool:=decide (i≠j)&&q (min i j,max i j)
theorem wA{n:Nat}{p:Nat×Nat}:p∈yT n↔p.1<p.2/\p.2<n:=by
 obtain⟨i,j⟩:=p;unfold yT;simp only[List.mem_flatMap,bF,bV,Prod.mk.injEq];constructor
 ·rintro⟨a,ha,k,hk,rfl,rfl⟩;omega
 ·rintro⟨h1,h2⟩;exact⟨i,by omega,j-(i+1),by omega,rfl,by omega⟩
theorem zCC{α β:Type}{f:α->List β}:∀ {l:List α},l.Nodup->(∀ x∈l,(f x).Nodup)->(∀ x∈l,∀ y∈l,x≠y->∀ z,z∈f x->z∉f y)->(l.flatMap f).Nodup
 | [],_,_,_=>by simp
 | a::r,h,h1,h2=>by
  rw[List.flatMap_cons];obtain⟨ha,hr⟩:=dq.mp h;refine eP.mpr ⟨h1 a (by simp),zCC hr (fun x hx=>h1 x (by simp[hx])) (fun x hx y hy=>h2 x (by simp[hx]) y (by simp[hy])),fun x hx y hy e=>?_⟩;subst e;obtain⟨b,hb,hz⟩:=List.mem_flatMap.mp hy;exact h2 a (by simp) b (by simp[hb]) (fun e=>ha (e▸hb)) x hx hz
theorem zCD{α β:Type}{f:α->β}(hf:∀ x y,f x=f y->x=y):∀ {l:List α},l.Nodup->(l.map f).Nodup
 | [],_=>by simp
 | a::r,h=>by
  obtain⟨ha,hr⟩:=dq.mp h;rw[cz];refine dq.mpr ⟨fun hm=>?_,zCD hf hr⟩;obtain⟨b,hb,e⟩:=bF.mp hm;exact ha (hf _ _ e▸hb)
theorem zJz(n:Nat):(yT n).Nodup:=by
 unfold yT;refine zCC eA (fun i u0=>zCD (fun x y e=>by simpa using e) eA) fun i u0 j u0 hne z hz hz'=>?_;obtain⟨k,u0,rfl⟩:=bF.mp hz;obtain⟨k',u0,e⟩:=bF.mp hz';exact hne (by simpa using(congrArg Prod.fst e).symm)
theorem zEI{n:Nat}(h:n<=100):(yT n).length<=10000:=by
 unfold yT;rw[List.length_flatMap];have:∀ l:List Nat,(∀ x∈l,x<=100)->l.sum<=100*l.length:=by
  intro l
  induction l with
  | nil=>simp
  | cons a r ih =>
   intro h;have h1:=h a (by simp);have h2:=ih fun x hx=>h x (by simp[hx]);simp only[List.sum_cons,bu];omega
 have q:=this ((bz n).map fun i=>((bz (n-(i+1))).map fun k=>(i,i+1+k)).length) (by simp;omega);simp only[bA,ck] at q ⊢;omega
theorem zEJ{n:Nat}(p:Nat×Nat):flat (n+1) (wN p)=true:=by simp[wN,flat]
theorem zBp{i j:Int}:yz (.int i) (.int j)=decide (i=j):=by show(i==j)=decide (i=j);rw[cG];simp
theorem zNY(p q:Nat×Nat):yz (wN p) (wN q)=decide (p=q):=by
 obtain⟨a,b⟩:=p;obtain⟨c,d⟩:=q;show(((a:Int)==(c:Int))&&(((b:Int)==(d:Int))&&true))=decide ((a,b)=(c,d));rw[cG];simp;omega
theorem zNZ(l:List (Nat×Nat))(p:Nat×Nat):((l.map wN).any fun z=>yz z (wN p))=decide (p∈l):=by
 rw[List.any_map,cG];simp only[eD,Function.comp,zNY,decide_eq_true_eq];constructor
 ·rintro⟨x,h,rfl⟩;exact h
 ·intro h;exact⟨p,h,rfl⟩
theorem yP{n:Nat}{q:Nat×Nat->Bool}:flat 8 (zM n q)=true:=by
 simp only[zM,flat,List.all_cons,List.all_nil,Bool.and_true,Bool.true_and,eZ];intro x hx;obtain⟨p,u0,rfl⟩:=bF.mp hx;exact zEJ p
theorem zDf{a b:Nat}:((a:Int)=(b:Int))↔a=b:=by omega
theorem zBE{n:Nat}{q:Nat×Nat->Bool}{G:Gp}{R:Q2}:yg (zM n q) (.int 0) G R=R (nD n) G:=zCh
theorem zBa{n:Nat}{q:Nat×Nat->Bool}{G:Gp}{R:Q2}:yg (zM n q) (.int 1) G R=R (.tup (((yT n).filter q).map wN)) G:=zCi
noncomputable def yZ:List D->Gp->(List D->Gp->Prop)->Prop:=fun ds G R=>∃ n:Nat,ds=[nD n]/\n<=100/\R ((yT n).map wN) G
theorem zCN:∀ ds G R R',(∀ ls G',R ls G'->R' ls G')->yZ ds G R->yZ ds G R':=by
 rintro ds G R R' h ⟨n,e,hn,q⟩;exact⟨n,e,hn,h _ _ q⟩
noncomputable def yC:List D->Gp->(List D->Gp->Prop)->Prop:=fun ds G R=>∃ ps:List Nat,ds=[.tup (ps.map nD)]/\ps.length<=100/\R (((yT ps.length).map fun p=>(ps.getD p.1 0,ps.getD p.2 0)).map wN) G
theorem zCE:∀ ds G R R',(∀ ls G',R ls G'->R' ls G')->yC ds G R->yC ds G R':=by
 rintro ds G R R' h ⟨n,e,hn,q⟩;exact⟨n,e,hn,h _ _ q⟩
noncomputable def yV:=yZ
theorem zCk:∀ ds G R R',(∀ ls G',R ls G'->R' ls G')->yV ds G R->yV ds G R':=zCN
noncomputable def yf:wV:=fun ds G R=>∃(n:Nat) (q:Nat×Nat->Bool) (i j:Nat),ds=[zM n q,nD i,nD j]/\i<n/\j<n/\R (.bl (adj q i j)) G
noncomputable def wX:wV:=fun ds G R=>∃(n:Nat) (q:Nat×Nat->Bool) (i:Nat),ds=[zM n q,nD i]/\i<n/\n<=100/\R (.tup (((bz n).filter (adj q i)).map nD)) G
noncomputable def zF6:yS:=(zm (zZ (fIn false) (wU (zA (zJ zAa (zA (zD 1) (zA (zD 2) zI))) (zA (zJ zAu (zA (zD 1) (zA (zD 2) zI))) zI))) (zZ yg (zD 0) (xC (.int 1)))))
theorem zNa{n:Nat}{q:Nat×Nat->Bool}{i j:Nat}(hi:i<n)(hj:j<n):decide ((min i j,max i j)∈(yT n).filter q)=adj q i j:=by
 rw[cG,decide_eq_true_eq,cF,wA];unfold adj;simp only[dN,decide_eq_true_eq];constructor
 ·rintro⟨h1,h2⟩;exact⟨by omega,h2⟩
 ·rintro⟨h1,h2⟩;exact⟨by omega,h2⟩
theorem zLZ{n:Nat}{q:Nat×Nat->Bool}:∀ d∈((yT n).filter q).map wN,flat 8 d=true:=by
 intro x hx;obtain⟨p,u0,rfl⟩:=bF.mp hx;exact zEJ p
theorem zPy(ds:List D)(G:Gp)(R:Q2)(h:yf ds G R):ds.length=3/\zF6 (zg R) (zW ["web","one","other"] ds) G:=by
 obtain⟨n,q,i,j,rfl,hi,hj,h⟩:=h;refine⟨rfl,?_⟩;have e1:(if (j:Int)<(i:Int) then (j:Int) else i)=((min i j:Nat):Int):=by split<;>omega
 have e2:(if (j:Int)>(i:Int) then (j:Int) else i)=((max i j:Nat):Int):=by split<;>omega
 unfold zF6
 ((try dsimp only [zm,zT,zk,xIf,wF,zx,gN,gNN,zZ,wU,zAC,yA,zA,zI,zJ,zy,zw,yM,zD,look,zW,zAa,zAu,zBB,zCh,zCi,zEG,zBE,zBa,fII,yu,ym,fEq,xC,xB,zBU,zAt,ww,zEw,bJ,bv,bx,bp,bq,bu,bw,bo,br,Nat.reduceSub,Nat.reduceAdd,zH8,zH9,zIA,zIB,wW,zBC,zBD,if_true,if_false,bj]) <;> (try simp only [zm,zT,zk,xIf,wF,zx,gN,gNN,zZ,wU,zAC,yA,zA,zI,zJ,zy,zw,yM,zD,look,zW,zAa,zAu,zBB,zCh,zCi,zEG,zBE,zBa,fII,yu,ym,fEq,xC,xB,zBU,zAt,ww,zEw,bJ,bv,bx,bp,bq,bu,bw,bo,br,Nat.reduceSub,Nat.reduceAdd,zH8,zH9,zIA,zIB,wW,zBC,zBD,if_true,if_false,bj]))
 rw[e1,e2];have e3:=zNZ ((yT n).filter q) (min i j,max i j);rw[zNa hi hj] at e3;refine⟨zEJ (min i j,max i j),zLZ,?_⟩;rw[<-e3] at h;exact .of h
noncomputable def zCl:yS:=(zm (zw yM (yv (iR1 (zA (zZ yg (zD 0) (xC (.int 0))) zI)) bd1 (xB (zJ yf (zA (zD 0) (zA (zD 1) (zA (zD 2) zI))))) (zD 2))))
theorem zBF(n:Nat):yI 0 ((n:Int)).toNat=(bz n).map nD:=by simp[yI,nD]
theorem zLa(ds:List D)(G:Gp)(R:Q2)(h:wX ds G R):ds.length=2/\zCl (zg R) (zW ["web","place"] ds) G:=by
 obtain⟨n,q,i,rfl,hi,hn,h⟩:=h;refine⟨rfl,?_⟩;unfold zCl zm;have hw:PuI (iR1 (zA (zZ yg (zD 0) (xC (.int 0))) zI)) (zW ["web","place"] [zM n q,nD i]) G ((bz n).map nD):=by
  rw[<-zBF];exact zFO (zF (yx (zE rfl) wL fun u0 u0 u0 q=>by rw[zBE];exact q) zP) (by omega)
 have:=zCf (tc:=(xB (zJ yf (zA (zD 0) (zA (zD 1) (zA (zD 2) zI)))))) (te:=zD 2) (bd:=bd1) (fun d=>match d with | .int j=>adj q i j.toNat | _=>false) (fun d=>d) (fun d=>[d]) hw fun x hx=>by
  obtain⟨j,hj,rfl⟩:=bF.mp hx;refine⟨rfl,zAQ (zt (zF (zE rfl) (zF (zE rfl) (zF (zE rfl) zP))) fun u0 u0 u0 q'=>⟨n,q,i,j,rfl,hi,bV.mp hj,q'⟩),fun u0=>zE rfl⟩
 refine zEE this G (.refl G) _ (.of ?_);have e:bJ (fun d=>d) (List.filter (fun d=>match d with | .int j=>adj q i j.toNat | _=>false) ((bz n).map nD))=((bz n).filter (adj q i)).map nD:=by
  rw[List.map_id',List.filter_map];rfl
 rw[e];exact h
noncomputable def zI0(d:D):Nat×Nat:=match d with | .tup [.int i,.int j]=>(i.toNat,j.toNat) | _=>(0,0)
theorem zFQ(p:Nat×Nat):zI0 (wN p)=p:=rfl
theorem zEK(f:Nat×Nat->Bool)(l:List (Nat×Nat)):bJ (fun d=>d) (List.filter (fun d=>f (zI0 d)) (l.map wN))=(l.filter f).map wN:=by
 rw[List.map_id',List.filter_map];congr 1
theorem zBN{σ:S2}{G:Gp}{n:Nat}{q:Nat×Nat->Bool}{t:zj}(h:zi t σ G (zM n q)):zi (zZ yg t (xC (.int 0))) σ G (nD n):=yx h wL fun u0 u0 u0 q=>by rw[zBE];exact q
theorem zRM{σ:S2}{G:Gp}{n:Nat}{q:Nat×Nat->Bool}{t:zj}(h:zi t σ G (zM n q)):zi (zZ yg t (xC (.int 1))) σ G (.tup (((yT n).filter q).map wN)):=yx h wL fun u0 u0 u0 q=>by rw[zBa];exact q
theorem wY{l:Addr}{x:D}{ds:List D}{k:Int}{G:Gp}{R:Q2}(h:G.m l=some ds)(e:atI ds k=some x)(q:R x G):yg (.adr l) (.int k) G R:=⟨ds,x,.inl h,e,q⟩
theorem zOj{i:Nat}{l:Addr}{x d:D}{r:List D}{σ:S2}{G:Gp}{R:S2->Gp->Prop}(ho:look σ i=some (.adr l))(h:G.m l=some (x::r))(q:R σ (zd G l (d::r))):gIx (zD i) (xC (.int 0)) d σ G R:=by
 unfold gIx zD;rw[ho];show match G.m l with | some ds=>_ | none=>_
 rw[h];have e:ixN (x::r).length 0=some 0:=by simp[ixN]
 show match ixN (x::r).length 0 with | some j=>R σ (zd G l ((x::r).set j d)) | none=>False
 rw[e];exact q
noncomputable def wP:wV:=fun ds G R=>∃(a:Addr) (ns:List Int) (k:Nat),ds=[.adr a,nD k]/\Ls G a (ns.map D.int)/\∀ c:Int,R (.int c) G
noncomputable def zAc:yS:=(zT (xIf (xB (zZ (fII fun i j=>.bl (decide (i<j))) (zD 1) (zJ yi (zA (zD 0) zI)))) (zm (zZ yg (zD 0) (zD 1))) zx) (zm (xC (.int 0))))
theorem zG8(ds:List D)(G:Gp)(R:Q2)(h:wP ds G R):ds.length=2/\zAc (zg R) (zW ["script","k"] ds) G:=by
 obtain⟨a,ns,k,rfl,ha,h⟩:=h;refine⟨rfl,?_⟩;unfold zAc
 ((try dsimp only [zm,zT,zk,xIf,wF,zx,gN,gNN,zZ,wU,zAC,yA,zA,zI,zJ,zy,zw,yM,zD,look,zW,zAa,zAu,zBB,zCh,zCi,zEG,zBE,zBa,fII,yu,ym,fEq,xC,xB,zBU,zAt,ww,zEw,bJ,bv,bx,bp,bq,bu,bw,bo,br,Nat.reduceSub,Nat.reduceAdd,zH8,zH9,zIA,zIB,wW,zBC,zBD,if_true,if_false,bj]) <;> (try simp only [zm,zT,zk,xIf,wF,zx,gN,gNN,zZ,wU,zAC,yA,zA,zI,zJ,zy,zw,yM,zD,look,zW,zAa,zAu,zBB,zCh,zCi,zEG,zBE,zBa,fII,yu,ym,fEq,xC,xB,zBU,zAt,ww,zEw,bJ,bv,bx,bp,bq,bu,bw,bo,br,Nat.reduceSub,Nat.reduceAdd,zH8,zH9,zIA,zIB,wW,zBC,zBD,if_true,if_false,bj]))
 refine⟨ns.map D.int,ha,?_⟩;dsimp only;by_cases hk:k<ns.length
 ·rw[decide_eq_true (by rw[bA];omega),if_pos rfl]
  exact⟨_,.int ns[k],ha,zA6 (by simp[hk]),FgR.of (h _)⟩
 ·rw[decide_eq_false (by rw[bA];omega),if_neg (by simp)]
  exact FgR.of (h 0)
noncomputable def yW:List D->Gp->(List D->Gp->Prop)->Prop:=fun ds G R=>∃(a:Addr) (ns:List Int) (k:Nat),ds=[.adr a,nD k]/\Ls G a (ns.map D.int)/\∀ s b,OkS s b->R [.int s,.bl b] G
theorem zF7:∀ ds G R R',(∀ ls G',R ls G'->R' ls G')->yW ds G R->yW ds G R':=by
 rintro ds G R R' h ⟨a,ns,k,e,ha,q⟩;exact⟨a,ns,k,e,ha,fun s b o=>h _ _ (q s b o)⟩
noncomputable def zBq:yS:=(zT (zk (zJ wP (zA (zD 0) (zA (zD 1) zI))) (gN 2)) (zT (xIf (xB (zZ (fII fun i j=>.bl (decide (j<=i))) (zD 2) (zZ (yu zJb fun i j=>.int (i ^ j.toNat)) (xC (.int 10)) (xC (.int 18))))) (zm (yA (zAC (zA (zZ (fII fun i j=>.int (i-j)) (zD 2) (zZ (yu zJb fun i j=>.int (i ^ j.toNat)) (xC (.int 10)) (xC (.int 18)))) (zA (xC (.bl true)) zI))))) zx) (zm (yA (zAC (zA (zZ (yu (fun u0 j=>0<j) fun i j=>.int (i%j)) (zD 2) (xC (.int 2147483647))) (zA (xC (.bl false)) zI)))))))
theorem zLb:zJb 10 18:=by unfold zJb;decide
theorem zJ0(ds:List D)(G:Gp)(R:Q2)(h:spL yW ds G R):ds.length=2/\zBq (zg R) (zW ["script","k","cell"] ds) G:=by
 obtain⟨a,ns,k,rfl,ha,h⟩:=h;refine⟨rfl,?_⟩;unfold zBq
 ((try dsimp only [zm,zT,zk,xIf,wF,zx,gN,gNN,zZ,wU,zAC,yA,zA,zI,zJ,zy,zw,yM,zD,look,zW,zAa,zAu,zBB,zCh,zCi,zEG,zBE,zBa,fII,yu,ym,fEq,xC,xB,zBU,zAt,ww,zEw,bJ,bv,bx,bp,bq,bu,bw,bo,br,Nat.reduceSub,Nat.reduceAdd,zH8,zH9,zIA,zIB,wW,zBC,zBD,if_true,if_false,bj]) <;> (try simp only [zm,zT,zk,xIf,wF,zx,gN,gNN,zZ,wU,zAC,yA,zA,zI,zJ,zy,zw,yM,zD,look,zW,zAa,zAu,zBB,zCh,zCi,zEG,zBE,zBa,fII,yu,ym,fEq,xC,xB,zBU,zAt,ww,zEw,bJ,bv,bx,bp,bq,bu,bw,bo,br,Nat.reduceSub,Nat.reduceAdd,zH8,zH9,zIA,zIB,wW,zBC,zBD,if_true,if_false,bj]))
 refine⟨a,ns,k,rfl,ha,fun c=>?_⟩
 ((try dsimp only [zm,zT,zk,xIf,wF,zx,gN,gNN,zZ,wU,zAC,yA,zA,zI,zJ,zy,zw,yM,zD,look,zW,zAa,zAu,zBB,zCh,zCi,zEG,zBE,zBa,fII,yu,ym,fEq,xC,xB,zBU,zAt,ww,zEw,bJ,bv,bx,bp,bq,bu,bw,bo,br,Nat.reduceSub,Nat.reduceAdd,zH8,zH9,zIA,zIB,wW,zBC,zBD,if_true,if_false,bj]) <;> (try simp only [zm,zT,zk,xIf,wF,zx,gN,gNN,zZ,wU,zAC,yA,zA,zI,zJ,zy,zw,yM,zD,look,zW,zAa,zAu,zBB,zCh,zCi,zEG,zBE,zBa,fII,yu,ym,fEq,xC,xB,zBU,zAt,ww,zEw,bJ,bv,bx,bp,bq,bu,bw,bo,br,Nat.reduceSub,Nat.reduceAdd,zH8,zH9,zIA,zIB,wW,zBC,zBD,if_true,if_false,bj]))
 refine⟨zLb,?_⟩;split
 ·refine⟨zLb,fun l hl=>?_⟩
  exact FgR.of (h _ true (fun z=>by cases z) l hl)
 ·refine⟨by decide,fun l hl=>?_⟩
  exact FgR.of (h _ false (fun u0=>⟨Int.emod_nonneg _ (by decide),Int.emod_lt_of_pos _ (by decide)⟩) l hl)
noncomputable def zc:wV:=fun ds G R=>∃(l:Addr) (m:Nat),ds=[.adr l,nD m]/\zAk G l/\0<m/\m<1000000/\∀(r:Nat) G',r<m->Dr l G G'->R (nD r) G'
noncomputable def zCm:yS:=(zT (xIf (xB (zZ yg (zD 0) (xC (.int 1)))) (zT (zk (zZ (yu (fun u0 j=>0<j) fun i j=>.int (i%j)) (zZ yg (zD 0) (xC (.int 0))) (zD 1)) (gN 2)) (zT (zk (zZ (yu zGp fun i j=>.int (i / j)) (zZ yg (zD 0) (xC (.int 0))) (zD 1)) (gIx (zD 0) (xC (.int 0)))) (zm (zD 2)))) zx) (zT (zk (zZ (yu (fun u0 j=>0<j) fun i j=>.int (i%j)) (zZ ym (zZ (yu zEt fun i j=>.int (i*j)) (zZ yg (zD 0) (xC (.int 0))) (xC (.int 48271))) (xC (.int 29))) (xC (.int 2147483647))) (gIx (zD 0) (xC (.int 0)))) (zT (zk (zZ (yu (fun u0 j=>0<j) fun i j=>.int (i%j)) (zZ ym (zZ ym (zZ (yu zEt fun i j=>.int (i*j)) (zZ yg (zD 0) (xC (.int 0))) (zZ yg (zD 0) (xC (.int 0)))) (zZ (yu zEt fun i j=>.int (i*j)) (xC (.int 39373)) (zZ yg (zD 0) (xC (.int 0))))) (xC (.int 7))) (xC (.int 2147483629))) (gN 3)) (zT (zk (zZ (yu (fun u0 j=>0<j) fun i j=>.int (i%j)) (zZ ym (zZ (yu zEt fun i j=>.int (i*j)) (zD 3) (zD 3)) (zZ (yu zEt fun i j=>.int (i*j)) (xC (.int 16807)) (zD 3))) (xC (.int 2147483587))) (gN 3)) (zm (zZ (yu (fun u0 j=>0<j) fun i j=>.int (i%j)) (zZ (yu zGp fun i j=>.int (i / j)) (zD 3) (xC (.int 8))) (zD 1)))))))
theorem zEL{x:Int}{m:Nat}(h:0<m):∃ r:Nat,r<m/\x%(m:Int)=r:=⟨(x%(m:Int)).toNat,by
 have h1:=Int.emod_nonneg x (b:=(m:Int)) (by omega);have h2:=Int.emod_lt_of_pos x (b:=(m:Int)) (by omega);omega,by
 have h1:=Int.emod_nonneg x (b:=(m:Int)) (by omega);omega⟩
theorem zLc(ds:List D)(G:Gp)(R:Q2)(h:zc ds G R):ds.length=2/\zCm (zg R) (zW ["state","many","found","mixed"] ds) G:=by
 obtain⟨l,m,rfl,⟨s,b,hG,ok⟩,hm,hm2,h⟩:=h;refine⟨rfl,?_⟩;unfold zCm
 ((try dsimp only [zm,zT,zk,xIf,wF,zx,gN,gNN,zZ,wU,zAC,yA,zA,zI,zJ,zy,zw,yM,zD,look,zW,zAa,zAu,zBB,zCh,zCi,zEG,zBE,zBa,fII,yu,ym,fEq,xC,xB,zBU,zAt,ww,zEw,bJ,bv,bx,bp,bq,bu,bw,bo,br,Nat.reduceSub,Nat.reduceAdd,zH8,zH9,zIA,zIB,wW,zBC,zBD,if_true,if_false,bj]) <;> (try simp only [zm,zT,zk,xIf,wF,zx,gN,gNN,zZ,wU,zAC,yA,zA,zI,zJ,zy,zw,yM,zD,look,zW,zAa,zAu,zBB,zCh,zCi,zEG,zBE,zBa,fII,yu,ym,fEq,xC,xB,zBU,zAt,ww,zEw,bJ,bv,bx,bp,bq,bu,bw,bo,br,Nat.reduceSub,Nat.reduceAdd,zH8,zH9,zIA,zIB,wW,zBC,zBD,if_true,if_false,bj]))
 refine wY hG (zG5 _ _ _) ?_;cases b with
 | true =>
  ((try dsimp only [zm,zT,zk,xIf,wF,zx,gN,gNN,zZ,wU,zAC,yA,zA,zI,zJ,zy,zw,yM,zD,look,zW,zAa,zAu,zBB,zCh,zCi,zEG,zBE,zBa,fII,yu,ym,fEq,xC,xB,zBU,zAt,ww,zEw,bJ,bv,bx,bp,bq,bu,bw,bo,br,Nat.reduceSub,Nat.reduceAdd,zH8,zH9,zIA,zIB,wW,zBC,zBD,if_true,if_false,bj]) <;> (try simp only [zm,zT,zk,xIf,wF,zx,gN,gNN,zZ,wU,zAC,yA,zA,zI,zJ,zy,zw,yM,zD,look,zW,zAa,zAu,zBB,zCh,zCi,zEG,zBE,zBa,fII,yu,ym,fEq,xC,xB,zBU,zAt,ww,zEw,bJ,bv,bx,bp,bq,bu,bw,bo,br,Nat.reduceSub,Nat.reduceAdd,zH8,zH9,zIA,zIB,wW,zBC,zBD,if_true,if_false,bj]))
  refine wY hG (zCg _ _) ?_
  ((try dsimp only [zm,zT,zk,xIf,wF,zx,gN,gNN,zZ,wU,zAC,yA,zA,zI,zJ,zy,zw,yM,zD,look,zW,zAa,zAu,zBB,zCh,zCi,zEG,zBE,zBa,fII,yu,ym,fEq,xC,xB,zBU,zAt,ww,zEw,bJ,bv,bx,bp,bq,bu,bw,bo,br,Nat.reduceSub,Nat.reduceAdd,zH8,zH9,zIA,zIB,wW,zBC,zBD,if_true,if_false,bj]) <;> (try simp only [zm,zT,zk,xIf,wF,zx,gN,gNN,zZ,wU,zAC,yA,zA,zI,zJ,zy,zw,yM,zD,look,zW,zAa,zAu,zBB,zCh,zCi,zEG,zBE,zBa,fII,yu,ym,fEq,xC,xB,zBU,zAt,ww,zEw,bJ,bv,bx,bp,bq,bu,bw,bo,br,Nat.reduceSub,Nat.reduceAdd,zH8,zH9,zIA,zIB,wW,zBC,zBD,if_true,if_false,bj]))
  refine⟨by omega,wY hG (zCg _ _) ?_⟩
  ((try dsimp only [zm,zT,zk,xIf,wF,zx,gN,gNN,zZ,wU,zAC,yA,zA,zI,zJ,zy,zw,yM,zD,look,zW,zAa,zAu,zBB,zCh,zCi,zEG,zBE,zBa,fII,yu,ym,fEq,xC,xB,zBU,zAt,ww,zEw,bJ,bv,bx,bp,bq,bu,bw,bo,br,Nat.reduceSub,Nat.reduceAdd,zH8,zH9,zIA,zIB,wW,zBC,zBD,if_true,if_false,bj]) <;> (try simp only [zm,zT,zk,xIf,wF,zx,gN,gNN,zZ,wU,zAC,yA,zA,zI,zJ,zy,zw,yM,zD,look,zW,zAa,zAu,zBB,zCh,zCi,zEG,zBE,zBa,fII,yu,ym,fEq,xC,xB,zBU,zAt,ww,zEw,bJ,bv,bx,bp,bq,bu,bw,bo,br,Nat.reduceSub,Nat.reduceAdd,zH8,zH9,zIA,zIB,wW,zBC,zBD,if_true,if_false,bj]))
  refine⟨⟨by omega,by omega⟩,zOj rfl hG ?_⟩
  ((try dsimp only [zm,zT,zk,xIf,wF,zx,gN,gNN,zZ,wU,zAC,yA,zA,zI,zJ,zy,zw,yM,zD,look,zW,zAa,zAu,zBB,zCh,zCi,zEG,zBE,zBa,fII,yu,ym,fEq,xC,xB,zBU,zAt,ww,zEw,bJ,bv,bx,bp,bq,bu,bw,bo,br,Nat.reduceSub,Nat.reduceAdd,zH8,zH9,zIA,zIB,wW,zBC,zBD,if_true,if_false,bj]) <;> (try simp only [zm,zT,zk,xIf,wF,zx,gN,gNN,zZ,wU,zAC,yA,zA,zI,zJ,zy,zw,yM,zD,look,zW,zAa,zAu,zBB,zCh,zCi,zEG,zBE,zBa,fII,yu,ym,fEq,xC,xB,zBU,zAt,ww,zEw,bJ,bv,bx,bp,bq,bu,bw,bo,br,Nat.reduceSub,Nat.reduceAdd,zH8,zH9,zIA,zIB,wW,zBC,zBD,if_true,if_false,bj]))
  obtain⟨r,hr,e⟩:=zEL (x:=s) hm;rw[e];exact FgR.of (h r _ hr ⟨_,true,rfl,fun z=>by cases z⟩)
 | false =>
  obtain⟨h0,h1⟩:=ok rfl
  ((try dsimp only [zm,zT,zk,xIf,wF,zx,gN,gNN,zZ,wU,zAC,yA,zA,zI,zJ,zy,zw,yM,zD,look,zW,zAa,zAu,zBB,zCh,zCi,zEG,zBE,zBa,fII,yu,ym,fEq,xC,xB,zBU,zAt,ww,zEw,bJ,bv,bx,bp,bq,bu,bw,bo,br,Nat.reduceSub,Nat.reduceAdd,zH8,zH9,zIA,zIB,wW,zBC,zBD,if_true,if_false,bj]) <;> (try simp only [zm,zT,zk,xIf,wF,zx,gN,gNN,zZ,wU,zAC,yA,zA,zI,zJ,zy,zw,yM,zD,look,zW,zAa,zAu,zBB,zCh,zCi,zEG,zBE,zBa,fII,yu,ym,fEq,xC,xB,zBU,zAt,ww,zEw,bJ,bv,bx,bp,bq,bu,bw,bo,br,Nat.reduceSub,Nat.reduceAdd,zH8,zH9,zIA,zIB,wW,zBC,zBD,if_true,if_false,bj]))
  refine wY hG (zCg _ _) ?_
  ((try dsimp only [zm,zT,zk,xIf,wF,zx,gN,gNN,zZ,wU,zAC,yA,zA,zI,zJ,zy,zw,yM,zD,look,zW,zAa,zAu,zBB,zCh,zCi,zEG,zBE,zBa,fII,yu,ym,fEq,xC,xB,zBU,zAt,ww,zEw,bJ,bv,bx,bp,bq,bu,bw,bo,br,Nat.reduceSub,Nat.reduceAdd,zH8,zH9,zIA,zIB,wW,zBC,zBD,if_true,if_false,bj]) <;> (try simp only [zm,zT,zk,xIf,wF,zx,gN,gNN,zZ,wU,zAC,yA,zA,zI,zJ,zy,zw,yM,zD,look,zW,zAa,zAu,zBB,zCh,zCi,zEG,zBE,zBa,fII,yu,ym,fEq,xC,xB,zBU,zAt,ww,zEw,bJ,bv,bx,bp,bq,bu,bw,bo,br,Nat.reduceSub,Nat.reduceAdd,zH8,zH9,zIA,zIB,wW,zBC,zBD,if_true,if_false,bj]))
  refine⟨.inl ⟨by omega,by omega⟩,by decide,zOj rfl hG ?_⟩;have p0:=Int.emod_nonneg (s*48271+29) (b:=2147483647) (by decide);have p1:=Int.emod_lt_of_pos (s*48271+29) (b:=2147483647) (by decide);generalize (s*48271+29)%2147483647=s1 at p0 p1 ⊢;have hG1:(zd G l [D.int s1,D.bl false]).m l=some [D.int s1,D.bl false]:=zL
  ((try dsimp only [zm,zT,zk,xIf,wF,zx,gN,gNN,zZ,wU,zAC,yA,zA,zI,zJ,zy,zw,yM,zD,look,zW,zAa,zAu,zBB,zCh,zCi,zEG,zBE,zBa,fII,yu,ym,fEq,xC,xB,zBU,zAt,ww,zEw,bJ,bv,bx,bp,bq,bu,bw,bo,br,Nat.reduceSub,Nat.reduceAdd,zH8,zH9,zIA,zIB,wW,zBC,zBD,if_true,if_false,bj]) <;> (try simp only [zm,zT,zk,xIf,wF,zx,gN,gNN,zZ,wU,zAC,yA,zA,zI,zJ,zy,zw,yM,zD,look,zW,zAa,zAu,zBB,zCh,zCi,zEG,zBE,zBa,fII,yu,ym,fEq,xC,xB,zBU,zAt,ww,zEw,bJ,bv,bx,bp,bq,bu,bw,bo,br,Nat.reduceSub,Nat.reduceAdd,zH8,zH9,zIA,zIB,wW,zBC,zBD,if_true,if_false,bj]))
  refine wY hG1 (zCg _ _) (wY hG1 (zCg _ _) ?_)
  ((try dsimp only [zm,zT,zk,xIf,wF,zx,gN,gNN,zZ,wU,zAC,yA,zA,zI,zJ,zy,zw,yM,zD,look,zW,zAa,zAu,zBB,zCh,zCi,zEG,zBE,zBa,fII,yu,ym,fEq,xC,xB,zBU,zAt,ww,zEw,bJ,bv,bx,bp,bq,bu,bw,bo,br,Nat.reduceSub,Nat.reduceAdd,zH8,zH9,zIA,zIB,wW,zBC,zBD,if_true,if_false,bj]) <;> (try simp only [zm,zT,zk,xIf,wF,zx,gN,gNN,zZ,wU,zAC,yA,zA,zI,zJ,zy,zw,yM,zD,look,zW,zAa,zAu,zBB,zCh,zCi,zEG,zBE,zBa,fII,yu,ym,fEq,xC,xB,zBU,zAt,ww,zEw,bJ,bv,bx,bp,bq,bu,bw,bo,br,Nat.reduceSub,Nat.reduceAdd,zH8,zH9,zIA,zIB,wW,zBC,zBD,if_true,if_false,bj]))
  refine⟨.inl ⟨by omega,by omega⟩,wY hG1 (zCg _ _) ?_⟩
  ((try dsimp only [zm,zT,zk,xIf,wF,zx,gN,gNN,zZ,wU,zAC,yA,zA,zI,zJ,zy,zw,yM,zD,look,zW,zAa,zAu,zBB,zCh,zCi,zEG,zBE,zBa,fII,yu,ym,fEq,xC,xB,zBU,zAt,ww,zEw,bJ,bv,bx,bp,bq,bu,bw,bo,br,Nat.reduceSub,Nat.reduceAdd,zH8,zH9,zIA,zIB,wW,zBC,zBD,if_true,if_false,bj]) <;> (try simp only [zm,zT,zk,xIf,wF,zx,gN,gNN,zZ,wU,zAC,yA,zA,zI,zJ,zy,zw,yM,zD,look,zW,zAa,zAu,zBB,zCh,zCi,zEG,zBE,zBa,fII,yu,ym,fEq,xC,xB,zBU,zAt,ww,zEw,bJ,bv,bx,bp,bq,bu,bw,bo,br,Nat.reduceSub,Nat.reduceAdd,zH8,zH9,zIA,zIB,wW,zBC,zBD,if_true,if_false,bj]))
  refine⟨.inl ⟨by omega,by omega⟩,by decide,?_⟩;have p2:=Int.emod_nonneg (s1*s1+39373*s1+7) (b:=2147483629) (by decide);have p3:=Int.emod_lt_of_pos (s1*s1+39373*s1+7) (b:=2147483629) (by decide);generalize (s1*s1+39373*s1+7)%2147483629=s2 at p2 p3 ⊢;refine⟨.inl ⟨by omega,by omega⟩,.inl ⟨by omega,by omega⟩,by decide,⟨by decide,by decide⟩,by omega,?_⟩;obtain⟨r,hr,e⟩:=zEL (x:=(s2*s2+16807*s2)%2147483587 / 8) hm;rw[e];exact FgR.of (h r _ hr ⟨_,false,rfl,fun u0=>⟨p0,p1⟩⟩)
noncomputable def zDm:yS:=(zm (yA (zy yC (zA (zLR (zA (zD 0) zI)) zI))))
noncomputable def zBG:yS:=(zT (zk (yA (zAC zI)) (gN 1)) (zT (wG (iR1 (zA (zJ yi (zA (zD 0) zI)) zI)) (gN 2) (wG (iR2 (zA (zZ ym (zD 2) (xC (.int 1))) (zA (zJ yi (zA (zD 0) zI)) zI))) (gN 3) (wF (zEC (zD 1) (zA (wU (zA (zZ yg (zD 0) (zD 2)) (zA (zZ yg (zD 0) (zD 3)) zI))) zI))))) (zm (zD 1))))
noncomputable def zAd(n i:Nat):List (Nat×Nat):=(bz i).flatMap fun i=>(bz (n-(i+1))).map fun k=>(i,i+1+k)
theorem zDJ(n:Nat):zAd n n=yT n:=rfl
theorem zCO(n i:Nat):zAd n (i+1)=zAd n i++(bz (n-(i+1))).map fun k=>(i,i+1+k):=by
 unfold zAd;rw[eK,List.flatMap_append];simp
theorem zFR{n i:Nat}(hi:i<=n)(h:n<=100):(zAd n i).length<=10000:=by
 have:(zAd n i).length<=(yT n).length:=by
  obtain⟨k,rfl⟩:=Nat.exists_eq_add_of_le hi;rw[<-zDJ];have:∀ k,(zAd (i+k) i).length<=(zAd (i+k) (i+k)).length:=fun k=>by
   unfold zAd;rw[List.range_add,List.flatMap_append,bR];omega
  exact this k
 have:=zEI h;omega
theorem zEM{n i:Nat}{x:D}(h:((bz n).map nD)[i]?=some x):x=nD i/\i<n:=by
 rw[cb] at h;cases q:(bz n)[i]? with
 | none=>rw[q] at h;cases h
 | some k =>
  rw[q] at h;cases h;obtain⟨h1,h2⟩:=bD.mp q;simp at h1 h2;subst h2;exact⟨rfl,h1⟩
theorem zJ1{lo:Int}{n i:Nat}{x:D}(h:(yI lo n)[i]?=some x):x=.int (lo+i)/\i<n:=by
 have hi:i<n:=by
  have:=(bD.mp h).1;rwa [wC] at this
 rw[zD4 hi] at h;cases h;exact⟨rfl,hi⟩
theorem zF8{wi:TI2}{g:TG2}{tb:yS}{E:yF}{σ:S2}{G:Gp}(h:wi σ G fun ds gd G1=>zJw ds gd G1 g tb E σ):wG wi g tb E σ G:=.of h
theorem zF9{t:yh}{g:TG2}{tb:yS}{E:yF}{σ:S2}{G:Gp}{n:Nat}(ht:PuA t σ G [nD n])(hn:n<=1000)(h:zJw ((bz n).map nD) (fun u0=>True) G g tb E σ):wG (iR1 t) g tb E σ G:=by
 refine zF8 (ht G (.refl G) _ ⟨by omega,?_⟩);rw[zBF];exact h
theorem zPz{t:yh}{g:TG2}{tb:yS}{E:yF}{σ:S2}{G:Gp}{i j:Int}(ht:PuA t σ G [.int i,.int j])(hn:(-1000<=i/\i<=1000)/\-1000<=j/\j<=1000)(h:zJw (yI i (j-i).toNat) (fun u0=>True) G g tb E σ):wG (iR2 t) g tb E σ G :=
 zF8 (ht G (.refl G) _ ⟨by omega,h⟩)
theorem zCn{i:Nat}{l:Addr}{d:D}{xs:List D}{σ:S2}{G:Gp}{t:yh}{R:Q2}(ho:look σ i=some (.adr l))(h:G.m l=some xs)(ht:∀ Q:List D->Gp->Prop,Q [d] G->t σ G Q)(hz:xs.length<=1000000)(q:R .non (zd G l (xs++[d]))):zEC (zD i) t σ G R:=by
 unfold zEC zD;rw[ho];show match G.m l with | some _=>_ | none=>_
 rw[h];refine ht _ ?_;show match G.m l with | some xs=>_ | none=>_
 rw[h];exact⟨hz,q⟩
theorem zNb{i:Nat}{l:Addr}{zs xs:List D}{σ:S2}{G:Gp}{t:TL2}{R:Q2}(ho:look σ i=some (.adr l))(h:G.m l=some xs)(ht:∀ Q:List D->Gp->Prop,Q zs G->t σ G Q)(hz:xs.length+zs.length<=1000000)(q:R .non (zd G l (xs++zs))):zNP (zD i) t σ G R:=by
 unfold zNP zD;rw[ho];show match G.m l with | some _=>_ | none=>_
 rw[h];refine ht _ ?_;show match G.m l with | some xs=>_ | none=>_
 rw[h];exact⟨hz,q⟩
theorem zNc{ps:List Nat}{i:Nat}(h:i<ps.length):atI (ps.map nD) (i:Int)=some (nD (ps.getD i 0)):=zA6 (by simp[cO,h])
theorem zI1{σ:S2}{G:Gp}{t u:zj}{ps:List Nat}{i:Nat}(h:zi t σ G (.tup (ps.map nD)))(h':zi u σ G (nD i))(hi:i<ps.length):zi (zZ yg t u) σ G (nD (ps.getD i 0)):=yx h h' fun u0 u0 u0 q=>by
 simp only[yg,zNc hi];exact q
theorem zI2{σ:S2}{G:Gp}{t:zj}{ps:List Nat}(h:zi t σ G (.tup (ps.map nD))):zi (zJ yi (zA t zI)) σ G (nD ps.length):=zt (zF h zP) fun u0 u0 u0 q=>⟨ps.map nD,rfl,by rw[bA];exact q⟩
theorem zIC(ds:List D)(G:Gp)(R:Q2)(h:spL yC ds G R):ds.length=1/\zBG (zg R) (zW ["places","found","k","j"] ds) G:=by
 obtain⟨ps,rfl,hn,h⟩:=h;refine⟨rfl,?_⟩;unfold zBG;let at2:Nat×Nat->Nat×Nat:=fun p=>(ps.getD p.1 0,ps.getD p.2 0)
 generalize hN:ps.length=n at *
 ((try dsimp only [zm,zT,zk,xIf,wF,zx,gN,gNN,zZ,wU,zAC,yA,zA,zI,zJ,zy,zw,yM,zD,look,zW,zAa,zAu,zBB,zCh,zCi,zEG,zBE,zBa,fII,yu,ym,fEq,xC,xB,zBU,zAt,ww,zEw,bJ,bv,bx,bp,bq,bu,bw,bo,br,Nat.reduceSub,Nat.reduceAdd,zH8,zH9,zIA,zIB,wW,zBC,zBD,if_true,if_false,bj]) <;> (try simp only [zm,zT,zk,xIf,wF,zx,gN,gNN,zZ,wU,zAC,yA,zA,zI,zJ,zy,zw,yM,zD,look,zW,zAa,zAu,zBB,zCh,zCi,zEG,zBE,zBa,fII,yu,ym,fEq,xC,xB,zBU,zAt,ww,zEw,bJ,bv,bx,bp,bq,bu,bw,bo,br,Nat.reduceSub,Nat.reduceAdd,zH8,zH9,zIA,zIB,wW,zBC,zBD,if_true,if_false,bj]))
 intro l hl;refine zF9 (n:=n) (zF (by rw[<-hN];exact zI2 (zE rfl)) zP) (by omega) ?_;refine zAb (fun i G'=>G'=zd G l (((zAd n i).map at2).map wN)) rfl (fun u0 u0 u0=>trivial) ?_ ?_
 ·rintro i x hx G2 rfl
  obtain⟨rfl,hi⟩:=zEM hx;simp only[gN,bq,bp];refine zPz (i:=(i:Int)+1) (j:=n) (zF (yx (zE rfl) wL fun u0 u0 u0 q=>q) (zF (by rw[<-hN];exact zI2 (zE rfl)) zP)) (by omega) ?_;refine zAb (fun k G'=>G'=zd G l (((zAd n i++(bz k).map fun k=>(i,i+1+k)).map at2).map wN)) (by simp) (fun u0 u0 u0=>trivial) ?_ ?_
  ·rintro k x hx G2 rfl
   obtain⟨rfl,hk⟩:=zJ1 hx;have ek:((i:Int)+1+(k:Int))=((i+1+k:Nat):Int):=by omega
   rw[ek];simp only[gN,bq,bp,wF];have hlen:=zFR (n:=n) (i:=i) (by omega) hn;have pt:PuA (zA (wU (zA (zZ yg (zD 0) (zD 2)) (zA (zZ yg (zD 0) (zD 3)) zI))) zI) [some (.tup (ps.map nD)),some (.adr l),some (nD i),some (nD (i+1+k))] (zd G l (((zAd n i++(bz k).map fun k=>(i,i+1+k)).map at2).map wN)) [wN (at2 (i,i+1+k))] :=
    zF (zED (zF (zI1 (zE rfl) (zE rfl) (by omega)) (zF (zI1 (zE rfl) (zE rfl) (by omega)) zP)) (by simp)) zP
   refine zCn (d:=wN (at2 (i,i+1+k))) rfl zL (fun Q q=>pt _ (.refl _) Q q) (by simp;omega) ⟨?_,_,.refl _,?_⟩
   ·exact .keep (.keep (.keep (.skip .nil)))
   ·rw[zAr,eK]
    simp
  ·rintro G2 rfl
   refine⟨.keep (.keep (.skip (.skip .nil))),_,.refl _,?_⟩;rw[wC,zCO];have:((n:Int)-((i:Int)+1)).toNat=n-(i+1):=by omega
   rw[this]
 ·rintro G2 rfl
  rw[bA,ck,zDJ];exact FgR.of (h l hl)
theorem zNd(ds:List D)(G:Gp)(R:Q2)(h:spL yZ ds G R):ds.length=1/\zDm (zg R) (zW ["many"] ds) G:=by
 obtain⟨n,rfl,hn,h⟩:=h;refine⟨rfl,?_⟩;unfold zDm;have e:(yT (bz n).length).map (fun p=>((bz n).getD p.1 0,(bz n).getD p.2 0))=yT n:=by
  rw[ck]
  conv=>rhs;rw[<-List.map_id' (yT n)]
  refine cZ fun p hp=>?_;obtain⟨h1,h2⟩:=wA.mp hp;have e1:(bz n).getD p.1 0=p.1:=by simp[cO,show p.1<n by omega]
  have e2:(bz n).getD p.2 0=p.2:=by simp[cO,h2]
  rw[e1,e2]
 have pt:PuA (zA (zLR (zA (zD 0) zI)) zI) (zW ["many"] [nD n]) G [.tup ((bz n).map nD)] :=
  zF (fun G2 e R q=>zF (d:=nD n) (zE rfl) zP G2 e _ ⟨by omega,by rw[zBF];exact q⟩) zP
 have:=zCd (sp:=yC) (ls:=(yT n).map wN) pt fun u0 u0 u0 q=>⟨bz n,rfl,by simpa using hn,by rw[e];exact q⟩
 refine this G (.refl G) _ fun l hl=>?_;exact FgR.of (h l hl)
noncomputable def zBr:yS:=(zT (zk (yA (zAC zI)) (gN 1)) (zT (wG (iR1 (zA (zD 0) zI)) (gN 2) (wF (zNP (zD 1) (yv (iR2 (zA (zZ ym (zD 2) (xC (.int 1))) (zA (zD 0) zI))) bd1 zEv (wU (zA (zD 2) (zA (zD 3) zI))))))) (zm (zD 1))))
theorem zJ2(ds:List D)(G:Gp)(R:Q2)(h:spL yV ds G R):ds.length=1/\zBr (zg R) (zW ["many","found","one"] ds) G:=by
 obtain⟨n,rfl,hn,h⟩:=h;refine⟨rfl,?_⟩;unfold zBr
 ((try dsimp only [zm,zT,zk,xIf,wF,zx,gN,gNN,zZ,wU,zAC,yA,zA,zI,zJ,zy,zw,yM,zD,look,zW,zAa,zAu,zBB,zCh,zCi,zEG,zBE,zBa,fII,yu,ym,fEq,xC,xB,zBU,zAt,ww,zEw,bJ,bv,bx,bp,bq,bu,bw,bo,br,Nat.reduceSub,Nat.reduceAdd,zH8,zH9,zIA,zIB,wW,zBC,zBD,if_true,if_false,bj]) <;> (try simp only [zm,zT,zk,xIf,wF,zx,gN,gNN,zZ,wU,zAC,yA,zA,zI,zJ,zy,zw,yM,zD,look,zW,zAa,zAu,zBB,zCh,zCi,zEG,zBE,zBa,fII,yu,ym,fEq,xC,xB,zBU,zAt,ww,zEw,bJ,bv,bx,bp,bq,bu,bw,bo,br,Nat.reduceSub,Nat.reduceAdd,zH8,zH9,zIA,zIB,wW,zBC,zBD,if_true,if_false,bj]))
 intro l hl;refine zF9 (n:=n) (zF (zE rfl) zP) (by omega) ?_;refine zAb (fun i G'=>G'=zd G l ((zAd n i).map wN)) rfl (fun u0 u0 u0=>trivial) ?_ ?_
 ·rintro i x hx G2 rfl
  obtain⟨rfl,hi⟩:=zEM hx;have hlen:=zFR (n:=n) (i:=i+1) (by omega) hn;rw[zCO,bR,bA,ck] at hlen;have hw:PuI (iR2 (zA (zZ ym (zD 2) (xC (.int 1))) (zA (zD 0) zI))) [some (nD n),some (.adr l),some (nD i)] (zd G l ((zAd n i).map wN)) (yI ((i:Int)+1) ((n:Int)-((i:Int)+1)).toNat) :=
   zJv (zF (yx (zE rfl) wL fun u0 u0 u0 q=>q) (zF (zE rfl) zP)) (by omega)
  have:=zLS (bd:=bd1) (te:=wU (zA (zD 2) (zA (zD 3) zI))) (fun d=>.tup [nD i,d]) (fun d=>[d]) hw fun x hx=>⟨rfl,zED (zF (zE rfl) (zF (zE rfl) zP)) (by simp)⟩
  ((try dsimp only [zm,zT,zk,xIf,wF,zx,gN,gNN,zZ,wU,zAC,yA,zA,zI,zJ,zy,zw,yM,zD,look,zW,zAa,zAu,zBB,zCh,zCi,zEG,zBE,zBa,fII,yu,ym,fEq,xC,xB,zBU,zAt,ww,zEw,bJ,bv,bx,bp,bq,bu,bw,bo,br,Nat.reduceSub,Nat.reduceAdd,zH8,zH9,zIA,zIB,wW,zBC,zBD,if_true,if_false,bj]) <;> (try simp only [zm,zT,zk,xIf,wF,zx,gN,gNN,zZ,wU,zAC,yA,zA,zI,zJ,zy,zw,yM,zD,look,zW,zAa,zAu,zBB,zCh,zCi,zEG,zBE,zBa,fII,yu,ym,fEq,xC,xB,zBU,zAt,ww,zEw,bJ,bv,bx,bp,bq,bu,bw,bo,br,Nat.reduceSub,Nat.reduceAdd,zH8,zH9,zIA,zIB,wW,zBC,zBD,if_true,if_false,bj]))
  have e:((n:Int)-((i:Int)+1)).toNat=n-(i+1):=by omega
  have e2:bJ (fun d=>D.tup [nD i,d]) (yI ((i:Int)+1) ((n:Int)-((i:Int)+1)).toNat)=((bz (n-(i+1))).map fun k=>(i,i+1+k)).map wN:=by
   rw[e];unfold yI;rw[dD,dD];refine cZ fun k u0=>?_;simp[wN,nD]
  rw[e2] at this;refine zNb rfl zL (fun Q q=>this _ (.refl _) Q q) (by simp only[bA,ck];omega) ⟨.keep (.keep (.skip .nil)),_,.refl _,?_⟩;rw[zAr,zCO,dt]
 ·rintro G2 rfl
  rw[bA,ck,zDJ];exact FgR.of (h l hl)
theorem zID(l:List Nat)(i:Nat):((l.map nD).any fun z=>yz z (nD i))=decide (i∈l):=by
 rw[List.any_map,cG];simp only[eD,Function.comp,zBp,decide_eq_true_eq,zDf];constructor
 ·rintro⟨x,h,rfl⟩;exact h
 ·intro h;exact⟨i,h,rfl⟩
theorem wQ(l:List Nat):∀ d∈l.map nD,flat 8 d=true:=by
 intro d hd;obtain⟨k,u0,rfl⟩:=bF.mp hd;rfl
theorem zLd{σ:S2}{G:Gp}{t u:zj}{ng:Bool}{x:D}{ds:List D}{b:Bool}(h:zi t σ G x)(h':zi u σ G (.tup ds))(f:flat 8 x=true)(fs:∀ d∈ds,flat 8 d=true)(e:(if ng then !ds.any fun z=>yz z x else ds.any fun z=>yz z x)=b):zi (zZ (fIn ng) t u) σ G (.bl b) :=
 yx h h' fun u0 u0 u0 q=>⟨f,fs,by rw[e];exact q⟩
theorem zIE{σ:S2}{G:Gp}{t u:zj}{i j:Int}(h:zi t σ G (.int i))(h':zi u σ G (.int j)):zi (zZ ym t u) σ G (.int (i+j)):=yx h h' fun u0 u0 u0 q=>q
noncomputable def wD(n:Nat)(r:List Nat):Prop:=r.Perm (bz n++bz n)
theorem wD.len{n:Nat}{r:List Nat}(h:wD n r):r.length=2*n:=by
 have:=h.length_eq;simp at this;omega
theorem wD.mem{n:Nat}{r:List Nat}(h:wD n r){x:Nat}:x∈r↔x<n:=by
 rw[h.mem_iff];simp
theorem zG9{n i:Nat}:(bz n).count i=if i<n then 1 else 0:=by
 induction n with
 | zero=>simp
 | succ n ih =>
  rw[eK,dR,ih];by_cases h:i=n
  ·subst h;simp
  ·have:(n==i)=false:=by simpa using fun e=>h e.symm
   simp[cY,this];split<;>split<;>omega
theorem wD.count{n:Nat}{r:List Nat}(h:wD n r){i:Nat}(hi:i<n):r.count i=2:=by
 rw[h.count_eq,dR,zG9,if_pos hi]
noncomputable def both(r:List Nat)(p:Nat×Nat):List Nat:=r.filter fun x=>decide (x=p.1)||decide (x=p.2)
noncomputable def zz(r:List Nat)(p:Nat×Nat):Bool:=match both r p with | a::b::c::_=>decide (a≠b)&&decide (b≠c) | _=>false
theorem zLe{n:Nat}{r:List Nat}(h:wD n r){p:Nat×Nat}(hp:p∈yT n):(both r p).length=4:=by
 obtain⟨i,j⟩:=p;obtain⟨h1,h2⟩:=wA.mp hp;have:∀ l:List Nat,(l.filter fun x=>decide (x=i)||decide (x=j)).length=l.count i+l.count j:=by
  intro l
  induction l with
  | nil=>rfl
  | cons a r ih =>
   simp only[eC,cY];by_cases ha:a=i
   ·subst ha
    have:¬ a=j:=by dsimp only at h1;omega
    simp[this,ih];omega
   ·by_cases hb:a=j
    ·subst hb;simp[ha,ih];omega
    ·simp[ha,hb,ih]
 unfold both;rw[this,h.count (by dsimp only at h1 h2;omega),h.count h2]
theorem _root_.L3.Sub.put{G G':Gp}{f:Addr}{x:List D}(h:Sub G G')(n:G.m f=none):Sub G (zd G' f x) :=
 ⟨fun a o e=>by rw[ze (gne e n)];exact h.m a o e,fun a o e=>h.ro a o e,fun a o e=>h.dc a o e⟩
noncomputable def wI:wV:=fun ds G R=>∃(n:Nat) (r:List Nat),ds=[.tup (r.map nD)]/\wD n r/\n<=100/\R (zM n (zz r)) G
noncomputable def zBH:yS:=(zT (zk (zZ (yu zGp fun i j=>.int (i / j)) (zJ yi (zA (zD 0) zI)) (xC (.int 2))) (gN 1)) (zT (zk (yA (zAC zI)) (gN 2)) (zT (wG (iF (zy yV (zA (zD 1) zI))) (gNN 3 4) (zT (zCa 5 (yv (iV (zD 0)) bd1 (xB (zZ (fIn false) (zD 6) (wU (zA (zD 3) (zA (zD 4) zI))))) (zD 6))) (xIf (zAt (xB (zZ (fEq true) (zZ yg (zD 5) (xC (.int 0))) (zZ yg (zD 5) (xC (.int 1))))) (xB (zZ (fEq true) (zZ yg (zD 5) (xC (.int 1))) (zZ yg (zD 5) (xC (.int 2)))))) (wF (zEC (zD 2) (zA (wU (zA (zD 3) (zA (zD 4) zI))) zI))) zx))) (zm (wU (zA (zD 1) (zA (zJ zCc (zA (zD 2) zI)) zI)))))))
theorem zNe{σ:S2}{G:Gp}{r:List Nat}{p:Nat×Nat}{x1 x2 x5:Option D}(h:σ=[some (.tup (r.map nD)),x1,x2,some (nD p.1),some (nD p.2),x5]) :
  PuL (yv (iV (zD 0)) bd1 (xB (zZ (fIn false) (zD 6) (wU (zA (zD 3) (zA (zD 4) zI))))) (zD 6)) σ G ((both r p).map nD):=by
 subst h;have:=zCf (bd:=bd1) (tc:=(xB (zZ (fIn false) (zD 6) (wU (zA (zD 3) (zA (zD 4) zI)))))) (te:=zD 6) (fun d=>match d with | .int x=>decide (x.toNat=p.1)||decide (x.toNat=p.2) | _=>false) (fun d=>d) (fun d=>[d])
  (zJs (σ:=[some (.tup (r.map nD)),x1,x2,some (nD p.1),some (nD p.2),x5]) (G:=G) (zE (i:=0) rfl)) fun x hx=>by
   obtain⟨k,hk,rfl⟩:=bF.mp hx;refine⟨rfl,zAQ (zLd (zE (d:=nD k) rfl) (zED (zF (zE (d:=nD p.1) rfl) (zF (zE (d:=nD p.2) rfl) zP)) (by simp)) rfl (wQ [p.1,p.2]) ?_),fun u0=>zE rfl⟩;have:=zID [p.1,p.2] k;simp only[bJ] at this;simp only[bj,if_false,this];rw[cG];simp
 have e:bJ (fun d=>d) (List.filter (fun d=>match d with | .int x=>decide (x.toNat=p.1)||decide (x.toNat=p.2) | _=>false) (r.map nD))=(both r p).map nD:=by
  rw[List.map_id',List.filter_map];rfl
 rw[e] at this;exact this
theorem zCW{α:Type}{f:α->D}{l:List α}{i:Nat}{x:D}(h:(l.map f)[i]?=some x):∃ a,l[i]?=some a/\x=f a:=by
 rw[cb] at h;cases q:l[i]? with
 | none=>rw[q] at h;cases h
 | some a=>rw[q] at h;cases h;exact⟨a,rfl,rfl⟩
theorem zIF(ds:List D)(G:Gp)(R:Q2)(h:wI ds G R):ds.length=1/\zBH (zg R) (zW ["ring","many","found","one","other","some"] ds) G:=by
 obtain⟨n,r,rfl,hr,hn,h⟩:=h;refine⟨rfl,?_⟩;unfold zBH
 ((try dsimp only [zm,zT,zk,xIf,wF,zx,gN,gNN,zZ,wU,zAC,yA,zA,zI,zJ,zy,zw,yM,zD,look,zW,zAa,zAu,zBB,zCh,zCi,zEG,zBE,zBa,fII,yu,ym,fEq,xC,xB,zBU,zAt,ww,zEw,zCa,bJ,bv,bx,bp,bq,bu,bw,bo,br,Nat.reduceSub,Nat.reduceAdd,zH8,zH9,zIA,zIB,wW,zBC,zBD,if_true,if_false,bj]) <;> (try simp only [zm,zT,zk,xIf,wF,zx,gN,gNN,zZ,wU,zAC,yA,zA,zI,zJ,zy,zw,yM,zD,look,zW,zAa,zAu,zBB,zCh,zCi,zEG,zBE,zBa,fII,yu,ym,fEq,xC,xB,zBU,zAt,ww,zEw,zCa,bJ,bv,bx,bp,bq,bu,bw,bo,br,Nat.reduceSub,Nat.reduceAdd,zH8,zH9,zIA,zIB,wW,zBC,zBD,if_true,if_false,bj]))
 refine⟨r.map nD,rfl,?_⟩
 ((try dsimp only [zm,zT,zk,xIf,wF,zx,gN,gNN,zZ,wU,zAC,yA,zA,zI,zJ,zy,zw,yM,zD,look,zW,zAa,zAu,zBB,zCh,zCi,zEG,zBE,zBa,fII,yu,ym,fEq,xC,xB,zBU,zAt,ww,zEw,zCa,bJ,bv,bx,bp,bq,bu,bw,bo,br,Nat.reduceSub,Nat.reduceAdd,zH8,zH9,zIA,zIB,wW,zBC,zBD,if_true,if_false,bj]) <;> (try simp only [zm,zT,zk,xIf,wF,zx,gN,gNN,zZ,wU,zAC,yA,zA,zI,zJ,zy,zw,yM,zD,look,zW,zAa,zAu,zBB,zCh,zCi,zEG,zBE,zBa,fII,yu,ym,fEq,xC,xB,zBU,zAt,ww,zEw,zCa,bJ,bv,bx,bp,bq,bu,bw,bo,br,Nat.reduceSub,Nat.reduceAdd,zH8,zH9,zIA,zIB,wW,zBC,zBD,if_true,if_false,bj]))
 refine⟨⟨by decide,by decide⟩,fun f hf=>?_⟩;have e:(((r.map nD).length:Int) / 2)=(n:Int):=by rw[bA,hr.len];omega
 rw[e];refine zF8 ⟨n,rfl,hn,fun a ha=>?_⟩;have fa:a≠f:=fun e=>by rw[e,zL] at ha;cases ha
 have ga:G.m a=none:=by rw[ze fa] at ha;exact ha
 refine zAb (fun k G'=>G'.m f=some ((((yT n).take k).filter (zz r)).map wN)/\G'.m a=some ((yT n).map wN)/\Sub G G') ⟨?_,zL,?_⟩ (fun u0 u0 h=>.inl h.2.1) ?_ ?_
 ·rw[ze (Ne.symm fa)];exact zL
 ·exact((Sub.refl G).put hf).put ga
 ·rintro k x hx G2 ⟨h1,h2,h3⟩
  obtain⟨p,hp,rfl⟩:=zCW hx;have hp':=bM hp;have hc:(((yT n).take (k+1)).filter (zz r))=(((yT n).take k).filter (zz r))++(if zz r p=true then [p] else []):=by
   rw[yn hp,List.filter_append];congr 1;simp[eC]
  show gNN 3 4 (.tup [nD p.1,nD p.2]) _ _ _
  ((try dsimp only [zm,zT,zk,xIf,wF,zx,gN,gNN,zZ,wU,zAC,yA,zA,zI,zJ,zy,zw,yM,zD,look,zW,zAa,zAu,zBB,zCh,zCi,zEG,zBE,zBa,fII,yu,ym,fEq,xC,xB,zBU,zAt,ww,zEw,zCa,bJ,bv,bx,bp,bq,bu,bw,bo,br,Nat.reduceSub,Nat.reduceAdd,zH8,zH9,zIA,zIB,wW,zBC,zBD,if_true,if_false,bj]) <;> (try simp only [zm,zT,zk,xIf,wF,zx,gN,gNN,zZ,wU,zAC,yA,zA,zI,zJ,zy,zw,yM,zD,look,zW,zAa,zAu,zBB,zCh,zCi,zEG,zBE,zBa,fII,yu,ym,fEq,xC,xB,zBU,zAt,ww,zEw,zCa,bJ,bv,bx,bp,bq,bu,bw,bo,br,Nat.reduceSub,Nat.reduceAdd,zH8,zH9,zIA,zIB,wW,zBC,zBD,if_true,if_false,bj]))
  refine zNe rfl G2 (.refl G2) _ fun s hs=>?_;have hl:=zLe hr hp';have hz:((((yT n).take k).filter (zz r)).map wN).length<=1000000:=by
   rw[bA];have:=e7 (zz r) ((yT n).take k);rw[cT] at this;have:=zEI hn;omega
  have sf:s≠f:=fun e=>by rw[e,h1] at hs;cases hs
  have sa:s≠a:=fun e=>by rw[e,h2] at hs;cases hs
  have gs:G.m s=none:=by
   cases q:G.m s with
   | none=>rfl
   | some o=>rw[h3.m s o q] at hs;cases hs
  match hb:both r p,hl with
  | [x,y,z,w],_ =>
   have hcr:zz r p=(decide (x≠y)&&decide (y≠z)):=by unfold zz;rw[hb]
   rw[hcr] at hc
   ((try dsimp only [zm,zT,zk,xIf,wF,zx,gN,gNN,zZ,wU,zAC,yA,zA,zI,zJ,zy,zw,yM,zD,look,zW,zAa,zAu,zBB,zCh,zCi,zEG,zBE,zBa,fII,yu,ym,fEq,xC,xB,zBU,zAt,ww,zEw,zCa,bJ,bv,bx,bp,bq,bu,bw,bo,br,Nat.reduceSub,Nat.reduceAdd,zH8,zH9,zIA,zIB,wW,zBC,zBD,if_true,if_false,bj]) <;> (try simp only [zm,zT,zk,xIf,wF,zx,gN,gNN,zZ,wU,zAC,yA,zA,zI,zJ,zy,zw,yM,zD,look,zW,zAa,zAu,zBB,zCh,zCi,zEG,zBE,zBa,fII,yu,ym,fEq,xC,xB,zBU,zAt,ww,zEw,zCa,bJ,bv,bx,bp,bq,bu,bw,bo,br,Nat.reduceSub,Nat.reduceAdd,zH8,zH9,zIA,zIB,wW,zBC,zBD,if_true,if_false,bj]))
   refine wY zL (zCg _ _) (wY zL (zG5 _ _ _) ?_)
   ((try dsimp only [zm,zT,zk,xIf,wF,zx,gN,gNN,zZ,wU,zAC,yA,zA,zI,zJ,zy,zw,yM,zD,look,zW,zAa,zAu,zBB,zCh,zCi,zEG,zBE,zBa,fII,yu,ym,fEq,xC,xB,zBU,zAt,ww,zEw,zCa,bJ,bv,bx,bp,bq,bu,bw,bo,br,Nat.reduceSub,Nat.reduceAdd,zH8,zH9,zIA,zIB,wW,zBC,zBD,if_true,if_false,bj]) <;> (try simp only [zm,zT,zk,xIf,wF,zx,gN,gNN,zZ,wU,zAC,yA,zA,zI,zJ,zy,zw,yM,zD,look,zW,zAa,zAu,zBB,zCh,zCi,zEG,zBE,zBa,fII,yu,ym,fEq,xC,xB,zBU,zAt,ww,zEw,zCa,bJ,bv,bx,bp,bq,bu,bw,bo,br,Nat.reduceSub,Nat.reduceAdd,zH8,zH9,zIA,zIB,wW,zBC,zBD,if_true,if_false,bj]))
   refine⟨rfl,rfl,?_⟩;have exy:(!yz (nD x) (nD y))=decide (x≠y):=by rw[zBp];rw[cG];simp;omega
   have eyz:(!yz (nD y) (nD z))=decide (y≠z):=by rw[zBp];rw[cG];simp;omega
   rw[exy];have no:(decide (x≠y)&&decide (y≠z))=false->wS [some (.tup (r.map nD)),some (.int n),some (.adr f),none,none,none] [some (.tup (r.map nD)),some (.int n),some (.adr f),some (nD p.1),some (nD p.2),some (.adr s)]/\∃ G'',Sub G'' (zd G2 s ([x,y,z,w].map nD))/\(G''.m f=some ((((yT n).take (k+1)).filter (zz r)).map wN)/\G''.m a=some ((yT n).map wN)/\Sub G G''):=fun hf=>by
    refine⟨.keep (.keep (.keep (.skip (.skip (.skip .nil))))),G2,.new hs,?_,h2,h3⟩;rw[hc,hf];simpa using h1
   by_cases c1:x≠y
   ·rw[decide_eq_true c1]
    ((try dsimp only [zm,zT,zk,xIf,wF,zx,gN,gNN,zZ,wU,zAC,yA,zA,zI,zJ,zy,zw,yM,zD,look,zW,zAa,zAu,zBB,zCh,zCi,zEG,zBE,zBa,fII,yu,ym,fEq,xC,xB,zBU,zAt,ww,zEw,zCa,bJ,bv,bx,bp,bq,bu,bw,bo,br,Nat.reduceSub,Nat.reduceAdd,zH8,zH9,zIA,zIB,wW,zBC,zBD,if_true,if_false,bj]) <;> (try simp only [zm,zT,zk,xIf,wF,zx,gN,gNN,zZ,wU,zAC,yA,zA,zI,zJ,zy,zw,yM,zD,look,zW,zAa,zAu,zBB,zCh,zCi,zEG,zBE,zBa,fII,yu,ym,fEq,xC,xB,zBU,zAt,ww,zEw,zCa,bJ,bv,bx,bp,bq,bu,bw,bo,br,Nat.reduceSub,Nat.reduceAdd,zH8,zH9,zIA,zIB,wW,zBC,zBD,if_true,if_false,bj]))
    refine wY zL (zG5 _ _ _) (wY zL (zLV _ _ _ _) ?_)
    ((try dsimp only [zm,zT,zk,xIf,wF,zx,gN,gNN,zZ,wU,zAC,yA,zA,zI,zJ,zy,zw,yM,zD,look,zW,zAa,zAu,zBB,zCh,zCi,zEG,zBE,zBa,fII,yu,ym,fEq,xC,xB,zBU,zAt,ww,zEw,zCa,bJ,bv,bx,bp,bq,bu,bw,bo,br,Nat.reduceSub,Nat.reduceAdd,zH8,zH9,zIA,zIB,wW,zBC,zBD,if_true,if_false,bj]) <;> (try simp only [zm,zT,zk,xIf,wF,zx,gN,gNN,zZ,wU,zAC,yA,zA,zI,zJ,zy,zw,yM,zD,look,zW,zAa,zAu,zBB,zCh,zCi,zEG,zBE,zBa,fII,yu,ym,fEq,xC,xB,zBU,zAt,ww,zEw,zCa,bJ,bv,bx,bp,bq,bu,bw,bo,br,Nat.reduceSub,Nat.reduceAdd,zH8,zH9,zIA,zIB,wW,zBC,zBD,if_true,if_false,bj]))
    refine⟨rfl,rfl,?_⟩;rw[eyz];by_cases c2:y≠z
    ·rw[decide_eq_true c2]
     ((try dsimp only [zm,zT,zk,xIf,wF,zx,gN,gNN,zZ,wU,zAC,yA,zA,zI,zJ,zy,zw,yM,zD,look,zW,zAa,zAu,zBB,zCh,zCi,zEG,zBE,zBa,fII,yu,ym,fEq,xC,xB,zBU,zAt,ww,zEw,zCa,bJ,bv,bx,bp,bq,bu,bw,bo,br,Nat.reduceSub,Nat.reduceAdd,zH8,zH9,zIA,zIB,wW,zBC,zBD,if_true,if_false,bj]) <;> (try simp only [zm,zT,zk,xIf,wF,zx,gN,gNN,zZ,wU,zAC,yA,zA,zI,zJ,zy,zw,yM,zD,look,zW,zAa,zAu,zBB,zCh,zCi,zEG,zBE,zBa,fII,yu,ym,fEq,xC,xB,zBU,zAt,ww,zEw,zCa,bJ,bv,bx,bp,bq,bu,bw,bo,br,Nat.reduceSub,Nat.reduceAdd,zH8,zH9,zIA,zIB,wW,zBC,zBD,if_true,if_false,bj]))
     refine zCn (d:=wN p) rfl (by rw[ze (Ne.symm sf)];exact h1) (fun Q q=>by ((try dsimp only [zm,zT,zk,xIf,wF,zx,gN,gNN,zZ,wU,zAC,yA,zA,zI,zJ,zy,zw,yM,zD,look,zW,zAa,zAu,zBB,zCh,zCi,zEG,zBE,zBa,fII,yu,ym,fEq,xC,xB,zBU,zAt,ww,zEw,zCa,bJ,bv,bx,bp,bq,bu,bw,bo,br,Nat.reduceSub,Nat.reduceAdd,zH8,zH9,zIA,zIB,wW,zBC,zBD,if_true,if_false,bj]) <;> (try simp only [zm,zT,zk,xIf,wF,zx,gN,gNN,zZ,wU,zAC,yA,zA,zI,zJ,zy,zw,yM,zD,look,zW,zAa,zAu,zBB,zCh,zCi,zEG,zBE,zBa,fII,yu,ym,fEq,xC,xB,zBU,zAt,ww,zEw,zCa,bJ,bv,bx,bp,bq,bu,bw,bo,br,Nat.reduceSub,Nat.reduceAdd,zH8,zH9,zIA,zIB,wW,zBC,zBD,if_true,if_false,bj]));exact q) hz ⟨.keep (.keep (.keep (.skip (.skip (.skip .nil))))),_,.refl _,?_,?_,?_⟩
     ·rw[zL,hc,decide_eq_true c1,decide_eq_true c2]
      simp
     ·rw[ze fa,ze (Ne.symm sa)];exact h2
     ·exact(h3.put gs).put hf
    ·rw[decide_eq_false c2]
     ((try dsimp only [zm,zT,zk,xIf,wF,zx,gN,gNN,zZ,wU,zAC,yA,zA,zI,zJ,zy,zw,yM,zD,look,zW,zAa,zAu,zBB,zCh,zCi,zEG,zBE,zBa,fII,yu,ym,fEq,xC,xB,zBU,zAt,ww,zEw,zCa,bJ,bv,bx,bp,bq,bu,bw,bo,br,Nat.reduceSub,Nat.reduceAdd,zH8,zH9,zIA,zIB,wW,zBC,zBD,if_true,if_false,bj]) <;> (try simp only [zm,zT,zk,xIf,wF,zx,gN,gNN,zZ,wU,zAC,yA,zA,zI,zJ,zy,zw,yM,zD,look,zW,zAa,zAu,zBB,zCh,zCi,zEG,zBE,zBa,fII,yu,ym,fEq,xC,xB,zBU,zAt,ww,zEw,zCa,bJ,bv,bx,bp,bq,bu,bw,bo,br,Nat.reduceSub,Nat.reduceAdd,zH8,zH9,zIA,zIB,wW,zBC,zBD,if_true,if_false,bj]))
     exact no (by simp[c2])
   ·rw[decide_eq_false c1]
    ((try dsimp only [zm,zT,zk,xIf,wF,zx,gN,gNN,zZ,wU,zAC,yA,zA,zI,zJ,zy,zw,yM,zD,look,zW,zAa,zAu,zBB,zCh,zCi,zEG,zBE,zBa,fII,yu,ym,fEq,xC,xB,zBU,zAt,ww,zEw,zCa,bJ,bv,bx,bp,bq,bu,bw,bo,br,Nat.reduceSub,Nat.reduceAdd,zH8,zH9,zIA,zIB,wW,zBC,zBD,if_true,if_false,bj]) <;> (try simp only [zm,zT,zk,xIf,wF,zx,gN,gNN,zZ,wU,zAC,yA,zA,zI,zJ,zy,zw,yM,zD,look,zW,zAa,zAu,zBB,zCh,zCi,zEG,zBE,zBa,fII,yu,ym,fEq,xC,xB,zBU,zAt,ww,zEw,zCa,bJ,bv,bx,bp,bq,bu,bw,bo,br,Nat.reduceSub,Nat.reduceAdd,zH8,zH9,zIA,zIB,wW,zBC,zBD,if_true,if_false,bj]))
    exact no (by simp[c1])
 ·rintro G2 ⟨h1,h2,h3⟩
  rw[bA,et] at h1
  ((try dsimp only [zm,zT,zk,xIf,wF,zx,gN,gNN,zZ,wU,zAC,yA,zA,zI,zJ,zy,zw,yM,zD,look,zW,zAa,zAu,zBB,zCh,zCi,zEG,zBE,zBa,fII,yu,ym,fEq,xC,xB,zBU,zAt,ww,zEw,zCa,bJ,bv,bx,bp,bq,bu,bw,bo,br,Nat.reduceSub,Nat.reduceAdd,zH8,zH9,zIA,zIB,wW,zBC,zBD,if_true,if_false,bj]) <;> (try simp only [zm,zT,zk,xIf,wF,zx,gN,gNN,zZ,wU,zAC,yA,zA,zI,zJ,zy,zw,yM,zD,look,zW,zAa,zAu,zBB,zCh,zCi,zEG,zBE,zBa,fII,yu,ym,fEq,xC,xB,zBU,zAt,ww,zEw,zCa,bJ,bv,bx,bp,bq,bu,bw,bo,br,Nat.reduceSub,Nat.reduceAdd,zH8,zH9,zIA,zIB,wW,zBC,zBD,if_true,if_false,bj]))
  refine⟨((yT n).filter (zz r)).map wN,.inl h1,?_⟩;exact⟨G,h3,h⟩
theorem zEN{α:Type}:∀(l:List α) (i:Nat) (h:i<l.length),(l[i]::l.eraseIdx i).Perm l
 | a::r,0,_=>by simp
 | a::r,i+1,h=>by
  have hi:i<r.length:=by simpa using h
  simp only[List.getElem_cons_succ,List.eraseIdx_cons_succ];exact(dS.swap a (r[i]'hi) _).trans ((zEN r i (by simpa using h)).cons a)
theorem zCF{α β:Type}(f:α->β):∀(l:List α) (i:Nat),(l.map f).eraseIdx i=(l.eraseIdx i).map f
 | [],_=>by simp
 | a::r,0=>by simp
 | a::r,i+1=>by simp[zCF f r i]
noncomputable def DrS(l:Addr)(G G':Gp):Prop:=∃ G1,Dr l G G1/\Sub G1 G'
theorem DrS.dr{l:Addr}{G G1 G2:Gp}(h:DrS l G G1)(d:Dr l G1 G2):DrS l G G2:=by
 obtain⟨G0,d0,s0⟩:=h;obtain⟨G3,d3,s3⟩:=d.sub s0;exact⟨G3,d0.trans d3,s3⟩
theorem DrS.put{l f:Addr}{G G1:Gp}{x:List D}(h:DrS l G G1)(s:zAk G l)(n:G.m f=none):DrS l G (zd G1 f x):=by
 obtain⟨G0,d0,s0⟩:=h;exact⟨G0,d0,s0.put (d0.none s n)⟩
theorem DrS.refl{l:Addr}{G:Gp}(s:zAk G l):DrS l G G:=⟨G,.refl s,.refl G⟩
theorem DrS.st{l:Addr}{G G':Gp}(h:DrS l G G'):zAk G' l:=by
 obtain⟨G0,d0,s0⟩:=h;exact d0.st.ext s0
theorem DrS.own{l:Addr}{G G':Gp}(h:DrS l G G')(s:zAk G l){a:Addr}(n:G'.m a=none):G.m a=none:=by
 obtain⟨G0,d0,s0⟩:=h;have n0:G0.m a=none:=by
  cases q:G0.m a with
  | none=>rfl
  | some o=>rw[s0.m a o q] at n;cases n
 by_cases ha:a=l
 ·subst ha
  obtain⟨u0,u0,e,u0⟩:=d0.st;rw[e] at n0;cases n0
 ·rw[d0.ne ha] at n0;exact n0
theorem DrS.fin{l:Addr}{G G':Gp}{d:D}{R:Q2}(h:DrS l G G')(q:∀ G',Dr l G G'->R d G'):FgR R d G':=by
 obtain⟨G0,d0,s0⟩:=h;exact⟨G0,s0,q G0 d0⟩
theorem drawn{σ:S2}{G G0:Gp}{st lf:Addr}{xs:List Nat}{i0 i2 k:Nat}{t:yh}{R:Q2}(h0:look σ i0=some (.adr st))(h2:look σ i2=some (.adr lf))(hk:σ.length=k)
  (ht:PuA t σ G [nD xs.length]) (hs:zAk G st) (hs0:zAk G0 st) (hne:lf≠st) (hx:G.m lf=some (xs.map nD)) (h0lf:G0.m lf=none) (hd:DrS st G0 G) (hlen:xs.length<=1000)
  (hR:∀(ys:List Nat) (G':Gp),ys.Perm xs->DrS st G0 G'->R (.tup (ys.map nD)) G') :
  zw yM (yv (iR1 t) bd1 zEv (zLK (zD i2) (zA (zJ zc (zA (zD i0) (zA (zJ yi (zA (zD i2) zI)) zI))) zI))) σ G R:=by
 have lk:∀(j:Nat) (o:D) (d:D),look σ j=some o->look (σ++[some d]) j=some o:=fun j o d h=>by
  clear h0 h2 hk ht
  induction σ generalizing j with
  | nil=>cases h
  | cons a r ih =>
   cases j with
   | zero=>exact h
   | succ j=>exact ih j h
 refine zIy (ht G (.refl G) _ ⟨by omega,fun A hA=>?_⟩);rw[zBF];have Alf:A≠lf:=fun e=>by rw[e,hx] at hA;cases hA
 have Ast:A≠st:=hs.ne hA;refine zG4 (fun i acc G'=>∃ ys zs:List Nat,acc=ys.map nD/\ys.length=i/\(ys++zs).Perm xs/\G'.m A=some acc/\G'.m lf=some (zs.map nD)/\DrS st G0 G')
  ⟨[],xs,rfl,rfl,.refl _,zL,by rw[ze (Ne.symm Alf)];exact hx,hd.put hs0 (hd.own hs0 hA)⟩ (fun i acc G' ⟨ys,zs,h1,h2,h3,h4,h5,h6⟩=>⟨trivial,h4,by rw[h1,bA];omega⟩) ?_ ?_
 ·rintro i x acc G' hi ⟨ys,zs,rfl,h2',h3,h4,h5,h6⟩
  obtain⟨rfl,hi⟩:=zEM hi;refine⟨[nD i],rfl,?_⟩;have hz:ys.length+zs.length=xs.length:=by have:=h3.length_eq;rwa [bR] at this
  have st':=h6.st;unfold zEv;dsimp only;rw[if_pos rfl];unfold zLK;rw[show zD i2=fun σ G R=>match look σ i2 with | some d=>R d G | none=>False from rfl];dsimp only;rw[show bJ some [nD i]=[some (nD i)] from rfl,lk i2 _ _ h2];dsimp only;rw[h5];dsimp only;simp only[zA,zJ,zD,zI,lk i0 _ _ h0,lk i2 _ _ h2];refine⟨zs.map nD,.inl h5,?_⟩;rw[bA];refine⟨st,zs.length,rfl,st',by omega,by omega,fun r G1 hr d1=>?_⟩;have e1:G1.m lf=some (zs.map nD):=by rw[d1.ne hne];exact h5
  dsimp only;rw[e1];dsimp only;refine⟨⟨by omega,by rw[bA];omega,by omega⟩,?_⟩;have e2:(bJ nD zs)[(r:Int).toNat]?=some (nD zs[r]):=by simp[hr]
  rw[e2];dsimp only;have Aa:(zd G1 lf ((bJ nD zs).eraseIdx (r:Int).toNat)).m A=some (ys.map nD):=by rw[ze Alf,d1.ne Ast];exact h4
  refine⟨Aa,.of ⟨ys++[zs[r]],zs.eraseIdx r,by simp,by simp[h2'],?_,zL,?_,?_⟩⟩
  ·rw[en]
   exact((zEN zs r hr).append_left ys).trans h3
  ·rw[ze (Ne.symm Alf),zL]
   simp[zCF]
  ·have hA0:G0.m A=none:=hd.own hs0 hA
   exact(((h6.dr d1).put hs0 h0lf).put hs0 hA0)
 ·rintro acc G' ⟨ys,zs,rfl,h2',h3,h4,h5,h6⟩
  rw[bA,ck] at h2';have hz:ys.length+zs.length=xs.length:=by have:=h3.length_eq;rwa [bR] at this
  have:zs=[]:=du.mp (by omega);subst this;rw[eM] at h3
  -- forget the list itself
  obtain⟨G1,d1,s1⟩:=h6;refine⟨G1,d1.none hs0 (hd.own hs0 hA),s1,?_⟩;exact hR ys G1 h3 ⟨G1,d1,.refl _⟩
noncomputable def wZ:wV:=fun ds G R=>∃(l:Addr) (n:Nat),ds=[.adr l,nD n]/\zAk G l/\n<=100/\∀(r:List Nat) (G':Gp),wD n r->Dr l G G'->R (.tup (r.map nD)) G'
noncomputable def zCo:yS:=(zT (zk (yA (zPo (yA (zEB (zA (zD 1) zI))) (xC (.int 2)))) (gN 2)) (zm (zw yM (yv (iR1 (zA (zZ (yu zEt fun i j=>.int (i*j)) (xC (.int 2)) (zD 1)) zI)) bd1 zEv (zLK (zD 2) (zA (zJ zc (zA (zD 0) (zA (zJ yi (zA (zD 2) zI)) zI))) zI))))))
theorem zLf(ds:List D)(G:Gp)(R:Q2)(h:wZ ds G R):ds.length=2/\zCo (zg R) (zW ["state","many","left"] ds) G:=by
 obtain⟨l,n,rfl,hs,hn,h⟩:=h;refine⟨rfl,?_⟩;unfold zCo zT zk yA zPo zEB
 ((try dsimp only [zm,zT,zk,xIf,wF,zx,gN,gNN,zZ,wU,zAC,yA,zA,zI,zJ,zy,zw,yM,zD,look,zW,zAa,zAu,zBB,zCh,zCi,zEG,zBE,zBa,fII,yu,ym,fEq,xC,xB,zBU,zAt,ww,zEw,zCa,bJ,bv,bx,bp,bq,bu,bw,bo,br,Nat.reduceSub,Nat.reduceAdd,zH8,zH9,zIA,zIB,wW,zBC,zBD,if_true,if_false,bj]) <;> (try simp only [zm,zT,zk,xIf,wF,zx,gN,gNN,zZ,wU,zAC,yA,zA,zI,zJ,zy,zw,yM,zD,look,zW,zAa,zAu,zBB,zCh,zCi,zEG,zBE,zBa,fII,yu,ym,fEq,xC,xB,zBU,zAt,ww,zEw,zCa,bJ,bv,bx,bp,bq,bu,bw,bo,br,Nat.reduceSub,Nat.reduceAdd,zH8,zH9,zIA,zIB,wW,zBC,zBD,if_true,if_false,bj]))
 refine⟨by omega,fun a ha=>?_⟩;rw[zL];dsimp only;rw[zBF];refine⟨by omega,by simp;omega,fun lf hlf=>?_⟩;have e:(bP (2:Int).toNat (bJ nD (bz n))).flatten=(bz n++bz n).map nD:=by
  show(bP 2 _).flatten=_;simp[bo]
 rw[e];have hlf0:G.m lf=none:=by
  have:lf≠a:=fun e=>by rw[e,zL] at hlf;cases hlf
  rw[ze this] at hlf;exact hlf
 have la:lf≠l:=hs.ne hlf0;have hsG:zAk (zd (zd G a (bJ nD (bz n))) lf ((bz n++bz n).map nD)) l:=(hs.ext (.new ha)).ext (.new hlf);have hdr:DrS l G (zd (zd G a (bJ nD (bz n))) lf ((bz n++bz n).map nD)):=((DrS.refl hs).put hs ha).put hs hlf0;have hlen:(bz n++bz n).length=2*n:=by simp;omega
 refine drawn (k:=3) (xs:=bz n++bz n) (i0:=0) (i2:=2) rfl rfl rfl (zF ?_ zP) hsG hs la zL hlf0 hdr (by omega) fun ys G' hp hd=>hd.fin fun G1 d1=>h ys G1 hp d1;have:nD (bz n++bz n).length=.int (2*(n:Int)):=by rw[hlen];unfold nD;congr 1
 rw[this];exact yx wL (zE rfl) fun u0 u0 u0 q=>⟨.inl ⟨by decide,by decide⟩,q⟩
noncomputable def wa:wV:=fun ds G R=>∃(l:Addr) (n:Nat),ds=[.adr l,nD n]/\zAk G l/\n<=100/\∀(r:List Nat) G',r.Perm (bz n)->Dr l G G'->R (.tup (r.map nD)) G'
noncomputable def zBs:yS:=(zT (zk (yA (zEB (zA (zD 1) zI))) (gN 2)) (zm (zw yM (yv (iR1 (zA (zD 1) zI)) bd1 zEv (zLK (zD 2) (zA (zJ zc (zA (zD 0) (zA (zJ yi (zA (zD 2) zI)) zI))) zI))))))
theorem zJ3(ds:List D)(G:Gp)(R:Q2)(h:wa ds G R):ds.length=2/\zBs (zg R) (zW ["state","many","left"] ds) G:=by
 obtain⟨l,n,rfl,hs,hn,h⟩:=h;refine⟨rfl,?_⟩;unfold zBs zT zk yA zEB
 ((try dsimp only [zm,zT,zk,xIf,wF,zx,gN,gNN,zZ,wU,zAC,yA,zA,zI,zJ,zy,zw,yM,zD,look,zW,zAa,zAu,zBB,zCh,zCi,zEG,zBE,zBa,fII,yu,ym,fEq,xC,xB,zBU,zAt,ww,zEw,zCa,bJ,bv,bx,bp,bq,bu,bw,bo,br,Nat.reduceSub,Nat.reduceAdd,zH8,zH9,zIA,zIB,wW,zBC,zBD,if_true,if_false,bj]) <;> (try simp only [zm,zT,zk,xIf,wF,zx,gN,gNN,zZ,wU,zAC,yA,zA,zI,zJ,zy,zw,yM,zD,look,zW,zAa,zAu,zBB,zCh,zCi,zEG,zBE,zBa,fII,yu,ym,fEq,xC,xB,zBU,zAt,ww,zEw,zCa,bJ,bv,bx,bp,bq,bu,bw,bo,br,Nat.reduceSub,Nat.reduceAdd,zH8,zH9,zIA,zIB,wW,zBC,zBD,if_true,if_false,bj]))
 refine⟨by omega,fun lf hlf=>?_⟩;rw[zBF];have la:lf≠l:=hs.ne hlf;have hlen:(bz n).length=n:=by simp
 refine drawn (k:=3) (xs:=bz n) (i0:=0) (i2:=2) rfl rfl rfl (zF (by rw[hlen];exact zE rfl) zP) (hs.ext (.new hlf)) hs la zL hlf ((DrS.refl hs).put hs hlf) (by omega) fun ys G' hp hd=>hd.fin fun G1 d1=>h ys G1 hp d1
theorem zEO{l s:List (Nat×Nat)}(h:s.Sublist l)(nd:l.Nodup):(l.filter fun x=>decide (x∈s))=s:=by
 induction h with
 | slnil=>rfl
 | @cons s l a h ih =>
  obtain⟨h1,h2⟩:=dq.mp nd;have:a∉s:=fun m=>h1 (h.subset m);rw[eC,if_neg (by simpa using this)];exact ih h2
 | @cons_cons s l a h ih =>
  obtain⟨h1,h2⟩:=dq.mp nd;rw[eC,if_pos (by simp)];congr 1;refine Eq.trans (List.filter_congr fun x hx=>?_) (ih h2);have:x≠a:=fun e=>h1 (e▸hx);simp[this]
theorem zNf{n:Nat}{s:List (Nat×Nat)}(h:s.Sublist (yT n)):zM n (fun p=>decide (p∈s))=.tup [nD n,.tup (s.map wN)]:=by
 unfold zM;rw[zEO h (zJz n)]
theorem picked{σ:S2}{G G0:Gp}{st pl:Addr}{n i0 i4 k:Nat}{tc:TT2}{R:List D->Gp->Prop}(h0:look σ i0=some (.adr st))(h4:look σ i4=some (.adr pl))(hk:σ.length=k)
  (hs0:zAk G0 st) (hne:pl≠st) (hx:G.m pl=some ((yT n).map wN)) (hd:DrS st G0 G)
  (hc:∀(p:Nat×Nat) (G':Gp) (Q:Bool->Gp->Prop),p∈yT n->zAk G' st->(∀ b G1,Dr st G' G1->Q b G1)->tc (σ++[some (wN p)]) G' Q)
  (hR:∀(s:List (Nat×Nat)) (G':Gp),s.Sublist (yT n)->DrS st G0 G'->R (s.map wN) G') :
  yv (iV (zD i4)) bd1 tc (zD k) σ G R:=by
 have lk:∀ d,look (σ++[some d]) k=some d:=fun d=>by
  subst hk;clear h0 h4 hc
  induction σ with
  | nil=>rfl
  | cons a r ih=>exact ih
 refine zIy ?_;unfold iV zD;rw[h4];refine⟨(yT n).map wN,.inl hx,fun A hA=>?_⟩;have Apl:A≠pl:=fun e=>by rw[e,hx] at hA;cases hA
 have Ast:A≠st:=hd.st.ne hA;have hA0:=hd.own hs0 hA;refine zG4 (fun i acc G'=>∃ s:List (Nat×Nat),acc=s.map wN/\s.Sublist ((yT n).take i)/\G'.m A=some acc/\G'.m pl=some ((yT n).map wN)/\DrS st G0 G')
  ⟨[],rfl,by simp,zL,by rw[ze (Ne.symm Apl)];exact hx,hd.put hs0 hA0⟩ (fun i acc G' ⟨s,h1,h2,h3,h4,h5⟩=>⟨.inl h4,h3,by rw[h1,bA];exact cK h2.length_le (by rw[cT];omega)⟩) ?_ ?_
 ·rintro i x acc G' hi ⟨s,rfl,h2,h3,h4',h5⟩
  obtain⟨p,hp,rfl⟩:=zCW hi;refine⟨[wN p],rfl,hc p G' _ (bM hp) h5.st fun b G1 d1=>?_⟩;have m1:G1.m A=some (s.map wN):=by rw[d1.ne Ast];exact h3
  have m2:G1.m pl=some ((yT n).map wN):=by rw[d1.ne hne];exact h4'
  cases b with
  | false =>
   rw[if_neg (by simp)];exact .of ⟨s,rfl,by rw[yn hp];exact h2.trans (List.sublist_append_left _ _),m1,m2,h5.dr d1⟩
  | true =>
   rw[if_pos rfl];show match look (σ++[some (wN p)]) k with | some d=>_ | none=>_
   rw[lk];refine⟨m1,.of ⟨s++[p],by simp,by rw[yn hp];exact h2.append (List.Sublist.refl _),zL,by rw[ze (Ne.symm Apl)];exact m2,(h5.dr d1).put hs0 hA0⟩⟩
 ·rintro acc G' ⟨s,rfl,h2,h3,h4',h5⟩
  rw[bA,et] at h2;obtain⟨G1,d1,s1⟩:=h5;exact⟨G1,d1.none hs0 hA0,s1,hR s G1 h2 ⟨G1,d1,.refl _⟩⟩
noncomputable def zBb:wV:=fun ds G R=>∃(l:Addr) (m:Nat),ds=[.adr l,nD m]/\zAk G l/\1<=m/\m<=50/\∀(n:Nat) (q:Nat×Nat->Bool) (G':Gp),1<=n->n<=m->Dr l G G'->R (zM n q) G'
noncomputable def zDn:yS:=(zT (zk (zZ ym (xC (.int 1)) (zJ zc (zA (zD 0) (zA (zD 1) zI)))) (gN 2)) (zT (zk (zJ zc (zA (zD 0) (zA (xC (.int 5)) zI))) (gN 3)) (zT (zk (yA (zy yV (zA (zD 2) zI))) (gN 4)) (zT (xIf (xB (zZ (fEq false) (zD 3) (xC (.int 0)))) (zm (zJ wI (zA (zJ wZ (zA (zD 0) (zA (zD 2) zI))) zI))) zx) (zT (xIf (xB (zZ (fEq false) (zD 3) (xC (.int 1)))) (zm (wU (zA (zD 2) (zA (zw yM (yv (iV (zD 4)) bd1 (zBU (xB (zZ (fEq false) (zZ yg (zD 6) (xC (.int 1))) (zZ ym (zZ yg (zD 6) (xC (.int 0))) (xC (.int 1))))) (xB (zZ (fEq false) (zJ zc (zA (zD 0) (zA (xC (.int 6)) zI))) (xC (.int 0))))) (zD 6))) zI)))) zx) (zT (zk (zZ yg (yA (zAC (zA (xC (.int 2)) (zA (xC (.int 3)) (zA (xC (.int 4)) zI))))) (zZ (fII fun i j=>.int (i-j)) (zD 3) (xC (.int 2)))) (gN 5)) (zm (wU (zA (zD 2) (zA (zw yM (yv (iV (zD 4)) bd1 (xB (zZ (fEq false) (zJ zc (zA (zD 0) (zA (zD 5) zI))) (xC (.int 0)))) (zD 6))) zI))))))))))
theorem zNg(ds:List D)(G:Gp)(R:Q2)(h:zBb ds G R):ds.length=2/\zDn (zg R) (zW ["state","most","many","way","pairs_v","far"] ds) G:=by
 obtain⟨l,m,rfl,hs,hm1,hm,h⟩:=h;refine⟨rfl,?_⟩;unfold zDn
 ((try dsimp only [zm,zT,zk,xIf,wF,zx,gN,gNN,zZ,wU,zAC,yA,zA,zI,zJ,zy,zw,yM,zD,look,zW,zAa,zAu,zBB,zCh,zCi,zEG,zBE,zBa,fII,yu,ym,fEq,xC,xB,zBU,zAt,ww,zEw,zCa,bJ,bv,bx,bp,bq,bu,bw,bo,br,Nat.reduceSub,Nat.reduceAdd,zH8,zH9,zIA,zIB,wW,zBC,zBD,if_true,if_false,bj]) <;> (try simp only [zm,zT,zk,xIf,wF,zx,gN,gNN,zZ,wU,zAC,yA,zA,zI,zJ,zy,zw,yM,zD,look,zW,zAa,zAu,zBB,zCh,zCi,zEG,zBE,zBa,fII,yu,ym,fEq,xC,xB,zBU,zAt,ww,zEw,zCa,bJ,bv,bx,bp,bq,bu,bw,bo,br,Nat.reduceSub,Nat.reduceAdd,zH8,zH9,zIA,zIB,wW,zBC,zBD,if_true,if_false,bj]))
 refine⟨l,m,rfl,hs,by omega,by omega,fun r G1 hr d1=>?_⟩
 ((try dsimp only [zm,zT,zk,xIf,wF,zx,gN,gNN,zZ,wU,zAC,yA,zA,zI,zJ,zy,zw,yM,zD,look,zW,zAa,zAu,zBB,zCh,zCi,zEG,zBE,zBa,fII,yu,ym,fEq,xC,xB,zBU,zAt,ww,zEw,zCa,bJ,bv,bx,bp,bq,bu,bw,bo,br,Nat.reduceSub,Nat.reduceAdd,zH8,zH9,zIA,zIB,wW,zBC,zBD,if_true,if_false,bj]) <;> (try simp only [zm,zT,zk,xIf,wF,zx,gN,gNN,zZ,wU,zAC,yA,zA,zI,zJ,zy,zw,yM,zD,look,zW,zAa,zAu,zBB,zCh,zCi,zEG,zBE,zBa,fII,yu,ym,fEq,xC,xB,zBU,zAt,ww,zEw,zCa,bJ,bv,bx,bp,bq,bu,bw,bo,br,Nat.reduceSub,Nat.reduceAdd,zH8,zH9,zIA,zIB,wW,zBC,zBD,if_true,if_false,bj]))
 refine⟨l,5,rfl,d1.st,by omega,by omega,fun way G2 hway d2=>?_⟩;have d12:=d1.trans d2;have e1:(1:Int)+(r:Int)=((r+1:Nat):Int):=by omega
 ((try dsimp only [zm,zT,zk,xIf,wF,zx,gN,gNN,zZ,wU,zAC,yA,zA,zI,zJ,zy,zw,yM,zD,look,zW,zAa,zAu,zBB,zCh,zCi,zEG,zBE,zBa,fII,yu,ym,fEq,xC,xB,zBU,zAt,ww,zEw,zCa,bJ,bv,bx,bp,bq,bu,bw,bo,br,Nat.reduceSub,Nat.reduceAdd,zH8,zH9,zIA,zIB,wW,zBC,zBD,if_true,if_false,bj]) <;> (try simp only [zm,zT,zk,xIf,wF,zx,gN,gNN,zZ,wU,zAC,yA,zA,zI,zJ,zy,zw,yM,zD,look,zW,zAa,zAu,zBB,zCh,zCi,zEG,zBE,zBa,fII,yu,ym,fEq,xC,xB,zBU,zAt,ww,zEw,zCa,bJ,bv,bx,bp,bq,bu,bw,bo,br,Nat.reduceSub,Nat.reduceAdd,zH8,zH9,zIA,zIB,wW,zBC,zBD,if_true,if_false,bj]))
 rw[e1];refine⟨r+1,rfl,by omega,fun pl hpl=>?_⟩;have hpl0:G.m pl=none:=by
  have:pl≠l:=d2.st.ne hpl;rw[d12.ne this] at hpl;exact hpl
 have hne:pl≠l:=hs.ne hpl0;have hdr:DrS l G (zd G2 pl ((yT (r+1)).map wN)):=(DrS.put (x:=(yT (r+1)).map wN) ⟨G2,d12,.refl _⟩ hs hpl0)
 have fin:∀(s:List (Nat×Nat)) (G':Gp),s.Sublist (yT (r+1))->DrS l G G'->FgR R (.tup [.int ((r+1:Nat):Int),.tup (s.map wN)]) G':=fun s G' hsub hd=>hd.fin fun G3 d3=>by
  have:=h (r+1) (fun p=>decide (p∈s)) G3 (by omega) (by omega) d3;rw[zNf hsub] at this;exact this
 have e0:yz (nD way) (.int 0)=decide (way=0):=by rw[zBp];rw[cG];simp
 have e1':yz (nD way) (.int 1)=decide (way=1):=by rw[zBp];rw[cG];simp;omega
 refine⟨rfl,rfl,?_⟩;rw[e0];by_cases w0:way=0
 ·rw[decide_eq_true w0,if_pos rfl]
  refine⟨l,r+1,rfl,hdr.st,by omega,fun ring G3 hring d3=>?_⟩
  ((try dsimp only [zm,zT,zk,xIf,wF,zx,gN,gNN,zZ,wU,zAC,yA,zA,zI,zJ,zy,zw,yM,zD,look,zW,zAa,zAu,zBB,zCh,zCi,zEG,zBE,zBa,fII,yu,ym,fEq,xC,xB,zBU,zAt,ww,zEw,zCa,bJ,bv,bx,bp,bq,bu,bw,bo,br,Nat.reduceSub,Nat.reduceAdd,zH8,zH9,zIA,zIB,wW,zBC,zBD,if_true,if_false,bj]) <;> (try simp only [zm,zT,zk,xIf,wF,zx,gN,gNN,zZ,wU,zAC,yA,zA,zI,zJ,zy,zw,yM,zD,look,zW,zAa,zAu,zBB,zCh,zCi,zEG,zBE,zBa,fII,yu,ym,fEq,xC,xB,zBU,zAt,ww,zEw,zCa,bJ,bv,bx,bp,bq,bu,bw,bo,br,Nat.reduceSub,Nat.reduceAdd,zH8,zH9,zIA,zIB,wW,zBC,zBD,if_true,if_false,bj]))
  refine⟨r+1,ring,rfl,hring,by omega,?_⟩;exact(hdr.dr d3).fin fun G4 d4=>h _ _ G4 (by omega) (by omega) d4
 ·rw[decide_eq_false w0,if_neg (by simp)]
  refine⟨rfl,rfl,?_⟩;rw[e1'];by_cases w1:way=1
  ·rw[decide_eq_true w1,if_pos rfl]
   refine picked (k:=6) (i0:=0) (n:=r+1) rfl rfl rfl hs hne zL hdr (fun p G' Q hp hst hQ=>?_) fun s G' hsub hd=>?_
   ·show zBU _ _ _ _ _
    unfold wN
    ((try dsimp only [zm,zT,zk,xIf,wF,zx,gN,gNN,zZ,wU,zAC,yA,zA,zI,zJ,zy,zw,yM,zD,look,zW,zAa,zAu,zBB,zCh,zCi,zEG,zBE,zBa,fII,yu,ym,fEq,xC,xB,zBU,zAt,ww,zEw,zCa,bJ,bv,bx,bp,bq,bu,bw,bo,br,Nat.reduceSub,Nat.reduceAdd,zH8,zH9,zIA,zIB,wW,zBC,zBD,if_true,if_false,bj]) <;> (try simp only [zm,zT,zk,xIf,wF,zx,gN,gNN,zZ,wU,zAC,yA,zA,zI,zJ,zy,zw,yM,zD,look,zW,zAa,zAu,zBB,zCh,zCi,zEG,zBE,zBa,fII,yu,ym,fEq,xC,xB,zBU,zAt,ww,zEw,zCa,bJ,bv,bx,bp,bq,bu,bw,bo,br,Nat.reduceSub,Nat.reduceAdd,zH8,zH9,zIA,zIB,wW,zBC,zBD,if_true,if_false,bj]))
    refine⟨rfl,rfl,?_⟩;cases yz (nD p.2) (.int ((p.1:Int)+1)) with
    | true=>rw[if_pos rfl];exact hQ true G' (.refl hst)
    | false =>
     rw[if_neg (by simp)];refine⟨l,6,rfl,hst,by omega,by omega,fun x G3 hx d3=>?_⟩;exact⟨rfl,rfl,hQ _ G3 d3⟩
   ·exact fin s G' hsub hd
  ·rw[decide_eq_false w1,if_neg (by simp)]
   intro a ha;have hat:∃ far:Nat,atI [D.int 2,D.int 3,D.int 4] ((way:Int)-2)=some (nD far)/\0<far/\far<=4:=by
    have:way=2\/way=3\/way=4:=by omega
    rcases this with rfl | rfl | rfl
    ·exact⟨2,zCg _ _,by omega,by omega⟩
    ·exact⟨3,zG5 _ _ _,by omega,by omega⟩
    ·exact⟨4,zLV _ _ _ _,by omega,by omega⟩
   obtain⟨far,hat,hf1,hf2⟩:=hat;refine wY zL hat ?_;have apl:pl≠a:=fun e=>by rw[<-e,zL] at ha;cases ha
   have ha0:=hdr.own hs ha;refine picked (k:=6) (i0:=0) (n:=r+1) rfl rfl rfl hs hne (by rw[ze apl];exact zL) (hdr.put hs ha0) (fun p G' Q hp hst hQ=>?_) fun s G' hsub hd=>?_
   ·show xB _ _ _ _
    ((try dsimp only [zm,zT,zk,xIf,wF,zx,gN,gNN,zZ,wU,zAC,yA,zA,zI,zJ,zy,zw,yM,zD,look,zW,zAa,zAu,zBB,zCh,zCi,zEG,zBE,zBa,fII,yu,ym,fEq,xC,xB,zBU,zAt,ww,zEw,zCa,bJ,bv,bx,bp,bq,bu,bw,bo,br,Nat.reduceSub,Nat.reduceAdd,zH8,zH9,zIA,zIB,wW,zBC,zBD,if_true,if_false,bj]) <;> (try simp only [zm,zT,zk,xIf,wF,zx,gN,gNN,zZ,wU,zAC,yA,zA,zI,zJ,zy,zw,yM,zD,look,zW,zAa,zAu,zBB,zCh,zCi,zEG,zBE,zBa,fII,yu,ym,fEq,xC,xB,zBU,zAt,ww,zEw,zCa,bJ,bv,bx,bp,bq,bu,bw,bo,br,Nat.reduceSub,Nat.reduceAdd,zH8,zH9,zIA,zIB,wW,zBC,zBD,if_true,if_false,bj]))
    refine⟨l,far,rfl,hst,by omega,by omega,fun x G3 hx d3=>?_⟩;exact⟨rfl,rfl,hQ _ G3 d3⟩
   ·exact fin s G' hsub hd
section
variable {σ:S2} {G:Gp}
theorem zLg{x y:D}{ng:Bool}{G:Gp}{R:Q2}(hx:flat 8 x=true)(hy:flat 8 y=true)(q:R (.bl (if ng then !yz x y else yz x y)) G):fEq ng x y G R:=by
 cases x with
 | adr _=>simp[flat] at hx
 | _=>exact⟨hx,hy,q⟩
theorem zHA{ta tb:zj}{x y:D}{ng b:Bool}(ha:zi ta σ G x)(hb:zi tb σ G y)(hx:flat 8 x=true)(hy:flat 8 y=true)(e:(if ng then !yz x y else yz x y)=b):zi (zZ (fEq ng) ta tb) σ G (.bl b) :=
 yx ha hb fun u0 u0 u0 q=>zLg hx hy (by rw[e];exact q)
theorem zP0{t u:TT2}(h:PuT t σ G false)(h':PuT u σ G false):PuT (zBU t u) σ G false:=zPs h fun u0=>h'
theorem zFS{tc:TT2}{t u:yS}{E:yF}(h:PuT tc σ G false)(h':u E σ G):xIf tc t u E σ G:=h G (.refl G) _ (by rw[if_neg (by simp)];exact h')
theorem zGA{tc:TT2}{t u:yS}{E:yF}(h:PuT tc σ G true)(h':t E σ G):xIf tc t u E σ G:=h G (.refl G) _ (by rw[if_pos rfl];exact h')
theorem zRN{f:D->D->Gp->Q2->Prop}{ta tb:zj}{x:D}{R:Q2}(h:zi ta σ G x)(h':tb σ G fun y G2=>f x y G2 R):zZ f ta tb σ G R:=h G (.refl G) _ h'
theorem zBt{tc:TT2}{t u:yS}{E:yF}(h:PuT tc σ G false)(h':u E σ G):zT (xIf tc t zx) u E σ G:=h G (.refl G) _ (by rw[if_neg (by simp)];exact h')
theorem zRO{te:zj}{E:yF}{d:D}(h:zi te σ G d)(h':E.rt d G):zm te E σ G:=h G (.refl G) _ h'
theorem yy{te:zj}{g:TG2}{u:yS}{E:yF}(h:te σ G fun d G1=>g d σ G1 fun σ' G'=>u E σ' G'):zT (zk te g) u E σ G:=h
theorem zBc{sp:wV}{t:yh}{ds:List D}{R:Q2}(h:PuA t σ G ds)(h':sp ds G R):zJ sp t σ G R:=h G (.refl G) _ h'
theorem zBd{ta:zj}{tr:yh}{d:D}{R:List D->Gp->Prop}(h:zi ta σ G d)(h':tr σ G fun xs G2=>R (d::xs) G2):zA ta tr σ G R:=h G (.refl G) _ h'
theorem zP1{ta:zj}{tr:yh}{R:List D->Gp->Prop}(h:ta σ G fun d G1=>tr σ G1 fun xs G2=>R (d::xs) G2):zA ta tr σ G R:=h
theorem zIG{sp:wV}{t:yh}{R:Q2}(h:t σ G fun ds G1=>sp ds G1 R):zJ sp t σ G R:=h
theorem zFT{tl:TL2}{ds:List D}{R:Q2}(h:PuL tl σ G ds)(h':∀ l,G.m l=none->R (.adr l) (zd G l ds)):yA tl σ G R:=h G (.refl G) _ h'
theorem wB{te:zj}{g:TG2}{u:yS}{E:yF}{d:D}(h:zi te σ G d)(h':g d σ G fun σ' G'=>u E σ' G'):zT (zk te g) u E σ G:=h G (.refl G) _ h'
theorem _root_.L3.Dr.new{l:Addr}{G G':Gp}{x:List D}(h:Dr l (zd G l x) G')(n:G.m l=none):Ext G G':=by
 obtain⟨s,b,rfl,u0⟩:=h;rw[zAr];exact .new n
end
theorem zGB{n:Nat}{f:Nat->Bool}:((bz n).filter f).Pairwise (·<=·):=(dE.imp (fun h=>cH h)).filter f
theorem zFU(l:List Nat):flat 8 (.tup (l.map nD))=true:=by
 simp only[flat,eZ];intro d hd;obtain⟨k,u0,rfl⟩:=bF.mp hd;rfl
theorem zJ4{σ:S2}{G:Gp}{a:Addr}{ns:List Int}{c:Int}(hc:1<=c/\c<=100)(h:look σ 0=some (.adr a))(ha:Ls G a (ns.map D.int)) :
  ∃ m:Nat,PuI (iR1 (zA (zJ zAu (zA (xC (.int 1)) (zA (zJ zAa (zA (zJ yi (zA (zD 0) zI)) (zA (xC (.int c)) zI))) zI))) zI)) σ G ((bz m).map nD):=by
 have h1:zi (zJ yi (zA (zD 0) zI)) σ G (.int (ns.length:Int)):=zt (zF (zE h) zP) fun G2 e R q=>⟨ns.map D.int,e.ls ha,by rw[bA];exact q⟩
 have h2:zi (zJ zAa (zA (zJ yi (zA (zD 0) zI)) (zA (xC (.int c)) zI))) σ G (.int (if c<(ns.length:Int) then c else ns.length)):=zt (zF h1 (zF wL zP)) fun u0 u0 u0 q=>q;have h3:zi (zJ zAu (zA (xC (.int 1)) (zA (zJ zAa (zA (zJ yi (zA (zD 0) zI)) (zA (xC (.int c)) zI))) zI))) σ G (.int (if (if c<(ns.length:Int) then c else ns.length)>1 then (if c<(ns.length:Int) then c else ns.length) else 1)):=zt (zF wL (zF h2 zP)) fun u0 u0 u0 q=>q;have hb:(if (if c<(ns.length:Int) then c else ns.length)>1 then (if c<(ns.length:Int) then c else (ns.length:Int)) else 1)<=100/\1<=(if (if c<(ns.length:Int) then c else ns.length)>1 then (if c<(ns.length:Int) then c else (ns.length:Int)) else 1):=by
  split<;>split<;>omega
 generalize (if (if c<(ns.length:Int) then c else ns.length)>1 then (if c<(ns.length:Int) then c else (ns.length:Int)) else 1)=m at h3 hb;refine⟨m.toNat,?_⟩;have:(m.toNat:Int)=m:=by omega
 have q:=zFO (zF h3 zP) (by omega);rw[<-this,zBF] at q;exact q
theorem zJ5{a:Addr}{G:Gp}{σ:S2}{k:Nat}{ns:List Int}{i j:Nat}(hs:look σ i=some (.adr a))(hk:look σ j=some (nD k))(ha:Ls G a (ns.map D.int)){R:Q2}(h:∀ l s b,G.m l=none->OkS s b->R (.adr l) (zd G l [.int s,.bl b])):yA (zy yW (zA (zD i) (zA (zD j) zI))) σ G R:=by
 unfold yA zy zA zI zD;simp only[hs,hk];exact⟨a,ns,k,rfl,ha,fun s b o l hl=>h l s b hl o⟩
theorem zJ6{a:Addr}{G:Gp}{σ:S2}{k x:Nat}{ns:List Int}{i j:Nat}{u:yS}{E:yF}(hs:look σ i=some (.adr a))(hk:look σ j=some (nD k))(ha:Ls G a (ns.map D.int))(h:∀ l s b,G.m l=none->OkS s b->u E (σ.set x (some (.adr l))) (zd G l [.int s,.bl b])) :
  zT (zk (yA (zy yW (zA (zD i) (zA (zD j) zI)))) (gN x)) u E σ G:=by
 have:=zJ5 (σ:=σ) (G:=G) (R:=fun d G1=>gN x d σ G1 (u E)) hs hk ha fun l s b hl ok=>h l s b hl ok;exact this
theorem zEP{n:Nat}{q q':Nat×Nat->Bool}(h:∀ p∈yT n,q p=q' p):zM n q=zM n q':=by
 unfold zM;rw[List.filter_congr h]
noncomputable def zAG(q:Nat×Nat->Bool)(ps:List Nat):Nat×Nat->Bool:=fun p=>adj q (ps.getD p.1 0) (ps.getD p.2 0)
noncomputable def wn:wV:=fun ds G R=>∃(n:Nat) (q:Nat×Nat->Bool) (ps:List Nat),ds=[zM n q,.tup (ps.map nD)]/\(∀ x∈ps,x<n)/\ps.length<=100/\R (zM ps.length (zAG q ps)) G
noncomputable def zAx:=wn
noncomputable def zGC:yS:=(zT (zk (zJ yi (zA (zD 1) zI)) (gN 2)) (zT (zCa 3 (yv (iF (zy yZ (zA (zD 2) zI))) bd1 (xB (zJ yf (zA (zD 0) (zA (zZ yg (zD 1) (zZ yg (zD 4) (xC (.int 0)))) (zA (zZ yg (zD 1) (zZ yg (zD 4) (xC (.int 1)))) zI))))) (zD 4))) (zm (wU (zA (zD 2) (zA (zJ zCc (zA (zD 3) zI)) zI))))))
noncomputable def zDo:yS:=(zm (zJ wn (zA (zD 0) (zA (zD 1) zI))))
theorem getD_mem{ps:List Nat}{i:Nat}(h:i<ps.length):ps.getD i 0∈ps:=by
 simp[cO,h]
theorem zP2{ps:List Nat}{i:Nat}(h:i<ps.length):atI (ps.map nD) (i:Int)=some (nD (ps.getD i 0)):=zA6 (by simp[cO,h])
theorem zLh{σ:S2}{G:Gp}{t u:zj}{ps:List Nat}{i:Nat}(h:zi t σ G (.tup (ps.map nD)))(h':zi u σ G (nD i))(hi:i<ps.length):zi (zZ yg t u) σ G (nD (ps.getD i 0)):=yx h h' fun u0 u0 u0 q=>by
 simp only[yg,zP2 hi];exact q
theorem zIH{σ:S2}{G:Gp}{t:zj}{ds:List D}(h:zi t σ G (.tup ds)):zi (zJ yi (zA t zI)) σ G (nD ds.length):=zt (zF h zP) fun u0 u0 u0 q=>⟨ds,rfl,q⟩
theorem zOk{σ:S2}{G:Gp}{t:zj}{p:Nat×Nat}(h:zi t σ G (wN p)):zi (zZ yg t (xC (.int 0))) σ G (nD p.1):=yx h wL fun u0 u0 u0 q=>by unfold wN;rw[zCh];exact q
theorem zOl{σ:S2}{G:Gp}{t:zj}{p:Nat×Nat}(h:zi t σ G (wN p)):zi (zZ yg t (xC (.int 1))) σ G (nD p.2):=yx h wL fun u0 u0 u0 q=>by unfold wN;rw[zCi];exact q
theorem zP3(ds:List D)(G:Gp)(R:Q2)(h:wn ds G R):ds.length=2/\zGC (zg R) (zW ["web","places","many","ties"] ds) G:=by
 obtain⟨n,q,ps,rfl,hp,hl,h⟩:=h;refine⟨rfl,?_⟩;unfold zGC;refine wB (d:=nD ps.length) (by have:=zIH (σ:=zW ["web","places","many","ties"] [zM n q,.tup (ps.map nD)]) (G:=G) (t:=zD 1) (ds:=ps.map nD) (zE rfl);rwa [bA] at this) ?_;show zT _ _ _ [some (zM n q),some (.tup (ps.map nD)),some (nD ps.length),none] G;have:=zCf (σ:=[some (zM n q),some (.tup (ps.map nD)),some (nD ps.length),none]) (G:=G) (bd:=bd1) (tc:=(xB (zJ yf (zA (zD 0) (zA (zZ yg (zD 1) (zZ yg (zD 4) (xC (.int 0)))) (zA (zZ yg (zD 1) (zZ yg (zD 4) (xC (.int 1)))) zI)))))) (te:=zD 4) (fun d=>zAG q ps (zI0 d)) (fun d=>d) (fun d=>[d])
  (zOe (zCd (sp:=yZ) (zF (zE (i:=2) (d:=nD ps.length) rfl) zP) fun u0 u0 u0 q=>⟨ps.length,rfl,hl,q⟩)) fun x hx=>by
   obtain⟨p,hpp,rfl⟩:=bF.mp hx;obtain⟨h1,h2⟩:=wA.mp hpp;rw[zFQ];have v4:zi (zD 4) ([some (zM n q),some (.tup (ps.map nD)),some (nD ps.length),none]++bJ some [wN p]) G (wN p):=zE rfl;exact⟨rfl,zAQ (zt (zF (zE rfl) (zF (zLh (zE rfl) (zOk v4) (by omega)) (zF (zLh (zE rfl) (zOl v4) h2) zP))) fun u0 u0 u0 hh=>⟨n,q,_,_,rfl,hp _ (getD_mem (by omega)),hp _ (getD_mem h2),hh⟩),fun u0=>v4⟩
 rw[zEK (zAG q ps)] at this;refine this G (.refl G) _ fun l hl'=>?_
 ((try dsimp only [zm,zT,zk,xIf,wF,zx,gN,gNN,zZ,wU,zAC,yA,zA,zI,zJ,zy,zw,yM,zD,look,zW,zAa,zAu,zBB,zCh,zCi,zEG,zBE,zBa,fII,yu,ym,fEq,xC,xB,zBU,zAt,ww,zEw,zCa,bJ,bv,bx,bp,bq,bu,bw,bo,br,Nat.reduceSub,Nat.reduceAdd,zH8,zH9,zIA,zIB,wW,zBC,zBD,if_true,if_false,bj]) <;> (try simp only [zm,zT,zk,xIf,wF,zx,gN,gNN,zZ,wU,zAC,yA,zA,zI,zJ,zy,zw,yM,zD,look,zW,zAa,zAu,zBB,zCh,zCi,zEG,zBE,zBa,fII,yu,ym,fEq,xC,xB,zBU,zAt,ww,zEw,zCa,bJ,bv,bx,bp,bq,bu,bw,bo,br,Nat.reduceSub,Nat.reduceAdd,zH8,zH9,zIA,zIB,wW,zBC,zBD,if_true,if_false,bj]))
 refine⟨((yT ps.length).filter (zAG q ps)).map wN,.own,?_⟩;exact⟨G,.new hl',h⟩
theorem zNh(ds:List D)(G:Gp)(R:Q2)(h:zAx ds G R):ds.length=2/\zDo (zg R) (zW ["web","order"] ds) G:=by
 obtain⟨n,q,ps,rfl,hp,hl,h⟩:=h;refine⟨rfl,?_⟩;unfold zDo
 ((try dsimp only [zm,zT,zk,xIf,wF,zx,gN,gNN,zZ,wU,zAC,yA,zA,zI,zJ,zy,zw,yM,zD,look,zW,zAa,zAu,zBB,zCh,zCi,zEG,zBE,zBa,fII,yu,ym,fEq,xC,xB,zBU,zAt,ww,zEw,zCa,bJ,bv,bx,bp,bq,bu,bw,bo,br,Nat.reduceSub,Nat.reduceAdd,zH8,zH9,zIA,zIB,wW,zBC,zBD,if_true,if_false,bj]) <;> (try simp only [zm,zT,zk,xIf,wF,zx,gN,gNN,zZ,wU,zAC,yA,zA,zI,zJ,zy,zw,yM,zD,look,zW,zAa,zAu,zBB,zCh,zCi,zEG,zBE,zBa,fII,yu,ym,fEq,xC,xB,zBU,zAt,ww,zEw,zCa,bJ,bv,bx,bp,bq,bu,bw,bo,br,Nat.reduceSub,Nat.reduceAdd,zH8,zH9,zIA,zIB,wW,zBC,zBD,if_true,if_false,bj]))
 exact⟨n,q,ps,rfl,hp,hl,FgR.of h⟩
theorem zJ7{G G':Gp}{d:D}{ds:List D}(h:zCb G d ds)(s:Sub G G'):zCb G' d ds:=by
 cases d with
 | tup _=>exact h
 | adr l=>exact Ls.sub h s
 | _=>exact h
theorem zII{σ:S2}{G:Gp}{t:yh}{d:D}{l s:List Nat}(h:PuA t σ G [d])(hq:zCb G d (l.map nD))(hl:l.length<64)(hp:s.Perm l)(hs:s.Pairwise (·<=·)):PuL (zF3 t) σ G (s.map nD):=fun G2 e R q=>h G2 e _ (by
 have e1:l.map nD=(l.map fun(k:Nat)=>(k:Int)).map D.int:=by simp[nD]
 refine⟨l.map fun(k:Nat)=>(k:Int),by rw[<-e1];exact zJ7 hq e.sub,by simpa using hl,fun ns' p1 p2=>?_⟩;have:ns'=s.map fun(k:Nat)=>(k:Int):=by
  refine dS.eq_of_pairwise (fun a b u0 u0 h1 h2=>Int.le_antisymm h1 h2) p2 ?_ (p1.trans (hp.map _).symm);exact dA.map _ (fun a b h=>by omega) hs
 subst this;rw[dD];exact q)
theorem zLi{r:List Nat}{i:Nat}(h:r.count i=2):∃ A B C,r=A++i::(B++i::C)/\i∉A/\i∉B/\i∉C:=by
 have h1:i∈r:=List.count_pos_iff.mp (by omega);obtain⟨A,r',rfl,hA⟩:=List.eq_append_cons_of_mem h1;have cA:A.count i=0:=List.count_eq_zero.mpr hA;rw[dR,cA,List.count_cons_self] at h;have h2:i∈r':=List.count_pos_iff.mp (by omega);obtain⟨B,C,rfl,hB⟩:=List.eq_append_cons_of_mem h2;have cB:B.count i=0:=List.count_eq_zero.mpr hB;rw[dR,cB,List.count_cons_self] at h;exact⟨A,B,C,rfl,hA,hB,List.count_eq_zero.mp (by omega)⟩
theorem zEQ{X:List Nat}{i j:Nat}(hX:i∉X):both X (i,j)=bP (X.count j) j:=by
 unfold both
 induction X with
 | nil=>rfl
 | cons a r ih =>
  have h1:a≠i:=fun e=>hX (by simp[e]);have h2:=ih fun m=>hX (by simp[m]);rw[eC,cY];by_cases hj:a=j
  ·subst hj
   simp only[decide_eq_false h1,decide_true,Bool.false_or,if_true,h2,beq_self_eq_true];rw[bo]
  ·have:(a==j)=false:=by simpa using hj
   simp only[decide_eq_false h1,decide_eq_false hj,Bool.or_self,bj,if_false,this,Nat.add_zero];exact h2
theorem zER{A B C:List Nat}{i j:Nat}(hij:i≠j)(hA:i∉A)(hB:i∉B)(hC:i∉C)(h:(A++i::(B++i::C)).count j=2):zz (A++i::(B++i::C)) (i,j)=decide ((i::B).count j=1):=by
 have hji:(i==j)=false:=by simpa using hij
 rw[dR,cY,dR,cY,hji] at h;rw[cY,hji];simp only[bj,if_false,Nat.add_zero] at h ⊢;have e:both (A++i::(B++i::C)) (i,j)=bP (A.count j) j++i::(bP (B.count j) j++i::bP (C.count j) j):=by
  have b1:∀ X Y:List Nat,both (X++Y) (i,j)=both X (i,j)++both Y (i,j):=fun X Y=>List.filter_append _ _;have b2:∀ Y:List Nat,both (i::Y) (i,j)=i::both Y (i,j):=fun Y=>by unfold both;simp
  rw[b1,b2,b1,b2,zEQ hA,zEQ hB,zEQ hC]
 unfold zz;rw[e];generalize A.count j=x at h ⊢;generalize B.count j=y at h ⊢;generalize C.count j=z at h ⊢;have:(x=0/\y=0/\z=2)\/(x=0/\y=1/\z=1)\/(x=0/\y=2/\z=0)\/(x=1/\y=0/\z=1)\/(x=1/\y=1/\z=0)\/(x=2/\y=0/\z=0):=by omega
 have hji':j≠i:=Ne.symm hij;rcases this with ⟨rfl,rfl,rfl⟩ | ⟨rfl,rfl,rfl⟩ | ⟨rfl,rfl,rfl⟩ | ⟨rfl,rfl,rfl⟩ | ⟨rfl,rfl,rfl⟩ | ⟨rfl,rfl,rfl⟩<;>simp[bo,hij,hji']
theorem zBI(i j:Nat):yz (nD i) (nD j)=decide (i=j):=by rw[zBp,cG];simp;omega
theorem zFV{A Y:List Nat}{i:Nat}(hA:i∉A):zBZ ((A++i::Y).map nD) (nD i) 0 A.length:=by
 refine⟨cg _,⟨nD i,by simp,by rw[zBI];simp⟩,fun m z u0 hm hz=>?_⟩;rw[cb,cr hm] at hz;simp[hm] at hz;subst hz;show yz (nD A[m]) (nD i)=false;rw[zBI];exact decide_eq_false fun e=>hA (e▸cJ _)
theorem zHB{A B C:List Nat}{i:Nat}(hB:i∉B):zBZ ((A++i::(B++i::C)).map nD) (nD i) (A.length+1) (A.length+1+B.length):=by
 refine⟨by omega,⟨nD i,?_,by rw[zBI];simp⟩,fun m z h1 hm hz=>?_⟩
 ·rw[cb,cL (by omega)]
  have:A.length+1+B.length-A.length=B.length+1:=by omega
  rw[this];simp
 ·rw[cb,cL (by omega)] at hz
  obtain⟨k,hk⟩:∃ k,m-A.length=k+1:=⟨m-A.length-1,by omega⟩
  rw[hk,List.getElem?_cons_succ,cr (by omega)] at hz;have hkB:k<B.length:=by omega
  simp[hkB] at hz;subst hz;show yz (nD B[k]) (nD i)=false;rw[zBI];exact decide_eq_false fun e=>hB (e▸cJ _)
theorem zJ8(X:List Nat)(j:Nat):(X.map nD).countP (fun z=>yz z (nD j))=X.count j:=by
 rw[List.countP_map,List.count_eq_countP];refine List.countP_congr fun x u0=>?_;simp only[Function.comp,zBI,decide_eq_true_eq,beq_iff_eq]
theorem zI3{l:List D}{a b:Nat}(h:a<=b)(hb:b<=l.length):L3.cutD l (some (a:Int)) (some (b:Int))=(l.drop a).take (b-a):=by
 unfold L3.cutD;rw[HT.zDg,HT.zDg,di (show a<=l.length by omega),di hb]
noncomputable def zAy:wV:=fun ds G R=>∃(r:List Nat) (i j:Nat),ds=[.tup (r.map nD),nD i,nD j]/\r.count i=2/\r.count j=2/\i≠j/\R (.bl (zz r (i,j))) G
noncomputable def zDp:yS:=(zT (zk (xMt wH (zD 0) (zA (zD 1) zI)) (gN 3)) (zT (zk (xMt zAv (zD 0) (zA (zD 1) (zA (zZ ym (zD 3) (xC (.int 1))) zI))) (gN 4)) (zm (zZ (fEq false) (xMt zAw (zAj (zD 0) (zAR (zD 3)) (zAR (zD 4))) (zA (zD 2) zI)) (xC (.int 1))))))
theorem zFW{σ:S2}{G:Gp}{sp:wV}{to:zj}{t:yh}{xs:List D}{ds:List D}{d:D}(h:zi to σ G (.tup xs))(ha:PuA t σ G ds)(hs:∀ G2,Ext G G2->∀ R:Q2,R d G2->sp (.tup xs::ds) G2 R):zi (xMt sp to t) σ G d:=fun G2 e R q=>h G2 e _ ⟨⟨xs,rfl⟩,ha G2 e _ (hs G2 e R q)⟩
theorem zHC{σ:S2}{G:Gp}{t u v:zj}{xs:List D}{i j:Int}(h:zi t σ G (.tup xs))(h1:zi u σ G (.int i))(h2:zi v σ G (.int j)):zi (zAj t (zAR u) (zAR v)) σ G (.tup (L3.cutD xs (some i) (some j))):=fun G2 e R q=>h G2 e _ (h1 G2 e _ (h2 G2 e _ q))
theorem zNi(ds:List D)(G:Gp)(R:Q2)(h:zAy ds G R):ds.length=3/\zDp (zg R) (zW ["ring","one","other","first","second"] ds) G:=by
 obtain⟨r,i,j,rfl,h2i,h2j,hij,h⟩:=h;refine⟨rfl,?_⟩;obtain⟨A,B,C,rfl,hA,hB,hC⟩:=zLi h2i;rw[zER hij hA hB hC h2j] at h;generalize hr:A++i::(B++i::C)=r at *;have i1:zBZ (r.map nD) (nD i) 0 A.length:=hr▸zFV hA;have i2:zBZ (r.map nD) (nD i) (A.length+1) (A.length+1+B.length):=hr▸zHB hB;have hl:A.length+1+B.length<r.length:=by rw[<-hr];simp;omega
 have hc:L3.cutD (r.map nD) (some ((A.length:Nat):Int)) (some ((A.length+1+B.length:Nat):Int))=(i::B).map nD:=by
  rw[zI3 (by omega) (by rw[bA];omega),<-hr];have:A.length+1+B.length-A.length=B.length+1:=by omega
  rw[this];simp
 unfold zDp;refine wB (d:=nD A.length) (zFW (zE rfl) (zF (zE rfl) zP) fun u0 u0 u0 q=>⟨_,_,rfl,rfl,wQ _,i1,q⟩) ?_;show zT _ _ _ [some (.tup (r.map nD)),some (nD i),some (nD j),some (nD A.length),none] G;refine wB (d:=nD (A.length+1+B.length)) (zFW (zE rfl) (zF (zE rfl) (zF (zIE (zE rfl) wL) zP)) fun u0 u0 u0 q=>⟨A.length+1,_,by omega,rfl,wQ _,i2,q⟩) ?_;show zm _ _ [some (.tup (r.map nD)),some (nD i),some (nD j),some (nD A.length),some (nD (A.length+1+B.length))] G;have fin:=zHA (σ:=[some (.tup (r.map nD)),some (nD i),some (nD j),some (nD A.length),some (nD (A.length+1+B.length))]) (G:=G) (ng:=false) (b:=decide ((i::B).count j=1)) (x:=nD ((i::B).count j)) (y:=.int 1)
  (zFW (sp:=zAw) (zHC (zE (i:=0) rfl) (zE (i:=3) rfl) (zE (i:=4) rfl)) (zF (zE (i:=2) (d:=nD j) rfl) zP) fun u0 u0 u0 q=>by
   rw[hc];exact⟨rfl,wQ _,by rw[zJ8];exact q⟩) wL rfl rfl (by rw[if_neg (by simp)];exact zBI _ 1)
 exact fin G (.refl _) _ (.of h)
noncomputable def wb:=wI
noncomputable def zCp:yS:=(zT (zk (zZ (yu zGp fun i j=>.int (i / j)) (zJ yi (zA (zD 0) zI)) (xC (.int 2))) (gN 1)) (zm (wU (zA (zD 1) (zA (zw yM (yv (iF (zy yZ (zA (zD 1) zI))) bd1 (xB (zJ zAy (zA (zD 0) (zA (zZ yg (zD 2) (xC (.int 0))) (zA (zZ yg (zD 2) (xC (.int 1))) zI))))) (zD 2))) zI)))))
theorem zLj(ds:List D)(G:Gp)(R:Q2)(h:wb ds G R):ds.length=1/\zCp (zg R) (zW ["ring","many"] ds) G:=by
 obtain⟨n,r,rfl,hr,hn,h⟩:=h;refine⟨rfl,?_⟩;unfold zCp;have e:(((r.map nD).length:Int) / 2)=(n:Int):=by rw[bA,hr.len];omega
 refine wB (d:=nD n) (yx (zIH (zE rfl)) wL fun u0 u0 u0 q=>⟨⟨by decide,by decide⟩,by dsimp only;rw[e];exact q⟩) ?_;show zm _ _ [some (.tup (r.map nD)),some (nD n)] G;have:=zCf (σ:=[some (.tup (r.map nD)),some (nD n)]) (G:=G) (bd:=bd1) (tc:=(xB (zJ zAy (zA (zD 0) (zA (zZ yg (zD 2) (xC (.int 0))) (zA (zZ yg (zD 2) (xC (.int 1))) zI)))))) (te:=zD 2) (fun d=>zz r (zI0 d)) (fun d=>d) (fun d=>[d])
  (zOe (zCd (sp:=yZ) (zF (zE (i:=1) (d:=nD n) rfl) zP) fun u0 u0 u0 q=>⟨n,rfl,hn,q⟩)) fun x hx=>by
   obtain⟨p,hpp,rfl⟩:=bF.mp hx;obtain⟨h1,h2⟩:=wA.mp hpp;rw[zFQ];have v4:zi (zD 2) ([some (.tup (r.map nD)),some (nD n)]++bJ some [wN p]) G (wN p):=zE rfl;exact⟨rfl,zAQ (zt (zF (zE rfl) (zF (zOk v4) (zF (zOl v4) zP))) fun u0 u0 u0 hh=>⟨r,p.1,p.2,rfl,hr.count (by omega),hr.count h2,by omega,hh⟩),fun u0=>v4⟩
 rw[zEK (zz r)] at this;exact zED (zF (zE rfl) (zF (zEE this) zP)) (by simp) G (.refl _) _ (.of h)
theorem zSI{σ:S2}{G:Gp}{t:zj}{ds:List D}{R:List D->(Gp->Prop)->Gp->Prop}(h:zi t σ G (.tup ds))(h':R ds (fun u0=>True) G):iV t σ G R:=h G (.refl G) _ h'
theorem zSJ{σ:S2}{G:Gp}{t:TL2}{R:List D->(Gp->Prop)->Gp->Prop}(h:t σ G fun ds G1=>∀ a,G1.m a=none->R ds (fun G=>Ls G a ds) (zd G1 a ds)):iF t σ G R:=h
theorem zHD{σ:S2}{G:Gp}{t:yh}{R:List D->Gp->Prop}(h:t σ G fun ds G1=>ds.length<=sizeLine/\R ds G1):zAC t σ G R:=h
theorem zCG{σ:S2}{G:Gp}{R:List D->Gp->Prop}(h:R [] G):zI σ G R:=h
theorem zGD{wi:TI2}{g:TG2}{tb:yS}{E:yF}{σ σ':S2}{G:Gp}(hs:wS σ' σ)(h:wi σ' G fun ds gd G1=>zJw ds gd G1 g tb E σ'):wG wi g tb E σ G:=⟨σ',G,hs,.refl G,h⟩
theorem zJ9{ds:List D}{gd:Gp->Prop}{G1:Gp}{g:TG2}{tb:yS}{E:yF}{σ:S2}(hgd:gd G1)
  (hb:∀ x∈ds,g x σ G1 fun σ2 G2=>tb { E with nx:=fun σ' G'=>wS σ σ'/\Sub G1 G',ct:=fun σ' G'=>wS σ σ'/\Sub G1 G',bk:=E.nx } σ2 G2) (h:E.nx σ G1):zJw ds gd G1 g tb E σ:=by
 refine⟨fun i σ' G'=>σ'=σ/\G'=G1,⟨rfl,rfl⟩,?_,?_,?_⟩
 ·rintro i σ' G' u0 ⟨rfl,rfl⟩
  exact hgd
 ·rintro i x σ' G' hi ⟨rfl,rfl⟩
  rw[zIx];exact hb x (bM hi)
 ·rintro σ' G' ⟨rfl,rfl⟩
  exact h
theorem zIJ{σ:S2}{G:Gp}{t u:zj}{xs ys:List D}(h:zi t σ G (.tup xs))(h':zi u σ G (.tup ys))(hl:xs.length+ys.length<=1000000):zi (zZ ym t u) σ G (.tup (xs++ys)):=yx h h' fun u0 u0 u0 q=>⟨hl,q⟩
noncomputable def ltP(a b:Nat×Nat):Prop:=a.1<b.1\/a.1=b.1/\a.2<b.2
theorem zLk(n:Nat):(yT n).Pairwise ltP:=by
 unfold yT;rw[List.pairwise_flatMap];refine⟨fun i u0=>?_,?_⟩
 ·rw[eO]
  exact dE.imp fun {a b} h=>.inr ⟨rfl,by dsimp only;omega⟩
 ·refine dE.imp fun {a b} h x hx y hy=>?_
  obtain⟨u0,u0,rfl⟩:=bF.mp hx;obtain⟨u0,u0,rfl⟩:=bF.mp hy;exact .inl h
theorem zP4{σ:S2}{G:Gp}{tl:TL2}{bs:List Bool}(h:PuL tl σ G (bs.map D.bl)):zi (zw zPx tl) σ G (.bl (bs.any id)):=fun G2 e R q=>h G2 e _ ⟨bs,rfl,q⟩
theorem zAz(q:Nat×Nat->Bool)(i j:Nat):adj q i j=adj q j i:=by
 unfold adj;rw[Nat.min_comm,Nat.max_comm];congr 1;rw[cG];simp;omega
set_option genInjectivity true in
inductive Reach (n:Nat) (q:Nat×Nat->Bool) (i:Nat):Nat->Prop where
 | refl:i<n->Reach n q i i
 | step {j k:Nat}:Reach n q i j->k<n->adj q j k=true->Reach n q i k
section
variable {n:Nat} {q:Nat×Nat->Bool}
theorem Reach.lt{i j:Nat}(h:Reach n q i j):j<n:=by cases h<;>assumption
theorem Reach.trans{i j k:Nat}(h:Reach n q i j)(h':Reach n q j k):Reach n q i k:=by
 induction h' with
 | refl _=>exact h
 | step _ a b ih=>exact .step ih a b
theorem Reach.symm{i j:Nat}(h:Reach n q i j):Reach n q j i:=by
 induction h with
 | refl h=>exact .refl h
 | @step j k h1 hk ha ih=>exact(Reach.step (.refl hk) h1.lt (by rw[zAz];exact ha)).trans ih
noncomputable def dec (p:Prop):Bool:=@decide p (Classical.propDecidable p)
theorem zI4{p:Prop}:dec p=true↔p:=by unfold dec;exact @decide_eq_true_iff p (Classical.propDecidable p)
noncomputable def comp (n:Nat) (q:Nat×Nat->Bool) (i:Nat):List Nat:=(bz n).filter fun j=>dec (Reach n q i j)
theorem zES{i j:Nat}:j∈comp n q i↔Reach n q i j:=by
 unfold comp;rw[cF,bV,zI4];exact⟨fun h=>h.2,fun h=>⟨h.lt,h⟩⟩
theorem zIK{i:Nat}:(comp n q i).Nodup:=eA.filter _
theorem zNj{i:Nat}:(comp n q i).Pairwise (·<=·):=zGB
noncomputable def zAT (n:Nat) (q:Nat×Nat->Bool) (i:Nat):Bool:=dec (∀ j,j<i->¬ Reach n q i j)
theorem zCP{i:Nat}:zAT n q i=true↔∀ j,j<i->¬ Reach n q i j:=zI4
noncomputable def wR (n:Nat) (q:Nat×Nat->Bool) (k:Nat):List (List Nat):=((bz k).filter (zAT n q)).map (comp n q)
theorem zGE{P:Nat->Prop}:∀ {m:Nat},P m->∃ i,P i/\i<=m/\∀ j,j<i->¬ P j:=by
 intro m
 induction m using Nat.strongRecOn with
 | ind m ih =>
  intro h;by_cases hx:∃ j,j<m/\P j
  ·obtain⟨j,hj,hp⟩:=hx
   obtain⟨i,h1,h2,h3⟩:=ih j hj hp;exact⟨i,h1,by omega,h3⟩
  ·exact⟨m,h,bE _,fun j hj hp=>hx ⟨j,hj,hp⟩⟩
theorem zLl{k:Nat}(hk:k<n):∃ i,i<=k/\zAT n q i=true/\Reach n q i k:=by
 obtain⟨i,h1,h2,h3⟩:=zGE (P:=fun j=>Reach n q k j) (m:=k) (.refl hk);exact⟨i,h2,zCP.mpr fun j hj hr=>h3 j hj (h1.trans hr),h1.symm⟩
theorem zNk{k:Nat}(hk:k<n):((wR n q k).any fun l=>decide (k∈l))=!zAT n q k:=by
 rw[cG,eD,Bool.not_eq_true',Bool.eq_false_iff,Ne,zCP];constructor
 ·rintro⟨l,hl,hm⟩ hn
  obtain⟨i,hi,rfl⟩:=bF.mp hl;have h2:=bV.mp (cF.mp hi).1;exact hn i h2 (zES.mp (of_decide_eq_true hm)).symm
 ·intro hn
  obtain⟨i,h1,h2,h3⟩:=zLl (q:=q) hk;have hik:i≠k:=fun e=>by subst e;exact hn (zCP.mp h2)
  exact⟨comp n q i,bF.mpr ⟨i,cF.mpr ⟨bV.mpr (by omega),h2⟩,rfl⟩,decide_eq_true (zES.mpr h3)⟩
end
noncomputable abbrev tD(l:List Nat):D:=.tup (l.map nD)
noncomputable def wy:wV:=fun ds G R=>∃(n:Nat) (q:Nat×Nat->Bool) (i:Nat),ds=[zM n q,nD i]/\i<n/\n<=50/\R (tD (comp n q i)) G
noncomputable def zBJ:yS:=(zT (zk (yA (zAC (zA (zD 1) zI))) (gN 2)) (zT (zk (xC (.int 0)) (gN 3)) (zT (zF4 (xB (zZ (fII fun i j=>.bl (decide (i<j))) (zD 3) (zJ yi (zA (zD 2) zI)))) (zT (wG (iV (zJ wX (zA (zD 0) (zA (zZ yg (zD 2) (zD 3)) zI)))) (gN 4) (xIf (xB (zZ (fIn true) (zD 4) (zD 2))) (wF (zEC (zD 2) (zA (zD 4) zI))) zx)) (zEw 3 (xC (.int 1)) fun a b=>a+b))) (zm (zw yM (zF3 (zA (zD 2) zI)))))))
structure Far (n:Nat) (q:Nat×Nat->Bool) (i:Nat) (r:List Nat) (d:Nat):Prop where
 nd:r.Nodup
 all:∀ x∈r,Reach n q i x
 st:i∈r
 dn:d<=r.length
 nb:∀(m x y:Nat),m<d->r[m]?=some x->y<n->adj q x y=true->y∈r
theorem Far.len{n:Nat}{q:Nat×Nat->Bool}{i d:Nat}{r:List Nat}(f:Far n q i r d):r.length<=n:=by
 have:=eR.length_le_of_subset f.nd (l₂:=bz n) fun x hx=>bV.mpr (f.all x hx).lt;simpa using this
theorem Far.end{n:Nat}{q:Nat×Nat->Bool}{i:Nat}{r:List Nat}(f:Far n q i r r.length):r.Perm (comp n q i):=by
 refine(eT f.nd zIK).mpr fun x=>?_;rw[zES];refine⟨f.all x,fun h=>?_⟩
 induction h with
 | refl _=>exact f.st
 | @step j k h1 hk ha ih =>
  obtain⟨m,hm⟩:=eV ih;exact f.nb m j k (bD.mp hm).1 hm hk ha
theorem Far.turn{n:Nat}{q:Nat×Nat->Bool}{i d:Nat}{r r':List Nat}{x:Nat}(f:Far n q i r d)(hx:r[d]?=some x)(pre:∃ t,r'=r++t)(nd:r'.Nodup)(all:∀ y∈r',Reach n q i y)(nb:∀ y,y<n->adj q x y=true->y∈r'):Far n q i r' (d+1):=by
 obtain⟨t,rfl⟩:=pre;have hd:d<r.length:=(bD.mp hx).1;refine⟨nd,all,cy _ f.st,by rw[bR];omega,fun m z y hm hz hy ha=>?_⟩;rw[cr (by omega)] at hz;by_cases hmd:m=d
 ·subst hmd
  rw[hx] at hz;cases hz;exact nb y hy ha
 ·exact cy _ (f.nb m z y (by omega) hz hy ha)
theorem zIL(ds:List D)(G:Gp)(R:Q2)(h:wy ds G R):ds.length=2/\zBJ (zg R) (zW ["web","place","reached","done","other"] ds) G:=by
 obtain⟨n,q,i,rfl,hi,hn,h⟩:=h;refine⟨rfl,?_⟩;unfold zBJ;refine yy (zFT (ds:=[nD i]) (fun G2 e R q=>zHD (zF (zE rfl) zP G2 e _ ⟨by rw[sizeLine_eq];simp,q⟩)) fun l hl=>?_);refine wB (wL (d:=.int 0)) ?_;show zT _ _ _ [some (zM n q),some (nD i),some (.adr l),some (.int 0),none] (zd G l [nD i]);refine Fg.of ⟨fun m σ G'=>∃(r:List Nat) (d:Nat) (o:Option D),σ=[some (zM n q),some (nD i),some (.adr l),some (nD d),o]/\m+d=n/\Far n q i r d/\G'.m l=some (r.map nD)/\Sub G G',⟨n,[i],0,none,rfl,rfl,⟨by simp,fun x hx=>?_,by simp,cg _,fun m x y hm=>by omega⟩,zL,.new hl⟩,?_⟩
 ·rw[bG] at hx;subst hx;exact .refl hi
 rintro m σ G1 ⟨r,d,o,rfl,hm,F,h1,h2⟩;have lenP:zi (zJ yi (zA (zD 2) zI)) [some (zM n q),some (nD i),some (.adr l),some (nD d),o] G1 (nD r.length):=zt (zF (zE rfl) zP) fun G2 e R q=>⟨r.map nD,e.ls (.inl h1),by rw[bA];exact q⟩
 refine zAQ (zLO (zE (i:=3) rfl) lenP) G1 (.refl _) _ ?_;by_cases hd:d<r.length
 ·rw[decide_eq_true (by omega),if_pos rfl]
  have hrl:=F.len;obtain⟨x,hx⟩:∃ x,r[d]?=some x:=⟨r[d],by simp[hd]⟩
  have hxn:x<n:=(F.all x (bM hx)).lt;have ix:zi (zZ yg (zD 2) (zD 3)) [some (zM n q),some (nD i),some (.adr l),some (nD d),none] G1 (nD x):=yx (zE rfl) (zE rfl) fun G2 e R q=>⟨r.map nD,nD x,e.ls (.inl h1),zA6 (by rw[cb,hx];rfl),q⟩
  refine zGD (σ':=[some (zM n q),some (nD i),some (.adr l),some (nD d),none]) (.keep (.keep (.keep (.keep (.skip .nil))))) (zSI (ds:=((bz n).filter (adj q x)).map nD) (zt (zF (zE rfl) (zF ix zP)) fun u0 u0 u0 hh=>⟨n,q,x,rfl,hxn,by omega,hh⟩) ?_);refine zAb (fun k G'=>∃ r',G'.m l=some (r'.map nD)/\(∃ t,r'=r++t)/\r'.Nodup/\(∀ y∈r',Reach n q i y)/\(∀ y∈((bz n).filter (adj q x)).take k,y∈r')/\Sub G G') ⟨r,h1,⟨[],by simp⟩,F.nd,F.all,by simp,h2⟩ (fun u0 u0 u0=>trivial) ?_ ?_
  ·rintro k y hy G2 ⟨r',a1,a2,a3,a4,a5,a6⟩
   obtain⟨y,hyk,rfl⟩:=zCW hy;obtain⟨hyn,hya⟩:=cF.mp (bM hyk);have hyn:=bV.mp hyn;show xIf _ _ _ _ [some (zM n q),some (nD i),some (.adr l),some (nD d),some (nD y)] G2;have hin:zi (zZ (fIn true) (zD 4) (zD 2)) [some (zM n q),some (nD i),some (.adr l),some (nD d),some (nD y)] G2 (.bl (!decide (y∈r'))):=yx (zE (d:=nD y) rfl) (zE (d:=.adr l) rfl) fun G3 e R q=>⟨r'.map nD,e.ls (.inl a1),rfl,wQ _,by rw[if_pos rfl,zID];exact q⟩
   have tk:∀ z∈((bz n).filter (adj q x)).take (k+1),z∈((bz n).filter (adj q x)).take k\/z=y:=fun z hz=>by
    rw[yn hyk] at hz;simpa using hz
   by_cases hyr:y∈r'
   ·rw[show(!decide (y∈r'))=false from by simp[hyr]] at hin
    refine zFS (zAQ hin) ⟨.keep (.keep (.keep (.keep (.skip .nil)))),G2,.refl _,r',a1,a2,a3,a4,fun z hz=>?_,a6⟩;rcases tk z hz with hz | rfl
    ·exact a5 z hz
    ·exact hyr
   ·rw[show(!decide (y∈r'))=true from by simp[hyr]] at hin
    refine zGA (zAQ hin) ?_;have nd':(r'++[y]).Nodup:=by
     rw[eP];refine⟨a3,by simp,fun u hu v hv=>?_⟩;rw[bG] at hv;subst hv;exact fun e=>hyr (e▸hu)
    have all':∀ z∈r'++[y],Reach n q i z:=fun z hz=>by
     rcases cu.mp hz with hz | hz
     ·exact a4 z hz
     ·rw[bG] at hz
      subst hz;exact .step (F.all x (bM hx)) hyn hya
    have hlen:r'.length<=n:=by
     have:=eR.length_le_of_subset a3 (l₂:=bz n) fun x hx=>bV.mpr (a4 x hx).lt;simpa using this
    refine zCn (d:=nD y) rfl a1 (fun Q q=>zF (zE rfl) zP G2 (.refl _) _ q) (by rw[bA];omega) ⟨.keep (.keep (.keep (.keep (.skip .nil)))),_,.refl _,r'++[y],?_,?_,nd',all',fun z hz=>?_,a6.put hl⟩
    ·rw[zL];simp
    ·obtain⟨t,rfl⟩:=a2
     exact⟨t++[y],by simp⟩
    ·rcases tk z hz with hz | rfl
     ·exact cy _ (a5 z hz)
     ·simp
  ·rintro G2 ⟨r',a1,a2,a3,a4,a5,a6⟩
   rw[bA,et] at a5;have F':Far n q i r' (d+1):=F.turn hx a2 a3 a4 fun y hy ha=>a5 y (cF.mpr ⟨bV.mpr hy,ha⟩);refine .of ⟨m-1,by have:=F'.dn;have:=F'.len;omega,r',d+1,none,?_,by have:=F'.dn;have:=F'.len;omega,F',a1,a6⟩;show[some (zM n q),some (nD i),some (.adr l),some (.int ((d:Int)+1)),none]=_;rw[show((d:Int)+1)=((d+1:Nat):Int) by omega]
 ·rw[decide_eq_false (by omega),if_neg (by simp)]
  have hdl:d=r.length:=by have:=F.dn;omega
  subst hdl;have P:=F.end;have fin:=zEE (zII (σ:=[some (zM n q),some (nD i),some (.adr l),some (nD r.length),o]) (G:=G1) (t:=zA (zD 2) zI) (d:=.adr l) (l:=r) (s:=comp n q i) (zF (zE rfl) zP) (Or.inl h1:Ls G1 l (r.map nD)) (by have:=F.len;omega) P.symm zNj);exact fin G1 (.refl _) _ ⟨G,h2,h⟩
noncomputable def wJ:List D->Gp->(List D->Gp->Prop)->Prop:=fun ds G R=>∃(n:Nat) (q:Nat×Nat->Bool),ds=[zM n q]/\n<=50/\R ((wR n q n).map tD) G
theorem zDU:∀ ds G R R',(∀ ls G',R ls G'->R' ls G')->wJ ds G R->wJ ds G R':=by
 rintro ds G R R' h ⟨n,q,e,hn,q'⟩;exact⟨n,q,e,hn,h _ _ q'⟩
noncomputable def zCq:yS:=(zT (zk (yA (zAC zI)) (gN 1)) (zT (wG (iR1 (zA (zZ yg (zD 0) (xC (.int 0))) zI)) (gN 2) (xIf (ww (xB (zw zPx (yv (iV (zD 1)) bd1 zEv (zZ (fIn false) (zD 2) (zD 3)))))) (wF (zEC (zD 1) (zA (zJ wy (zA (zD 0) (zA (zD 2) zI))) zI))) zx)) (zm (zD 1))))
theorem zLm(ds:List D)(G:Gp)(R:Q2)(h:spL wJ ds G R):ds.length=1/\zCq (zg R) (zW ["web","found","place"] ds) G:=by
 obtain⟨n,q,rfl,hn,h⟩:=h;refine⟨rfl,?_⟩;unfold zCq;refine yy (zFT (ds:=[]) (fun G2 e R q=>zHD (zCG ⟨by rw[sizeLine_eq];simp,q⟩)) fun f hf=>?_);show zT _ _ _ [some (zM n q),some (.adr f),none] (zd G f []);refine zF9 (n:=n) (zF (zBN (zE rfl)) zP) (by omega) ?_;refine zAb (fun k G'=>G'.m f=some ((wR n q k).map tD)/\Sub G G') ⟨zL,.new hf⟩ (fun u0 u0 u0=>trivial) ?_ ?_
 ·rintro k x hx G2 ⟨h1,h2⟩
  obtain⟨rfl,hk⟩:=zEM hx;show xIf _ _ _ _ [some (zM n q),some (.adr f),some (nD k)] G2;have cm:=zLS (σ:=[some (zM n q),some (.adr f),some (nD k)]) (G:=G2) (bd:=bd1) (te:=zZ (fIn false) (zD 2) (zD 3)) (fun d=>match d with | .tup xs=>.bl (xs.any fun z=>yz z (nD k)) | _=>.bl false) (fun d=>[d]) (zJt (zE (i:=1) rfl) (.inl h1)) fun x hx=>by
   obtain⟨p,hp,rfl⟩:=bF.mp hx;exact⟨rfl,zLd (zE (i:=2) (d:=nD k) rfl) (zE (i:=3) (d:=tD p) rfl) rfl (wQ _) rfl⟩
  have e:bJ (fun d=>match d with | .tup xs=>D.bl (xs.any fun z=>yz z (nD k)) | _=>.bl false) ((wR n q k).map tD)=((wR n q k).map fun l=>decide (k∈l)).map D.bl:=by
   rw[dD,dD];refine cZ fun l u0=>?_;simp only[Function.comp,zID]
  rw[e] at cm;have ca:=zP4 cm;rw[List.any_map,show(id∘fun l=>decide (k∈l))=fun l=>decide (k∈l) from rfl,zNk hk] at ca;have hto:wR n q (k+1)=wR n q k++(if zAT n q k=true then [comp n q k] else []):=by
   unfold wR;rw[eK,List.filter_append,dt];congr 1;by_cases hb:zAT n q k=true
   ·rw[if_pos hb];simp[hb]
   ·rw[if_neg hb];simp[hb]
  have hlen:(wR n q k).length<=k:=by
   unfold wR;rw[bA];have:=e7 (zAT n q) (bz k);simpa using this
  cases hb:zAT n q k with
  | true =>
   rw[hb] at ca;refine zGA (zBo (b:=false) (zAQ ca)) ?_;refine zCn (d:=tD (comp n q k)) rfl h1 (fun Q q'=>zF (zt (zF (zE rfl) (zF (zE rfl) zP)) fun u0 u0 u0 hh=>⟨n,q,k,rfl,hk,hn,hh⟩) zP G2 (.refl _) _ q') (by rw[bA];omega) ⟨.keep (.keep (.skip .nil)),_,.refl _,?_,h2.put hf⟩;rw[zL,hto,hb];simp
  | false =>
   rw[hb] at ca;refine zFS (zBo (b:=true) (zAQ ca)) ⟨.keep (.keep (.skip .nil)),G2,.refl _,?_,h2⟩;rw[hto,hb];simpa using h1
 ·rintro G2 ⟨h1,h2⟩
  rw[bA,ck] at h1;show FgR R (.adr f) G2;refine⟨zd G f ((wR n q n).map tD),⟨fun a o e=>?_,fun a o e=>h2.ro a o e,fun a o e=>h2.dc a o e⟩,h f hf⟩;by_cases ha:a=f
  ·subst ha;rw[zL] at e;cases e;exact h1
  ·rw[ze ha] at e;exact h2.m a o e
theorem zCr(q:Nat×Nat->Bool)(ps:List Nat)(a b:Nat):adj (zAG q ps) a b=adj q (ps.getD a 0) (ps.getD b 0):=by
 by_cases h:a=b
 ·subst h;simp[adj]
 ·have:adj (zAG q ps) a b=zAG q ps (min a b,max a b):=by unfold adj;simp[h]
  rw[this];unfold zAG;dsimp only;rcases Nat.le_total a b with hab | hab
  ·rw[di hab,dY hab]
  ·rw[Nat.min_eq_right hab,Nat.max_eq_left hab,zAz]
section
variable {n:Nat} {q:Nat×Nat->Bool}
end
end K
namespace HT
theorem zCs:Slot "reversed" "__next__" "reversed.__next__" :=
 .of (owner:="reversed") (n:="__next__") (by rw[typeLookup_type,builtinLookup_eq_fast];kernel_rfl) (by decide +kernel) (by decide +kernel) (by decide +kernel)
  (by first | exact .inl (by decide +kernel) | exact .inr (by decide +kernel)) (by rw[isSubtype_type];kernel_rfl)
theorem zNl:Slot "reversed" "__init__" "object.__init__" :=
 .of (owner:="object") (n:="__init__") (by rw[typeLookup_type,builtinLookup_eq_fast];kernel_rfl) (by decide +kernel) (by decide +kernel) (by decide +kernel)
  (by first | exact .inl (by decide +kernel) | exact .inr (by decide +kernel)) (by rw[isSubtype_type];kernel_rfl)
theorem zI5:Slot "reversed" "__iter__" "reversed.__iter__" :=
 .of (owner:="reversed") (n:="__iter__") (by rw[typeLookup_type,builtinLookup_eq_fast];kernel_rfl) (by decide +kernel) (by decide +kernel) (by decide +kernel)
  (by first | exact .inl (by decide +kernel) | exact .inr (by decide +kernel)) (by rw[isSubtype_type];kernel_rfl)
theorem zCH:entryFor table "reversed.__next__"=some Builtin.«reversed.__next__»:=entryFor_of_tree (by kernel_rfl)
theorem zCt(a:Value):argsOk "reversed.__next__" ⟨[a],[]⟩:=by unfold argsOk;kernel_rfl
theorem zGF(a:Value):argsOk "reversed.__iter__" ⟨[a],[]⟩:=by unfold argsOk;kernel_rfl
theorem zEy:entryFor table "reversed.__iter__"=some Builtin.«dict_keyiterator.__iter__» :=
 entryFor_alias (id':="dict_keyiterator.__iter__") (by kernel_rfl) (by first | rfl | decide +kernel | (unfold String.splitOn;simp +decide [String.splitOnAux])) (by decide +kernel) (by kernel_rfl)
theorem zDK:TypeCalled "reversed" "reversed.__new__" "object.__init__" :=
 ⟨by decide +kernel,by decide +kernel,⟨_,_,PySem.F.mro_reversed⟩,PySem.F.made_reversed,by decide +kernel,by rw[isSubtype_type];kernel_rfl,zNl⟩
theorem zNm:typeLookup (.type "tuple") "__reversed__"=pure none:=by rw[typeLookup_type,builtinLookup_eq_fast];kernel_rfl
theorem zLn:typeLookup (.type "reversed") "__len__"=pure none:=by rw[typeLookup_type,builtinLookup_eq_fast];kernel_rfl
theorem zNn:typeLookup (.type "reversed") "__length_hint__"=pure (some (.builtin "reversed.__length_hint__")):=by rw[typeLookup_type,builtinLookup_eq_fast];kernel_rfl
section
variable {prog:Program} {w:World} {A:Around} {E:Value->Shared->Prop} {s:Shared}
noncomputable def zLo(l:Addr)(i:Int):Obj:={ cls:=.type "reversed",data:=.fields #[.ref l,rawInt i] }
theorem zET{l:Addr}{items:Array Value}{Q₁:Value->Shared->Prop}(hl:IsTup s.heap l items)(hz:items.size<=sizeLine)
  (h:∀ tk,Q₁ (.ref s.heap.objs.size) { s with heap:=s.heap.push (zLo l ((items.size:Int)-1)),toks:=tk }) :
  codeAny (model prog w) A (.call (.builtin "reversed.__new__") ⟨[.type "reversed",.ref l],[]⟩) (wants Q₁ E) s:=by
 refine codeAny_of_tree ?_;show wpAny _ A.in1 (do checkBuiltinCall "reversed.__new__" ⟨[.type "reversed",.ref l],[]⟩;again (.builtin "reversed.__new__" ⟨[.type "reversed",.ref l],[]⟩)) _ _ s;refine bi (df (PySem.F.newCall_reversed_1 _) (bm ⟨plainId_quiet PySem.F.plain_reversed_new _,cf PySem.F.entry_reversed_new ?_⟩));rw[Around.under_plainId PySem.F.plain_reversed_new _];unfold Builtin.«reversed.__new__»;refine bi (df (newClass_reversed _) ?_)
 try dsimp only
 refine bi (df (a:=()) (by first | rfl | kernel_rfl) ?_);refine bi (df (a:=()) (by first | rfl | kernel_rfl) ?_)
 try dsimp only
 refine bi (db hl.typeIs zNm ?_)
 try dsimp only
 refine bi ?_
 wp_delta
 refine bi (cS (T:="tuple") (b:=false) hl.typeIs (by rw[isSubtype_type];kernel_rfl) ?_);rw[if_neg (by simp)];refine bi (db hl.typeIs PyProof.Rows.slot_tuple_getitem.lookup ?_);refine bm ?_;rw[if_neg (by simp)];have hz':=hz;rw[sizeLine_eq] at hz';refine bi (PyProof.Rows.len_tuple hl (by omega) ?_);refine bi (df (a:=some ((items.size:Nat):Int)) rfl ?_);dsimp only;unfold Builtin.SmallTypes.newRecord;refine bi (bS ?_ (by size_fits));exact bm (h _)
theorem zB7{l:Addr}{items:Array Value}{Q:Value->Shared->Prop}(hl:IsTup s.heap l items)(hz:items.size<=sizeLine)
  (h:∀ tk,Q (.ref s.heap.objs.size) { s with heap:=s.heap.push (zLo l ((items.size:Int)-1)),toks:=tk }):wpAny (model prog w) A (call (.type "reversed") [.ref l]) Q E s:=by
 refine callType_codes (Q₁:=fun obj s₁=>s₁.TypeIs obj "reversed"/\Q obj s₁) zDK (PySem.F.typeCall_reversed_1 _) PySem.F.entry_object_init
  (zET hl hz fun tk=>⟨⟨_,bB _ rfl,rfl⟩,h tk⟩) fun obj s₁ h₁=>?_
 exact⟨h₁.1,PySem.F.args_object_init_2 obj _,object_init_meets zDK.init.lookup zDK.made (by decide) prog w A.in1 _ s₁ ⟨h₁.1,rfl,h₁.2⟩⟩
noncomputable def zB8(h:Heap)(a l:Addr)(i:Int):Prop:=∃ o,h.get? a=some o/\o.cls=.type "reversed"/\o.data=.fields #[.ref l,rawInt i]
theorem zB8.typeIs{a l:Addr}{i:Int}(x:zB8 s.heap a l i):s.TypeIs (.ref a) "reversed":=let ⟨o,ho,hc,_⟩:=x;⟨o,ho,hc⟩
theorem zB8.at'{h h':Heap}{a l:Addr}{i:Int}(x:zB8 h a l i)(e:∀ o,h.get? a=some o->h'.get? a=some o):zB8 h' a l i:=let ⟨o,ho,r⟩:=x;⟨o,e _ ho,r⟩
theorem zNo{it l:Addr}{i:Nat}{items:Array Value}{x:Value}{Q:Option Value->Shared->Prop}(hit:zB8 s.heap it l (i:Int))(hl:IsTup s.heap l items)(hx:items[i]?=some x)(hz:items.size<=sizeLine)
  (hQ:∀ h' tk,s.toks<=tk->zB8 h' it l ((i:Int)-1)->bX it s.heap h'->Q (some x) { s with heap:=h',toks:=tk }):wpAny (model prog w) A (pyNext (.ref it)) Q E s:=by
 obtain⟨o,ho,hc,hd⟩:=id hit;have hi:i<items.size:=(cU.mp hx).1;rw[sizeLine_eq] at hz;unfold pyNext;refine bi (dZ (wpAny_callSpecial?_slot (name:=Str.ofString "__next__") hit.typeIs zCs
  (bT zCs hit.typeIs zCH ?_ (zCt _))))
 unfold Builtin.«reversed.__next__»;refine bi (df (a:=(Value.ref it,[])) rfl ?_)
 try dsimp only
 refine bi (eH ho hd (x:=.ref l) rfl ?_);refine bi (eH ho hd (x:=rawInt (i:Int)) rfl ?_);show wpAny _ _ (if (i:Int)<0 then _ else _) _ _ s;rw[if_neg (by omega)];refine bi (db hl.typeIs PyProof.Rows.slot_tuple_getitem.lookup ?_);show wpAny _ _ (if (false:Bool)=true then _ else _) _ _ s;rw[if_neg (by simp)];refine bi (wpAny_mkInt ?_);refine bi (dZ (PyProof.Rows.getItem_tuple (s:={ s with toks:=s.toks+1 }) hl (k:=(i:Int)) (j:=i) (x:=x) (by omega) (by omega) (by unfold seqIndex?;simp;omega) hx ?_));dsimp only;refine bi (eH ho hd (x:=rawInt (i:Int)) rfl ?_);refine bi (wpAny_setField ho hd (by simp) ?_);exact bm ⟨x,rfl,bm (hQ _ _ (by simp) ⟨_,cD _ ho (Obj.isFreed_of_fields (Obj.data_mapFields hd _)),(Obj.cls_mapFields ..).trans hc,by rw[Obj.data_mapFields hd];simp⟩ (bX.update ..))⟩
theorem zP5{it l:Addr}{Q:Option Value->Shared->Prop}(hh:A.handled=none)(hit:zB8 s.heap it l (-1))
  (hQ:∀ h',Heap.ExtBut it s.heap h'->Q none { s with heap:=h' }):wpAny (model prog w) A (pyNext (.ref it)) Q E s:=by
 obtain⟨o,ho,hc,hd⟩:=id hit;unfold pyNext;refine bi (dZ (wpAny_callSpecial?_slot (name:=Str.ofString "__next__") hit.typeIs zCs
  (bT zCs hit.typeIs zCH ?_ (zCt _))))
 unfold Builtin.«reversed.__next__»;refine bi (df (a:=(Value.ref it,[])) rfl ?_)
 try dsimp only
 refine bi (eH ho hd (x:=.ref l) rfl ?_);refine bi (eH ho hd (x:=rawInt (-1)) rfl ?_);show wpAny _ _ (if (-1:Int)<0 then _ else _) _ _ s;rw[if_pos (by decide)];refine bi (dF ?_);refine bi ?_
 wp_delta
 refine bi (wpAny_setField ho hd (by simp) ?_);have ho2:=cD (Obj.mapFields (·.setIfInBounds 1 (rawInt (-1)))) ho (Obj.isFreed_of_fields (Obj.data_mapFields hd _));refine wpAny_setField ho2 (Obj.data_mapFields hd _) (by simp) ?_;refine bi ?_
 first
 | show wpAny _ _ (newExc (.type "StopIteration") []>>=_) _ _ _
 | (refine bi ?_;show wpAny _ _ (newExc (.type "StopIteration") []>>=_) _ _ _)
 refine bi ?_;simp only[newExc,newTuple];refine bi (bS ?_ (by size_fits));refine bi (m:=firstArgMember _ _) (df (a:=Value.none) (by first | rfl | (simp only[firstArgMember];rfl)) ?_);refine bS ?_ (by size_fits);simp only[raiseNew];refine bi (wpAny_handled ?_)
 first | rw[show A.in1.handled=none from hh] | rw[hh]
 refine bi (bm (wpAny_throw ?_));refine bi (cS (T:="StopIteration") (b:=true) ⟨_,bB _ rfl,rfl⟩ isSubtype_stop ?_);exact bm (hQ _ (fun b o hb e=>bn _ (bn _ ((dW _ _ (Ne.symm hb)).trans ((dW _ _ (Ne.symm hb)).trans e)))))
theorem zI6{it l:Addr}{i:Int}{Q:Value->Shared->Prop}(hit:zB8 s.heap it l i)(h:Q (.ref it) s):wpAny (model prog w) A (pyIter (.ref it)) Q E s:=by
 refine wpAny_pyIter_slot hit.typeIs zI5 (bT zI5 hit.typeIs zEy ?_ (zGF _));show wpAny _ _ (ret (.ref it)) _ _ s;exact bm ⟨_,rfl,"reversed",_,hit.typeIs,zCs.lookup,h⟩
theorem zHE:Slot "reversed" "__length_hint__" "reversed.__length_hint__" :=
 .of (owner:="reversed") (n:="__length_hint__") (by rw[typeLookup_type,builtinLookup_eq_fast];kernel_rfl) (by decide +kernel) (by decide +kernel) (by decide +kernel)
  (by first | exact .inl (by decide +kernel) | exact .inr (by decide +kernel)) (by rw[isSubtype_type];kernel_rfl)
theorem zEz:entryFor table "reversed.__length_hint__"=some Builtin.«reversed.__length_hint__»:=entryFor_of_tree (by kernel_rfl)
theorem zGG(a:Value):argsOk "reversed.__length_hint__" ⟨[a],[]⟩:=by unfold argsOk;kernel_rfl
theorem Walks.rev{prog:Program}{w:World}{A:Around}(hh:A.handled=none)(I l:Addr)(hne:l≠I)(items:Array Value)(hz:items.size<=sizeLine) :
  Walks prog w A I [I,l] [I] items.size (fun i v=>items[items.size-1-i]?=some v) (fun i h=>i<=items.size/\zB8 h I l ((items.size:Int)-1-(i:Int))/\IsTup h l items) where
 sub:=fun b hb=>by simp at hb;simp[hb]
 frame:=fun u0 u0 u0 x hk=>⟨x.1,x.2.1.at' fun o e=>hk I (by simp) o e,IsTup.at' x.2.2 fun o e=>hk l (by simp) o e⟩
 item:=fun i s Q E hi x hQ=>by
  have e:(items.size:Int)-1-(i:Int)=((items.size-1-i:Nat):Int):=by omega
  have hit:=x.2.1;rw[e] at hit;have hx:items[items.size-1-i]?=some (items[items.size-1-i]'(by omega)):=Array.getElem?_eq_getElem (by omega);refine zNo hit x.2.2 hx hz fun h' tk u0 hit' hs'=>?_;have e2:((items.size-1-i:Nat):Int)-1=(items.size:Int)-1-((i+1:Nat):Int):=by omega
  rw[e2] at hit';exact hQ _ h' tk hx ⟨hi,hit',IsTup.at' x.2.2 fun o eo=>(hs'.2 l hne).trans eo⟩ fun b o hb eo=>hs'.extBut b o (fun h=>hb (by simp[h])) eo
 done:=fun s Q E x hQ=>by
  have e:(items.size:Int)-1-(items.size:Int)=-1:=by omega
  have hit:=x.2.1;rw[e] at hit;exact zP5 hh hit fun h' he'=>hQ h' s.toks fun b o hb eo=>he' b o (fun h=>hb (by simp[h])) eo
 self:=fun u0 u0 u0 u0 x hQ=>zI6 x.2.1 hQ
theorem zNp{r l:Addr}{items:Array Value}{Q:Bool->Shared->Prop}(hr:zB8 s.heap r l ((items.size:Int)-1))(hl:IsTup s.heap l items)(hlen:items.size<=2 ^ 24)
  (h:∀ b tk,Q b { s with toks:=tk }):wpAny (model prog w) A (Builtin.List.listLengthHint (.ref r)) Q E s:=by
 obtain⟨o,ho,hc,hd⟩:=id hr;unfold Builtin.List.listLengthHint;refine bi (db hr.typeIs zLn ?_);show wpAny _ A (specialOf (Value.ref r) (Str.ofString "__length_hint__")>>=_) _ _ _;refine bi (db hr.typeIs zNn ?_);generalize hid:("reversed.__length_hint__":String)=id0
 wp_delta
 rw[show splitId id0=some ("reversed","__length_hint__") from by subst hid;decide +kernel];subst hid;refine bi (cS (T:="reversed") (b:=true) hr.typeIs (by rw[isSubtype_type];kernel_rfl) ?_);refine cN (fun hab=>absurd hab (by decide)) (fun u0=>?_);refine cN (fun hab=>absurd hab (by decide +kernel)) (fun u0=>?_);refine bi (dF ?_);refine bi (df (zHE.bind _) ?_);refine bi (dZ (bT zHE hr.typeIs zEz ?_ (zGG _)));unfold Builtin.«reversed.__length_hint__»;refine bi (df (a:=(Value.ref r)) rfl ?_);refine bi (eH ho hd (x:=.ref l) rfl ?_);show wpAny _ _ (call (.builtin "len") [.ref l]>>=_) _ _ s;refine bi (PyProof.Rows.len_tuple hl (by omega) ?_);refine bi (df (a:=some ((items.size:Nat):Int)) rfl ?_);dsimp only;refine bi (eH ho hd (x:=rawInt ((items.size:Int)-1)) rfl ?_);show wpAny _ _ (if ((items.size:Nat):Int)<(items.size:Int)-1+1 then _ else _) _ _ _;rw[if_neg (by omega)];unfold retInt;refine bi (wpAny_mkInt ?_);refine bm ⟨_,rfl,?_⟩;have e1:(items.size:Int)-1+1=(items.size:Int):=by omega
 rw[e1];dsimp only;have hf:Builtin.List.listFitsIndex (items.size:Int)=true:=by simp[Builtin.List.listFitsIndex];omega
 have htl:Builtin.List.listTooLong ((items.size:Int).toNat)=false:=by simp[Builtin.List.listTooLong,sizeLine];omega
 have hnn:¬ (items.size:Int)<0:=Int.not_lt.mpr (Int.natCast_nonneg _);generalize (items.size:Int)=z at hf htl hnn ⊢;rw[show asInt? (Value.int z (s.toks+1+1))=pure (some z) from rfl,pure_bind];dsimp only;rw[if_neg (by rw[hf];decide),if_neg hnn,if_neg (by rw[htl];decide)];exact bm (h _ _)
theorem zKA{R:Result->Shared->Prop}{r l:Addr}{items:Array Value}(hh:A.handled=none)(hr:zB8 s.heap r l ((items.size:Int)-1))(hl:IsTup s.heap l items)(hlen:items.size<=2 ^ 24)
  (S:Addr) (hSr:S≠r) (hSl:S≠l) (hlr:l≠r) (res:Value) (c₀:Nat) (hS:s.heap.get? S=some { cls:=.type "list",data:=.seq #[] c₀ })
  (hR:∀ h' tk acc' c',(∀ b o,b≠S->b≠r->s.heap.get? b=some o->h'.get? b=some o)->h'.get? S=some { cls:=.type "list",dict:=none,data:=.seq acc' c',slots:=#[] } ->
   ItemsOf (fun i v=>items[items.size-1-i]?=some v) acc' items.size->R (.ok (.ret res)) { s with heap:=h',toks:=tk }) :
  wpAny (model prog w) A.in1 (Builtin.List.listExtendWith (.ref S) (.ref r) res)
   (fun fin s'=>match fin with | .done f=>R (.ok f) s' | .again c'=>c'.quiet=true/\codeAny (model prog w) A c' R s') (fun e s'=>R (.error e) s') s:=by
 have hz:items.size<=sizeLine:=by rw[sizeLine_eq];omega
 have W:=(Walks.rev (prog:=prog) (w:=w) (A:=A.in1) hh r l hlr items hz).toS;have hSf:S∉[r,l]:=by simp[hSr,hSl]
 have key:∀(h:Heap) (c₁ tk:Nat),(∀ b o,b≠S->s.heap.get? b=some o->h.get? b=some o) ->
   h.get? S=some { cls:=.type "list",data:=.seq #[] c₁ }->codeAny (model prog w) A (.builtin "list.extend.loop" ⟨[.ref S,.ref r,res],[]⟩) R { s with heap:=h,toks:=tk }:=by
  intro h c₁ tk hk hS₁;refine codeAny_extend_loopS W hz S hSf res items.size 0 _ #[] c₁ (by omega) (cg _) ⟨cg _,?_,IsTup.at' hl fun o e=>hk l o (Ne.symm hSl) e⟩ hS₁ (ItemsOf.nil _) fun s' acc' c' hm hS' hacc=>?_
  ·exact(show zB8 s.heap r l ((items.size:Int)-1-((0:Nat):Int)) by simpa using hr).at' fun o e=>hk r o (Ne.symm hSr) e
  rw[Moved.eq_with hm];refine hR s'.heap s'.toks acc' c' (fun b o hb hbr e=>hm.heap b o (fun hmem=>?_) (hk b o hb e)) hS' hacc;rcases ce.mp hmem with e' | hmem
  ·exact hb e'
  ·exact hbr (bG.mp hmem)
 unfold Builtin.List.listExtendWith;refine bi (dC hr.typeIs ?_);have h1:Builtin.List.listSameRef (.ref S) (.ref r)=false:=by simp[Builtin.List.listSameRef,hSr]
 have h2:(Value.type "reversed"==Value.type "list")=false:=by decide
 have h3:(Value.type "reversed"==Value.type "tuple")=false:=by decide
 simp only[h1,h2,h3,Bool.or_false,bj,if_false];refine bi (zI6 hr ?_);refine bi (bZ (zNp hr hl hlen fun b tk=>?_));refine cN (fun u0=>?_) (fun u0=>bm ⟨plainId_quiet F.plain_extend_loop _,key _ c₀ _ (fun b o u0 e=>e) hS⟩);refine bi (dF ?_);refine bi ?_;show wpAny _ _ (updateSeq S (·.push .none)>>=fun u0=>updateSeq S (·.pop)) _ _ _;refine bi (fh hS rfl ?_);have hS₂:=cD (Obj.mapSeq (·.push Value.none)) hS rfl;refine fh (hz:=by seq_fits) hS₂ rfl ?_;have hS₃:=cD (Obj.mapSeq (·.pop)) hS₂ rfl;refine bm ⟨plainId_quiet F.plain_extend_loop _,key _ _ _ (fun b o hb e=>?_) hS₃⟩;exact(dW _ _ (Ne.symm hb)).trans ((dW _ _ (Ne.symm hb)).trans e)
theorem zIM{Q:List Value->Shared->Prop}{r l:Addr}{items:Array Value}(hh:A.handled=none)(hr:zB8 s.heap r l ((items.size:Int)-1))(hl:IsTup s.heap l items)(hlr:l≠r)(hlen:items.size<=2 ^ 24)
  (hQ:∀ h' tk acc,(∀ b o,b≠r->s.heap.get? b=some o->h'.get? b=some o)->ItemsOf (fun i v=>items[items.size-1-i]?=some v) acc items.size->Q acc.toList { s with heap:=h',toks:=tk }) :
  wpAny (model prog w) A (collect (.ref r)) Q E s:=by
 obtain⟨o,ho,hc,hd⟩:=id hr;obtain⟨ol,hol,hlc,hld⟩:=id hl;unfold collect;refine bi (e8 (cf PySem.F.entry_proto_collect ?_));rw[Around.under_plainId PySem.F.plain_proto_collect _];show wpAny _ A.in1 (newList []>>=fun l=>again (.builtin "list.__iadd__" ⟨[l,.ref r],[]⟩)) _ _ s;refine bi (bS ?_);refine bm ⟨plainId_quiet PySem.F.plain_list_iadd _,cf PySem.F.entry_list_iadd ?_⟩;rw[Around.under_plainId PySem.F.plain_list_iadd _];show wpAny _ A.in1 (Builtin.List.listExtendWith (.ref s.heap.objs.size) (.ref r) (.ref s.heap.objs.size)) _ _ _;have hS:(s.heap.push { cls:=.type "list",data:=.seq ([]:List Value).toArray }).get? s.heap.objs.size=some { cls:=.type "list",data:=.seq #[] 0 }:=bB _ rfl;refine eN (zKA (A:=A) (R:=fun res s'=>∃ h' tk acc c',res=.ok (.ret (.ref s.heap.objs.size))/\s'={ s with heap:=h',toks:=tk }/\(∀ b o,b≠r->s.heap.get? b=some o->h'.get? b=some o)/\h'.get? s.heap.objs.size=some { cls:=.type "list",dict:=none,data:=.seq acc c',slots:=#[] }/\ItemsOf (fun i v=>items[items.size-1-i]?=some v) acc items.size)
  (s:={ s with heap:=s.heap.push { cls:=.type "list",data:=.seq ([]:List Value).toArray } }) hh (hr.at' fun o e=>bn _ e) (hl.push _) hlen s.heap.objs.size (Ne.symm (bO (bC ho))) (Ne.symm (bO (bC hol))) hlr (.ref s.heap.objs.size) 0 hS fun h' tk acc' c' hk hS' hacc=>?_) (fun fin s' h=>?_) (fun e s' h=>?_)
 ·exact⟨h',tk,acc',c',rfl,rfl,fun b o hb e=>hk b o (bO (bC e)) hb (bn _ e),hS',hacc⟩
 ·have fin':∀ {r' s''},(∃ h' tk acc c',r'=(.ok (.ret (.ref s.heap.objs.size)):Result)/\s''={ s with heap:=h',toks:=tk }/\(∀ b o,b≠r->s.heap.get? b=some o->h'.get? b=some o)/\h'.get? s.heap.objs.size=some { cls:=.type "list",dict:=none,data:=.seq acc c',slots:=#[] }/\ItemsOf (fun i v=>items[items.size-1-i]?=some v) acc items.size) ->
    wpAny (model prog w) A (match Value.ref s.heap.objs.size with
     | Value.ref a=>do
      match (<-load a).data with
       | Data.seq xs _=>pure xs.toList
       | _=>unsupported "internal:collect"
     | _=>unsupported "internal:collect") Q E s'':=by
   rintro r' s'' ⟨h',tk,acc,c',rfl,rfl,hk,hS',hacc⟩;show wpAny _ A (load s.heap.objs.size>>=_) _ _ _;refine bi (wpAny_load hS' ?_);exact bm (hQ h' tk acc hk hacc)
  cases fin with
  | done f =>
   have hf:=h;obtain⟨h',tk,acc,c',e,u0⟩:=h;cases e;exact fin' hf
  | again c'=>exact⟨h.1,cR h.2 fun r s'' hr=>by
    have hf:=hr;obtain⟨h',tk,acc,c',e,u0⟩:=hr;subst e;exact fin' hf⟩
 ·obtain⟨u0,u0,u0,u0,e,u0⟩:=h
  cases e
theorem zCQ(r l:Addr)(items:Array Value)(hlr:l≠r)(hlen:items.size<=2 ^ 24) :
  Meets (Builtin.«tuple.__new__» ⟨[.type "tuple",.ref r],[]⟩)
   (fun A R s=>A.handled=none/\zB8 s.heap r l ((items.size:Int)-1)/\IsTup s.heap l items/\∀(h':Heap) tk acc,(∀ b o',b≠r->s.heap.get? b=some o'->h'.get? b=some o')->ItemsOf (fun i v=>items[items.size-1-i]?=some v) acc items.size->R (.ok (.ret (.ref h'.objs.size))) { s with heap:=h'.push { cls:=.type "tuple",data:=.seq acc },toks:=tk }) :=
 .of_wp fun prog w A R s h=>by
  obtain⟨hp,g,d,tk,os⟩:=s;obtain⟨hh,hr,hl,h⟩:=h;have hsub:=sub_tuple_self;have hinit:=init_tuple_lookup;have hmh:=madeHere_tuple;have hT:Shared.TypeIs ⟨hp,g,d,tk,os⟩ (.ref r) "reversed":=hr.typeIs (s:=⟨hp,g,d,tk,os⟩)
  wp_walk using dC hT,zIM (A:=A.in1) hh hr hl hlr hlen
  intro h' tk' acc hk hacc;show wpAny _ _ (Builtin.Tuple.tupleExact acc.toList.toArray>>=fun v=>ret v) _ _ _;unfold Builtin.Tuple.tupleExact;refine bi (bS ?_ (by show acc.toList.toArray.size<=sizeLine;simp only[Array.toArray_toList];rw[hacc.1,sizeLine_eq];omega));refine bm ⟨_,rfl,?_⟩;have e:acc.toList.toArray=acc:=by simp
  rw[e];exact h h' tk' acc hk hacc
theorem zE0{Q:Value->Shared->Prop}{r l:Addr}{items:Array Value}(hh:A.handled=none)(hr:zB8 s.heap r l ((items.size:Int)-1))(hl:IsTup s.heap l items)(hlr:l≠r)(hlen:items.size<=2 ^ 24)
  (hQ:∀(h':Heap) tk acc,(∀ b o,b≠r->s.heap.get? b=some o->h'.get? b=some o)->ItemsOf (fun i v=>items[items.size-1-i]?=some v) acc items.size->Q (.ref h'.objs.size) { s with heap:=h'.push { cls:=.type "tuple",data:=.seq acc },toks:=tk }) :
  wpAny (model prog w) A (call (.type "tuple") [.ref r]) Q E s :=
 callType_new PySem.F.called_tuple (by decide) (PySem.F.typeCall_tuple_1 _) (PySem.F.newCall_tuple_1 _) (fun obj=>PySem.F.args_object_init_2 obj _) PySem.F.entry_tuple_new
  (zCQ r l items hlr hlen) ⟨hh,hr,hl,fun h' tk acc hk hacc=>⟨⟨_,bB _ rfl,rfl⟩,hQ h' tk acc hk hacc⟩⟩
theorem zKB{items acc:Array Value}(h:ItemsOf (fun i v=>items[items.size-1-i]?=some v) acc items.size):acc=items.toList.reverse.toArray:=by
 obtain⟨h1,h2⟩:=h;apply Array.ext_getElem?;intro i;by_cases hi:i<acc.size
 ·have e:=h2 i acc[i] (Array.getElem?_eq_getElem hi)
  rw[Array.getElem?_eq_getElem hi,<-e];simp only[List.getElem?_toArray];rw[List.getElem?_reverse (by simp;omega)];simp
 ·rw[Array.getElem?_eq_none (by omega),Array.getElem?_eq_none (by simp;omega)]
end
end HT
namespace L3
open L2
section
variable {X:Cx} {a b c e o:Expr} {es:List Expr} {pos p:Pos} {ta tb te:zj}
theorem zNq{t:TA}{pos' p2:Pos}(hc:X.calm=true)(hg:Gl X "tuple")(hm:X.mg "tuple"=none)(hg2:Gl X "reversed")(hm2:X.mg "reversed"=none)(ha:PA X [a] t)(hs:autoParam (starEach [a] X.env=[(false,eval a X.env)]) Zq4._auto_1)
  (he:autoParam (starEach [.Call (.Name "reversed" p2) [a] [] pos] X.env=(false,eval (.Call (.Name "reversed" p2) [a] [] pos) X.env)::starEach [] X.env) Zq4._auto_1) (hpl:autoParam ((backTo pos' (starEach [] X.env)).any (·.1)=false) Zq4._auto_1) :
  PE X (.Call (.Name "tuple" p) [.Call (.Name "reversed" p2) [a] [] pos] [] pos') (fun σ H Q=>t σ H fun vs H1=>∃ d xs,vs=[.ref d]/\SqT X.K H1 d xs/\xs.length<=1000000/\∀ l,H1 l=none->Q (.ref l) (ye H1 l (.tup xs.reverse))):=by
 intro pins s σ H Q I h;refine cV (zAB I hg hm (show bootBuiltins "tuple"=some (.type "tuple") by decide +kernel) ?_ (by decide) (by decide));refine PyProof.Rows.callWith_type1 ?_ he hpl;rw[he];show wpAny _ _ (spliced ((false,eval (.Call (.Name "reversed" p2) [a] [] pos) X.env)::backTo pos' (starEach [] X.env))) _ _ s;refine Calls.spliced_cons ?_;refine cV (zAB I hg2 hm2 (show bootBuiltins "reversed"=some (.type "reversed") by decide +kernel) ?_ (by decide) (by decide));refine PyProof.Rows.callWith_type1 (yU (ha pos pins s σ H _ I h) fun us s1 ⟨vs,H1,I1,r1,q1⟩=>?_) hs rfl;obtain⟨d,xs,rfl,hq,hz,q⟩:=q1;obtain⟨u,rfl,rx⟩:=vals1 r1;cases rx;obtain⟨its,rv,ht,u0⟩:=I1.tuple hq;have hsz:its.length<=1000000:=by rw[<-rv.length];exact hz
 have hlt:d<s1.heap.objs.size:=by obtain⟨o,ho,u0⟩:=ht;exact bC ho
 refine HT.zB7 ht (by rw[sizeLine_eq];simp;omega) fun tk=>?_;show wpAny _ _ (spliced []) _ _ _;refine Calls.spliced_nil ?_;refine HT.zE0 (l:=d) (items:=its.toArray) (s:={ s1 with heap:=s1.heap.push (HT.zLo d ((its.toArray.size:Int)-1)),toks:=tk }) (I.ok.hd hc) ⟨_,bB _ rfl,rfl,rfl⟩ (ht.push _) (bO hlt) (by simp;omega) fun h' tk' acc kp hacc=>?_;have I3:zU X pins σ H1 { s1 with heap:=h',toks:=tk' }:=I1.kept (t':=tk') fun b o e=>kp b o (bO (bC e)) (bn _ e);have hn:H1 h'.objs.size=none:=I3.hok.fresh (bE _);refine⟨.ref h'.objs.size,_,I3.laid (t':=tk') (o:=.tup xs.reverse) (fun b ob q=>bn _ q) (bE _) ?_,rfl,q _ hn⟩;refine⟨by rw[List.length_reverse,sizeLine_eq];omega,its.reverse,zX.reverse rv,?_⟩;rw[HT.zKB hacc];exact zDb.new _ _
noncomputable def zGH:wV:=fun ds G R=>match ds with | [.tup xs]=>xs.length<=1000000/\R (.tup xs.reverse) G | _=>False
theorem zP6{t:yh}{pos' p2:Pos}(hc:X.calm=true)(hg:Gl X "tuple")(hm:X.mg "tuple"=none)(hg2:Gl X "reversed")(hm2:X.mg "reversed"=none)(ha:A2 X [a] t)(hs:autoParam (starEach [a] X.env=[(false,eval a X.env)]) Zq4._auto_1)
  (he:autoParam (starEach [.Call (.Name "reversed" p2) [a] [] pos] X.env=(false,eval (.Call (.Name "reversed" p2) [a] [] pos) X.env)::starEach [] X.env) Zq4._auto_1) (hpl:autoParam ((backTo pos' (starEach [] X.env)).any (·.1)=false) Zq4._auto_1) :
  E2 X (.Call (.Name "tuple" p) [.Call (.Name "reversed" p2) [a] [] pos] [] pos') (zJ zGH t):=by
 refine PE.mono (zNq hc hg hm hg2 hm2 ha hs he hpl) ?_;rintro σ1 H Q ⟨σ,G,R,rl,q,k⟩;refine⟨σ,G,_,rl,q,fun ds G1 q1 vs H1 g1 r1 d1=>?_⟩;unfold zGH at q1;split at q1
 ·rename_i xs
  obtain⟨v,rfl,d2⟩:=zAF d1;unfold zO at d2;obtain⟨d,us,rfl,s1,t1⟩:=d2;refine⟨d,us,rfl,s1,by rw[t1.length] at *;exact q1.1,fun l n=>k _ G1 q1.2 _ _ (g1.trans (.fresh n)) (r1.fresh n) ?_⟩;unfold zO;exact⟨l,_,rfl,.of zf,(t1.reverse).grow (.fresh n)⟩
 ·exact q1.elim
end
section
variable {X:Cx} {a b c e o:Expr} {es:List Expr} {pos p:Pos} {ta tb te:zj} {tl:TL2}
noncomputable def tupI(ns:List Int):D:=.tup (ns.map D.int)
end
end L3
namespace K
open L2 L3
theorem zP7{l:List D}{k:Nat}(h:k<=l.length):L3.cutD l none (some (k:Int))=l.take k:=by
 unfold L3.cutD;rw[HT.zGr,HT.zDg];simp[h]
theorem zLp{l:List D}{k:Nat}(h:k<=l.length):L3.cutD l (some (k:Int)) none=l.drop k:=by
 unfold L3.cutD;rw[HT.zGr,HT.zDg,di h];rw[List.take_of_length_le (by simp)]
theorem zOm{σ:S2}{G:Gp}{t u:zj}{xs:List D}{k:Nat}(h:zi t σ G (.tup xs))(h1:zi u σ G (nD k))(hk:k<=xs.length):zi (zAj t zA9 (zAR u)) σ G (.tup (xs.take k)):=fun G2 e R q=>h G2 e _ (h1 G2 e _ (by show R (.tup (L3.cutD xs none (some (k:Int)))) G2;rw[zP7 hk];exact q))
theorem zNr{σ:S2}{G:Gp}{t u:zj}{xs:List D}{k:Nat}(h:zi t σ G (.tup xs))(h1:zi u σ G (nD k))(hk:k<=xs.length):zi (zAj t (zAR u) zA9) σ G (.tup (xs.drop k)):=fun G2 e R q=>h G2 e _ (h1 G2 e _ (by show R (.tup (L3.cutD xs (some (k:Int)) none)) G2;rw[zLp hk];exact q))
end K
namespace HT
open PySem PyProof.Rows
section
open PySem.SeqAt
open PySem.MeetsSeq PySem.MeetsSeq2 PySem.MeetsSeq3
end
section
variable {prog:Program} {w:World} {A:Around} {E:Value->Shared->Prop} {s:Shared}
end
end HT
namespace L3
open L2
section
variable {X:Cx} {a b c e o:Expr} {es:List Expr} {pos p:Pos} {ta tb te:zj}
noncomputable def zP8(i j:Nat)(t:yh):yS:=fun E σ G=>t σ G fun ds G1=>match ds with | [d,e]=>E.nx ((σ.set i (some d)).set j (some e)) G1 | _=>False
theorem zRP(i j:Nat){x y:Str}{px py pt:Pos}{kt k2 pt2}{t:yh}(hc:X.calm=true)(hN:X.N.Nodup)(ha:A2 X [a,b] t)(hi:autoParam (X.N[i]?=some x) Zq4._auto_1)(hj:autoParam (X.N[j]?=some y) Zq4._auto_1)(hij:autoParam (i≠j) Zq2._auto_1)
  (hx:autoParam (X.env.scope.names.lookup x=some .local) Zq4._auto_1) (hy:autoParam (X.env.scope.names.lookup y=some .local) Zq4._auto_1)
  (hw:autoParam (swappedStores [.Tuple [.Name x px,.Name y py] kt pt] (.Tuple [a,b] k2 pt2) X.env=pure (some [x,y])) Zq4._auto_1)
  (hs:autoParam (swapsWithSole [.Tuple [.Name x px,.Name y py] kt pt] (.Tuple [a,b] k2 pt2) pos.line X.env=pure false) Zq4._auto_1) :
  P2 X (.Assign [.Tuple [.Name x px,.Name y py] kt pt] (.Tuple [a,b] k2 pt2) pos) (zP8 i j t):=by
 refine PS.mono (L2.zPF hc hN hi hj hij hx hy ha hw hs) fun E σ1 H h=>?_;obtain⟨σ,G,D2,r,q,k⟩:=h;refine⟨σ,G,_,r,q,fun ds G' q' vs H' g' r' d'=>?_⟩;split at q'
 ·rename_i d e
  obtain⟨v,w,rfl,d1,d2⟩:=zLG d';exact⟨v,w,rfl,k.nx _ G' q' _ H' g' (((r.to g' r').set i d1).set j d2)⟩
 ·exact q'.elim
noncomputable def zP9(t:zj):zj:=fun σ G R=>t σ G fun d G1=>match d with | .int i=>R (.int (-i)) G1 | _=>False
theorem zRQ(ha:E2 X a ta):E2 X (.UnaryOp .USub a pos) (zP9 ta):=by
 refine PE.mono (zQt zPR ha) ?_;rintro σ1 H Q ⟨σ,G,R,r,q,k⟩;refine⟨σ,G,_,r,q,fun d G1 q1 v H1 g1 r1 d1=>?_⟩;cases d with
 | int i =>
  unfold zO at d1;subst d1;exact⟨i,rfl,k _ G1 q1 _ H1 g1 r1 (by unfold zO;rfl)⟩
 | _=>exact q1.elim
noncomputable def zGI(t:zj)(tl th:TO2):TL2:=fun σ G R=>t σ G fun d G1=>tl σ G1 fun lo G2=>th σ G2 fun hi G3=>match d with | .adr l=>∃ ds,Ls G3 l ds/\R (cutD ds lo hi) G3 | _=>False
theorem zNs{lo hi:Option Expr}{tl th:TO2}{p2:Pos}(he:E2 X e te)(hl:O2 X lo tl)(hu:O2 X hi th):F2 X (.Subscript e (.Slice lo hi none p2) pos) (zGI te tl th):=by
 refine PE.mono (zGs zND he hl hu) ?_;rintro σ1 H Q ⟨σ,G,R,r,q,k⟩;refine⟨σ,G,_,r,q,fun d G1 q1 v H1 g1 r1 d1=>⟨σ,G1,_,r.to g1 r1,q1,fun o1 G2 q2 H2 g2 r2=>⟨σ,G2,_,r.to (g1.trans g2) r2,q2,fun o2 G3 q3 H3 g3 r3=>?_⟩⟩⟩;cases d with
 | adr l =>
  obtain⟨ds,ls,q3⟩:=q3;obtain⟨xs,s1,t1⟩:=r3.sq ls;unfold zO at d1;subst d1;have hl:=t1.length;refine⟨l,xs,rfl,s1,fun p hp=>k _ G3 q3 p _ _ (((g1.trans g2).trans g3).trans (.fresh hp)) (r3.fresh hp) (r3.free hp) zf ?_⟩;unfold cutD zGt;rw[hl];exact((t1.drop).take).grow (.fresh hp)
 | _=>exact q3.elim
end
end L3
namespace HT
section
variable {prog:Program} {w:World} {A:Around} {E:Value->Shared->Prop} {s:Shared}
end
end HT
namespace L3
open L2
section
variable {X:Cx} {a b c e o:Expr} {es:List Expr} {pos p:Pos} {ta tb te:zj}
theorem zX.rep{xs:List V}{us:List Value}(r:zX xs us):∀ n:Nat,zX (bP n xs).flatten (bP n us).flatten
 | 0=>.nil
 | n+1=>by
  rw[bo,bo,dQ,dQ];exact r.append (zX.rep r n)
end
end L3
namespace HT
section
variable {prog:Program} {w:World} {A:Around} {E:Value->Shared->Prop} {s:Shared}
end
end HT
namespace L3
open L2
section
variable {X:Cx} {a b c e o:Expr} {es:List Expr} {pos p:Pos} {ta tb te:zj}
end
end L3
namespace HZ
structure Zs (prog:Program) (w:World) (i l:Addr) (xs:Array Value) where
 It:Nat->Heap->Prop
 Sq:Heap->Prop
 item:∀(A:Around) (E:Value->Shared->Prop) (s:Shared) (k:Nat) (x:Value) (Q:Value->Shared->Prop),It k s.heap->Sq s.heap->xs[k]?=some x->(∀ h',It (k+1) h'->bX i s.heap h'->Q x { s with heap:=h' })->wpAny (model prog w) A (Builtin.SmallTypes.nextOf (.ref i)) Q E s
 fin:∀(A:Around) (E:Value->Shared->Prop) (s:Shared) (k:Nat) (Q:Value->Shared->Prop),A.handled=none->It k s.heap->Sq s.heap->xs[k]?=none->(∀ h' e,Heap.ExtBut i s.heap h'->(∃ o,h'.get? e=some o/\o.cls=.type "StopIteration")->E (.ref e) { s with heap:=h' })->wpAny (model prog w) A (Builtin.SmallTypes.nextOf (.ref i)) Q E s
 itAt:∀ {k:Nat} {h h':Heap},It k h->(∀ o,h.get? i=some o->h'.get? i=some o)->It k h'
 sqAt:∀ {h h':Heap},Sq h->(∀ o,h.get? l=some o->h'.get? l=some o)->Sq h'
 itHas:∀ {k:Nat} {h:Heap},It k h->∃ o,h.get? i=some o/\∀ v,o.data≠.cell v
theorem Zs.lt{prog:Program}{w:World}{i l:Addr}{xs:Array Value}(Z:Zs prog w i l xs){k:Nat}{h:Heap}(x:Z.It k h):i<h.objs.size:=let ⟨_,e,_⟩:=Z.itHas x;bC e
section
variable {prog:Program} {w:World} {A:Around} {E:Value->Shared->Prop} {s:Shared}
end
theorem IsTupleIter.at'{h h':Heap}{a t:Addr}{i:Nat}(x:h.IsTupleIter a t i)(k:∀ o,h.get? a=some o->h'.get? a=some o):h'.IsTupleIter a t i:=let ⟨o,e,r⟩:=x;⟨o,k o e,r⟩
theorem IsTuple.at'{h h':Heap}{a:Addr}{its:Array Value}(x:h.IsTuple a its)(k:∀ o,h.get? a=some o->h'.get? a=some o):h'.IsTuple a its:=let ⟨o,e,r⟩:=x;⟨o,k o e,r⟩
section
variable {prog:Program} {w:World} {A:Around} {E:Value->Shared->Prop} {s:Shared} {z a b i j l m:Addr} {xs ys:Array Value} (Z1:Zs prog w i l xs) (Z2:Zs prog w j m ys)
end
end HZ
namespace L2
open HZ
end L2
namespace L3
open L2
end L3
namespace HZ
section
variable {prog:Program} {w:World} {A:Around} {E:Value->Shared->Prop}
end
end HZ
namespace L2
open HZ
variable {X:Cx} {pos:Pos}
end L2
namespace L3
open L2
section
variable {X:Cx} {e:Expr} {te:zj} {pos p p2 p3 p4:Pos}
end
end L3
namespace K
open L2 L3
end K
namespace HS
structure SB (a0:Array Keyed) (kd:SortKind) (z:SortSt):Prop where
 pm:(arrOf z).Perm a0
 kd:kindOf z=kd
 fl:failedOf z=none
 pe:pendingOf z=#[]
theorem SB.sz{a0:Array Keyed}{kd:SortKind}{z:SortSt}(b:SB a0 kd z):(arrOf z).size=a0.size:=b.pm.size_eq
theorem SB.put{a0:Array Keyed}{kd:SortKind}{z:SortSt}(b:SB a0 kd z){ys:Array Keyed}(p:ys.Perm (arrOf z)):SB a0 kd (setArr z ys):=⟨p.trans b.pm,b.kd,b.fl,b.pe⟩
section
variable {prog:Program} {w:World} {A:Around} {E:Value->Shared->Prop} {s:Shared} {a0:Array Keyed} {kd:SortKind} {κ:KeyKind}
noncomputable abbrev Ky(κ:KeyKind)(z:SortSt)(i:Nat):κ.α:=KK κ (arrOf z) i
noncomputable abbrev Up(κ:KeyKind)(z:SortSt)(m:Nat):Prop:=SortedToK κ (arrOf z) m
noncomputable abbrev Dn(κ:KeyKind)(z:SortSt)(m:Nat):Prop:=NonIncK κ (arrOf z) m
theorem Up.more{z:SortSt}{m:Nat}(u:Up κ z m)(h:1<=m->κ.kle (Ky κ z (m-1)) (Ky κ z m)):Up κ z (m+1):=fun i j ij jm=>by
 rcases cC j m with q | q
 ·exact u i j ij q
 obtain rfl:j=m:=by omega
 rcases cC i j with p | p
 ·exact KeyOrd.kle_trans (u i (j-1) (by omega) (by omega)) (h (by omega))
 ·obtain rfl:i=j:=by omega
  exact KeyOrd.kle_refl _
theorem zDq{xs:Array Keyed}{m:Nat}(u:NonIncK κ xs m)(h:1<=m->κ.kle (KK κ xs m) (KK κ xs (m-1))):NonIncK κ xs (m+1):=fun i j ij jm=>by
 rcases cC j m with q | q
 ·exact u i j ij q
 obtain rfl:j=m:=by omega
 rcases cC i j with p | p
 ·exact KeyOrd.kle_trans (h (by omega)) (u i (j-1) (by omega) (by omega))
 ·obtain rfl:i=j:=by omega
  exact KeyOrd.kle_refl _
theorem zEU{xs ys:Array Keyed}{m:Nat}(e:∀ i,KK κ ys i=KK κ xs i)(u:NonIncK κ xs m):NonIncK κ ys m:=fun i j ij jm=>by rw[e,e];exact u i j ij jm
structure zNt (κ:KeyKind) (xs:Array Keyed) (m c:Nat):Prop where
 dn:NonIncK κ xs m
 le:c+1<=m
 eq:∀ i,m-(c+1)<=i->i<m->KK κ xs i=KK κ xs (m-1)
theorem zNt.one{xs:Array Keyed}{m:Nat}(d:NonIncK κ xs m)(h:1<=m):zNt κ xs m 0:=⟨d,h,fun i h1 h2=>by rw[show i=m-1 by omega]⟩
variable (L:∀(z:SortSt) (i j:Nat) (Q:Option Bool->SortSt->Prop),SB a0 kd z->i<a0.size->j<a0.size->Q (some (κ.blt (Ky κ z i) (Ky κ z j))) z->wpS (model prog w) A E s (ltAt' i j) Q z)
include L
theorem zI7{z:SortSt}{a m:Nat}{Q:AscSt->SortSt->Prop}(hm:m<=a0.size)(ha:1<=a)(ham:a<=m)(b:SB a0 kd z)(u:Up κ z a)
  (h:∀ n,a<=n->n<=m->Up κ z n->n=m\/κ.klt (Ky κ z n) (Ky κ z (n-1))->Q (none,n) z):wpS (model prog w) A E s (ascLoop a m) Q z:=by
 unfold ascLoop;refine wpS_forRange (fun n c z'=>z'=z/\c=(none,n)/\Up κ z n) (fun n c z' h1 h2 ⟨e1,e2,u'⟩=>?_) (fun c z' ⟨e1,e2,u'⟩=>?_) ⟨rfl,rfl,u⟩
 ·subst e1 e2
  refine cP (L _ _ _ _ b (by dsimp only;omega) (by dsimp only;omega) ?_);dsimp only;cases q:κ.blt (Ky κ z' n) (Ky κ z' (n-1)) with
  | true=>exact dL (h n h1 (by omega) u' (.inr q))
  | false=>exact dL ⟨rfl,rfl,u'.more fun u0=>q⟩
 ·subst e1 e2
  have e:max a m=m:=by omega
  rw[e] at u' ⊢;exact h m ham (bE _) u' (.inl rfl)
theorem zI8{z:SortSt}{n m:Nat}{Q:Option Nat->SortSt->Prop}(hm:m<=a0.size)(hn:1<=n)(hnm:n<=m)(b:SB a0 kd z)(d:Dn κ z n)
  (h:∀ k z',SB a0 kd z'->1<=k->k<=m->Up κ z' k->Q (some k) z'):wpS (model prog w) A E s (tail3 n m) Q z:=by
 have sz:n<=(arrOf z).size:=by have:=b.sz;omega
 have b':SB a0 kd (setArr z (mirror (arrOf z) 0 n ((n-0) / 2))):=b.put (mirror_perm _ _ _ _);unfold tail3;refine cP (wpS_reverse (cP (zI7 L hm hn hnm b' (fun i j ij jn=>?_) fun k k1 k2 u u0=>dL (h k _ b' (by omega) k2 u))));show κ.kle (KK κ (mirror (arrOf z) 0 n ((n-0) / 2)) i) (KK κ (mirror (arrOf z) 0 n ((n-0) / 2)) j);rw[KK_mirror sz,KK_mirror sz,if_pos ⟨cg _,by omega⟩,if_pos ⟨cg _,jn⟩];exact d (0+n-1-j) (0+n-1-i) (by omega) (by omega)
theorem zNu{z:SortSt}{n m:Nat}{Q:DescSt->SortSt->Prop}(hm:m<=a0.size)(hn:1<=n)(hnm:n<=m)(b:SB a0 kd z)(d:Dn κ z n)
  (h:∀ k c z',SB a0 kd z'->n<=k->k<=m->zNt κ (arrOf z') k c->Q (none,k,c) z'):wpS (model prog w) A E s (descLoop n m) Q z:=by
 unfold descLoop;refine wpS_forRange (fun k e z'=>∃ c,e=(none,k,c)/\SB a0 kd z'/\zNt κ (arrOf z') k c) (fun k e z' h1 h2 ⟨c,e1,b',f⟩=>?_) (fun e z' ⟨c,e1,b',f⟩=>?_) ⟨0,rfl,b,.one d hn⟩
 ·subst e1
  have sz:k<=(arrOf z').size:=by have:=b'.sz;omega
  refine cP (L _ _ _ _ b' (by dsimp only;omega) (by dsimp only;omega) ?_);dsimp only;cases q:κ.blt (Ky κ z' k) (Ky κ z' (k-1)) with
  | true =>
   have d':NonIncK κ (arrOf z') (k+1):=zDq f.dn fun u0=>KeyOrd.kle_of_klt q;simp only[if_true];by_cases hc:c>0
   ·rw[if_pos hc]
    exact cP (wpS_reverse (dL ⟨0,rfl,b'.put (mirror_perm _ _ _ _),.one (zEU (KK_mirror_equal sz f.eq) d') (by omega)⟩))
   ·rw[if_neg hc]
    exact dL ⟨0,rfl,b',.one d' (by omega)⟩
  | false =>
   simp only[bj,if_false];refine cP (L _ _ _ _ b' (by omega) (by omega) ?_);dsimp only;cases q':κ.blt (Ky κ z' (k-1)) (Ky κ z' k) with
   | true=>exact dL (h k c z' b' h1 (by omega) f)
   | false =>
    have ek:KK κ (arrOf z') k=KK κ (arrOf z') (k-1):=KeyOrd.kle_antisymm q' q;simp only[bj,if_false];refine dL ⟨c+1,rfl,b',zDq f.dn fun u0=>q',by have:=f.le;omega,fun i i1 i2=>?_⟩;rw[Nat.add_sub_cancel];rcases cC i k with p | p
    ·rw[ek];exact f.eq i (by omega) p
    ·rw[show i=k by omega]
 ·subst e1
  have e:max n m=m:=by omega
  rw[e] at f ⊢;exact h m c z' b' hnm (bE _) f
theorem zI9{z:SortSt}{n m:Nat}{Q:Option Nat->SortSt->Prop}(hm:m<=a0.size)(hnm:n+1<=m)(b:SB a0 kd z)(d:Dn κ z (n+1))
  (h:∀ k z',SB a0 kd z'->1<=k->k<=m->Up κ z' k->Q (some k) z'):wpS (model prog w) A E s (descPart n m) Q z:=by
 unfold descPart;refine cP (wpS_lift (dF ⟨rfl,cP (zNu L hm (by omega) hnm b d fun k c z' b' k1 k2 f=>?_)⟩));have sz:k<=(arrOf z').size:=by have:=b'.sz;omega
 dsimp only;by_cases hc:c>0
 ·rw[if_pos hc]
  exact cP (wpS_reverse (zI8 L hm (by omega) k2 (b'.put (mirror_perm _ _ _ _)) (zEU (KK_mirror_equal sz f.eq) f.dn) h))
 ·rw[if_neg hc]
  exact zI8 L hm (by omega) k2 b' f.dn h
theorem zKC{z:SortSt}{m:Nat}{Q:Option Nat->SortSt->Prop}(hm:m<=a0.size)(h1:1<=m)(b:SB a0 kd z)
  (h:∀ k z',SB a0 kd z'->1<=k->k<=m->Up κ z' k->Q (some k) z'):wpS (model prog w) A E s (countRun' 0 m) Q z:=by
 rw[countRun0_eq];refine cP (zI7 L hm (bE 1) h1 b (fun i j ij j1=>by obtain rfl:i=j:=(by omega);exact KeyOrd.kle_refl _) fun n n1 n2 u o=>?_);dsimp only;by_cases e:n=m
 ·rw[if_pos (by simpa using e)]
  exact dL (h n z b n1 n2 u)
 rw[if_neg (by simpa using e)];have lt:κ.klt (Ky κ z n) (Ky κ z (n-1)):=o.resolve_left e;by_cases g:n>1
 ·rw[if_pos g]
  refine cP (L _ _ _ _ b (by omega) (by omega) ?_);dsimp only;cases q:κ.blt (Ky κ z 0) (Ky κ z (n-1)) with
  | true=>exact dL (h n z b n1 n2 u)
  | false =>
   have sz:n<=(arrOf z).size:=by have:=b.sz;omega
   have al:∀ k,0<=k->k<n->KK κ (arrOf z) k=KK κ (arrOf z) (n-1):=fun k u0 k2=>KeyOrd.kle_antisymm (u k (n-1) (by omega) (by omega)) (KeyOrd.kle_trans q (u 0 k (cg _) k2));simp only[bj,if_false];refine cP (wpS_reverse (zI9 L hm (by omega) (b.put (mirror_perm _ _ _ _)) (zEU (KK_mirror_equal sz al) (zDq (fun i j ij jn=>?_) fun u0=>KeyOrd.kle_of_klt lt)) h));rw[al i (cg _) (by omega),al j (cg _) jn];exact KeyOrd.kle_refl _
 ·rw[if_neg g]
  obtain rfl:n=1:=by omega
  exact zI9 L hm (by omega) b (zDq (fun i j ij j1=>by obtain rfl:i=j:=(by omega);exact KeyOrd.kle_refl _) fun u0=>KeyOrd.kle_of_klt lt) h
omit L in
theorem zQA{z:SortSt}{k l i j:Nat}(sz:k<(arrOf z).size)(lk:l<=k)(u:∀ i j,i<=j->j<k->κ.kle (Ky κ z i) (Ky κ z j))(lo:∀ i,i<l->κ.kle (Ky κ z i) (Ky κ z k))(hi:∀ i,l<=i->i<k->κ.klt (Ky κ z k) (Ky κ z i))(ij:i<=j)(jk:j<k+1) :
  κ.kle (KK κ (bubble (arrOf z) k (k-l)) i) (KK κ (bubble (arrOf z) k (k-l)) j):=by
 rw[KK_bubble sz (by omega),KK_bubble sz (by omega),Nat.sub_sub_self lk];by_cases i1:i=l
 ·rw[if_pos i1]
  by_cases j1:j=l
  ·rw[if_pos j1];exact KeyOrd.kle_refl _
  ·rw[if_neg j1,if_pos ⟨by omega,by omega⟩]
   exact KeyOrd.kle_of_klt (hi (j-1) (by omega) (by omega))
 ·rw[if_neg i1]
  by_cases i2:l<i/\i<=k
  ·rw[if_pos i2,if_neg (by omega),if_pos ⟨by omega,by omega⟩]
   exact u (i-1) (j-1) (by omega) (by omega)
  ·rw[if_neg i2]
   by_cases j1:j=l
   ·rw[if_pos j1];exact lo i (by omega)
   ·rw[if_neg j1]
    by_cases j2:l<j/\j<=k
    ·rw[if_pos j2];exact u i (j-1) (by omega) (by omega)
    ·rw[if_neg j2];exact u i j ij (by omega)
theorem zQB{z:SortSt}{m ok:Nat}{Q:Bool->SortSt->Prop}(hm:m<=a0.size)(hok:ok<=m)(h1:1<=ok)(b:SB a0 kd z)(u:Up κ z ok)
  (h:∀ z',SB a0 kd z'->Up κ z' m->Q true z'):wpS (model prog w) A E s (binarySort' 0 m ok) Q z:=by
 rw[binarySort'_eq];simp only[Nat.zero_add];refine cP (wpS_mono (wpS_forRange (I:=fun k c z'=>c=(none,())/\k<=m/\SB a0 kd z'/\Up κ z' k) (Q:=fun c z'=>c=(none,())/\SB a0 kd z'/\Up κ z' m) (fun k c z' k1 k2 ⟨e,km,b',u'⟩=>?stp) (fun c z' ⟨e,km,b',u'⟩=>⟨e,b',?fin⟩) ⟨rfl,by omega,b,?ini⟩) fun c z' ⟨e,b',u'⟩=>?pst)
 case stp =>
  subst e;have hk:k<a0.size:=by omega
  refine cP (wpS_mono (wpS_forRange (I:=fun x c z''=>z''=z'/\∃ l r,c=(none,l,r)/\(l<=r/\r<=k/\r-l<=k-x)/\(∀ i,i<l->κ.kle (Ky κ z' i) (Ky κ z' k))/\∀ i,r<=i->i<k->κ.klt (Ky κ z' k) (Ky κ z' i))
   (Q:=fun c z''=>z''=z'/\∃ l,(∃ r,c=(none,l,r))/\l<=k/\(∀ i,i<l->κ.kle (Ky κ z' i) (Ky κ z' k))/\∀ i,l<=i->i<k->κ.klt (Ky κ z' k) (Ky κ z' i)) (fun x c z'' x1 x2 ⟨e1,l,r,e2,⟨lr,rk,dx⟩,lo,hi⟩=>?is) (fun c z'' ⟨e1,l,r,e2,⟨lr,rk,dx⟩,lo,hi⟩=>?if_) ⟨rfl,0,k,rfl,⟨by omega,by omega,by omega⟩,fun i q=>by omega,fun i q1 q2=>by omega⟩) fun c z'' ⟨e1,l,⟨r,e2⟩,lk,lo,hi⟩=>?ip)
  case is =>
   subst e1 e2;dsimp only;by_cases g:l≥r
   ·rw[if_pos g]
    obtain rfl:l=r:=by omega
    exact dL ⟨rfl,l,⟨_,rfl⟩,rk,lo,hi⟩
   ·rw[if_neg g]
    refine cP (L _ _ _ _ b' hk (by omega) ?_);dsimp only;cases q:κ.blt (Ky κ z'' k) (Ky κ z'' ((l+r) / 2)) with
    | true=>exact dL ⟨rfl,l,(l+r) / 2,rfl,⟨by omega,by omega,by omega⟩,lo,fun i i1 i2=>KeyOrd.klt_of_klt_of_kle q (u' _ _ i1 i2)⟩
    | false=>exact dL ⟨rfl,(l+r) / 2+1,r,rfl,⟨by omega,by omega,by omega⟩,fun i i1=>KeyOrd.kle_trans (u' i ((l+r) / 2) (by omega) (by omega)) (show κ.kle _ _ from q),hi⟩
  case if_ =>
   subst e1 e2;obtain rfl:l=r:=by omega
   exact⟨rfl,l,⟨_,rfl⟩,rk,lo,hi⟩
  case ip =>
   subst e1 e2;show wpS _ _ _ _ (do moveDown' k l;pure (ForInStep.yield (none,()))) _ _;rw[moveDown'_eq];refine cP (wpS_modify (dL ⟨rfl,by omega,b'.put (bubble_perm _ _ _),fun i j ij jk=>?_⟩));have sz:k<(arrOf z'').size:=by have:=b'.sz;omega
   exact zQA sz lk u' lo hi ij jk
 case fin=>rwa [show max (max ok 1) m=m by omega] at u'
 case ini=>rwa [show max ok 1=ok by omega]
 case pst =>
  subst e;exact dL (h z' b' u')
theorem zKD{z:SortSt}{Q:Unit->SortSt->Prop}(b:SB a0 kd z)(h2:2<=a0.size)(h64:a0.size<64)
  (h:∀ z',(arrOf z').Perm a0->failedOf z'=none->Up κ z' a0.size->Q () z'):wpS (model prog w) A E s sortRuns' Q z:=by
 rw[sortRuns'_eq];refine cP (wpS_get ?_);dsimp only;have mr:minRun' a0.size a0.size 0=a0.size:=by
  obtain⟨f,hf⟩:∃ f,a0.size=f+1:=⟨a0.size-1,by omega⟩
  have q:minRun' (f+1) a0.size 0=a0.size:=by rw[minRun'_succ,if_pos h64];rfl
  rwa [<-hf] at q
 simp only[b.sz,mr];let Dne:SortSt->Prop:=fun z'=>(arrOf z').Perm a0/\failedOf z'=none/\pendingOf z'=#[(0,a0.size,0)]/\Up κ z' a0.size;have dne:∀ z',SB a0 kd z'->Up κ z' a0.size->Dne (setPending z' ((pendingOf z').push (0,a0.size,0))):=fun z' b' u'=>⟨b'.pm,b'.fl,by show(pendingOf z').push _=_;rw[b'.pe];rfl,u'⟩
 refine cP (wpS_mono (wpS_forRange (I:=fun x c z'=>(x=0/\c=(none,0)/\SB a0 kd z')\/(1<=x/\c=(none,a0.size)/\Dne z')) (Q:=fun c z'=>c=(none,a0.size)/\Dne z') (fun x c z' u0 hx o=>?stp) (fun c z' o=>?fin) (.inl ⟨rfl,rfl,b⟩)) fun c z' ⟨e,d⟩=>?pst)
 case stp =>
  rcases o with ⟨e1,e2,b'⟩ | ⟨u0,e2,d⟩
  ·subst e1 e2
   dsimp only;rw[if_neg (by omega)];simp only[Nat.sub_zero,Nat.min_self,Nat.zero_add];refine cP (zKC L (bE _) (by omega) b' fun k z2 b2 k1 k2 u2=>?_);dsimp only;have none_back:∀ z3,SB a0 kd z3->(pendingOf z3).back?=none:=fun z3 b3=>by rw[b3.pe];rfl
   by_cases g:k<a0.size
   ·rw[if_pos g]
    refine cP (wpS_lift (dF ⟨rfl,cP (zQB L (bE _) k2 k1 b2 u2 fun z3 b3 u3=>?_)⟩));simp only[dB,bj,if_false];refine cP (wpS_get ?_);rw[none_back z3 b3];exact cP (wpS_modify (dL (.inr ⟨by omega,rfl,dne z3 b3 u3⟩)))
   ·rw[if_neg g]
    obtain rfl:k=a0.size:=by omega
    refine cP (wpS_get ?_);rw[none_back z2 b2];exact cP (wpS_modify (dL (.inr ⟨by omega,rfl,dne z2 b2 u2⟩)))
  ·subst e2
   dsimp only;rw[if_pos (bE _)];exact dL ⟨rfl,d⟩
 case fin =>
  rcases o with ⟨e1,u0,u0⟩ | ⟨u0,e2,d⟩
  ·omega
  ·exact⟨e2,d⟩
 case pst =>
  subst e;dsimp only;refine cP (wpS_mono (wpS_forRange (I:=fun u0 c z''=>z''=z'/\c=(none,())) (Q:=fun c z''=>z''=z'/\c=(none,())) (fun x c z'' _ _ ⟨e1,e2⟩=>?ls) (fun u0 u0 q=>q) ⟨rfl,rfl⟩) fun c z'' ⟨e1,e2⟩=>?lp)
  case ls =>
   subst e1 e2;refine cP (wpS_get ?_);rw[if_pos (by rw[d.2.2.1];exact bE 1)];exact dL ⟨rfl,rfl⟩
  case lp =>
   subst e1 e2;exact dL (h _ d.1 d.2.1 d.2.2.2)
end
noncomputable def ltI:List Int->List Int->Bool
 | [],[]=>false
 | [],_::_=>true
 | _::_,[]=>false
 | a::r,b::t=>if a=b then ltI r t else decide (a<b)
theorem zJA:∀ a,ltI a a=false
 | []=>rfl
 | x::r=>by show(if x=x then ltI r r else _)=false;rw[if_pos rfl];exact zJA r
theorem zFX:∀ a b c,ltI a b=true->ltI b c=true->ltI a c=true
 | [],[],_,h,_=>by cases h
 | [],_::_,[],_,h=>by cases h
 | [],_::_,_::_,_,_=>rfl
 | _::_,[],_,h,_=>by cases h
 | _::_,_::_,[],_,h=>by cases h
 | x::a,y::b,z::c,h,h'=>by
  simp only[ltI] at h h' ⊢;split at h<;>split at h'
  ·rename_i e1 e2;rw[if_pos (e1.trans e2)];exact zFX a b c h h'
  ·rename_i e1 e2;subst e1;rw[if_neg e2];exact h'
  ·rename_i e1 e2;subst e2;rw[if_neg e1];exact h
  ·simp only[decide_eq_true_eq] at h h'
   rw[if_neg (by omega)];simp;omega
theorem zJB:∀ a b c,ltI a c=true->ltI a b=true\/ltI b c=true
 | [],[],_,h=>.inr h
 | [],_::_,_,_=>.inl rfl
 | _::_,_,[],h=>by cases h
 | _::_,[],_::_,_=>.inr rfl
 | x::a,y::b,z::c,h=>by
  simp only[ltI] at h ⊢;split at h
  ·rename_i e1;subst e1
   by_cases e2:x=y
   ·subst e2;rw[if_pos rfl,if_pos rfl];exact zJB a b c h
   ·rw[if_neg e2,if_neg (Ne.symm e2)];simp;omega
  ·rename_i e1
   simp only[decide_eq_true_eq] at h;by_cases e2:x=y
   ·subst e2;right;rw[if_neg e1];simp;omega
   ·by_cases e3:y=z
    ·subst e3;left;rw[if_neg e2];simp;omega
    ·rw[if_neg e2,if_neg e3];simp;omega
theorem zGJ:∀ a b,ltI a b=false->ltI b a=false->a=b
 | [],[],_,_=>rfl
 | [],_::_,h,_=>by cases h
 | _::_,[],_,h=>by cases h
 | x::a,y::b,h,h'=>by
  simp only[ltI] at h h';by_cases e:x=y
  ·subst e;rw[if_pos rfl] at h h';rw[zGJ a b h h']
  ·rw[if_neg e] at h;rw[if_neg (Ne.symm e)] at h'
   simp only[decide_eq_false_iff_not] at h h';omega
noncomputable def tAt(h:Heap):Value->Option (List Int)
 | .ref a=>match h.get? a with
  | some o=>match o.data with
   | .seq its _=>some (its.toList.map numOf)
   | _=>none
  | none=>none
 | _=>none
noncomputable abbrev zGK(h:Heap):KeyKind where
 α:=List Int
 blt:=ltI
 irrefl:=zJA
 trans:=zFX
 negTrans:=zJB
 total:=zGJ
 keyOf:=tAt h
 dflt:=[]
structure TI (h:Heap) (v:Value) (ns:List Int):Prop where
 ex:∃ a o its n,v=.ref a/\h.get? a=some o/\o.cls=.type "tuple"/\o.data=.seq its n/\IntsAre its.toList ns
 ne:ns≠[]
theorem TI.items{h:Heap}{v:Value}{ns:List Int}(t:TI h v ns):tAt h v=some ns:=by
 obtain⟨a,o,its,n,rfl,e,u0,d,i⟩:=t.ex;unfold tAt;simp only[e,d];rw[i.nums]
theorem zCu(b:Bool)(x y:Value):keyLt' (tuples' b) x y=(do
  let xs <-Builtin.List.listItems x;let ys <-Builtin.List.listItems y
  for ((p,q),i) in (xs.toList.zip ys.toList).zipIdx do
   if !(<-eqBool p q) then return <-oneLt' (b&&i==0) p q
  return decide (xs.size<ys.size)):=rfl
section
variable {prog:Program} {w:World} {A:Around} {E:Value->Shared->Prop} {s:Shared}
theorem zEV{b:Bool}{i j:Int}{t u:Tok}{Q:Bool->Shared->Prop}(h:Q (decide (i<j)) s):wpAny (model prog w) A (oneLt' b (.int i t) (.int j u)) Q E s:=by
 cases b with
 | true=>exact oneLt_int h
 | false =>
  rw[oneLt'_eq];simp only[bj,if_false];refine bi (m:=richCompare .Lt (.int i t) (.int j u)) (wpAny_lt_int ?_);exact d9 h
noncomputable def zDV:List Int->List Int->Option Bool
 | a::r,b::t=>if a=b then zDV r t else some (decide (a<b))
 | _,_=>none
theorem zHF:∀ ns ms,ltI ns ms=(zDV ns ms).getD (decide (ns.length<ms.length))
 | [],[]=>rfl
 | [],_::_=>by simp[ltI,zDV]
 | _::_,[]=>by simp[ltI,zDV]
 | a::r,b::t=>by
  simp only[ltI,zDV];split
  ·rw[zHF r t];simp
  ·rfl
theorem zJC{b:Bool}{Q:Option Bool×Unit->Shared->Prop}:∀(ps qs:List Value) (ns ms:List Int) (k:Nat),IntsAre ps ns->IntsAre qs ms->Q (zDV ns ms,()) s ->
  wpAny (model prog w) A (forIn ((ps.zip qs).zipIdx k) ((none,()):Option Bool×Unit) fun x r=>do
   let e <-eqBool x.1.1 x.1.2
   if (!e)=true then do
    let c <-oneLt' (b&&x.2==0) x.1.1 x.1.2
    pure (ForInStep.done (some c,()))
   else pure (ForInStep.yield (none,()))) Q E s
 | _,_,_,_,k,.nil,_,h=>by
  simp only[List.zip_nil_left,List.zipIdx_nil,List.forIn_nil];exact bm h
 | _,_,_,_,k,.cons a t i,.nil,h=>by
  simp only[List.zip_nil_right,List.zipIdx_nil,List.forIn_nil];exact bm h
 | _,_,_,_,k,.cons a t i,.cons c u j,h=>by
  simp only[List.zip_cons_cons,List.zipIdx_cons,List.forIn_cons];refine bi (bi (wpAny_eqBool_int ?_));simp only[zDV] at h;by_cases e:a=c
  ·subst e
   rw[if_pos rfl] at h;rw[if_neg (by simp)];refine bm ?_;exact zJC _ _ _ _ (k+1) i j h
  ·rw[if_neg e] at h
   rw[if_pos (by simpa using e)];exact bi (zEV (bm (bm h)))
theorem zKE{b:Bool}{x y:Value}{ns ms:List Int}{Q:Bool->Shared->Prop}(hx:TI s.heap x ns)(hy:TI s.heap y ms)(h:Q (ltI ns ms) s):wpAny (model prog w) A (keyLt' (tuples' b) x y) Q E s:=by
 obtain⟨a,o,its,n,rfl,e,u0,d,i⟩:=hx.ex;obtain⟨a',o',its',n',rfl,e',u0,d',i'⟩:=hy.ex;rw[zCu];refine bi (listItems_at e d (bi (listItems_at e' d' (bi ?_))));refine zJC (Q:=_) its.toList its'.toList ns ms 0 i i' ?_;rw[zHF] at h;cases q:zDV ns ms with
 | some c =>
  rw[q] at h;exact bm h
 | none =>
  rw[q] at h;refine bm ?_;have l1:=i.length;have l2:=i'.length;simp only[bK] at l1 l2;rw[l1,l2];exact h
theorem zKF{v:Value}{ns:List Int}{Q:Option Value->Shared->Prop}(hv:TI s.heap v ns)(h:∀ i t,Q (some (.int i t)) s):wpAny (model prog w) A (firstOfTuple' v) Q E s:=by
 obtain⟨a,o,its,n,rfl,e,c,d,i⟩:=hv.ex;show wpAny _ _ (do
  if (<-typeOf (.ref a)) != .type "tuple" then return none
  return (<-Builtin.List.listItems (.ref a))[0]?) _ _ _
 refine bi (dC (T:="tuple") ⟨o,e,c⟩ ?_);rw[if_neg (by decide)];refine bi (listItems_at e d (bm ?_));obtain⟨l⟩:=its;cases i with
 | nil=>exact absurd rfl hv.ne
 | cons k t r=>exact h k t
theorem zEW{Q:List (Option Value)->Shared->Prop}:∀(vs:List Value),(∀ v∈vs,∀ Q:Option Value->Shared->Prop,(∀ i t,Q (some (.int i t)) s)->wpAny (model prog w) A (firstOfTuple' v) Q E s)->(∀ fs:List (Option Value),fs.length=vs.length->(∀ f∈fs,∃ i t,f=some (.int i t))->Q fs s)->wpAny (model prog w) A (vs.mapM firstOfTuple') Q E s
 | [],_,h=>by
  simp only[List.mapM_nil];exact bm (h [] rfl (by simp))
 | v::r,hv,h=>by
  simp only[List.mapM_cons];refine bi (hv v (by simp) _ fun i t'=>bi (zEW r (fun u hu=>hv u (by simp[hu])) fun fs hl hf=>bm (h _ (by simp[hl]) fun f hm=>?_)));rcases ce.mp hm with e | e
  ·exact⟨i,t',e⟩
  ·exact hf f e
theorem zBO:∀ {vs:List Value},(∀ v∈vs,∃ i t,v=.int i t)->vs.mapM typeOf=pure (vs.map fun u0=>Value.type "int")
 | [],_=>by simp
 | v::r,h=>by
  obtain⟨i,t,rfl⟩:=h v (by simp);rw[List.mapM_cons,zBO fun u hu=>h u (by simp[hu])];show(pure (Value.type "int")>>=fun b=>pure _>>=fun bs=>pure (b::bs))=_;simp
theorem zAe:∀(fs:List (Option Value)),(∀ f∈fs,∃ i t,f=some (.int i t))->(∀ v∈fs.filterMap id,∃ i t,v=Value.int i t)/\(fs.filterMap id).length=fs.length
 | [],_=>⟨by simp,rfl⟩
 | f::r,h=>by
  obtain⟨i,t,rfl⟩:=h f (by simp);obtain⟨h1,h2⟩:=zAe r fun g hg=>h g (by simp[hg]);simp only[fc,id];exact⟨fun v hv=>by
   rcases ce.mp hv with e | e
   ·exact⟨i,t,e⟩
   ·exact h1 v e,by simp[h2]⟩
noncomputable def zRR(prog:Program)(w:World)(A:Around)(E:Value->Shared->Prop)(s:Shared)(v:Value):Prop:=∀ Q:Option Value->Shared->Prop,(∀ i t,Q (some (.int i t)) s)->wpAny (model prog w) A (firstOfTuple' v) Q E s
theorem zDW{vs:List Value}{Q:SortKind->Shared->Prop}(h2:1<=vs.length)(hv:∀ v∈vs,zRR prog w A E s v)(h:Q (tuples' true) s):wpAny (model prog w) A (keyKind' vs.toArray) Q E s:=by
 rw[keyKind'_eq];rw[List.mapM_toArray];refine bi ?_;rw[map_eq_pure_bind];refine bi (zEW vs hv fun fs hl hf=>bm ?_);rw[if_pos (by
  simp only[List.all_toArray,eZ];intro f hm;obtain⟨i,t,rfl⟩:=hf f hm;rfl)]
 refine bi (dF (bi ?_));obtain⟨q1,q2⟩:=zAe fs hf;rw[oneTypeOnly'_eq];have e0:fs.toArray.filterMap id=(fs.filterMap id).toArray:=by simp
 rw[e0,List.mapM_toArray,zBO q1];simp only[map_pure,pure_bind];cases q:fs.filterMap id with
 | nil=>rw[q] at q2;simp at q2;omega
 | cons u r =>
  have hall:((bJ (fun u0=>Value.type "int") (u::r)).toArray.all fun x=>x==Value.type "int")=true:=by
   simp only[List.all_toArray,List.all_map,eZ];intro u0 u0;rfl
  have h0:(bJ (fun u0=>Value.type "int") (u::r)).toArray[0]?=some (Value.type "int"):=by simp
  rw[h0];simp only[hall,if_true];refine bm (bm ?_);exact h
noncomputable abbrev kOf(κ:KeyKind)(v:Value):κ.α:=(κ.keyOf v).getD κ.dflt
theorem zHG{κ:KeyKind}{a:Addr}{vs:List Value}{n:Nat}{P:Fin->Shared->Prop}(ho:s.heap.get? a=some (seqObj "list" vs.toArray n))(h64:vs.length<64)
  (hk:∀ g:Heap,(∀ c o,c≠a->s.heap.get? c=some o->g.get? c=some o)->(∀ Q:SortKind->Shared->Prop,1<=vs.length->Q (tuples' true) { s with heap:=g }->wpAny (model prog w) A (keyKind' vs.toArray) Q E { s with heap:=g }) /\
   ∀ x∈vs,∀ y∈vs,∀(E':Value->Shared->Prop) (Q:Bool->Shared->Prop),Q (κ.blt (kOf κ x) (kOf κ y)) { s with heap:=g }->wpAny (model prog w) A (keyLt' (tuples' true) x y) Q E' { s with heap:=g })
  (h:∀ out:Array Value,out.toList.Perm vs->(∀ i j,i<=j->j<out.size->κ.blt (kOf κ (out.getD j .none)) (kOf κ (out.getD i .none))=false)->P (.done (.ret .none)) { s with heap:=sortedHeap s.heap a vs out }) :
  wpAny (model prog w) A (Builtin.«list.sort» ⟨[.ref a],[]⟩) P E s:=by
 rw[list_sort_plain];refine bi (listItems_at ho rfl (bi (listUpdate_at ho rfl ?_)));obtain⟨e1,ho1⟩:∃ e1,(s.heap.update a (Obj.mapSeq fun u0=>#[])).get? a=some (seqObj "list" #[] e1):=⟨_,get?_update_seq ho (fun u0=>#[])⟩
 refine bi (seqEpoch_at ho1 rfl (bi (wpAny_newTuple (bi (wpAny_newList (bZ ?_))))));have up:∀ c o,c≠a->s.heap.get? c=some o->(((s.heap.update a (Obj.mapSeq fun u0=>#[])).push (seqObj "tuple" vs.toArray 0)).push (seqObj "list" #[] 0)).get? c=some o:=fun c o hc e=>bn _ (bn _ (by rw[cM _ _ _ _ hc];exact e));have ho6:(((s.heap.update a (Obj.mapSeq fun u0=>#[])).push (seqObj "tuple" vs.toArray 0)).push (seqObj "list" #[] 0)).get? a=some (seqObj "list" #[] e1):=bn _ (bn _ ho1);show wpAny (model prog w) A _ P E { s with heap:=(((s.heap.update a (Obj.mapSeq fun u0=>#[])).push (seqObj "tuple" vs.toArray 0)).push (seqObj "list" #[] 0)) };generalize hg:((s.heap.update a (Obj.mapSeq fun u0=>#[])).push (seqObj "tuple" vs.toArray 0)).push (seqObj "list" #[] 0)=g at up ho6 ⊢;obtain⟨hk1,hk2⟩:=hk g up;dsimp only;have fin:∀ z:SortSt,(arrOf z).Perm (pairsOf vs)->SortedToK κ (arrOf z) (pairsOf vs).size->P (.done (.ret .none)) { s with heap:=g.update a (Obj.mapSeq fun u0=>(arrOf z).map (·.2)) }:=by
  intro z pm st;have pl:(arrOf z).toList.Perm (vs.zip vs):=by rw[<-pairsOf_toList];exact Array.perm_iff_toList_perm.mp pm
  have:=h ((arrOf z).map (·.2)) (by
   rw[Array.toList_map];refine(pl.map (·.2)).trans (.of_eq ?_);rw[List.map_snd_zip (bE _)]) fun i j ij hj=>by
    have hj':j<(arrOf z).size:=by simpa using hj
    have gk:∀ k,(hk:k<(arrOf z).size)->KK κ (arrOf z) k=kOf κ (((arrOf z).map (·.2)).getD k .none):=fun k hk=>by
     have m1:=(mem_zip_self (pl.mem_iff.mp (show(arrOf z)[k]∈(arrOf z).toList by simp))).1;have e2:((arrOf z).map (·.2)).getD k .none=(arrOf z)[k].1:=by
      rw[m1];simp[dM,hk]
     rw[e2];unfold KK;rw[getElem?_pos _ k hk]
    rw[<-gk i (by omega),<-gk j hj'];exact st i j ij (by rw[<-pm.size_eq];exact hj')
  unfold sortedHeap at this;rw[hg] at this;exact this
 have hsz:vs.toArray.size=vs.length:=by simp
 by_cases h2:vs.toArray.size<2
 ·rw[if_pos h2,if_pos h2]
  refine bi (bm ?_);rw[StateT.run_pure];refine bi (bm (bi (seqEpoch_at ho6 rfl (bi (listUpdate_at ho6 rfl ?_ (hsz2:=by rw[Array.size_map];show(pairsOf vs).size<=_;rw[pairsOf_size,sizeLine_eq];omega))))));simp only[bne_self_eq_false,bj,if_false];refine bm (fin (SortSt.mk' general' (vs.toArray.zip vs.toArray) #[] 7 none) (Array.Perm.refl _) fun i j hij hj=>?_);obtain rfl:i=j:=by rw[pairsOf_size] at hj;omega
  exact KeyOrd.kle_refl _
 ·rw[if_neg h2,if_neg h2]
  refine bi (hk1 _ (by omega) ?_);have L:∀(z:SortSt) (i j:Nat) (Q:Option Bool->SortSt->Prop),SB (pairsOf vs) (tuples' true) z->i<(pairsOf vs).size->j<(pairsOf vs).size->Q (some (κ.blt (Ky κ z i) (Ky κ z j))) z->wpS (model prog w) A E { s with heap:=g } (ltAt' i j) Q z:=by
   intro z i j Q b hi hj q;have key:∀ k,k<(pairsOf vs).size->∃ x p,(arrOf z)[k]?=some (x,p)/\x∈vs/\Ky κ z k=kOf κ x:=fun k hk=>by
    have hk':k<(arrOf z).size:=by rw[b.sz];exact hk
    have hm:(arrOf z)[k]∈vs.zip vs:=by
     have pl:(arrOf z).toList.Perm (vs.zip vs):=by rw[<-pairsOf_toList];exact Array.perm_iff_toList_perm.mp b.pm
     exact pl.mem_iff.mp (by simp)
    refine⟨(arrOf z)[k].1,(arrOf z)[k].2,getElem?_pos _ k hk',(mem_zip_self hm).2,?_⟩;unfold Ky KK;rw[getElem?_pos _ k hk']
   obtain⟨x,p,x1,x2,x3⟩:=key i hi;obtain⟨y,r,y1,y2,y3⟩:=key j hj;rw[x3,y3] at q;rw[ltAt'_eq];refine cP (wpS_get ?_);show wpS _ _ _ _ (do let x <-elem' (arrOf z) i;let y <-elem' (arrOf z) j;lt' x y) Q z;rw[elem'_eq,elem'_eq,x1,y1];refine cP (dL (cP (dL ?_)));rw[lt'_eq];refine cP (wpS_get ?_);rw[b.kd];exact cP (wpS_lift (dZ (hk2 _ x2 _ y2 _ _ ⟨rfl,dL q⟩)))
  refine bi (eN (zKD L (z:=SortSt.mk' (tuples' true) (vs.toArray.zip vs.toArray) #[] 7 none) (Q:=fun u0 z'=>(arrOf z').Perm (pairsOf vs)/\failedOf z'=none/\SortedToK κ (arrOf z') (pairsOf vs).size)
   ⟨Array.Perm.refl _,rfl,rfl,rfl⟩ (by rw[pairsOf_size];omega) (by rw[pairsOf_size];exact h64) fun z' a1 a2 a3=>⟨a1,a2,a3⟩) ?_ fun u0 u0 e=>e)
  rintro⟨⟨⟩,z'⟩ s' ⟨e',pm,hf,st⟩;subst e';dsimp only;refine bi (seqEpoch_at ho6 rfl (bi (listUpdate_at ho6 rfl ?_ (hsz2:=by refine cK (Nat.le_of_eq ((Array.size_map ..).trans (pm.size_eq.trans (pairsOf_size _)))) ?_;rw[sizeLine_eq];omega))));rw[hf];simp only[bne_self_eq_false,bj,if_false];exact bm (fin z' pm st)
theorem zFY{a:Addr}{vs:List Value}{n:Nat}{P:Fin->Shared->Prop}(ho:s.heap.get? a=some (seqObj "list" vs.toArray n))(hv:∀ v∈vs,(∃ ns,TI s.heap v ns)/\v≠.ref a)(h64:vs.length<64)
  (h:∀ out:Array Value,out.toList.Perm vs->(∀ i j,i<=j->j<out.size->ltI ((tAt s.heap (out.getD j .none)).getD []) ((tAt s.heap (out.getD i .none)).getD [])=false)->P (.done (.ret .none)) { s with heap:=sortedHeap s.heap a vs out }) :
  wpAny (model prog w) A (Builtin.«list.sort» ⟨[.ref a],[]⟩) P E s:=by
 refine zHG (κ:=zGK s.heap) ho h64 (fun g up=>?_) h;have hv':∀ v∈vs,∃ ns,TI g v ns/\kOf (zGK s.heap) v=ns:=fun v hm=>by
  obtain⟨⟨ns,t⟩,na⟩:=hv v hm;have e:kOf (zGK s.heap) v=ns:=by show(tAt s.heap v).getD []=ns;rw[t.items];rfl
  obtain⟨⟨b,o,its,k,rfl,q1,q2,q3,q4⟩,ne⟩:=t;exact⟨ns,⟨⟨b,o,its,k,rfl,up b o (fun z=>na (by rw[z])) q1,q2,q3,q4⟩,ne⟩,e⟩
 refine⟨fun Q h1 q=>zDW (s:={ s with heap:=g }) h1 (fun v hm Q' q'=>by obtain⟨ns,t,u0⟩:=hv' v hm;exact zKF t q') q,fun x hx y hy E' Q q=>?_⟩;obtain⟨ns,x1,x2⟩:=hv' x hx;obtain⟨ms,y1,y2⟩:=hv' y hy;rw[x2,y2] at q;exact zKE (s:={ s with heap:=g }) x1 y1 q
end
end HS
namespace L3
open L2 HS
section
variable {X:Cx} {e:Expr} {pos p:Pos} {tl:TL2}
noncomputable def tI(ns:List Int):D:=.tup (ns.map D.int)
end
end L3
namespace HT
section
variable {prog:Program} {w:World} {A:Around} {E:Value->Shared->Prop} {s:Shared}
end
end HT
namespace L3
open L2
section
variable {X:Cx} {a b c e o:Expr} {es:List Expr} {pos p:Pos} {ta tb te:zj}
end
section
variable {X:Cx} {a b c e o we:Expr} {es:List Expr} {pos p:Pos} {ta tb te tw:zj}
theorem zNv{pins:List (Addr×Obj)}{σ:L2.St}{H:Hp}{s:Shared}(I:zU X pins σ H s):1<s.heap.objs.size:=by
 have h:mainGlobals<s.heap.objs.size:=(I.mod.glob.keeps I.bk).lt;exact Nat.lt_trans (by decide) h
end
end L3
namespace HI
noncomputable def Ris(xs:Array Nat):Prop:=xs.toList.Pairwise (·<·)
theorem Ris.lt{xs:Array Nat}(h:Ris xs){i k:Nat}(ik:i<k)(hk:k<xs.size):xs[i]'(Nat.lt_trans ik hk)<xs[k]:=by
 have:=eh.mp h i k (by simpa using Nat.lt_trans ik hk) (by simpa using hk) ik;simpa using this
theorem zLq{xs:Array Nat}{j:Nat}(hr:Ris xs):∀(fuel lo hi:Nat),hi<=xs.size->lo<=hi->hi-lo<=fuel->(∀ i,(q:i<xs.size)->i<lo->xs[i]<j)->(∀ i,(q:i<xs.size)->hi<=i->j<=xs[i]) ->
  (∀ i,(q:i<xs.size)->i<bI.go xs j fuel lo hi->xs[i]<j)/\∀ i,(q:i<xs.size)->bI.go xs j fuel lo hi<=i->j<=xs[i]
 | 0,lo,hi,h1,h2,h3,a,b=>by
  unfold bI.go;obtain rfl:lo=hi:=by omega
  exact⟨fun i q e=>a i q e,fun i q e=>b i q e⟩
 | fuel+1,lo,hi,h1,h2,h3,a,b=>by
  unfold bI.go;by_cases c:lo<hi
  ·rw[if_pos c]
   dsimp only;have hm:(lo+hi) / 2<xs.size:=by omega
   have eg:xs.getD ((lo+hi) / 2) j=xs[(lo+hi) / 2]:=by simp[dM,hm]
   rw[eg];by_cases d:xs[(lo+hi) / 2]<j
   ·rw[if_pos d]
    refine zLq hr fuel ((lo+hi) / 2+1) hi h1 (by omega) (by omega) (fun i q e=>?_) b;rcases cC i ((lo+hi) / 2) with z | z
    ·exact Nat.lt_trans (hr.lt z hm) d
    ·obtain rfl:i=(lo+hi) / 2:=by omega
     exact d
   ·rw[if_neg d]
    refine zLq hr fuel lo ((lo+hi) / 2) (by omega) (by omega) (by omega) a (fun i q e=>?_);rcases cC ((lo+hi) / 2) i with z | z
    ·exact cK (Nat.not_lt.mp d) (cH (hr.lt z q))
    ·obtain rfl:i=(lo+hi) / 2:=by omega
     exact Nat.not_lt.mp d
  ·rw[if_neg c]
   obtain rfl:lo=hi:=by omega
   exact⟨fun i q e=>a i q e,fun i q e=>b i q e⟩
theorem zEX{xs:Array Nat}{j:Nat}(hr:Ris xs):(∀ i,(q:i<xs.size)->i<bI xs j->xs[i]<j)/\∀ i,(q:i<xs.size)->bI xs j<=i->j<=xs[i]:=by
 unfold bI;exact zLq hr xs.size 0 xs.size (bE _) (cg _) (by omega) (fun i q e=>absurd e (eI _)) (fun i q e=>absurd q (Nat.not_lt.mpr e))
theorem zGL{xs:Array Nat}{j:Nat}(hr:Ris xs)(hn:xs[bI xs j]?≠some j):Ris (cj xs (bI xs j) j):=by
 obtain⟨b1,b2⟩:=zEX (j:=j) hr;generalize bI xs j=p at *;unfold Ris;rw[SetTable.toList_insertAt];have hd:∀ a∈xs.toList.drop p,j<a:=fun a ha=>by
  obtain⟨i,hi,rfl⟩:=List.mem_iff_getElem.mp ha;rw[eB,bK] at hi;have hpi:p+i<xs.size:=by omega
  rw[List.getElem_drop,Array.getElem_toList];have h1:=b2 (p+i) hpi (by omega);rcases eF h1 with e | e
  ·exfalso
   cases i with
   | zero =>
    apply hn;rw[getElem?_pos xs p (by omega)];congr 1;simpa using e.symm
   | succ i =>
    have hp:p<xs.size:=by omega
    have:=b2 p hp (bE _);have l:=hr.lt (i:=p) (k:=p+(i+1)) (by omega) hpi;omega
  ·exact e
 have ht:∀ a∈xs.toList.take p,a<j:=fun a ha=>by
  obtain⟨i,hi,rfl⟩:=List.mem_iff_getElem.mp ha;rw[cT,bK] at hi;rw[List.getElem_take,Array.getElem_toList];exact b1 i (by omega) (by omega)
 refine List.pairwise_append.mpr ⟨hr.sublist (List.take_sublist _ _),List.pairwise_cons.mpr ⟨hd,hr.sublist (List.drop_sublist _ _)⟩,fun a ha b hb=>?_⟩;rcases ce.mp hb with e | e
 ·rw[e];exact ht a ha
 ·exact Nat.lt_trans (ht a ha) (hd b e)
theorem zEY{t:SetTable}{j:Nat}(h:t.slot j=.empty\/t.slot j=.dummy):t.place[bI t.place j]?≠some j:=fun e=>by
 unfold SetTable.slot at h;simp only[e,beq_self_eq_true,if_true] at h;rcases h with h | h<;>cases h
theorem zEZ{t:SetTable}{f:Nat->Int}{h:Int}:∀(n:Nat) (p:SetTable.Probe) (j:Nat) (d:Option Nat),(∀ x,p.dummy=some x->t.slot x=.dummy)->cX.go t f h n p=some (.empty j d)->t.slot j=.empty/\∀ x,d=some x->t.slot x=.dummy
 | 0,p,j,d,_,e=>by cases e
 | n+1,p,j,d,hd,e=>by
  unfold cX.go at e;cases q:t.slot p.j with
  | empty =>
   rw[q] at e;simp only[Option.some.injEq,SetTable.Met.empty.injEq] at e;obtain⟨rfl,rfl⟩:=e;exact⟨q,hd⟩
  | dummy =>
   rw[q] at e;refine zEZ n _ j d (fun x hx=>?_) e;have:(t.advance { p with dummy:=some p.j }).dummy=some p.j:=by unfold SetTable.advance;split<;>rfl
   rw[this] at hx;cases hx;exact q
  | live i =>
   rw[q] at e;dsimp only at e;split at e
   ·cases e
   ·refine zEZ n _ j d (fun x hx=>?_) e
    have:(t.advance p).dummy=p.dummy:=by unfold SetTable.advance;split<;>rfl
    rw[this] at hx;exact hd x hx
theorem zNw{t:SetTable}{h:Int}{j:Nat}{b:Bool}(e:t.freeSlot h=some (j,b)):t.place[bI t.place j]?≠some j:=by
 unfold SetTable.freeSlot at e;split at e
 ·rename_i j' d q
  cases e;obtain⟨h1,h2⟩:=zEZ _ _ _ _ (fun x hx=>by cases hx) q;cases d with
  | none=>exact zEY (.inl h1)
  | some x=>exact zEY (.inr (h2 x rfl))
 ·cases e
theorem zBu{t:SetTable}{n:Nat}:Ris (t.standIn n).place:=by
 show(Array.range n).toList.Pairwise (·<·);rw[Array.toList_range];exact dE
theorem zHH{t:SetTable}{n:Nat}(h:Ris t.place):Ris (t.orStandIn n).place:=by
 unfold SetTable.orStandIn;split
 ·exact h
 ·exact zBu
theorem zHI{t:SetTable}{n:Nat}:(t.orStandIn n).led=t.led:=by
 unfold SetTable.orStandIn;split<;>rfl
theorem zIN{t:SetTable}{es:Array (Int×Value)}{h:Int}{x:Value}(hr:Ris t.place):Ris (layNew t es h x).2.1.place:=by
 unfold layNew;split
 ·rename_i j b q
  exact zHH (zGL hr (zNw q))
 ·exact zBu
theorem zIO{t:SetTable}{es:Array (Int×Value)}{h:Int}{x:Value}:(layNew t es h x).2.1.led=t.led:=by
 unfold layNew;split
 ·exact zHI
 ·rfl
theorem wo{β:Type}(f:Nat->Option β):∀ l:List Nat,((l.filterMap fun j=>(f j).map (j,·)).map (·.1)).Sublist l
 | []=>.slnil
 | a::r=>by
  rw[fc];cases f a with
  | none=>exact .cons _ (wo f r)
  | some b=>exact .cons₂ _ (wo f r)
theorem zKG{t:SetTable}{es:Array (Int×Value)}{n:Nat}:Ris (relayAll t es n).2.1.place/\(relayAll t es n).2.1.led=t.led:=by
 unfold relayAll;split
 ·rename_i t' order q
  dsimp only;split
  ·unfold SetTable.relaid SetTable.laid at q
   cases ow:dP (bL n-1) (es.map (·.1)) with
   | none=>rw[ow] at q;cases q
   | some owner =>
    rw[ow] at q;simp only[Option.bind_eq_bind,Option.bind_some,Option.pure_def,Option.some.injEq,Prod.mk.injEq] at q;obtain⟨rfl,u0⟩:=q;refine⟨?_,rfl⟩;show dA _ (List.toArray _).toList;rw[List.toList_toArray];exact dE.sublist (wo (fun j=>owner.getD j none) _)
  ·exact⟨zBu,rfl⟩
 ·exact⟨zBu,rfl⟩
noncomputable abbrev kyI(e:Int×Value):Int:=numOf e.2
noncomputable def OkE(prog:Program)(w:World)(l:List (Int×Value)):Prop:=∀ e∈l,∃ k u,e=((intKind prog w).hash k,.int k u)
noncomputable def SI(prog:Program)(w:World)(h:Heap)(a:Addr)(ks:List Int):Prop :=
 ∃ o es ep t,h.get? a=some o/\o.ExactSet/\o.data=.set es ep t/\OkE prog w es.toList/\es.toList.map kyI=ks/\es.size<scanBound/\t.fits es.size=true/\Ris t.place/\t.led=!(w.params.followText "set-order")
section
variable {prog:Program} {w:World} {A:Around} {E:Value->Shared->Prop} {s:Shared}
theorem OkE.elems{l:List (Int×Value)}(h:OkE prog w l):ElemsOf (intKind prog w) l:=fun e he=>by
 obtain⟨k,u,rfl⟩:=h e he;exact⟨⟨k,intKind_is _ _ _ _,rfl⟩,rfl⟩
theorem SI.keep{h h':Heap}{a:Addr}{ks:List Int}(x:SI prog w h a ks)(k:∀ o,h.get? a=some o->h'.get? a=some o):SI prog w h' a ks:=let ⟨o,es,ep,t,e,r⟩:=x;⟨o,es,ep,t,k o e,r⟩
theorem zJD{l:List (Int×Value)}(h:OkE prog w l)(k:Int):(l.findIdx? fun e=>(intKind prog w).is k e.2)=none↔k∉l.map kyI:=by
 rw[List.findIdx?_eq_none_iff];constructor
 ·intro q hm
  obtain⟨e,he,e1⟩:=bF.mp hm;obtain⟨k',u,rfl⟩:=h e he;have e2:k'=k:=e1;subst e2;have:=q _ he;rw[intKind_is] at this;cases this
 ·intro q e he
  obtain⟨k',u,rfl⟩:=h e he;rw[KeyKind.is_eq_decide (intKind_is prog w k' u) k];exact decide_eq_false fun z=>q (bF.mpr ⟨_,he,by rw[z];rfl⟩)
theorem zJE{g:Bool->Sem Unit}(hg:∀(b:Bool) (z:Shared) (Q':Unit->Shared->Prop),Q' () z->wpAny (model prog w) A (g b) Q' E z){a:Addr}{o:Obj}{es:Array (Int×Value)}{ep:Nat}{t:SetTable}(ho:s.heap.get? a=some o)(hex:o.ExactSet)(hd:o.data=.set es ep t)
  {es1:Array (Int×Value)} {t2:SetTable} (ok1:OkE prog w es1.toList) (hb1:es1.size<scanBound) (hf2:t2.fits es1.size=true) (hr2:Ris t2.place) (hl2:t2.led=!(w.params.followText "set-order")) {was:Bool} {R:Option Bool->Shared->Prop}
  (h:∀ h' ks',bX a s.heap h'->SI prog w h' a ks'->ks'.Perm (es1.toList.map kyI)->R (some true) { s with heap:=h' }) :
  wpAny (model prog w) A (do
    storeSet a es1 t2
    if (!was&&t2.tooFull)=true then do
      g (relayAll t2 es1 (e9 es1.size)).2.2
      storeSet a (relayAll t2 es1 (e9 es1.size)).1 (relayAll t2 es1 (e9 es1.size)).2.1
      pure (some true)
     else pure (some true)) R E s:=by
 refine bi (ej ho hd ?_ (fits_of_scanBound hb1));have put:∀(hp:Heap) (ob:Obj) (x:Array (Int×Value)) (e:Nat) (y:SetTable) (x':Array (Int×Value)) (y':SetTable),hp.get? a=some ob->ob.data=.set x e y->(hp.update a (Obj.putSet x' y')).get? a=some { ob with data:=.set x' (e+1) y' }:=fun hp ob x e y x' y' q1 q2=>by
  have:=cD (Obj.putSet x' y') q1 (by rw[putSet_of x' y' q2];rfl);rw[putSet_of x' y' q2] at this;exact this
 have o1:=put s.heap o es ep t es1 t2 ho hd;have sb1:=bX.update s.heap a (Obj.putSet es1 t2);split
 ·have pm:=relayAll_perm t2 es1 (e9 es1.size)
  have fr:=relayAll_fits t2 es1 (e9 es1.size);obtain⟨rr,rl⟩:=zKG (t:=t2) (es:=es1) (n:=e9 es1.size);generalize relayAll t2 es1 (e9 es1.size)=L at pm fr rr rl ⊢;obtain⟨es2,t3,gv⟩:=L;dsimp only at pm fr rr rl ⊢;have sz:es2.size=es1.size:=by rw[<-bK,pm.length_eq,bK]
  refine bi (hg _ _ _ (bi (ej o1 rfl ?_ (fits_of_scanBound (by rw[sz];exact hb1)))));have o2:=put _ _ _ _ _ es2 t3 o1 rfl;exact bm (h _ _ (sb1.trans (bX.update _ a _)) ⟨_,es2,_,t3,o2,hex,rfl,fun e he=>ok1 e (pm.mem_iff.mp he),rfl,by rw[sz];exact hb1,fr,rr,rl.trans hl2⟩ (pm.map _))
 ·exact bm (h _ _ sb1 ⟨_,es1,_,t2,o1,hex,rfl,ok1,rfl,hb1,hf2,hr2,hl2⟩ (.refl _))
theorem zQC{a:Addr}{ks:List Int}{k:Int}{u:Tok}{Q:Bool->Shared->Prop}(hS:SI prog w s.heap a ks)(room:ks.length+1<scanBound)
  (h:∀ h' ks' b,bX a s.heap h'->SI prog w h' a ks'->ks'.Perm (if k∈ks then ks else ks++[k])->Q b { s with heap:=h' }) :
  wpAny (model prog w) A (setAddHashed a (.int k u) ((intKind prog w).hash k)) Q E s:=by
 have hS0:=hS;obtain⟨o,es,ep,t,ho,hex,hd,ok,rfl,hb,hf,hr,hl⟩:=hS;rw[bA,bK] at room;unfold setAddHashed setAddHashedIn;refine bZ (bi (cc ho hd hf ?_));dsimp only;rw[byScan_of (knd:=intKind prog w) rfl hb ok.elems];simp only[↓reduceIte];unfold setAddByScan;refine bi (bi (dF (bi (wpAny_setScan_of (knd:=intKind prog w) (intKind_is _ _ _ _) ho hd hf ok.elems ?_))));cases q:List.findIdx? (fun e=>(intKind prog w).is k e.2) es.toList with
 | some j =>
  dsimp only;have hk:k∈es.toList.map kyI:=by
   by_cases z:k∈es.toList.map kyI
   ·exact z
   ·rw[(zJD ok k).mpr z] at q;cases q
  refine bm (bm ?_);have:=h s.heap _ false (bX.refl a s.heap) hS0 (by rw[if_pos hk]);exact this
 | none =>
  dsimp only;have hk:k∉es.toList.map kyI:=(zJD ok k).mp q;have way:∀(b:Bool) {z:Shared} {Q':Unit->Shared->Prop},Q' () z->wpAny (model prog w) A (match b with | true=>rule "set.scan.the-table-gave-way" | false=>pure ()) Q' E z:=fun b z Q' hq=>by cases b<;>first | exact bm hq | exact dF hq
  have pm:=layNew_perm t es ((intKind prog w).hash k) (.int k u);have ft:=layNew_fits t es ((intKind prog w).hash k) (.int k u);have rs:=zIN (t:=t) (es:=es) (h:=(intKind prog w).hash k) (x:=.int k u) hr;have ld:=zIO (t:=t) (es:=es) (h:=(intKind prog w).hash k) (x:=.int k u);generalize layNew t es ((intKind prog w).hash k) (.int k u)=L at pm ft rs ld ⊢;obtain⟨es1,t1,was,gv⟩:=L;dsimp only at pm ft rs ld ⊢;rw[Array.toList_push] at pm;have ok1:OkE prog w es1.toList:=fun e he=>by
   rcases cu.mp (pm.mem_iff.mp he) with z | z
   ·exact ok e z
   ·rw[bG] at z;exact⟨k,u,z⟩
  have sz:es1.size=es.size+1:=by rw[<-bK,pm.length_eq,bR,bK];rfl
  have fin:∀ h' ks',bX a s.heap h'->SI prog w h' a ks'->ks'.Perm (es1.toList.map kyI)->Q true { s with heap:=h' }:=fun h' ks' sb si p=>h h' ks' true sb si (by
   rw[if_neg hk];refine p.trans ((pm.map kyI).trans ?_);rw[dt];exact .refl _)
  refine bi (way _ ?_);split
  ·refine bi ?_
   rw[hashByValue_scannable 8 rfl];refine bm (zJE (fun b z Q' hq=>by cases b<;>first | exact bm hq | exact dF hq) ho hex hd ok1 (by omega) ft rs (ld.trans hl) fun h' ks' sb si p=>?_);dsimp only;exact bm (fin h' ks' sb si p)
  ·refine bi (bm ?_)
   simp only[↓reduceIte];refine zJE (fun b z Q' hq=>by cases b<;>first | exact bm hq | exact dF hq) ho hex hd ok1 (by omega) ft rs (ld.trans hl) fun h' ks' sb si p=>?_;dsimp only;exact bm (fin h' ks' sb si p)
end
section
variable {prog:Program} {w:World} {A:Around} {R:Result->Shared->Prop} {I:Addr} {fp wr:List Addr} {G:Array GenState->Array GenState->Prop} {n:Nat} {P:Nat->Value->Prop} {St:Nat->Shared->Prop}
theorem zLr(W:WalksS prog w A.in1 I fp wr G n P St)(S:Addr)(hSf:S∉fp)(val:Nat->Int)(hval:∀ i v,P i v->∃ t,v=.int (val i) t)(hb:n+1<scanBound) :
  ∀(k i:Nat) (s:Shared) (ks:List Int),n-i=k->i<=n->St i s->SI prog w s.heap S ks->ks.length<=i->ks.Nodup->(∀ x,x∈ks↔∃ m,m<i/\val m=x) ->
   (∀ s' ks',Moved (S::wr) G s s'->SI prog w s'.heap S ks'->ks'.Nodup->ks'.length<=n->(∀ x,x∈ks'↔∃ m,m<n/\val m=x)->R (.ok (.ret .none)) s') ->
   codeAny (model prog w) A (.builtin "set.update.loop" ⟨[.ref S,.ref I],[]⟩) R s:=by
 have hSw:S∉wr:=fun q=>hSf (W.sub _ q);have sub:∀ b∈wr,b∈S::wr:=fun b q=>bN _ q;intro k
 induction k with
 | zero =>
  intro i s ks hk hi st hS hl nd mem hR;obtain rfl:i=n:=by omega
  refine cf F.entry_set_update_loop ?_;rw[Around.under_plainId F.plain_set_update_loop _];show wpAny _ A.in1 (pyNext (.ref I)>>=_) _ _ s;exact bi (W.done s _ _ st fun s' hm=>bm (hR s' ks (hm.mono sub) (hS.keep fun o e=>hm.heap S _ hSw e) nd hl mem))
 | succ k ih =>
  intro i s ks hk hi st hS hl nd mem hR;have lt:i<n:=by omega
  refine cf F.entry_set_update_loop ?_;rw[Around.under_plainId F.plain_set_update_loop _];show wpAny _ A.in1 (pyNext (.ref I)>>=_) _ _ s;refine bi (W.item i s _ _ lt st fun v s' hP st' hm=>?_);obtain⟨t,rfl⟩:=hval i v hP;have hS':=hS.keep fun o e=>hm.heap S _ hSw e;show wpAny _ A.in1 (holding [Value.int (val i) t] (setAdd S (.int (val i) t))>>=_) _ _ s';refine bi (bZ ?_);unfold setAdd;refine bZ (bi ((intKind prog w).pyHash (k:=val i) (intKind_is _ _ _ _) (zQC (s:={ s' with toks:=s'.toks+1 }) hS' (by omega) fun h' ks' b sb si pm=>?_)));have nd':ks'.Nodup:=pm.nodup_iff.mpr (by
   split
   ·exact nd
   ·rename_i z
    exact eP.mpr ⟨nd,by simp,fun x hx y hy e=>by rw[bG] at hy;exact z (by rw[<-hy,<-e];exact hx)⟩)
  have len':ks'.length<=i+1:=by
   rw[pm.length_eq];split
   ·omega
   ·rw[bR];simp;omega
  have mem':∀ x,x∈ks'↔∃ m,m<i+1/\val m=x:=fun x=>by
   rw[pm.mem_iff];constructor
   ·intro q
    split at q
    ·obtain⟨m,h1,h2⟩:=(mem x).mp q
     exact⟨m,by omega,h2⟩
    ·rcases cu.mp q with q | q
     ·obtain⟨m,h1,h2⟩:=(mem x).mp q
      exact⟨m,by omega,h2⟩
     ·rw[bG] at q
      exact⟨i,by omega,q.symm⟩
   ·rintro⟨m,h1,h2⟩
    rcases cC m i with z | z
    ·have:=(mem x).mpr ⟨m,z,h2⟩
     split
     ·exact this
     ·exact cy _ this
    ·obtain rfl:m=i:=by omega
     split
     ·rename_i q;rw[<-h2];exact q
     ·rw[<-h2];simp
  refine bm ⟨plainId_quiet F.plain_set_update_loop _,ih (i+1) _ ks' (by omega) lt (W.frame _ s' _ _ st' (eJ _) fun b hb' o e=>?_) si len' nd' mem' fun s'' ks'' hm'' si'' nd'' len'' mem''=>?_⟩
  ·rw[sb.2 b (fun q:b=S=>hSf (by rw[<-q];exact hb'))];exact e
  ·refine hR s'' ks'' (Moved.trans W.gtrans ((hm.mono sub).then_heap (eJ _) fun b o hb' e=>?_) hm'') si'' nd'' len'' mem''
   rw[sb.2 b (fun q:b=S=>hb' (by rw[q];exact bU))];exact e
end
noncomputable abbrev wT(w:World):Bool:=!(w.params.followText "set-order")
noncomputable abbrev yX(w:World):Obj:={ cls:=.type "set",dict:=none,data:=.set #[] 0 (.fresh 0 0 (wT w)) }
section
variable {prog:Program} {w:World} {A:Around} {E:Value->Shared->Prop} {s:Shared}
theorem zBe(v:Value){Q1:Value->Shared->Prop}(h:Q1 (.ref s.heap.objs.size) { s with heap:=s.heap.push (yX w) }) :
  codeAny (model prog w) A (.call (.builtin "set.__new__") ⟨[.type "set",v],[]⟩) (wants Q1 E) s:=by
 refine codeAny_of_tree ?_;show wpAny _ A.in1 (do checkBuiltinCall "set.__new__" ⟨[.type "set",v],[]⟩;again (.builtin "set.__new__" ⟨[.type "set",v],[]⟩)) _ _ s;refine bi (df (F.newCall_set_1 v) (bm ⟨plainId_quiet F.plain_set_new _,cf F.entry_set_new ?_⟩));rw[Around.under_plainId F.plain_set_new _];unfold Builtin.«set.__new__» Builtin.Frozenset.newClass;have hsub:=sub_set_self;obtain⟨hp,g,d,tk,os⟩:=s;dsimp only
 wp_walk
 refine wpAny_askSetting (bm ?_);dsimp only;simp only[newObj];exact bi (wpAny_alloc (bm (bm h)))
theorem zQD{h:Heap}:SI prog w (h.push (yX w)) h.objs.size [] :=
 ⟨yX w,#[],0,.fresh 0 0 (wT w),bB _ rfl,⟨rfl,rfl,rfl⟩,rfl,fun e he=>by simp at he,rfl,by decide,rfl,.nil,rfl⟩
end
theorem yQ:Slot "set_iterator" "__next__" "set_iterator.__next__" :=
 .of (owner:="set_iterator") (n:="__next__") (by rw[typeLookup_type,builtinLookup_eq_fast];kernel_rfl) (by decide +kernel) (by decide +kernel) (by decide +kernel) (by first | exact .inl (by decide +kernel) | exact .inr (by decide +kernel)) (by rw[isSubtype_type];kernel_rfl)
theorem zBv:entryFor table "set_iterator.__next__"=some Builtin.«set_iterator.__next__»:=entryFor_of_tree (by kernel_rfl)
theorem zCv(v:Value):argsOk "set_iterator.__next__" ⟨[v],[]⟩:=by unfold argsOk;kernel_rfl
theorem zEa:entryFor table "set.__iter__"=some Builtin.«frozenset.__iter__»:=entryFor_alias (id':="frozenset.__iter__") (by kernel_rfl) rfl (by decide +kernel) (by kernel_rfl)
theorem zGM{α:Type}:∀(l:List α) (i:Nat) (h:i<l.length),([l[i]]++l.eraseIdx i).Perm l
 | a::r,0,_=>.refl _
 | a::r,i+1,h=>by
  have hi:i<r.length:=by simpa using h
  have q:=zGM r i hi;show([r[i]]++(a::r.eraseIdx i)).Perm (a::r);exact(dS.swap a r[i] _).trans (q.cons a)
theorem zJF{α:Type}(f:Nat->Nat):∀(n k:Nat) (l:List α) (out:Array α),l.length=n->(pickOrder.go f n k l out).toList.Perm (out.toList++l)
 | 0,k,l,out,h=>by
  have:l=[]:=du.mp h;subst this;unfold pickOrder.go;simp
 | n+1,k,l,out,h=>by
  unfold pickOrder.go;have hi:f k%l.length<l.length:=Nat.mod_lt _ (by omega);rw[cw hi];dsimp only;refine(zJF f n (k+1) _ _ (by rw[List.length_eraseIdx_of_lt hi];omega)).trans ?_;rw[Array.toList_push,en];refine dS.append_left _ ?_;exact zGM l _ hi
theorem zA0{α:Type}(f:Nat->Nat)(xs:Array α):(pickOrder f xs).toList.Perm xs.toList:=by
 unfold pickOrder;simpa using zJF f xs.size 0 xs.toList #[] (by simp)
section
variable {prog:Program} {w:World} {A:Around} {E:Value->Shared->Prop} {s:Shared}
theorem zAl{Q:Bool->Shared->Prop}(h:Q (w.params.followText "set-order") s):wpAny (model prog w) A setsByText Q E s:=by
 unfold setsByText;exact bi (wpAny_askSetting (bm h))
theorem zEb{α:Type}:∀(n:Nat) (l:List α) (s:Shared) (Q:List α->Shared->Prop),l.length=n->(∀ r d,r.Perm l->Q r { s with drawn:=d })->wpAny (model prog w) A (drawOrder n l) Q E s
 | 0,l,s,Q,h,q=>by
  have:l=[]:=du.mp h;subst this;unfold drawOrder;exact bm (q [] s.drawn (.refl _))
 | n+1,[],s,Q,h,q=>by cases h
 | n+1,a::r,s,Q,h,q=>by
  unfold drawOrder;refine bi (fun Γ p hΓ=>?_);show PySem.Sem.wp _ Γ (.choose .order (a::r).length .pure) _ _ p s;rw[Sem.wp_choose];refine⟨by simp,?_⟩;have hi:(model prog w).w.draws .order (s.drawn.get .order)%(a::r).length<(a::r).length:=Nat.mod_lt _ (by simp);generalize (model prog w).w.draws .order (s.drawn.get .order)%(a::r).length=i at hi;rw[Sem.wp_pure];have goal:wpAny (model prog w) A (match (a::r)[i]? with | some x=>do return x::(<-drawOrder n ((a::r).eraseIdx i)) | none=>unsupported "internal:drawOrder") Q E { s with drawn:=s.drawn.bump .order }:=by
   rw[cw hi];dsimp only;refine bi (zEb n _ _ _ (by rw[List.length_eraseIdx_of_lt hi];simp at h ⊢;omega) fun z d pm=>bm (q _ d ?_));exact(pm.cons _).trans (zGM (a::r) i hi)
  exact goal
noncomputable abbrev yY(f:Value)(i:Int)(a:Addr)(n:Nat)(ep:Nat):Obj:={ cls:=.type "set_iterator",dict:=none,data:=.fields #[f,rawInt i,.ref a,rawInt n,rawInt ep],slots:=#[] }
structure Sx (h:Heap) (a:Addr) (es:Array (Int×Value)) (ep:Nat) (t:SetTable):Prop where
 ex:∃ o,h.get? a=some o/\o.ExactSet/\o.data=.set es ep t
theorem Sx.keep{h h':Heap}{a:Addr}{es:Array (Int×Value)}{ep:Nat}{t:SetTable}(x:Sx h a es ep t)(k:∀ o,h.get? a=some o->h'.get? a=some o):Sx h' a es ep t:=let ⟨o,e,r⟩:=x.ex;⟨o,k o e,r⟩
noncomputable def Tells(prog:Program)(w:World)(a:Addr)(es:Array (Int×Value))(ep:Nat)(t:SetTable)(sl:Nat->Nat)(xs:List Value):Prop :=
 ∀(A:Around) (E:Value->Shared->Prop) (s:Shared) (i:Nat) (Q:Option (Value×Nat)->Shared->Prop),i<=xs.length->Sx s.heap a es ep t->Q ((xs[i]?).map fun v=>(v,sl (i+1))) s->wpAny (model prog w) A (setNext a (sl i) i ep) Q E s
theorem zCR{a:Addr}{es:Array (Int×Value)}{ep:Nat}{t:SetTable}(hf:t.fits es.size=true)(hb:w.params.followText "set-order"=true):Tells prog w a es ep t (fun u0=>0) ((pickOrder (w.params.setOrder a ep) es).toList.map (·.2)):=by
 intro A E s i Q hi hx h;obtain⟨o,ho,u0,hd⟩:=hx.ex;unfold setNext;refine bi (cc ho hd hf ?_);dsimp only;refine bi (zAl ?_);rw[hb];simp only[↓reduceIte,bne_self_eq_false,bj];refine bi ?_;unfold setWalk;refine bi (cc ho hd hf ?_);dsimp only;refine bi (zAl ?_);rw[hb];simp only[↓reduceIte];refine bi (wpAny_askSetting (bm (bm ?_)));rw[cb,Option.map_map,Array.getElem?_toList] at h;exact h
theorem below_at{xs:Array Nat}(hr:Ris xs){i:Nat}(hi:i<=xs.size):(i<xs.size->bI xs (if i=0 then 0 else xs.getD (i-1) 0+1)=i)/\(i=xs.size->xs.size<=bI xs (if i=0 then 0 else xs.getD (i-1) 0+1)):=by
 generalize hj:(if i=0 then 0 else xs.getD (i-1) 0+1)=j;obtain⟨b1,b2⟩:=zEX (j:=j) hr;generalize bI xs j=p at b1 b2;have lo:i<=p:=by
  rcases cC p i with q | q
  ·exfalso
   have h1:=b2 p (by omega) (bE _);rw[if_neg (by omega)] at hj;have h0:i-1<xs.size:=by omega
   have e:xs.getD (i-1) 0=xs[i-1]:=by simp[dM,h0]
   rw[e] at hj;rcases cC p (i-1) with z | z
   ·have:=hr.lt z h0;omega
   ·have e2:p=i-1:=by omega
    subst e2;omega
  ·exact q
 refine⟨fun h=>?_,fun h=>by omega⟩;rcases cC i p with q | q
 ·exfalso
  have h1:=b1 i h q;by_cases z:i=0
  ·rw[if_pos z] at hj;omega
  ·rw[if_neg z] at hj
   have h0:i-1<xs.size:=by omega
   have e:xs.getD (i-1) 0=xs[i-1]:=by simp[dM,h0]
   have:=hr.lt (i:=i-1) (k:=i) (by omega) h;omega
 ·omega
theorem zBf{a:Addr}{es:Array (Int×Value)}{ep:Nat}{t:SetTable}(hf:t.fits es.size=true)(hr:Ris t.place)(hb:w.params.followText "set-order"=false)(hl:t.led=true)(hp:(!t.plain&&decide (es.size>1))=false) :
  Tells prog w a es ep t (fun i=>if i=0 then 0 else t.place.getD (i-1) 0+1) (es.toList.map (·.2)):=by
 intro A E s i Q hi hx h;obtain⟨o,ho,u0,hd⟩:=hx.ex;have hs:t.place.size=es.size:=by
  simp only[SetTable.fits,dN,beq_iff_eq] at hf;exact hf.1
 unfold setNext;refine bi (cc ho hd hf ?_);dsimp only;refine bi (zAl ?_);rw[hb];simp only[bj,↓reduceIte];refine cN (fun q=>absurd (show(!t.plain&&decide (es.size>1))=true from q) (by rw[hp];decide)) (fun u0=>?_);refine bi (cN (fun q=>absurd q (by rw[hl];simp)) (fun u0=>bm (bm ?_)));rw[bA,bK] at hi;obtain⟨b1,b2⟩:=below_at hr (i:=i) (by omega);rw[cb,Option.map_map,Array.getElem?_toList] at h;rcases cC i es.size with q | q
 ·rw[b1 (by omega),getElem?_pos es i q,getElem?_pos t.place i (by omega)]
  rw[getElem?_pos es i q] at h;have e:t.place.getD (i+1-1) 0=t.place[i]'(by omega):=by simp[dM,hs,q]
  have h':Q (some (es[i].2,if i+1=0 then 0 else t.place.getD (i+1-1) 0+1)) s:=h;rw[if_neg (by omega),e] at h';exact h'
 ·have hn:es[bI t.place (if i=0 then 0 else t.place.getD (i-1) 0+1)]?=none:=by
   rw[Array.getElem?_eq_none_iff];have:=b2 (by omega);omega
  have hn2:es[i]?=none:=by rw[Array.getElem?_eq_none_iff];exact q
  rw[hn];rw[hn2] at h;exact h
theorem zEc{a it:Addr}{es:Array (Int×Value)}{ep:Nat}{t:SetTable}{sl:Nat->Nat}{xs:List Value}(T:Tells prog w a es ep t sl xs)(hf:t.fits es.size=true)(hx:xs.length=es.size){i:Nat}(hi:i<es.size)(hit:s.heap.get? it=some (yY (rawInt (sl i)) i a es.size ep))(hS:Sx s.heap a es ep t)(hne:a≠it){Q:Option Value->Shared->Prop}
  (hQ:∀ h' v,xs[i]?=some v->h'.get? it=some (yY (rawInt (sl (i+1))) ((i+1:Nat):Int) a es.size ep)->(∀ b o,b≠it->s.heap.get? b=some o->h'.get? b=some o)->Q (some v) { s with heap:=h' }):wpAny (model prog w) A (pyNext (.ref it)) Q E s:=by
 have hT:s.TypeIs (.ref it) "set_iterator":=⟨_,hit,rfl⟩
 obtain⟨o,ho,u0,hd⟩:=hS.ex;unfold pyNext;refine bi (dZ (wpAny_callSpecial?_slot (name:=Str.ofString "__next__") hT yQ (bT yQ hT zBv ?_ (zCv _))));unfold Builtin.«set_iterator.__next__»;refine bi (m:=slotArgs "__next__" 0 _) (bm ?_);refine bi (wpAny_fieldsOf hit rfl ?_);simp only[rawInt];refine bi (er ho hd hf ?_);simp only[bne_self_eq_false,bj,↓reduceIte];simp only[eS];refine bi (T _ _ _ i _ (by omega) hS ?_);rw[cw (show i<xs.length by omega)];refine bi (eE hit (by simp) fun h1 e1 s1=>bi (eE e1 (by simp) fun h2 e2 s2=>bm ⟨_,rfl,bm (hQ h2 xs[i] (cw _) ?_ fun b o hb e=>s2.extBut _ _ hb (s1.extBut _ _ hb e))⟩));exact e2
theorem zJG{B:Around}{z:Shared}{Q:Fin->Shared->Prop}{E':Value->Shared->Prop}(hh:B.handled=none)(h:∀ h' e,(∀ b o,z.heap.get? b=some o->h'.get? b=some o)->(∃ o,h'.get? e=some o/\o.cls=.type "StopIteration")->E' (.ref e) { z with heap:=h' }) :
  wpAny (model prog w) B (do raiseNew (<-newExc (.type "StopIteration") [])) Q E' z:=by
 refine bi ?_;simp only[newExc,newTuple];refine bi (bS (bi (m:=firstArgMember _ _) (df (a:=Value.none) (by first | rfl | (simp only[firstArgMember];rfl)) (bS ?_ (by size_fits)))) (by size_fits));simp only[raiseNew];refine bi (wpAny_handled ?_);rw[hh];exact bi (bm (wpAny_throw (h _ _ (fun b o e=>bn _ (bn _ e)) ⟨_,bB _ rfl,rfl⟩)))
theorem zGN{a it:Addr}{es:Array (Int×Value)}{ep:Nat}{t:SetTable}{sl:Nat->Nat}{xs:List Value}(hh:A.handled=none)(T:Tells prog w a es ep t sl xs)(hf:t.fits es.size=true)(hx:xs.length=es.size)(hit:s.heap.get? it=some (yY (rawInt (sl es.size)) es.size a es.size ep))(hS:Sx s.heap a es ep t){Q:Option Value->Shared->Prop}
  (hQ:∀ h',(∀ b o,b≠it->s.heap.get? b=some o->h'.get? b=some o)->Q none { s with heap:=h' }):wpAny (model prog w) A (pyNext (.ref it)) Q E s:=by
 have hT:s.TypeIs (.ref it) "set_iterator":=⟨_,hit,rfl⟩
 obtain⟨o,ho,u0,hd⟩:=hS.ex;unfold pyNext;refine bi (dZ (wpAny_callSpecial?_slot (name:=Str.ofString "__next__") hT yQ (bT yQ hT zBv ?_ (zCv _))));unfold Builtin.«set_iterator.__next__»;refine bi (m:=slotArgs "__next__" 0 _) (bm ?_);refine bi (wpAny_fieldsOf hit rfl ?_);simp only[rawInt];refine bi (er ho hd hf ?_);simp only[bne_self_eq_false,bj,↓reduceIte];simp only[eS];refine bi (T _ _ _ es.size _ (by omega) hS ?_);rw[List.getElem?_eq_none (show xs.length<=es.size by omega)];refine bi (eE hit (by simp) fun h1 e1 s1=>?_);refine zJG (by simpa using hh) fun h' e kp he=>?_;obtain⟨oe,q1,q2⟩:=he;refine bi (cS (T:="StopIteration") (b:=true) ⟨oe,q1,q2⟩ isSubtype_stop (bm (hQ _ fun b o hb e=>kp _ _ (s1.extBut _ _ hb e))))
theorem zLs{a it T:Addr}{es:Array (Int×Value)}{ep:Nat}{t:SetTable}{od:List Nat}(hf:t.fits es.size=true)(hod:od.Perm (bz es.size)){i:Nat}(hi:i<es.size)(hit:s.heap.get? it=some (yY (.ref T) i a es.size ep))(hS:Sx s.heap a es ep t)(hT:s.heap.get? T=some { cls:=.type "tuple",data:=.seq (od.map fun(k:Nat)=>rawInt k).toArray }){Q:Option Value->Shared->Prop}
  (hQ:∀ h' v,(od.map fun k=>(es.getD k (0,.none)).2)[i]?=some v->h'.get? it=some (yY (.ref T) ((i+1:Nat):Int) a es.size ep)->(∀ b o,b≠it->s.heap.get? b=some o->h'.get? b=some o)->Q (some v) { s with heap:=h' }):wpAny (model prog w) A (pyNext (.ref it)) Q E s:=by
 have hTy:s.TypeIs (.ref it) "set_iterator":=⟨_,hit,rfl⟩
 obtain⟨o,ho,u0,hd⟩:=hS.ex;have hl:od.length=es.size:=by rw[hod.length_eq];simp
 have hk:od[i]'(by omega)<es.size:=bV.mp (hod.mem_iff.mp (cJ _));unfold pyNext;refine bi (dZ (wpAny_callSpecial?_slot (name:=Str.ofString "__next__") hTy yQ (bT yQ hTy zBv ?_ (zCv _))));unfold Builtin.«set_iterator.__next__»;refine bi (m:=slotArgs "__next__" 0 _) (bm ?_);refine bi (wpAny_fieldsOf hit rfl ?_);simp only[rawInt];refine bi (er ho hd hf ?_);simp only[bne_self_eq_false,bj,↓reduceIte];refine bi (wpAny_seqItems hT rfl ?_);have e1:((od.map fun(k:Nat)=>rawInt k).toArray)[(i:Int).toNat]?=some (Value.int (od[i]'(by omega):Nat) 0):=by
  simp[rawInt,hl,hi]
 dsimp only;rw[e1];dsimp only;refine bi ?_;unfold setNextDrawn;refine bi (cc ho hd hf ?_);simp only[eS,bne_self_eq_false,bj,↓reduceIte];rw[getElem?_pos es _ hk];dsimp only;refine bm (bi (eE hit (by simp) fun h1 e1 s1=>bm ⟨_,rfl,bm (hQ h1 _ ?_ e1 fun b o hb e=>s1.extBut _ _ hb e)⟩));rw[cb,cw (show i<od.length by omega)];simp[dM,hk]
theorem zNx{a it T:Addr}{es:Array (Int×Value)}{ep:Nat}{t:SetTable}{od:List Nat}(hh:A.handled=none)(hf:t.fits es.size=true)(hod:od.Perm (bz es.size))(hit:s.heap.get? it=some (yY (.ref T) es.size a es.size ep))(hS:Sx s.heap a es ep t)(hT:s.heap.get? T=some { cls:=.type "tuple",data:=.seq (od.map fun(k:Nat)=>rawInt k).toArray }){Q:Option Value->Shared->Prop}
  (hQ:∀ h',(∀ b o,b≠it->s.heap.get? b=some o->h'.get? b=some o)->Q none { s with heap:=h' }):wpAny (model prog w) A (pyNext (.ref it)) Q E s:=by
 have hTy:s.TypeIs (.ref it) "set_iterator":=⟨_,hit,rfl⟩
 obtain⟨o,ho,u0,hd⟩:=hS.ex;have hl:od.length=es.size:=by rw[hod.length_eq];simp
 unfold pyNext;refine bi (dZ (wpAny_callSpecial?_slot (name:=Str.ofString "__next__") hTy yQ (bT yQ hTy zBv ?_ (zCv _))));unfold Builtin.«set_iterator.__next__»;refine bi (m:=slotArgs "__next__" 0 _) (bm ?_);refine bi (wpAny_fieldsOf hit rfl ?_);simp only[rawInt];refine bi (er ho hd hf ?_);simp only[bne_self_eq_false,bj,↓reduceIte];refine bi (wpAny_seqItems hT rfl ?_);have e1:((od.map fun(k:Nat)=>rawInt k).toArray)[(es.size:Int).toNat]?=none:=by
  simp[hl]
 dsimp only;rw[e1];dsimp only;refine bi (eE hit (by simp) fun h1 e1 s1=>bi (eE e1 (by simp) fun h2 e2 s2=>?_));refine zJG (by simpa using hh) fun h' e kp he=>?_;obtain⟨oe,q1,q2⟩:=he;exact bi (cS (T:="StopIteration") (b:=true) ⟨oe,q1,q2⟩ isSubtype_stop (bm (hQ _ fun b o hb e=>kp _ _ (s2.extBut _ _ hb (s1.extBut _ _ hb e)))))
end
theorem zHJ:Slot "set_iterator" "__iter__" "set_iterator.__iter__" :=
 .of (owner:="set_iterator") (n:="__iter__") (by rw[typeLookup_type,builtinLookup_eq_fast];kernel_rfl) (by decide +kernel) (by decide +kernel) (by decide +kernel) (by first | exact .inl (by decide +kernel) | exact .inr (by decide +kernel)) (by rw[isSubtype_type];kernel_rfl)
theorem zKH:entryFor table "set_iterator.__iter__"=some Builtin.«dict_keyiterator.__iter__» :=
 entryFor_alias (id':="dict_keyiterator.__iter__") (by kernel_rfl) (by first | rfl | decide +kernel | (unfold String.splitOn;simp +decide [String.splitOnAux])) (by decide +kernel) (by kernel_rfl)
theorem zLt(v:Value):argsOk "set_iterator.__iter__" ⟨[v],[]⟩:=by unfold argsOk;kernel_rfl
section
variable {prog:Program} {w:World} {A:Around} {E:Value->Shared->Prop} {s:Shared}
theorem zCw{it:Addr}{f:Value}{i:Int}{a:Addr}{n ep:Nat}{Q:Value->Shared->Prop}(h:s.heap.get? it=some (yY f i a n ep))(q:Q (.ref it) s):wpAny (model prog w) A (pyIter (.ref it)) Q E s:=by
 have hT:s.TypeIs (.ref it) "set_iterator":=⟨_,h,rfl⟩
 refine wpAny_pyIter_slot hT zHJ (bT zHJ hT zKH ?_ (zLt _));show wpAny _ _ (ret (.ref it)) _ _ s;exact bm ⟨_,rfl,"set_iterator",_,hT,yQ.lookup,q⟩
noncomputable abbrev PvI(val:Nat->Int)(i:Nat)(v:Value):Prop:=∃ u,v=.int (val i) u
theorem zLu{a it:Addr}{es:Array (Int×Value)}{ep:Nat}{t:SetTable}{sl:Nat->Nat}{xs:List Value}(hh:A.handled=none)(T:Tells prog w a es ep t sl xs)(hf:t.fits es.size=true)(hx:xs.length=es.size)(hne:a≠it)(hv:∀ v∈xs,∃ k u,v=.int k u) :
  Walks prog w A it [it,a] [it] es.size (PvI fun i=>numOf (xs.getD i .none)) (fun i h=>h.get? it=some (yY (rawInt (sl i)) i a es.size ep)/\Sx h a es ep t) where
 sub:=fun b hb=>by simp at hb ⊢;exact .inl hb
 frame:=fun i h h' st k=>⟨k it (by simp) _ st.1,st.2.keep fun o e=>k a (by simp) o e⟩
 item:=fun i s Q E hi st hQ=>zEc T hf hx hi st.1 st.2 hne fun h' v hxv e kp=>by
  obtain⟨k,u,rfl⟩:=hv v (bM hxv);have e2:xs.getD i .none=.int k u:=by simp[cO,hxv]
  exact hQ _ h' s.toks ⟨u,by dsimp only;rw[e2];rfl⟩ ⟨e,st.2.keep fun o q=>kp a o hne q⟩ fun b o hb q=>kp b o (by simpa using hb) q
 done:=fun s Q E st hQ=>zGN hh T hf hx st.1 st.2 fun h' kp=>hQ h' s.toks fun b o hb q=>kp b o (by simpa using hb) q
 self:=fun i s Q E st hQ=>zCw st.1 hQ
theorem zLv{a it T:Addr}{es:Array (Int×Value)}{ep:Nat}{t:SetTable}{od:List Nat}(hh:A.handled=none)(hf:t.fits es.size=true)(hod:od.Perm (bz es.size))(hne:a≠it)(hnT:T≠it)(hv:∀ e∈es.toList,∃ k u,e.2=.int k u) :
  Walks prog w A it [it,a,T] [it] es.size (PvI fun i=>numOf ((od.map fun k=>(es.getD k (0,.none)).2).getD i .none)) (fun i h=>h.get? it=some (yY (.ref T) i a es.size ep)/\Sx h a es ep t/\h.get? T=some { cls:=.type "tuple",data:=.seq (od.map fun(k:Nat)=>rawInt k).toArray }) where
 sub:=fun b hb=>by simp at hb ⊢;exact .inl hb
 frame:=fun i h h' st k=>⟨k it (by simp) _ st.1,st.2.1.keep fun o e=>k a (by simp) o e,k T (by simp) _ st.2.2⟩
 item:=fun i s Q E hi st hQ=>zLs hf hod hi st.1 st.2.1 st.2.2 fun h' v hxv e kp=>by
  have hm:=bM hxv;obtain⟨k,hk,rfl⟩:=bF.mp hm;have hk':k<es.size:=bV.mp (hod.mem_iff.mp hk);have e3:es.getD k (0,.none)=es[k]:=by simp[dM,hk']
  obtain⟨n,u,e4⟩:=hv es[k] (by simp);have e2:(od.map fun k=>(es.getD k (0,.none)).2).getD i .none=(es.getD k (0,.none)).2:=by rw[List.getD_eq_getElem?_getD,hxv];rfl
  refine hQ _ h' s.toks ⟨u,?_⟩ ⟨e,st.2.1.keep fun o q=>kp a o hne q,kp T _ hnT st.2.2⟩ fun b o hb q=>kp b o (by simpa using hb) q;dsimp only;rw[e2,e3,e4];rfl
 done:=fun s Q E st hQ=>zNx hh hf hod st.1 st.2.1 st.2.2 fun h' kp=>hQ h' s.toks fun b o hb q=>kp b o (by simpa using hb) q
 self:=fun i s Q E st hQ=>zCw st.1 hQ
theorem zFZ(xs:List Value):(bz xs.length).map (fun i=>numOf (xs.getD i .none))=xs.map numOf:=by
 refine eY (by simp) fun i h1 h2=>?_;have:i<xs.length:=by simpa using h1
 simp[cO,this]
theorem zLw{a:Addr}{ks:List Int}{Q:Value->Shared->Prop}(hS:SI prog w s.heap a ks)
  (h:∀(h1:Heap) (d:Drawn) (it:Addr) (fp:List Addr) (St:Nat->Heap->Prop) (val:Nat->Int),(∀ b o,s.heap.get? b=some o->h1.get? b=some o)->(∀ b∈fp,b=a\/s.heap.objs.size<=b)->s.heap.objs.size<=it ->
   (∀ B:Around,B.handled=none->Walks prog w B it fp [it] ks.length (PvI val) St)->St 0 h1->((bz ks.length).map val).Perm ks->Q (.ref it) { s with heap:=h1,drawn:=d }):wpAny (model prog w) A (pyIter (.ref a)) Q E s:=by
 obtain⟨o,es,ep,t,ho,hex,hd,ok,rfl,hb,hf,hr,hl⟩:=hS;have hv:∀ e∈es.toList,∃ k u,e.2=.int k u:=fun e he=>by
  obtain⟨k,u,rfl⟩:=ok e he;exact⟨k,u,rfl⟩
 have hlen:(es.toList.map kyI).length=es.size:=by simp
 have hT:s.TypeIs (.ref a) "set":=⟨o,ho,hex.1⟩
 have la:a<s.heap.objs.size:=bC ho;refine wpAny_pyIter_slot hT F.slot_set_iter (bT F.slot_set_iter hT zEa ?_ (F.args_set_iter_1 _));unfold Builtin.«frozenset.__iter__» Builtin.Frozenset.slot0;refine bi (m:=do Builtin.Frozenset.addrOf (<-slotArgs "__iter__" 0 _).1) (show wpAny _ _ (pure a) _ _ _ from bm ?_);unfold Builtin.Frozenset.sizeOf;refine bi (bi (er ho hd hf (bm ?_)));unfold setDrawn;refine bi (bi (cc ho hd hf (bi (zAl (bm ?_)))));dsimp only;have mk:∀(f:Value) (z:Shared),z.heap.get? a=some o->(∀(R:Value->Shared->Prop),R (.ref z.heap.objs.size) { z with heap:=z.heap.push (yY f 0 a es.size ep) }->wpAny (model prog w) A.in1 (do let e <-setEpoch a;let r <-newFields "set_iterator" [f,rawInt 0,.ref a,rawInt es.size,rawInt e];ret r) (fun fin s'=>∃ v,fin=.done (.ret v)/\R v s') E z):=fun f z hz R hR =>
  bi (wpAny_setEpoch_of hz hd hf (bi (bS (bm ⟨_,rfl,hR⟩))))
 have sx:∀ h1:Heap,h1.get? a=some o->Sx h1 a es ep t:=fun h1 e=>⟨o,e,hex,hd⟩
 have ky:es.toList.map kyI=(es.toList.map (·.2)).map numOf:=by rw[dD];rfl
 have tabs:∀(sl:Nat->Nat) (xs:List Value),sl 0=0->Tells prog w a es ep t sl xs->xs.Perm (es.toList.map (·.2))->∃ v,True/\(Q (.ref s.heap.objs.size) { s with heap:=s.heap.push (yY (rawInt 0) 0 a es.size ep) }):=fun sl xs h0 T pm=>by
  have hx:xs.length=es.size:=by rw[pm.length_eq];simp
  have hvx:∀ v∈xs,∃ k u,v=.int k u:=fun v hm=>by
   obtain⟨e,he,rfl⟩:=bF.mp (pm.mem_iff.mp hm);exact hv e he
  refine⟨(),trivial,h (s.heap.push (yY (rawInt 0) 0 a es.size ep)) s.drawn s.heap.objs.size [s.heap.objs.size,a] (fun i h=>h.get? s.heap.objs.size=some (yY (rawInt (sl i)) i a es.size ep)/\Sx h a es ep t) (fun i=>numOf (xs.getD i .none)) (fun b o e=>bn _ e) (fun b hb=>?_) (bE _) (fun B hB=>by rw[hlen];exact zLu hB T hf hx (bO la) hvx) ⟨?_,sx _ (bn _ ho)⟩ ?_⟩
  ·simp only[ce,eu,or_false] at hb
   rcases hb with e | e
   ·exact .inr (Nat.le_of_eq e.symm)
   ·exact .inl e
  ·rw[h0];exact bB _ rfl
  ·rw[hlen,<-hx,zFZ,ky]
   exact pm.map _
 have fin1:∀(sl:Nat->Nat) (xs:List Value),sl 0=0->Tells prog w a es ep t sl xs->xs.Perm (es.toList.map (·.2))->wpAny (model prog w) A.in1 (do let e <-setEpoch a;let r <-newFields "set_iterator" [rawInt 0,rawInt 0,.ref a,rawInt es.size,rawInt e];ret r) (fun fin s'=>∃ v,fin=.done (.ret v)/\∃ T' r,s'.TypeIs v T'/\typeLookup (.type T') "__next__"=pure (some r)/\Q v s') E s:=fun sl xs h0 T pm=>by
  obtain⟨u0,u0,q⟩:=tabs sl xs h0 T pm;exact mk (rawInt 0) s ho _ ⟨"set_iterator",_,⟨_,bB _ rfl,rfl⟩,yQ.lookup,q⟩
 cases bt:w.params.followText "set-order" with
 | true =>
  rw[if_neg (by simp)];refine fin1 (fun u0=>0) _ rfl (zCR hf bt) ?_;exact(zA0 (w.params.setOrder a ep) es).map _
 | false =>
  rw[bt] at hl;by_cases hp:(!t.plain&&decide (es.size>1))=true
  ·refine cN (fun u0=>?_) (fun q=>absurd (show(!false&&(!t.plain&&decide (es.size>1)))=true by rw[hp];rfl) q)
   refine bi (zEb es.size (bz es.size) s _ (by simp) fun od d hod=>?_);refine bi (wpAny_newTuple ?_ (by rw[bA,hod.length_eq,ck,sizeLine_eq];unfold scanBound at hb;omega));have hT0:(s.heap.push { cls:=.type "tuple",data:=.seq (od.map fun(k:Nat)=>rawInt k).toArray }).get? a=some o:=bn _ ho;refine mk (.ref s.heap.objs.size) { s with drawn:=d,heap:=s.heap.push { cls:=.type "tuple",data:=.seq (od.map fun(k:Nat)=>rawInt k).toArray } } hT0 _ ⟨"set_iterator",_,⟨_,bB _ rfl,rfl⟩,yQ.lookup,?_⟩;have sz:(s.heap.push { cls:=.type "tuple",data:=.seq (od.map fun(k:Nat)=>rawInt k).toArray }).objs.size=s.heap.objs.size+1:=dH ..;refine h ((s.heap.push { cls:=.type "tuple",data:=.seq (od.map fun(k:Nat)=>rawInt k).toArray }).push (yY (.ref s.heap.objs.size) 0 a es.size ep)) d _ [(s.heap.push { cls:=.type "tuple",data:=.seq (od.map fun(k:Nat)=>rawInt k).toArray }).objs.size,a,s.heap.objs.size] (fun i h=>h.get? (s.heap.push { cls:=.type "tuple",data:=.seq (od.map fun(k:Nat)=>rawInt k).toArray }).objs.size=some (yY (.ref s.heap.objs.size) i a es.size ep)/\Sx h a es ep t/\h.get? s.heap.objs.size=some { cls:=.type "tuple",data:=.seq (od.map fun(k:Nat)=>rawInt k).toArray }) (fun i=>numOf ((od.map fun k=>(es.getD k (0,.none)).2).getD i .none)) (fun b o e=>bn _ (bn _ e)) (fun b hb=>?_) (by rw[sz];exact eJ _)
    (fun B hB=>by rw[hlen];exact zLv hB hf hod (by rw[sz];exact bO (Nat.lt_succ_of_lt la)) (by rw[sz];exact bO (Nat.lt_succ_self _)) hv) ⟨bB _ rfl,sx _ (bn _ hT0),bn _ (bB _ rfl)⟩ ?_
   ·simp only[ce,eu,or_false] at hb
    rcases hb with e | e | e
    ·rw[sz] at e;exact .inr (by rw[e];exact eJ _)
    ·exact .inl e
    ·exact .inr (Nat.le_of_eq e.symm)
   ·have l2:(od.map fun k=>(es.getD k (0,.none)).2).length=es.size:=by rw[bA,hod.length_eq];simp
    rw[hlen,<-l2,zFZ,ky];refine dS.map _ ?_;refine(hod.map _).trans (.of_eq ?_);refine eY (by simp) fun i h1 h2=>?_;have:i<es.size:=by simpa using h1
    simp[dM,this]
  ·refine cN (fun q=>absurd (show(!false&&(!t.plain&&decide (es.size>1)))=true from q) (by intro z;exact hp (by simpa using z))) (fun u0=>?_)
   refine fin1 (fun i=>if i=0 then 0 else t.place.getD (i-1) 0+1) _ rfl (zBf hf hr bt (by simpa using hl) (by simpa using hp)) (.refl _)
theorem zCx{a:Addr}{o:Obj}{Q:Bool->Shared->Prop}(ho:s.heap.get? a=some o)(hc:o.cls=.type "set")(h:Q false s):wpAny (model prog w) A (Builtin.List.listLengthHint (.ref a)) Q E s:=by
 unfold Builtin.List.listLengthHint;refine bi (db ⟨o,ho,hc⟩ F.slot_set_len.lookup ?_);generalize hid:("set.__len__":String)=id0
 wp_delta
 rw[show splitId id0=some ("set","__len__") from by subst hid;decide +kernel];subst hid;refine bi (cS (T:="set") (b:=true) ⟨o,ho,hc⟩ (by rw[isSubtype_type];kernel_rfl) ?_);refine cN (fun hab=>absurd hab (by decide)) (fun u0=>?_);refine cN (fun u0=>?_) (fun hab=>absurd (by decide +kernel) hab);exact bi (dC (T:="set") ⟨o,ho,hc⟩ (bm h))
theorem zIP{R:Result->Shared->Prop}{a:Addr}{ks:List Int}(hh:A.handled=none)(hS:SI prog w s.heap a ks)(hlen:ks.length<=1000)(L:Addr)(res:Value)(c0:Nat)(hL:s.heap.get? L=some { cls:=.type "list",data:=.seq #[] c0 })
  (hR:∀ h' d tk acc c (val:Nat->Int),(∀ b o,b≠L->s.heap.get? b=some o->h'.get? b=some o)->h'.get? L=some { cls:=.type "list",dict:=none,data:=.seq acc c,slots:=#[] }->ItemsOf (PvI val) acc ks.length->((bz ks.length).map val).Perm ks->R (.ok (.ret res)) { s with heap:=h',drawn:=d,toks:=tk }) :
  wpAny (model prog w) A.in1 (Builtin.List.listExtendWith (.ref L) (.ref a) res)
   (fun fin s'=>match fin with | .done f=>R (.ok f) s' | .again c'=>c'.quiet=true/\codeAny (model prog w) A c' R s') (fun e s'=>R (.error e) s') s:=by
 obtain⟨o,es,ep,t,ho,hex,hrest⟩:=id hS;have La:L≠a:=fun e=>by rw[e,ho] at hL;cases hL;have:=hex.1;simp at this
 have lL:L<s.heap.objs.size:=bC hL;unfold Builtin.List.listExtendWith;refine bi (dC (T:="set") ⟨o,ho,hex.1⟩ ?_);have h1:Builtin.List.listSameRef (.ref L) (.ref a)=false:=by simp[Builtin.List.listSameRef,La]
 have h2:(Value.type "set"==Value.type "list")=false:=by decide
 have h3:(Value.type "set"==Value.type "tuple")=false:=by decide
 simp only[h1,h2,h3,Bool.or_false,bj,if_false];refine bi (zLw hS fun g d it fp St val kp hfp hit W st pm=>?_);have hSf:L∉fp:=fun q=>by
  rcases hfp L q with e | e
  ·exact La e
  ·exact absurd lL (Nat.not_lt.mpr e)
 have W1:=(W A.in1 (by simpa using hh)).toS;refine bi (bZ (zCx (s:={ s with heap:=g,drawn:=d }) (kp a o ho) hex.1 ?_));have hL1:=kp L _ hL;refine cN (fun u0=>?_) (fun q=>absurd (by decide +kernel) q);refine bi (dF (bi ?_));show wpAny _ _ (updateSeq L (·.push .none)>>=fun u0=>updateSeq L (·.pop)) _ _ _;refine bi (fh hL1 rfl ?_);have hL2:=cD (Obj.mapSeq (·.push Value.none)) hL1 rfl;refine fh (hz:=by seq_fits) hL2 rfl ?_;have hL3:=cD (Obj.mapSeq (·.pop)) hL2 rfl;refine bm ⟨plainId_quiet F.plain_extend_loop _,?_⟩;have old:∀ b ob,b≠L->g.get? b=some ob->((g.update L (Obj.mapSeq (·.push Value.none))).update L (Obj.mapSeq (·.pop))).get? b=some ob:=fun b ob hb e=>by
  rw[cM _ _ _ _ hb,cM _ _ _ _ hb];exact e
 refine codeAny_extend_loopS W1 (by rw[sizeLine_eq];omega) L hSf res ks.length 0 _ #[] _ rfl (cg _) ?_ hL3 (ItemsOf.nil _) fun s' acc c hm hL' hacc=>?_
 ·exact(W A.in1 (by simpa using hh)).frame 0 _ _ st fun b hb ob e=>old b ob (fun z=>hSf (by rw[<-z];exact hb)) e
 ·rw[Moved.eq_with hm]
  refine hR s'.heap d s'.toks acc c val (fun b ob hb e=>hm.heap b ob (fun hmem=>?_) (old b ob hb (kp b ob e))) hL' hacc pm;rcases ce.mp hmem with e' | hmem
  ·exact hb e'
  ·exact absurd (bC e) (by rw[bG.mp hmem];exact Nat.not_lt.mpr hit)
theorem zNy{acc:Array Value}{n:Nat}{val:Nat->Int}(h:ItemsOf (PvI val) acc n):IntsAre acc.toList ((bz n).map val):=by
 have e:acc.toList.map numOf=(bz n).map val:=by
  refine eY (by simp[h.1]) fun i h1 h2=>?_;have hi:i<acc.size:=by simpa using h1
  obtain⟨u,hu⟩:=h.2 i acc[i] (getElem?_pos acc i hi);simp only[List.getElem_map,Array.getElem_toList,List.getElem_range];rw[hu];rfl
 rw[<-e];refine intsAre_map _ fun v hv=>?_;obtain⟨i,hi,rfl⟩:=List.mem_iff_getElem.mp hv;have hi':i<acc.size:=by simpa using hi
 obtain⟨u,hu⟩:=h.2 i acc[i] (getElem?_pos acc i hi');exact⟨_,u,by simpa using hu⟩
theorem zHK{a:Addr}{ks:List Int}{Q:List Value->Shared->Prop}(hh:A.handled=none)(hS:SI prog w s.heap a ks)(hlen:ks.length<=1000)
  (hQ:∀ h' d tk vs ns,(∀ b o,s.heap.get? b=some o->h'.get? b=some o)->s.heap.objs.size<=h'.objs.size->IntsAre vs ns->ns.Perm ks->Q vs { s with heap:=h',drawn:=d,toks:=tk }):wpAny (model prog w) A (collect (.ref a)) Q E s:=by
 unfold collect;refine bi (e8 (cf PySem.F.entry_proto_collect ?_));rw[Around.under_plainId PySem.F.plain_proto_collect _];show wpAny _ A.in1 (newList []>>=fun l=>again (.builtin "list.__iadd__" ⟨[l,.ref a],[]⟩)) _ _ s;refine bi (bS (bm ⟨plainId_quiet PySem.F.plain_list_iadd _,cf PySem.F.entry_list_iadd ?_⟩));rw[Around.under_plainId PySem.F.plain_list_iadd _];show wpAny _ A.in1 (Builtin.List.listExtendWith (.ref s.heap.objs.size) (.ref a) (.ref s.heap.objs.size)) _ _ _;have hL:(s.heap.push { cls:=.type "list",data:=.seq ([]:List Value).toArray }).get? s.heap.objs.size=some { cls:=.type "list",data:=.seq #[] 0 }:=bB _ rfl;let Pst:Result->Shared->Prop:=fun res s'=>∃(h':Heap) (d:Drawn) (tk:Nat) (acc:Array Value) (c:Nat) (val:Nat->Int),res=.ok (.ret (.ref s.heap.objs.size))/\s'={ s with heap:=h',drawn:=d,toks:=tk }/\(∀ b o,s.heap.get? b=some o->h'.get? b=some o)/\h'.get? s.heap.objs.size=some { cls:=.type "list",dict:=none,data:=.seq acc c,slots:=#[] }/\ItemsOf (PvI val) acc ks.length/\((bz ks.length).map val).Perm ks;refine eN (zIP (A:=A) (R:=Pst) (s:={ s with heap:=s.heap.push { cls:=.type "list",data:=.seq ([]:List Value).toArray } }) hh (hS.keep fun o e=>bn _ e) hlen s.heap.objs.size (.ref s.heap.objs.size) 0 hL fun h' d tk acc c val kp q1 q2 q3=>?_) (fun fin s' h=>?_) (fun e s' h=>?_)
 ·exact⟨h',d,tk,acc,c,val,rfl,rfl,fun b o e=>kp b o (bO (bC e)) (bn _ e),q1,q2,q3⟩
 ·have fin':∀ {r' s''},Pst r' s''->wpAny (model prog w) A (match Value.ref s.heap.objs.size with
     | Value.ref a=>do
      match (<-load a).data with
       | Data.seq xs _=>pure xs.toList
       | _=>unsupported "internal:collect"
     | _=>unsupported "internal:collect") Q E s'':=by
   rintro r' s'' ⟨h',d,tk,acc,c,val,rfl,rfl,kp,q1,q2,q3⟩;show wpAny _ A (load s.heap.objs.size>>=_) _ _ _;exact bi (wpAny_load q1 (bm (hQ h' d tk _ _ kp (cH (bC q1)) (zNy q2) q3)))
  cases fin with
  | done f =>
   have hf:=h;obtain⟨h',d,tk,acc,c,val,e,u0⟩:=h;cases e;exact fin' hf
  | again c'=>exact⟨h.1,cR h.2 fun r s'' hr=>by
    have hf:=hr;obtain⟨h',d,tk,acc,c,val,e,u0⟩:=hr;subst e;exact fin' hf⟩
 ·obtain⟨u0,u0,u0,u0,u0,u0,e,u0⟩:=h
  cases e
theorem zIQ{a:Addr}{ks:List Int}{Q:Value->Shared->Prop}(hh:A.handled=none)(hS:SI prog w s.heap a ks)(h64:ks.length<64)
  (h:∀ h' d tk l (out:Array Value) (ns':List Int) e,(∀ b o,s.heap.get? b=some o->h'.get? b=some o)->s.heap.objs.size<=l->h'.get? l=some (seqObj "list" out e)->IntsAre out.toList ns'->ns'.Perm ks->ns'.Pairwise (·<=·)->Q (.ref l) { s with heap:=h',drawn:=d,toks:=tk }) :
  wpAny (model prog w) A (call (.builtin "sorted") [.ref a]) Q E s:=by
 refine Calls.call_function_entry kind_sorted plain_sorted entry_sorted (args_sorted1 _) ?_;unfold Builtin.«sorted»;refine bi (m:=checkCount "sorted" 1 1 _) (bm (bi (zHK (by simpa using hh) hS (by omega) fun g d tk vs ns kp lg hI pm=>bi (wpAny_newList ?_ (by have:=hI.length;have:=pm.length_eq;rw[sizeLine_eq];omega)))));have lv:vs.length<64:=by have:=hI.length;have:=pm.length_eq;omega
 have hoL:(g.push (seqObj "list" vs.toArray 0)).get? g.objs.size=some (seqObj "list" vs.toArray 0):=bB _ rfl;show wpAny _ _ _ _ _ { s with heap:=g.push (seqObj "list" vs.toArray 0),drawn:=d,toks:=tk };refine bi (bZ (bT slot_list_sort ⟨_,hoL,rfl⟩ entry_list_sort (list_sort_tree (s:={ s with heap:=g.push (seqObj "list" vs.toArray 0),drawn:=d,toks:=tk }) hoL hI lv fun out ns' a1 a2 a3=>⟨_,rfl,bm ⟨_,rfl,?_⟩⟩) (args_list_sort _)));have at1:((g.push (seqObj "list" vs.toArray 0)).update g.objs.size (Obj.mapSeq fun u0=>#[])).get? g.objs.size=some (seqObj "list" #[] _):=get?_update_seq hoL (fun u0=>#[]);have at2:((((g.push (seqObj "list" vs.toArray 0)).update g.objs.size (Obj.mapSeq fun u0=>#[])).push (seqObj "tuple" vs.toArray 0)).push (seqObj "list" #[] 0)).get? g.objs.size=some (seqObj "list" #[] _):=bn _ (bn _ at1);refine h _ d tk g.objs.size out ns' _ (fun b o e=>?_) lg (get?_update_seq at2 (fun u0=>out)) a1 (a2.trans pm) a3;have hb:b≠g.objs.size:=bO (bC (kp b o e));unfold sortedHeap;rw[cM _ _ _ _ hb];exact bn _ (bn _ (by rw[cM _ _ _ _ hb];exact bn _ (kp b o e)))
end
end HI
namespace L2
open HI
variable {X:Cx} {e:Expr} {t:TA} {p p2 pos pos2:Pos}
theorem zU.drw{pins:List (Addr×Obj)}{σ:List (Option V)}{H:Hp}{s:Shared}(I:zU X pins σ H s)(d:Drawn):zU X pins σ H { s with drawn:=d }:=⟨I.ok,I.os,I.bare,I.base,I.loc,I.cell,I.free,I.freeC,I.pin,I.hok,I.len⟩
end L2
namespace L3
open L2
section
variable {X:Cx} {e:Expr} {p p2 pos pos2:Pos}
end
end L3
namespace HT2
open PySem
noncomputable abbrev Probe:=SetTable.Probe
noncomputable def adv(mask:Nat)(p:Probe):Probe :=
 if p.more>0 then { p with j:=p.j+1,more:=p.more-1 } else
 { p with j:=(dg mask p.i p.perturb).1,more:=cx mask (dg mask p.i p.perturb).1-(dg mask p.i p.perturb).1,i:=(dg mask p.i p.perturb).1,perturb:=(dg mask p.i p.perturb).2 }
theorem zEd(t:SetTable)(p:Probe):t.advance p=adv t.mask p:=by
 unfold SetTable.advance adv;split<;>rfl
theorem zKI(mask:Nat)(p:Probe)(d:Option Nat):adv mask { p with dummy:=d }={ adv mask p with dummy:=d }:=by
 unfold adv;split<;>rfl
noncomputable def yo(mask:Nat)(h:Int):Nat->Probe
 | 0=>{ j:=cq h%(mask+1),more:=cx mask (cq h%(mask+1))-cq h%(mask+1),i:=cq h%(mask+1),perturb:=cq h,dummy:=none }
 | n+1=>adv mask (yo mask h n)
noncomputable def lp(mask:Nat)(h:Int):Nat->Nat×Nat
 | 0=>(cq h%(mask+1),cq h)
 | n+1=>dg mask (lp mask h n).1 (lp mask h n).2
theorem zQE(mask i:Nat):cx mask i-i<=9:=by
 unfold cx;split<;>omega
section
variable {mask:Nat} {h:Int}
theorem zDr{n i r q:Nat}(e:yo mask h n=⟨i,r,i,q,none⟩):∀ m,m<=r->yo mask h (n+m)=⟨i+m,r-m,i,q,none⟩
 | 0,_=>by simpa using e
 | m+1,hm=>by
  have:=zDr e m (by omega);show adv mask (yo mask h (n+m))=_;rw[this];unfold adv;rw[if_pos (show r-m>0 by omega)];simp only[SetTable.Probe.mk.injEq,and_true];omega
theorem zLx:∀ k,∃ n,n<=10*k/\yo mask h n=⟨(lp mask h k).1,cx mask (lp mask h k).1-(lp mask h k).1,(lp mask h k).1,(lp mask h k).2,none⟩
 | 0=>⟨0,bE _,rfl⟩
 | k+1=>by
  obtain⟨n,hn,e⟩:=zLx k;have hr:=zQE mask (lp mask h k).1;have:=zDr e _ (bE _);refine⟨n+(cx mask (lp mask h k).1-(lp mask h k).1)+1,by omega,?_⟩;show adv mask (yo mask h _)=_;rw[this];unfold adv;rw[if_neg (by simp)];rfl
theorem zLy:∀ k,(lp mask h k).2=cq h / 32 ^ k
 | 0=>by simp[lp]
 | k+1=>by
  show(dg mask (lp mask h k).1 (lp mask h k).2).2=_;unfold dg;simp only;rw[zLy k,Nat.div_div_eq_div_mul,Nat.pow_succ]
theorem zNz:cq h<2 ^ 64:=by
 unfold cq;have h1:=Int.emod_lt_of_pos h (show(0:Int)<2 ^ 64 by decide);have h2:=Int.emod_nonneg h (show(2 ^ 64:Int)≠0 by decide);omega
theorem zSK{k:Nat}(hk:13<=k):(lp mask h k).2=0:=by
 rw[zLy];apply Nat.div_eq_of_lt;have h1:=zNz (h:=h);have h2:32 ^ 13<=32 ^ k:=Nat.pow_le_pow_right (by omega) hk;have h3:(2:Nat) ^ 64<=32 ^ 13:=by decide
 omega
noncomputable def fM(M x:Nat):Nat:=(x*5+1)%M
noncomputable def itr(M:Nat):Nat->Nat->Nat
 | 0,x=>x
 | m+1,x=>fM M (itr M m x)
theorem zDs(M:Nat)(a:Nat):∀ b x,itr M (a+b) x=itr M a (itr M b x):=by
 induction a with
 | zero=>intro b x;simp[itr]
 | succ a ih=>intro b x;rw[Nat.add_right_comm];show fM M _=fM M _;rw[ih]
theorem zLz:∀ m,(lp mask h (13+m)).1=itr (mask+1) m (lp mask h 13).1
 | 0=>rfl
 | m+1=>by
  show(dg mask (lp mask h (13+m)).1 (lp mask h (13+m)).2).1=fM _ _;unfold dg fM;simp only;rw[zSK (by omega),zLz m]
theorem zRS(k:Nat):(lp mask h k).1<mask+1:=by
 cases k with
 | zero=>exact Nat.mod_lt _ (by omega)
 | succ k=>exact Nat.mod_lt _ (by omega)
end
noncomputable def Cyc(M:Nat):Prop:=∀ i,i<M->∀ j,j<M->∃ m,m<M/\itr M m i=j
noncomputable def orb(M:Nat):Nat->Nat->List Nat
 | 0,_=>[]
 | n+1,x=>x::orb M n (fM M x)
theorem zKJ(M:Nat)(m x:Nat):itr M (m+1) x=itr M m (fM M x):=by
 have:=zDs M m 1 x;simpa[itr] using this
theorem zJH{M:Nat}:∀ {n x j:Nat},j∈orb M n x->∃ m,m<n/\itr M m x=j
 | 0,_,_,h=>by cases h
 | n+1,x,j,h=>by
  rcases ce.mp h with rfl | h
  ·exact⟨0,by omega,rfl⟩
  ·obtain⟨m,hm,e⟩:=zJH h
   exact⟨m+1,by omega,by rw[zKJ];exact e⟩
theorem zDL{M:Nat}(hall:((bz M).all fun j=>(orb M M 0).contains j)=true)(hM:itr M M 0=0):Cyc M:=by
 have at0:∀ j,j<M->∃ m,m<M/\itr M m 0=j:=fun j hj=>by
  have:=eZ.mp hall j (bV.mpr hj);exact zJH (by simpa using this)
 intro i hi j hj;obtain⟨a,ha,rfl⟩:=at0 i hi;obtain⟨b,hb,rfl⟩:=at0 j hj;rcases cC b a with hab | hab
 ·refine⟨M+b-a,by omega,?_⟩
  rw[<-zDs,show M+b-a+a=b+M by omega,zDs,hM]
 ·refine⟨b-a,by omega,?_⟩
  rw[<-zDs,show b-a+a=b by omega]
theorem zSL:Cyc 8:=zDL (by decide +kernel) (by decide +kernel)
theorem zRT:Cyc 16:=zDL (by decide +kernel) (by decide +kernel)
theorem zRU:Cyc 32:=zDL (by decide +kernel) (by decide +kernel)
theorem zRV:Cyc 64:=zDL (by decide +kernel) (by decide +kernel)
theorem zQF:Cyc 128:=zDL (by decide +kernel) (by decide +kernel)
theorem zQG:Cyc 256:=zDL (by decide +kernel) (by decide +kernel)
noncomputable def Msk(mask:Nat):Prop:=mask=7\/mask=15\/mask=31\/mask=63\/mask=127\/mask=255
theorem Msk.cyc{mask:Nat}(h:Msk mask):Cyc (mask+1):=by
 rcases h with rfl | rfl | rfl | rfl | rfl | rfl
 ·exact zSL
 ·exact zRT
 ·exact zRU
 ·exact zRV
 ·exact zQF
 ·exact zQG
theorem Msk.odd{mask:Nat}(h:Msk mask):(mask%2==0)=false:=by rcases h with rfl | rfl | rfl | rfl | rfl | rfl<;>rfl
theorem heads{mask:Nat}{h:Int}(hm:Cyc (mask+1)){j:Nat}(hj:j<=mask):∃ k,k<=13+mask/\(lp mask h k).1=j:=by
 obtain⟨m,h1,h2⟩:=hm (lp mask h 13).1 (zRS 13) j (by omega);exact⟨13+m,by omega,by rw[zLz];exact h2⟩
theorem zQH{mask:Nat}{h:Int}(hm:Cyc (mask+1)){j:Nat}(hj:j<=mask):∃ n,n<=10*(13+mask)/\(yo mask h n).j=j:=by
 obtain⟨k,h1,h2⟩:=heads (h:=h) hm hj;obtain⟨n,h3,h4⟩:=zLx (mask:=mask) (h:=h) k;exact⟨n,by omega,by rw[h4];exact h2⟩
open HI (Ris)
noncomputable def Ent(t:SetTable)(es:Array (Int×Value))(j:Nat)(h:Int)(x:Value):Prop:=∃ i:Nat,t.place[i]?=some j/\es[i]?=some (h,x)
noncomputable def zDM(t:SetTable)(j:Nat):Prop:=t.slot j≠.empty
theorem zHL{xs:Array Nat}(hr:Ris xs){i j:Nat}(e:xs[i]?=some j):bI xs j=i:=by
 obtain⟨b1,b2⟩:=HI.zEX (j:=j) hr;obtain⟨hi,e⟩:=cU.mp e;rcases Nat.lt_trichotomy (bI xs j) i with z | z | z
 ·have h1:=b2 (bI xs j) (by omega) (bE _)
  have h2:=hr.lt z hi;omega
 ·exact z
 ·have:=b1 i hi z
  omega
theorem zFa{t:SetTable}(hr:Ris t.place){i j:Nat}(e:t.place[i]?=some j):t.slot j=.live i:=by
 unfold SetTable.slot;simp only;rw[zHL hr e,e];simp
theorem zN0{t:SetTable}{i j:Nat}(e:t.slot j=.live i):t.place[i]?=some j:=by
 unfold SetTable.slot at e;simp only at e;split at e
 ·rename_i q
  cases e;simpa using q
 ·split at e<;>cases e
theorem zGO{xs:Array Nat}(hr:Ris xs){j:Nat}:dI xs j=true↔j∈xs:=by
 unfold dI;constructor
 ·intro q
  have q:xs[bI xs j]?=some j:=by simpa using q
  exact Array.mem_of_getElem? q
 ·intro q
  obtain⟨i,hi,e⟩:=Array.getElem_of_mem q;have e':xs[i]?=some j:=by simp[hi,e]
  rw[zHL hr e',e'];simp
theorem zA1{t:SetTable}(hr:Ris t.place)(hd:Ris t.dummies){j:Nat}:zDM t j↔j∈t.place\/j∈t.dummies:=by
 unfold zDM;constructor
 ·intro q
  unfold SetTable.slot at q;simp only at q;split at q
  ·rename_i z
   exact .inl (Array.mem_of_getElem? (by simpa using z))
  ·split at q
   ·rename_i z
    exact .inr ((zGO hd).mp z)
   ·exact(q rfl).elim
 ·rintro(q | q) z
  ·obtain⟨i,hi,e⟩:=Array.getElem_of_mem q
   rw[zFa hr (i:=i) (by simp[hi,e])] at z;cases z
  ·unfold SetTable.slot at z
   simp only at z;split at z
   ·cases z
   ·rw[if_pos ((zGO hd).mpr q)] at z
    cases z
structure Tab (t:SetTable) (es:Array (Int×Value)):Prop where
 msk:Msk t.mask
 size:t.place.size=es.size
 ris:Ris t.place
 risD:Ris t.dummies
 le:∀ j∈t.place,j<=t.mask
 leD:∀ j∈t.dummies,j<=t.mask
 room:t.fill<=t.mask
 way:∀ j h x,Ent t es j h x->∃ n,(yo t.mask h n).j=j/\∀ m,m<n->zDM t (yo t.mask h m).j
 dis:∀ j∈t.dummies,j∉t.place
theorem zHM{P:Nat->Prop}[DecidablePred P]{M:Nat}{l:List Nat}(h:∀ j,j<M->P j->j∈l)(hl:l.length<M):∃ j,j<M/\¬ P j:=by
 by_cases q:∃ j,j<M/\¬ P j
 ·exact q
 ·have hs:bz M ⊆ l:=fun j hj=>by
   have hj:=bV.mp hj;by_cases z:P j
   ·exact h j hj z
   ·exact(q ⟨j,hj,z⟩).elim
  have:=eR.length_le_of_subset eA hs;simp at this;omega
theorem Tab.free{t:SetTable}{es:Array (Int×Value)}(T:Tab t es):∃ j,j<=t.mask/\t.slot j=.empty:=by
 have:=zHM (P:=fun j=>t.slot j≠.empty) (M:=t.mask+1) (l:=t.place.toList++t.dummies.toList) (fun j u0 q=>by
  rcases(zA1 T.ris T.risD).mp q with z | z
  ·exact cy _ (by simpa using z)
  ·exact ci _ (by simpa using z)) (by
  have:=T.room;unfold SetTable.fill at this;simp;omega)
 obtain⟨j,h1,h2⟩:=this;exact⟨j,by omega,Decidable.not_not.mp h2⟩
theorem Tab.stop{t:SetTable}{es:Array (Int×Value)}(T:Tab t es)(h:Int):∃ N,N<=10*(13+t.mask)/\t.slot (yo t.mask h N).j=.empty/\∀ m,m<N->zDM t (yo t.mask h m).j:=by
 obtain⟨j,hj,he⟩:=T.free;obtain⟨n,hn,e⟩:=zQH (h:=h) T.msk.cyc hj;have:∀ n,t.slot (yo t.mask h n).j=.empty->∃ N,N<=n/\t.slot (yo t.mask h N).j=.empty/\∀ m,m<N->zDM t (yo t.mask h m).j:=by
  intro n
  induction n using Nat.strongRecOn with
  | ind n ih =>
   intro q;by_cases z:∃ m,m<n/\t.slot (yo t.mask h m).j=.empty
   ·obtain⟨m,hm,q'⟩:=z
    obtain⟨N,h1,h2⟩:=ih m hm q';exact⟨N,by omega,h2⟩
   ·exact⟨n,bE _,q,fun m hm q'=>z ⟨m,hm,q'⟩⟩
 obtain⟨N,h1,h2,h3⟩:=this n (by rw[e];exact he);exact⟨N,by omega,h2,h3⟩
open HI (Ris)
noncomputable abbrev At(mask:Nat)(h:Int)(n:Nat)(d:Option Nat):Probe:={ yo mask h n with dummy:=d }
theorem At.adv{mask:Nat}{h:Int}{n:Nat}{d:Option Nat}:adv mask (At mask h n d)=At mask h (n+1) d:=zKI mask (yo mask h n) d
noncomputable def zFb(t:SetTable)(h:Int)(N:Nat)(d:Option Nat):Prop:=∀ j,d=some j->t.slot j=.dummy/\∃ m,m<N/\(yo t.mask h m).j=j
theorem zL0{t:SetTable}{f:Nat->Int}{h:Int}{n fuel:Nat}{d:Option Nat}(hs:t.slot (yo t.mask h n).j=.empty):cX.go t f h (fuel+1) (At t.mask h n d)=some (.empty (yo t.mask h n).j d):=by
 rw[cX.go];simp only[hs]
theorem zL1{t:SetTable}{f:Nat->Int}{h:Int}{n fuel:Nat}{d:Option Nat}(hs:t.slot (yo t.mask h n).j=.dummy):cX.go t f h (fuel+1) (At t.mask h n d)=cX.go t f h fuel (At t.mask h (n+1) (some (yo t.mask h n).j)):=by
 rw[cX.go];simp only[hs];rw[zEd];exact congrArg _ (At.adv (n:=n) (d:=some (yo t.mask h n).j))
theorem zN1{t:SetTable}{f:Nat->Int}{h:Int}{n fuel i:Nat}{d:Option Nat}(hs:t.slot (yo t.mask h n).j=.live i):cX.go t f h (fuel+1) (At t.mask h n d)=if f i=h then some (.candidate (yo t.mask h n).j i (At t.mask h (n+1) d)) else cX.go t f h fuel (At t.mask h (n+1) d):=by
 rw[cX.go];simp only[hs];have e:t.advance (At t.mask h n d)=At t.mask h (n+1) d:=by rw[zEd];exact At.adv
 rw[e];by_cases hh:f i=h
 ·rw[if_pos hh,if_pos (by simpa using hh)]
 ·rw[if_neg hh,if_neg (by simpa using hh)]
theorem zKK{t:SetTable}{f:Nat->Int}{h:Int}{N:Nat}(hN:t.slot (yo t.mask h N).j=.empty)(hF:∀ m,m<N->zDM t (yo t.mask h m).j) :
  ∀(k n fuel:Nat) (d:Option Nat),N-n=k->n<=N->k<fuel->zFb t h N d ->
   (∃ d',zFb t h N d'/\cX.go t f h fuel (At t.mask h n d)=some (.empty (yo t.mask h N).j d')/\∀ m,n<=m->m<N->∀ i,t.slot (yo t.mask h m).j=.live i->f i≠h) \/
   (∃ m i d',n<=m/\m<N/\zFb t h N d'/\t.slot (yo t.mask h m).j=.live i/\f i=h/\cX.go t f h fuel (At t.mask h n d)=some (.candidate (yo t.mask h m).j i (At t.mask h (m+1) d'))/\∀ m',n<=m'->m'<m->∀ i',t.slot (yo t.mask h m').j=.live i'->f i'≠h):=by
 intro k
 induction k with
 | zero =>
  intro n fuel d hk hn hf hd;obtain rfl:n=N:=by omega
  obtain⟨fuel,rfl⟩:∃ g,fuel=g+1:=⟨fuel-1,by omega⟩
  exact .inl ⟨d,hd,zL0 hN,fun m h1 h2=>by omega⟩
 | succ k ih =>
  intro n fuel d hk hn hf hd;have lt:n<N:=by omega
  obtain⟨fuel,rfl⟩:∃ g,fuel=g+1:=⟨fuel-1,by omega⟩
  have fl:=hF n lt;cases hs:t.slot (yo t.mask h n).j with
  | empty=>exact(fl hs).elim
  | dummy =>
   rw[zL1 hs];have hd':zFb t h N (some (yo t.mask h n).j):=fun j e=>by cases e;exact⟨hs,n,lt,rfl⟩
   rcases ih (n+1) fuel (some (yo t.mask h n).j) (by omega) (by omega) (by omega) hd' with ⟨d',a1,a2,a3⟩ | ⟨m,i,d',a1,a2,a3,a4,a5,a6,a7⟩
   ·refine .inl ⟨d',a1,a2,fun m h1 h2 i q=>?_⟩
    rcases eF h1 with z | z
    ·subst z;rw[hs] at q;cases q
    ·exact a3 m (by omega) h2 i q
   ·refine .inr ⟨m,i,d',by omega,a2,a3,a4,a5,a6,fun m' h1 h2 i' q=>?_⟩
    rcases eF h1 with z | z
    ·subst z;rw[hs] at q;cases q
    ·exact a7 m' (by omega) h2 i' q
  | live i0 =>
   rw[zN1 hs];by_cases hh:f i0=h
   ·exact .inr ⟨n,i0,d,bE _,lt,hd,hs,hh,if_pos hh,fun m' h1 h2=>by omega⟩
   ·rw[if_neg hh]
    rcases ih (n+1) fuel d (by omega) (by omega) (by omega) hd with ⟨d',a1,a2,a3⟩ | ⟨m,i,d',a1,a2,a3,a4,a5,a6,a7⟩
    ·refine .inl ⟨d',a1,a2,fun m h1 h2 i q=>?_⟩
     rcases eF h1 with z | z
     ·subst z;rw[hs] at q;cases q;exact hh
     ·exact a3 m (by omega) h2 i q
    ·refine .inr ⟨m,i,d',by omega,a2,a3,a4,a5,a6,fun m' h1 h2 i' q=>?_⟩
     rcases eF h1 with z | z
     ·subst z;rw[hs] at q;cases q;exact hh
     ·exact a7 m' (by omega) h2 i' q
end HT2
namespace HT2
open PySem PySem.Spec
open HI (Ris)
section
variable {prog:Program} {w:World} {P:Addr->Prop} {A:Around} {E:Value->Shared->Prop} {s:Shared}
noncomputable abbrev TK(prog:Program)(w:World)(P:Addr->Prop)(h:Heap)(ns:List Int)(b:Addr):Prop:=IsTupleKey (intKind prog w) h ns b/\P b
noncomputable abbrev hT(prog:Program)(w:World)(ns:List Int):Int:=tupleKeyHash (intKind prog w) ns
theorem zHN{ns:List Int}{vs:List Value}(h:ItemsAre (intKind prog w) ns vs):∀ v∈vs,∃ k t,v=.int k t:=by
 induction h with
 | nil=>intro v hv;cases hv
 | cons h1 _ ih =>
  intro v hv;rcases ce.mp hv with rfl | hv
  ·obtain⟨t,rfl⟩:=Value.isInt_shape h1;exact⟨_,_,rfl⟩
  ·exact ih v hv
theorem zL2{ns:List Int}{b:Addr}{Q:Bool->Shared->Prop}(hb:TK prog w P s.heap ns b)(h:Q false s):wpAny (model prog w) A (ofAClassStatement 8 (.ref b)) Q E s:=by
 obtain⟨o,its,n,ho,hc,hd,hi⟩:=hb.1;unfold ofAClassStatement;refine bi (dC hb.1.typeIs ?_);simp only[beq_self_eq_true,↓reduceIte,pure_bind,dB,bj];refine bi (wpAny_seqItems ho hd ?_);simp only;refine bi ?_;rw[<-Array.forIn_toList];refine dX _ (fun rest r s'=>r.1=none/\s'=s/\∀ v∈rest,∃ k t,v=Value.int k t) _ ?_ ?_ _ _ ⟨rfl,rfl,zHN hi⟩
 ·rintro v rest r s' ⟨hr,rfl,hall⟩
  obtain⟨k,t,rfl⟩:=hall v bU;unfold ofAClassStatement;refine bi (bm ?_);simp only[bj,if_false];exact bm ⟨rfl,rfl,fun u hu'=>hall u (bN _ hu')⟩
 ·rintro⟨r1,r2⟩ s' ⟨hr,rfl,u0⟩
  simp only at hr;subst hr;exact bm h
theorem zL3{ns:List Int}{b:Addr}{Q:Bool->Shared->Prop}(hb:TK prog w P s.heap ns b)(h:Q true s):wpAny (model prog w) A (hashByValue 8 (.ref b)) Q E s:=by
 obtain⟨o,its,n,ho,hc,hd,hi⟩:=hb.1;unfold hashByValue;refine bi (db hb.1.typeIs F.slot_tuple_hash.lookup ?_);simp only;refine bi (wpAny_seqItems ho hd ?_);simp only[Option.getD_some];refine bi ?_;rw[<-Array.forIn_toList];refine dX _ (fun rest r s'=>r.1=none/\s'=s/\∀ v∈rest,∃ k t,v=Value.int k t) _ ?_ ?_ _ _ ⟨rfl,rfl,zHN hi⟩
 ·rintro v rest r s' ⟨hr,rfl,hall⟩
  obtain⟨k,t,rfl⟩:=hall v bU;unfold hashByValue;refine bi (bm ?_);simp only[dB,bj,if_false];exact bm ⟨rfl,rfl,fun u hu'=>hall u (bN _ hu')⟩
 ·rintro⟨r1,r2⟩ s' ⟨hr,rfl,u0⟩
  simp only at hr;subst hr;exact bm h
theorem zN2{ns:List Int}{b:Addr}{l:List Value}{Q:Bool->Shared->Prop}(hb:TK prog w P s.heap ns b)(hl:∀ v∈l,∃ c ms,v=.ref c/\TK prog w P s.heap ms c)(h:Q false s):wpAny (model prog w) A (searchCouldBeSeen (.ref b) l) Q E s:=by
 unfold searchCouldBeSeen;refine bi ?_;refine dX _ (fun rest r s'=>r.1=none/\s'=s/\∀ v∈rest,∃ c ms,v=Value.ref c/\TK prog w P s.heap ms c) _ ?_ ?_ _ _ ⟨rfl,rfl,hl⟩
 ·rintro v rest r s' ⟨hr,rfl,hall⟩
  obtain⟨c,ms,rfl,hc⟩:=hall v bU;have go:∀ u∈rest,∃ c ms,u=Value.ref c/\TK prog w P s'.heap ms c:=fun u hu'=>hall u (bN _ hu');dsimp only;by_cases e:(b==c)=true
  ·rw[if_pos (by simp[e])]
   exact bm ⟨rfl,rfl,go⟩
  ·rw[if_neg (by simp[e,carriedByValue])]
   refine bi ((tupleKind (intKind prog w)).quiet (k:=ns) hb.1 ?_);simp only[dB,bj,if_false];refine bi ((tupleKind (intKind prog w)).quiet (k:=ms) hc.1 ?_);simp only[dB,bj,if_false];refine bi (zL2 hb ?_);simp only[bj,if_false];refine bi (zL2 hc ?_);simp only[bj,if_false];exact bm ⟨rfl,rfl,go⟩
 ·rintro⟨r1,r2⟩ s' ⟨hr,rfl,u0⟩
  simp only at hr;subst hr;exact bm h
noncomputable def OkT(prog:Program)(w:World)(P:Addr->Prop)(h:Heap)(es:Array (Int×Value)):Prop:=∀(i:Nat) (e:Int×Value),es[i]?=some e->∃ c ms,e=(hT prog w ms,.ref c)/\TK prog w P h ms c
noncomputable def sf(es:Array (Int×Value))(i:Nat):Int:=(es[i]?.map (·.1)).getD 0
theorem zQI{b:Addr}{ns:List Int}{t:SetTable}{l:List Value}{K1 K2:Sem SetFound}{Q:SetFound->Shared->Prop}(hb:TK prog w P s.heap ns b)(hl:∀ v∈l,∃ c ms,v=.ref c/\TK prog w P s.heap ms c)(h:wpAny (model prog w) A K2 Q E s) :
  wpAny (model prog w) A (if (!t.led)=true then searchCouldBeSeen (.ref b) l>>=fun c=>if c=true then K1 else K2 else K2) Q E s:=by
 split
 ·refine bi (zN2 hb hl ?_)
  rw[if_neg (by simp)];exact h
 ·exact h
theorem zRW{a b:Addr}{ns:List Int}{o:Obj}{es:Array (Int×Value)}{ep:Nat}{t:SetTable}{adding:Bool}{Q:SetFound->Shared->Prop}(hA:A.units<cLine)(ho:s.heap.get? a=some o)(hd:o.data=.set es ep t)(T:Tab t es)(ok:OkT prog w P s.heap es)(hb:TK prog w P s.heap ns b)
  {N:Nat} (hNle:N<=10*(13+t.mask)) (hN:t.slot (yo t.mask (hT prog w ns) N).j=.empty) (hF:∀ m,m<N->zDM t (yo t.mask (hT prog w ns) m).j)
  (q1:∀(i:Nat) c,es[i]?=some (hT prog w ns,.ref c)->TK prog w P s.heap ns c->Q (.there (if adding then none else some i)) s)
  (q2:(∀(i:Nat) e c ms,es[i]?=some e->e.2=.ref c->TK prog w P s.heap ms c->ms≠ns)->∀ d,zFb t (hT prog w ns) N d->Q (.free (d.getD (yo t.mask (hT prog w ns) N).j) d.isSome) s) :
  ∀(k n fuel:Nat) (d:Option Nat) (stand:Option SetTable.Probe),N-n=k->n<=N->k<fuel->zFb t (hT prog w ns) N d->stand.getD (t.probeStart (hT prog w ns))=At t.mask (hT prog w ns) n d ->
   (∀ m,m<n->∀(i:Nat),t.slot (yo t.mask (hT prog w ns) m).j=.live i->∀ e c ms,es[i]?=some e->e.2=.ref c->TK prog w P s.heap ms c->ms≠ns)->wpAny (model prog w) A (setSearchFrom a (.ref b) (hT prog w ns) adding fuel stand) Q E s:=by
 have hft:t.fits es.size=true:=by
  unfold SetTable.fits;simp[T.size,T.room]
 have hgw:t.gaveWay=false:=T.msk.odd;intro k
 induction k using Nat.strongRecOn with
 | ind k ih =>
  intro n fuel d stand hk hn hf hdm hst hno;obtain⟨fuel,rfl⟩:∃ g,fuel=g+1:=⟨fuel-1,by omega⟩
  unfold setSearchFrom;refine bi (cc ho hd hft ?_);dsimp only;rw[hgw];simp only[bj,↓reduceIte];rw[hst];have met:=zKK (t:=t) (f:=sf es) (h:=hT prog w ns) hN hF (N-n) n (10*eX t.mask) d rfl hn (by
   unfold eX;omega) hdm
  generalize hp:cX t _ _ _=r;rcases met with ⟨d',a1,a2,a3⟩ | ⟨m,i,d',a1,a2,a3,a4,a5,a6,a7⟩
  ·have hr:r=some (.empty (yo t.mask (hT prog w ns) N).j d'):=hp.symm.trans a2
   subst hr;dsimp only;have none:∀(i:Nat) e c ms,es[i]?=some e->e.2=.ref c->TK prog w P s.heap ms c->ms≠ns:=by
    intro i e c ms e1 e2 e3 e4;subst e4;obtain⟨c',ms',z1,z2⟩:=ok i e e1;have:c'=c:=by rw[z1] at e2;cases e2;rfl
    subst this;have:=z2.1.inj e3.1;subst this;have hi:i<t.place.size:=by rw[T.size];exact(cU.mp e1).1
    have pl:t.place[i]?=some t.place[i]:=by simp[hi]
    obtain⟨n',w1,w2⟩:=T.way t.place[i] (hT prog w ms') (.ref c') ⟨i,pl,by rw[e1,z1]⟩;have sl:=zFa T.ris pl;have lt:n'<N:=by
     rcases Nat.lt_trichotomy n' N with z | z | z
     ·exact z
     ·subst z;rw[w1,sl] at hN;cases hN
     ·exact(w2 N z hN).elim
    rw[<-w1] at sl;rcases cC n' n with z | z
    ·exact hno n' z i sl e c' ms' e1 e2 e3 rfl
    ·refine a3 n' z lt i sl ?_
     unfold sf;rw[e1,z1];rfl
   cases d' with
   | none=>exact bm (q2 none Option.none a1)
   | some dj =>
    dsimp only;have hdj:=(a1 dj rfl).1;rw[if_neg (by simp[hdj])];exact bm (q2 none (some dj) a1)
  ·have hr:r=some (.candidate (yo t.mask (hT prog w ns) m).j i (At t.mask (hT prog w ns) (m+1) d')):=hp.symm.trans a6
   subst hr;dsimp only;have pl:=zN0 a4;have hi:i<es.size:=by rw[<-T.size];exact(cU.mp pl).1
   obtain⟨c,ms,z1,z2⟩:=ok i es[i] (by simp[hi]);have ei:es[i]?=some (hT prog w ms,.ref c):=by simp[hi,z1]
   have hseen:∀ v∈(Array.filter (fun x=>x.1==hT prog w ns) es).toList.map (fun x=>x.2),∃ c ms,v=.ref c/\TK prog w P s.heap ms c:=fun v hv=>by
    obtain⟨e,he,rfl⟩:=bF.mp hv;rw[Array.toList_filter] at he;obtain⟨i',hi',e'⟩:=dG (cF.mp he).1;obtain⟨c',ms',y1,y2⟩:=ok i' e (by rw[<-e'];simpa using hi');exact⟨c',ms',by rw[y1],y2⟩
   refine zQI hb hseen ?_;simp only[ei];refine bi (bZ ((tupleKind (intKind prog w)).eqBool (x:=ms) (y:=ns) hA z2.1 hb.1 ?_));refine bi (cc ho hd hft ?_);dsimp only;have sm:t.sameMemory t.moves t.mask=some true:=by
    unfold SetTable.sameMemory;simp
   by_cases e:ms=ns
   ·subst e
    cases adding with
    | true =>
     rw[if_pos (by simp)];exact bm (q1 i c ei z2)
    | false =>
     rw[if_neg (by simp),sm];simp only[↓reduceIte,a4,ei];refine bi (wpAny_isSame_ref_self ?_);simp only[↓reduceIte,pure_bind,decide_true];exact bm (q1 i c ei z2)
   ·rw[if_neg (by simp[e]),sm]
    simp only[↓reduceIte,a4,ei];refine bi (wpAny_isSame_ref_self ?_);simp only[↓reduceIte,pure_bind,decide_eq_true_eq,e];refine ih (N-(m+1)) (by omega) (m+1) fuel d' _ rfl (by omega) (by omega) a3 rfl ?_;intro m' hm' i' sl' e' c' ms' f1 f2 f3 f4;subst f4;rcases cC m' n with z | z
    ·exact hno m' z i' sl' e' c' ms' f1 f2 f3 rfl
    ·rcases eF (Nat.le_of_lt_succ hm') with y | y
     ·subst y
      rw[a4] at sl';cases sl';rw[ei] at f1;cases f1;cases f2;exact e (z2.1.inj f3.1)
     ·obtain⟨c2,ms2,y1,y2⟩:=ok i' e' f1
      have:c2=c':=by rw[y1] at f2;cases f2;rfl
      subst this;have:=y2.1.inj f3.1;subst this;refine a7 m' z y i' sl' ?_;unfold sf;rw[f1,y1];rfl
end
open HI (Ris)
theorem zEe(mask:Nat)(h:Int):∀ n,(yo mask h n).j+(yo mask h n).more<=mask/\(yo mask h n).i<=mask
 | 0=>by
  have hi:cq h%(mask+1)<=mask:=by have:=Nat.mod_lt (cq h) (show 0<mask+1 by omega);omega
  show cq h%(mask+1)+(cx mask (cq h%(mask+1))-cq h%(mask+1))<=mask/\cq h%(mask+1)<=mask;generalize cq h%(mask+1)=i at *;unfold cx;split<;>omega
 | n+1=>by
  have ih:=zEe mask h n;show(adv mask (yo mask h n)).j+(adv mask (yo mask h n)).more<=mask/\(adv mask (yo mask h n)).i<=mask;unfold adv;split
  ·simp only
   omega
  ·simp only
   have hi:(dg mask (yo mask h n).i (yo mask h n).perturb).1<=mask:=by
    unfold dg;simp only;have:=Nat.mod_lt ((yo mask h n).i*5+1+(yo mask h n).perturb / 32) (show 0<mask+1 by omega);omega
   generalize (dg mask (yo mask h n).i (yo mask h n).perturb).1=i at *;unfold cx;split<;>omega
theorem zDt{t:SetTable}{es:Array (Int×Value)}{j:Nat}{h:Int}{x:Value}:Ent t es j h x↔(j,(h,x))∈t.place.toList.zip es.toList:=by
 unfold Ent;rw[List.mem_iff_getElem?];constructor
 ·rintro⟨i,e1,e2⟩
  exact⟨i,by rw[List.getElem?_zip_eq_some];simpa using⟨e1,e2⟩⟩
 ·rintro⟨i,e⟩
  rw[List.getElem?_zip_eq_some] at e;exact⟨i,by simpa using e.1,by simpa using e.2⟩
theorem zN3{α β:Type}{l:List α}{l':List β}(hl:l.length=l'.length)(p:Nat)(a:α)(b:β)(z:α×β):z∈(l.take p++a::l.drop p).zip (l'.take p++b::l'.drop p)↔z=(a,b)\/z∈l.zip l':=by
 rw[List.zip_append (by simp[hl])];have e:l.zip l'=(l.take p).zip (l'.take p)++(l.drop p).zip (l'.drop p):=by
  rw[<-List.zip_append (by simp[hl]),dJ,dJ]
 rw[e];simp only[List.zip_cons_cons,cu,ce];constructor
 ·rintro(h | h | h)
  ·exact .inr (.inl h)
  ·exact .inl h
  ·exact .inr (.inr h)
 ·rintro(h | h | h)
  ·exact .inr (.inl h)
  ·exact .inl h
  ·exact .inr (.inr h)
theorem zb{α:Type}(xs:Array α)(p:Nat):(bQ xs p).toList=xs.toList.take p++xs.toList.drop (p+1):=by
 simp[bQ,List.extract_eq_take_drop,List.take_of_length_le]
theorem zGP{α:Type}(l:List α)(p:Nat):(l.take p++l.drop (p+1)).Sublist l:=by
 conv=>rhs;rw[<-dJ p l]
 exact(List.Sublist.refl _).append (by rw[<-List.drop_drop];exact List.drop_sublist 1 _)
theorem zL4{α:Type}{l:List α}{p:Nat}{x y:α}(hp:l[p]?=some x)(hy:y∈l)(hne:y≠x):y∈l.take p++l.drop (p+1):=by
 rw[<-dJ p l] at hy;rcases cu.mp hy with h | h
 ·exact cy _ h
 ·obtain⟨hlt,e⟩:=bD.mp hp
  rw[List.drop_eq_getElem_cons hlt,e] at h;rcases ce.mp h with h | h
  ·exact(hne h).elim
  ·exact ci _ h
theorem zJI{α:Type}{l:List α}{p:Nat}{x:α}(hp:l[p]?=some x):l.Perm (x::(l.take p++l.drop (p+1))):=by
 obtain⟨hlt,e⟩:=bD.mp hp
 conv=>lhs;rw[<-dJ p l,List.drop_eq_getElem_cons hlt,e]
 exact List.perm_middle
theorem zL5{xs:Array Nat}(hr:Ris xs){p j:Nat}(hp:xs.toList[p]?=some j):j∉xs.toList.take p++xs.toList.drop (p+1):=by
 have nd:xs.toList.Nodup:=dA.imp (fun h=>bO h) hr;exact(dq.mp ((zJI hp).nodup_iff.mp nd)).1
theorem zFc{xs:Array Nat}(hr:Ris xs)(p:Nat):Ris (bQ xs p):=by
 unfold Ris;rw[zb];exact dA.sublist (zGP _ _) hr
section
variable {t:SetTable} {es:Array (Int×Value)} {j:Nat} {h:Int} {x:Value}
theorem zGQ(hs:t.slot j=.dummy):dI t.dummies j=true:=by
 unfold SetTable.slot at hs;simp only at hs;split at hs
 ·cases hs
 ·split at hs
  ·rename_i q;exact q
  ·cases hs
theorem zN4(T:Tab t es){j':Nat}{h':Int}{x':Value}:Ent (t.put j).1 (cj es (t.put j).2 (h,x)) j' h' x'↔(j'=j/\h'=h/\x'=x)\/Ent t es j' h' x':=by
 rw[zDt,zDt];show(j',(h',x'))∈(cj t.place (bI t.place j) j).toList.zip (cj es (bI t.place j) (h,x)).toList↔_;rw[SetTable.toList_insertAt,SetTable.toList_insertAt,zN3 (by simpa using T.size)];simp
theorem zHO(T:Tab t es)(hnl:t.slot j=.empty\/t.slot j=.dummy)(rD:Ris (t.put j).1.dummies)(rP:Ris (t.put j).1.place){i:Nat}(hf:zDM t i):zDM (t.put j).1 i:=by
 rw[zA1 rP rD];have pm:∀ y,y∈(t.put j).1.place↔y=j\/y∈t.place:=fun y=>by
  show y∈cj t.place (bI t.place j) j↔_;rw[<-cI,(cW _ _ _).mem_iff];simp[or_comm]
 rcases(zA1 T.ris T.risD).mp hf with q | q
 ·exact .inl ((pm i).mpr (.inr q))
 ·by_cases e:i=j
  ·exact .inl ((pm i).mpr (.inl e))
  ·refine .inr ?_
   show i∈(if dI t.dummies j then bQ t.dummies (bI t.dummies j) else t.dummies);split
   ·rename_i hh
    rw[<-cI,zb];have hp:t.dummies.toList[bI t.dummies j]?=some j:=by
     unfold dI at hh;simpa using hh
    exact zL4 hp (by simpa using q) e
   ·exact q
theorem Tab.put(T:Tab t es){n:Nat}(hj:(yo t.mask h n).j=j)(hw:∀ m,m<n->zDM t (yo t.mask h m).j)(hnl:t.slot j=.empty\/t.slot j=.dummy)(rm:t.fill+1<=t.mask) :
  Tab (t.put j).1 (cj es (t.put j).2 (h,x))/\(t.put j).1.fill<=t.fill+1/\(t.slot j=.dummy->(t.put j).1.fill=t.fill):=by
 have hnl':t.place[bI t.place j]?≠some j:=HI.zEY hnl;have rP:Ris (t.put j).1.place:=HI.zGL T.ris hnl';have rD:Ris (t.put j).1.dummies:=by
  show Ris (if dI t.dummies j then bQ t.dummies (bI t.dummies j) else t.dummies);split
  ·exact zFc T.risD _
  ·exact T.risD
 have jm:j<=t.mask:=by have:=(zEe t.mask h n).1;omega
 have pz:(t.put j).1.place.size=t.place.size+1:=by
  have:=(cW t.place (bI t.place j) j).length_eq;show(cj t.place (bI t.place j) j).size=_;simpa using this
 have dz:(t.put j).1.dummies.size<=t.dummies.size/\(t.slot j=.dummy->(t.put j).1.dummies.size+1=t.dummies.size):=by
  show(if dI t.dummies j then bQ t.dummies (bI t.dummies j) else t.dummies).size<=_/\(_->(if dI t.dummies j then bQ t.dummies (bI t.dummies j) else t.dummies).size+1=_)
  split
  ·rename_i hh
   have hp:t.dummies.toList[bI t.dummies j]?=some j:=by
    unfold dI at hh;simpa using hh
   have hlt:=(bD.mp hp).1;have e:(bQ t.dummies (bI t.dummies j)).size=t.dummies.size-1:=by
    rw[<-bK,zb,bR,cT,eB];simp only[bK] at *;omega
   simp only[bK] at hlt;omega
  ·rename_i hh
   exact⟨bE _,fun q=>(hh (zGQ q)).elim⟩
 have fz:(t.put j).1.fill=(t.put j).1.place.size+(t.put j).1.dummies.size:=rfl;have fz0:t.fill=t.place.size+t.dummies.size:=rfl;refine⟨⟨T.msk,?_,rP,rD,fun y hy=>?_,fun y hy=>?_,?_,fun j' h' x' he=>?_,fun y hy hy'=>?_⟩,by omega,fun q=>by have:=dz.2 q;omega⟩
 ·rw[pz,T.size]
  have:=(cW es (t.put j).2 (h,x)).length_eq;simp at this;omega
 ·have:y∈cj t.place (bI t.place j) j:=hy
  rw[<-cI,(cW _ _ _).mem_iff] at this;rcases(by simpa using this:y∈t.place\/y=j) with q | q
  ·exact T.le y q
  ·rw[q];exact jm
 ·have:y∈(if dI t.dummies j then bQ t.dummies (bI t.dummies j) else t.dummies):=hy
  refine T.leD y ?_;split at this
  ·rw[<-cI,zb] at this
   simpa using(zGP _ _).subset this
  ·exact this
 ·show(t.put j).1.fill<=t.mask
  omega
 ·rcases(zN4 T).mp he with ⟨rfl,rfl,rfl⟩ | q
  ·exact⟨n,hj,fun m hm=>zHO T hnl rD rP (hw m hm)⟩
  ·obtain⟨n',w1,w2⟩:=T.way j' h' x' q
   exact⟨n',w1,fun m hm=>zHO T hnl rD rP (w2 m hm)⟩
 ·have hz:y∈(if dI t.dummies j then bQ t.dummies (bI t.dummies j) else t.dummies):=hy
  have hz':y∈cj t.place (bI t.place j) j:=hy';clear hy hy';rw[<-cI,(cW _ _ _).mem_iff] at hz';have hz':y∈t.place\/y=j:=by simpa using hz'
  by_cases hh:dI t.dummies j=true
  ·rw[if_pos hh] at hz
   have hp:t.dummies.toList[bI t.dummies j]?=some j:=by
    unfold dI at hh;simpa using hh
   rw[<-cI,zb] at hz;rcases hz' with q | q
   ·exact T.dis y (by simpa using(zGP _ _).subset hz) q
   ·rw[q] at hz
    exact zL5 T.risD hp hz
  ·rw[if_neg hh] at hz
   rcases hz' with q | q
   ·exact T.dis y hz q
   ·rw[q] at hz
    exact hh ((zGO T.risD).mpr hz)
end
section
variable {t:SetTable} {es:Array (Int×Value)} {i j:Nat}
theorem zQJ{α β:Type}{l:List α}{l':List β}(hl:l.length=l'.length)(p:Nat){z:α×β}(h:z∈(l.take p++l.drop (p+1)).zip (l'.take p++l'.drop (p+1))):z∈l.zip l':=by
 rw[List.zip_append (by simp[hl])] at h;have e:l.zip l'=(l.take p).zip (l'.take p)++(l.drop p).zip (l'.drop p):=by
  rw[<-List.zip_append (by simp[hl]),dJ,dJ]
 rw[e];rcases cu.mp h with q | q
 ·exact cy _ q
 ·refine ci _ ?_
  rw[<-List.drop_drop,<-List.drop_drop] at q;generalize l.drop p=a at q ⊢;generalize l'.drop p=b at q ⊢;cases a with
  | nil=>simp at q
  | cons a0 a1 =>
   cases b with
   | nil=>simp at q
   | cons b0 b1 =>
    have q:z∈a1.zip b1:=by simpa using q
    show z∈(a0,b0)::a1.zip b1;exact bN _ q
theorem Tab.drop(T:Tab t es)(hi:t.place[i]?=some j):Tab (t.drop i) (bQ es i)/\(t.drop i).fill=t.fill:=by
 have ed:t.drop i={ t with place:=bQ t.place i,dummies:=cj t.dummies (bI t.dummies j) j }:=by
  unfold SetTable.drop;rw[hi]
 have hp:t.place.toList[i]?=some j:=by simpa using hi
 have jp:j∈t.place:=Array.mem_of_getElem? hi;have jd:j∉t.dummies:=fun q=>T.dis j q jp;have hlt:i<t.place.size:=(cU.mp hi).1;have rP:Ris (bQ t.place i):=zFc T.ris i;have rD:Ris (cj t.dummies (bI t.dummies j) j):=HI.zGL T.risD fun q=>jd (Array.mem_of_getElem? q);have pz:(bQ t.place i).size=t.place.size-1:=by
  rw[<-bK,zb,bR,cT,eB];simp only[bK];omega
 have ez:(bQ es i).size=es.size-1:=by
  have:=T.size;rw[<-bK,zb,bR,cT,eB];simp only[bK];omega
 have dz:(cj t.dummies (bI t.dummies j) j).size=t.dummies.size+1:=by
  have:=(cW t.dummies (bI t.dummies j) j).length_eq;simpa using this
 have dm:∀ y,y∈cj t.dummies (bI t.dummies j) j↔y∈t.dummies\/y=j:=fun y=>by
  rw[<-cI,(cW _ _ _).mem_iff];simp
 rw[ed];have fl:∀ y,zDM t y->zDM { t with place:=bQ t.place i,dummies:=cj t.dummies (bI t.dummies j) j } y:=fun y q=>by
  rw[zA1 rP rD];rcases(zA1 T.ris T.risD).mp q with z | z
  ·by_cases e:y=j
   ·exact .inr ((dm y).mpr (.inr e))
   ·left
    show y∈bQ t.place i;rw[<-cI,zb];exact zL4 hp (by simpa using z) e
  ·exact .inr ((dm y).mpr (.inl z))
 have sb:∀ y,y∈bQ t.place i->y∈t.place:=fun y hy=>by
  rw[<-cI,zb] at hy;simpa using(zGP _ _).subset hy
 have fz:SetTable.fill { t with place:=bQ t.place i,dummies:=cj t.dummies (bI t.dummies j) j }=t.fill:=by
  show(bQ t.place i).size+(cj t.dummies (bI t.dummies j) j).size=t.place.size+t.dummies.size;omega
 refine⟨⟨T.msk,?_,rP,rD,fun y hy=>T.le y (sb y hy),fun y hy=>?_,?_,fun j' h' x' he=>?_,fun y hy hy'=>?_⟩,fz⟩
 ·show(bQ t.place i).size=_
  rw[pz,ez,T.size]
 ·rcases(dm y).mp hy with q | q
  ·exact T.leD y q
  ·rw[q];exact T.le j jp
 ·rw[fz];exact T.room
 ·rw[zDt] at he
  have he:(j',(h',x'))∈(bQ t.place i).toList.zip (bQ es i).toList:=he;rw[zb,zb] at he;obtain⟨n',w1,w2⟩:=T.way j' h' x' (zDt.mpr (zQJ (by simpa using T.size) i he));exact⟨n',w1,fun m hm=>fl _ (w2 m hm)⟩
 ·rcases(dm y).mp hy with q | q
  ·exact T.dis y q (sb y hy')
  ·subst q
   have hy':y∈bQ t.place i:=hy';rw[<-cI,zb] at hy';exact zL5 T.ris hp hy'
end
open HI (Ris)
noncomputable def hd(mask:Nat)(h:Int):Nat->Nat
 | 0=>0
 | k+1=>hd mask h k+(cx mask (lp mask h k).1-(lp mask h k).1)+1
section
variable {mask:Nat} {h:Int}
theorem zL6:∀ k,yo mask h (hd mask h k)=⟨(lp mask h k).1,cx mask (lp mask h k).1-(lp mask h k).1,(lp mask h k).1,(lp mask h k).2,none⟩
 | 0=>rfl
 | k+1=>by
  have:=zDr (zL6 k) _ (bE _);show adv mask (yo mask h (hd mask h k+(cx mask (lp mask h k).1-(lp mask h k).1)))=_;rw[this];unfold adv;rw[if_neg (by simp)];rfl
theorem zIR{k m:Nat}(hm:m<=cx mask (lp mask h k).1-(lp mask h k).1):(yo mask h (hd mask h k+m)).j=(lp mask h k).1+m:=by rw[zDr (zL6 k) m hm]
theorem zQK(mask i:Nat):i<=cx mask i:=by
 unfold cx;split<;>omega
noncomputable def Tk(owner:Array (Option Nat))(j:Nat):Prop:=(owner.getD j (some 0)).isSome=true
theorem zL7{owner:Array (Option Nat)}{R:Nat}(hR:¬ Tk owner (lp mask h R).1):∀(fuel r:Nat),r<=R->R-r<fuel->(∀ m,m<hd mask h r->Tk owner (yo mask h m).j) ->
  ∃ j n,dP.free mask owner fuel (lp mask h r).1 (lp mask h r).2=some j/\(yo mask h n).j=j/\¬ Tk owner j/\∀ m,m<n->Tk owner (yo mask h m).j:=by
 intro fuel
 induction fuel with
 | zero=>intro r u0 h;omega
 | succ fuel ih =>
  intro r hr hf hb;unfold dP.free;have hge:=zQK mask (lp mask h r).1;cases hfd:(bz (cx mask (lp mask h r).1+1-(lp mask h r).1)).find? fun k=>(owner.getD ((lp mask h r).1+k) (some 0)).isNone with
  | some k0 =>
   obtain⟨f1,f2,f3⟩:=List.find?_range_eq_some.mp hfd;have f2:=bV.mp f2;refine⟨(lp mask h r).1+k0,hd mask h r+k0,by simp only[hfd],?_,?_,?_⟩
   ·exact zIR (by omega)
   ·unfold Tk
    rw[Option.isNone_iff_eq_none] at f1;rw[f1];simp
   ·intro m hm
    rcases cC m (hd mask h r) with z | z
    ·exact hb m z
    ·obtain⟨d,rfl⟩:∃ d,m=hd mask h r+d:=⟨m-hd mask h r,by omega⟩
     rw[zIR (by omega)];have:=f3 d (by omega);unfold Tk;cases q:owner.getD ((lp mask h r).1+d) (some 0) with
     | none=>rw[q] at this;simp at this
     | some _=>rfl
  | none =>
   rw[List.find?_range_eq_none] at hfd;have all:∀ d,d<=cx mask (lp mask h r).1-(lp mask h r).1->Tk owner ((lp mask h r).1+d):=fun d hd'=>by
    have:=hfd d (by omega);unfold Tk;cases q:owner.getD ((lp mask h r).1+d) (some 0) with
    | none=>rw[q] at this;simp at this
    | some _=>rfl
   have hne:r≠R:=fun e=>by
    subst e;exact hR (by simpa using all 0 (cg _))
   simp only;refine ih (r+1) (by omega) (by omega) fun m hm=>?_;have hm:m<hd mask h r+(cx mask (lp mask h r).1-(lp mask h r).1)+1:=hm;rcases cC m (hd mask h r) with z | z
   ·exact hb m z
   ·obtain⟨d,rfl⟩:∃ d,m=hd mask h r+d:=⟨m-hd mask h r,by omega⟩
    rw[zIR (by omega)];exact all d (by omega)
end
theorem zCy{β:Type}{f g:Nat->Option β}:∀ {l:List Nat},(∀ i∈l,g i=f i)->l.filterMap g=l.filterMap f
 | [],_=>rfl
 | a::l,h=>by
  have ea:=h a bU;have ih:=zCy fun i hi=>h i (bN _ hi);cases q:f a with
  | none=>rw[em (ea.trans q),em q,ih]
  | some c=>rw[da (ea.trans q),da q,ih]
theorem zL8{β:Type}{f:Nat->Option β}:∀ {l:List Nat},(∀ i∈l,(f i).isSome=true)->(l.filterMap f).length=l.length
 | [],_=>rfl
 | a::l,h=>by
  have ih:=zL8 fun i hi=>h i (bN _ hi);have ea:=h a bU;cases q:f a with
  | none=>rw[q] at ea;cases ea
  | some c=>rw[da q,bu,bu,ih]
theorem zL9{β:Type}{f g:Nat->Option β}{j:Nat}{b:β}(hf:f j=none)(hg:g j=some b):∀ {l:List Nat},l.Nodup->j∈l->(∀ i∈l,i≠j->g i=f i)->(l.filterMap g).Perm (b::l.filterMap f)
 | [],_,hj,_=>by cases hj
 | a::l,nd,hj,ho=>by
  obtain⟨n1,n2⟩:=dq.mp nd;by_cases e:a=j
  ·subst e
   have:l.filterMap g=l.filterMap f:=by
    apply zCy;intro i hi;exact ho i (bN _ hi) fun e=>n1 (e▸hi)
   rw[da hg,em hf,this]
  ·have hj':j∈l:=by
    rcases ce.mp hj with q | q
    ·exact(e q.symm).elim
    ·exact q
   have ih:=zL9 hf hg n2 hj' fun i hi hne=>ho i (bN _ hi) hne;have ea:=ho a bU e;cases q:f a with
   | none=>rw[em (ea.trans q),em q];exact ih
   | some c =>
    rw[da (ea.trans q),da q];exact(dS.cons c ih).trans (dS.swap _ _ _)
structure zGR (mask:Nat) (hs:List Int) (owner:Array (Option Nat)) (k:Nat):Prop where
 size:owner.size=mask+1
 way:∀(j k':Nat),owner.getD j none=some k'->∃ h n,hs[k']?=some h/\(yo mask h n).j=j/\∀ m,m<n->(owner.getD (yo mask h m).j none).isSome=true
 perm:((bz (mask+1)).filterMap fun j=>owner.getD j none).Perm (bz k)
theorem zGR.gap{mask:Nat}{hs:List Int}{owner:Array (Option Nat)}{k:Nat}(I:zGR mask hs owner k)(hk:k<=mask):∃ j,j<=mask/\owner.getD j none=none:=by
 by_cases q:∃ j,j<=mask/\owner.getD j none=none
 ·exact q
 ·have:=zL8 (f:=fun j=>owner.getD j none) (l:=bz (mask+1)) fun i hi=>by
   have hi:=bV.mp hi;cases z:owner.getD i none with
   | none=>exact(q ⟨i,by omega,z⟩).elim
   | some _=>rfl
  rw[I.perm.length_eq,ck,ck] at this;omega
theorem zIS{mask:Nat}{hs:List Int}{owner:Array (Option Nat)}{k:Nat}(I:zGR mask hs owner k){j:Nat}(hj:j<=mask):Tk owner j↔(owner.getD j none).isSome=true:=by
 have:j<owner.size:=by rw[I.size];omega
 unfold Tk;simp[dM,this]
theorem zGR.step{mask:Nat}{hs:List Int}{owner:Array (Option Nat)}{k:Nat}{h:Int}(hm:Msk mask)(I:zGR mask hs owner k)(hk:k<=mask)(e:hs[k]?=some h) :
  ∃ j,dP.free mask owner (eX mask) (cq h%(mask+1)) (cq h)=some j/\zGR mask hs (owner.setIfInBounds j (some k)) (k+1):=by
 obtain⟨j0,h1,h2⟩:=I.gap hk;obtain⟨R,r1,r2⟩:=heads (h:=h) hm.cyc h1;obtain⟨j,n,f1,f2,f3,f4⟩:=zL7 (mask:=mask) (h:=h) (owner:=owner) (R:=R) (by rw[r2,zIS I h1,h2];simp) (eX mask) 0 (cg _) (by unfold eX;omega) (fun m hm=>absurd hm (eI _));have hj:j<=mask:=by have:=(zEe mask h n).1;omega
 have hjs:j<owner.size:=by rw[I.size];omega
 rw[zIS I hj] at f3;have fn:owner.getD j none=none:=by
  cases q:owner.getD j none with
  | none=>rfl
  | some _=>rw[q] at f3;exact(f3 rfl).elim
 have gs:∀ i,(owner.setIfInBounds j (some k)).getD i none=if i=j then some k else owner.getD i none:=fun i=>by
  by_cases e:i=j
  ·subst e;rw[if_pos rfl];simp[dM,hjs]
  ·rw[if_neg e]
   rw[Array.getD_eq_getD_getElem?,Array.getD_eq_getD_getElem?,Array.getElem?_setIfInBounds_ne (Ne.symm e)]
 have mono:∀ i,(owner.getD i none).isSome=true->((owner.setIfInBounds j (some k)).getD i none).isSome=true:=fun i q=>by
  rw[gs];split
  ·rfl
  ·exact q
 refine⟨j,f1,⟨by rw[Array.size_setIfInBounds];exact I.size,fun j' k' q=>?_,?_⟩⟩
 ·rw[gs] at q
  split at q
  ·rename_i e'
   cases q;refine⟨h,n,e,f2.trans e'.symm,fun m hm'=>mono _ ?_⟩;rw[<-zIS I (by have:=(zEe mask h m).1;omega)];exact f4 m hm'
  ·obtain⟨h',n',w1,w2,w3⟩:=I.way j' k' q
   exact⟨h',n',w1,w2,fun m hm'=>mono _ (w3 m hm')⟩
 ·rw[show bz (k+1)=bz k++[k] from eK]
  refine(zL9 (f:=fun i=>owner.getD i none) (g:=fun i=>(owner.setIfInBounds j (some k)).getD i none) (j:=j) (b:=k) fn ((gs j).trans (if_pos rfl)) eA (bV.mpr (by omega)) fun i u0 hne=>(gs i).trans (if_neg hne)).trans ?_;refine(dS.cons k I.perm).trans ?_;exact(List.perm_append_singleton k _).symm
theorem zMA{mask:Nat}(hm:Msk mask){hs:List Int}(hn:hs.length<=mask):∀(l done:List Int) (owner:Array (Option Nat)),hs=done++l->zGR mask hs owner done.length ->
  ∃ owner',(l.foldl (fun(acc:Option (Array (Option Nat)×Nat)) h=>do
   let (owner,k) <-acc;let j <-dP.free mask owner (eX mask) (cq h%(mask+1)) (cq h)
   pure (owner.setIfInBounds j (some k),k+1)) (some (owner,done.length))).map (·.1)=some owner'/\zGR mask hs owner' hs.length
 | [],done,owner,e,I=>⟨owner,rfl,by rw[e,eM] at *;exact I⟩
 | h::l,done,owner,e,I=>by
  have hk:done.length<=mask:=by rw[e] at hn;simp at hn;omega
  obtain⟨j,f1,I'⟩:=I.step hm hk (h:=h) (by rw[e];simp);obtain⟨owner',g1,g2⟩:=zMA hm hn l (done++[h]) (owner.setIfInBounds j (some done.length)) (by rw[e];simp) (by simpa using I');refine⟨owner',?_,g2⟩;rw[<-g1];rw[List.foldl_cons];congr 2;show(do
   let j <-dP.free mask owner (eX mask) (cq h%(mask+1)) (cq h)
   pure (owner.setIfInBounds j (some done.length),done.length+1))=_
  rw[f1];simp
theorem zQL{mask:Nat}(hm:Msk mask){hashes:Array Int}(hn:hashes.size<=mask):∃ owner,dP mask hashes=some owner/\zGR mask hashes.toList owner hashes.size:=by
 have g0:∀ j,(Array.replicate (mask+1) (none:Option Nat)).getD j none=none:=fun j=>by
  simp only[dM];split
  ·simp
  ·rfl
 obtain⟨owner,h1,h2⟩:=zMA hm (hs:=hashes.toList) (by simpa using hn) hashes.toList [] (Array.replicate (mask+1) none) rfl ⟨by simp,fun j k' q=>(by rw[g0] at q;cases q),by
  have:((bz (mask+1)).filterMap fun j=>(Array.replicate (mask+1) (none:Option Nat)).getD j none)=[]:=by
   rw[zCy (f:=fun u0=>none) fun i u0=>g0 i];simp
  rw[this];exact .refl _⟩
 refine⟨owner,?_,by simpa using h2⟩;unfold dP;rw[<-Array.foldl_toList];exact h1
theorem zJJ{mask finger moves:Nat}{led plain:Bool}{es:Array (Int×Value)}(hm:Msk mask)(hn:es.size<=mask) :
  ∃ t order,SetTable.laid mask finger moves led plain (es.map (·.1))=some (t,order)/\Tab t (order.filterMap (es[·]?))/\(order.filterMap (es[·]?)).toList.Perm es.toList/\t.mask=mask/\t.led=led/\t.plain=plain/\t.dummies=#[]/\t.place.size=es.size:=by
 obtain⟨owner,h1,I⟩:=zQL hm (hashes:=es.map (·.1)) (by simpa using hn);rw[Array.size_map] at I;have lk:∀ l:List Nat,(l.filterMap fun j=>(owner.getD j none).map (j,·)).map (·.2)=l.filterMap fun j=>owner.getD j none:=fun l=>by
  rw[List.map_filterMap];apply zCy;intro i u0;cases owner.getD i none<;>rfl
 have lm:∀(l:List Nat) (p:Nat×Nat),p∈(l.filterMap fun j=>(owner.getD j none).map (j,·))↔p.1∈l/\owner.getD p.1 none=some p.2:=fun l p=>by
  rw[List.mem_filterMap];constructor
  ·rintro⟨j,hj,e⟩
   cases q:owner.getD j none with
   | none=>rw[q] at e;cases e
   | some k=>rw[q] at e;cases e;exact⟨hj,q⟩
  ·rintro⟨a,b⟩
   exact⟨p.1,a,by rw[b];rfl⟩
 have pm:=I.perm;have kn:∀ k∈((bz (mask+1)).filterMap fun j=>(owner.getD j none).map (j,·)).map (·.2),k<es.size:=fun k hk=>by
  rw[lk] at hk;exact bV.mp (pm.mem_iff.mp hk)
 have es':(((bz (mask+1)).filterMap fun j=>(owner.getD j none).map (j,·)).map (·.2)).filterMap (es[·]?)=(((bz (mask+1)).filterMap fun j=>(owner.getD j none).map (j,·)).map (·.2)).map fun k=>es.getD k (0,.none):=by
  have:∀ l:List Nat,(∀ k∈l,k<es.size)->l.filterMap (es[·]?)=l.map fun k=>es.getD k (0,.none):=by
   intro l
   induction l with
   | nil=>intro u0;rfl
   | cons a l ih =>
    intro hl;have ha:=hl a bU;rw[da (b:=es.getD a (0,.none)) (by simp[dM,ha]),cz,ih fun k hk=>hl k (bN _ hk)]
  exact this _ kn
 have hlen:((bz (mask+1)).filterMap fun j=>(owner.getD j none).map (j,·)).length=es.size:=by
  have:=congrArg List.length (lk (bz (mask+1)));rw[bA,pm.length_eq,ck] at this;exact this
 generalize hL:(bz (mask+1)).filterMap (fun j=>(owner.getD j none).map (j,·))=L at *;refine⟨{ mask,place:=(L.map (·.1)).toArray,dummies:=#[],finger,led,moves,plain },(L.map (·.2)).toArray,?_,?_⟩
 ·unfold SetTable.laid
  rw[h1];show some _=_;rw[hL]
 ·have eo:((L.map (·.2)).toArray.filterMap (es[·]?)).toList=L.map fun p=>es.getD p.2 (0,.none):=by
   rw[Array.toList_filterMap];show(L.map (·.2)).filterMap (es[·]?)=_;rw[es',dD];rfl
  have rs:Ris (L.map (·.1)).toArray:=by
   unfold Ris;have:=HI.wo (fun j=>owner.getD j none) (bz (mask+1));rw[hL] at this;exact dA.sublist this dE
  have ls:∀ p,p∈L->p.1<=mask/\owner.getD p.1 none=some p.2:=fun p hp=>by
   have:=(lm (bz (mask+1)) p).mp (by rw[hL];exact hp);exact⟨by have:=bV.mp this.1;omega,this.2⟩
  have rd:Ris (#[]:Array Nat):=dA.nil;refine⟨⟨hm,?_,rs,rd,fun j hj=>?_,fun j hj=>by simp at hj,?_,fun j h x he=>?_,fun j hj=>by simp at hj⟩,?_,rfl,rfl,rfl,rfl,?_⟩
  ·have:=congrArg List.length eo
   rw[bK,bA] at this;show(L.map (·.1)).toArray.size=_;rw[this];simp
  ·have:j∈L.map (·.1):=by simpa using hj
   obtain⟨p,hp,rfl⟩:=bF.mp this;exact(ls p hp).1
  ·show(L.map (·.1)).toArray.size+0<=mask
   simp;omega
  ·obtain⟨i,e1,e2⟩:=he
   have e1':(L.map (·.1))[i]?=some j:=by simpa using e1
   have e2':(L.map fun p=>es.getD p.2 (0,.none))[i]?=some (h,x):=by rw[<-eo];simpa using e2
   rw[cb] at e1' e2';cases q:L[i]? with
   | none=>rw[q] at e1';cases e1'
   | some p =>
    rw[q] at e1' e2';have e1'':p.1=j:=by simpa using e1'
    have e2'':es.getD p.2 (0,.none)=(h,x):=by simpa using e2'
    obtain⟨u0,l2⟩:=ls p (bM q);obtain⟨h',n,w1,w2,w3⟩:=I.way p.1 p.2 l2;have hk:p.2<es.size:=kn p.2 (bF.mpr ⟨p,bM q,rfl⟩);have:h'=h:=by
     have w1':(es.map (·.1)).toList[p.2]?=some h':=w1;simp[hk] at w1';have:es[p.2]=(h,x):=by simpa[dM,hk] using e2''
     rw[this] at w1';exact w1'.symm
    subst this;refine⟨n,w2.trans e1'',fun m hm'=>?_⟩;rw[zA1 rs rd];left;have:=w3 m hm';have lt:=(zEe mask h' m).1;cases z:owner.getD (yo mask h' m).j none with
    | none=>rw[z] at this;cases this
    | some k2 =>
     have:((yo mask h' m).j,k2)∈L:=by
      rw[<-hL];exact(lm _ _).mpr ⟨bV.mpr (by simp only;omega),z⟩
     show(yo mask h' m).j∈(L.map (·.1)).toArray;simp only[List.mem_toArray];exact bF.mpr ⟨_,this,rfl⟩
  ·rw[eo]
   have e3:es.toList=(bz es.size).map fun k=>es.getD k (0,.none):=by
    apply eY
    ·simp
    ·intro i h1 h2
     have:i<es.size:=by simpa using h1
     simp[dM,this]
   rw[e3];have e4:(L.map fun p=>es.getD p.2 (0,.none))=(L.map (·.2)).map fun k=>es.getD k (0,.none):=by rw[dD];rfl
   rw[e4];refine dS.map _ ?_;have:=lk (bz (mask+1));rw[hL] at this;rw[this];exact pm
  ·show(L.map (·.1)).toArray.size=_
   simp[hlen]
open HI (Ris)
noncomputable def zRX:Value->Int
 | .int k _=>k
 | _=>0
noncomputable def kyT(h:Heap)(e:Int×Value):List Int:=match e.2 with
 | .ref c=>(match h.get? c with | some o=>(match o.data with | .seq its _=>its.toList.map zRX | _=>[]) | none=>[])
 | _=>[]
section
variable {prog:Program} {w:World} {P:Addr->Prop} {A:Around} {E:Value->Shared->Prop} {s:Shared}
theorem zKL{ns:List Int}{vs:List Value}(h:ItemsAre (intKind prog w) ns vs):vs.map zRX=ns:=by
 induction h with
 | nil=>rfl
 | cons h1 _ ih =>
  obtain⟨t,rfl⟩:=Value.isInt_shape h1;rw[cz,ih];rfl
theorem zCI{h:Heap}{ns:List Int}{c:Addr}(x:TK prog w P h ns c)(n:Int):kyT h (n,.ref c)=ns:=by
 obtain⟨⟨o,its,m,ho,hc,hd,hi⟩,u0⟩:=x;unfold kyT;simp only[ho,hd];exact zKL hi
theorem OkT.mem{h:Heap}{es:Array (Int×Value)}(x:OkT prog w P h es):∀ e∈es.toList,∃ c,e=(hT prog w (kyT h e),.ref c)/\TK prog w P h (kyT h e) c:=fun e he=>by
 obtain⟨i,hi,rfl⟩:=dG he;obtain⟨c,ms,e1,e2⟩:=x i es.toList[i] (by simpa using hi);have:kyT h es.toList[i]=ms:=by rw[e1];exact zCI e2 _
 rw[this];exact⟨c,e1,e2⟩
theorem OkT.of{h:Heap}{es:Array (Int×Value)}(x:∀ e∈es.toList,∃ c ms,e=(hT prog w ms,.ref c)/\TK prog w P h ms c):OkT prog w P h es:=fun i e he=>x e (by
 have:=bM (l:=es.toList) (i:=i) (a:=e) (by simpa using he);exact this)
theorem OkT.perm{h:Heap}{es es':Array (Int×Value)}(x:OkT prog w P h es)(p:es'.toList.Perm es.toList):OkT prog w P h es':=.of fun e he=>by
 obtain⟨c,e1,e2⟩:=x.mem e (p.mem_iff.mp he);exact⟨c,_,e1,e2⟩
theorem TK.keep{h h':Heap}{ns:List Int}{c:Addr}(x:TK prog w P h ns c)(k:∀ o,h.get? c=some o->h'.get? c=some o):TK prog w P h' ns c:=let ⟨⟨o,i,n,e,r⟩,q⟩:=x;⟨⟨o,i,n,k o e,r⟩,q⟩
theorem OkT.keep{h h':Heap}{es:Array (Int×Value)}(x:OkT prog w P h es)(k:∀ c o its n,h.get? c=some o->o.data=.seq its n->h'.get? c=some o):OkT prog w P h' es/\es.toList.map (kyT h')=es.toList.map (kyT h):=by
 have tk:∀ {ns c},TK prog w P h ns c->TK prog w P h' ns c:=fun {ns c} q=>let ⟨⟨o,i,n,e,c1,d,r⟩,q⟩:=q;⟨⟨o,i,n,k _ o i n e d,c1,d,r⟩,q⟩;refine⟨fun i e he=>?_,cZ fun e he=>?_⟩
 ·obtain⟨c,ms,e1,e2⟩:=x i e he
  exact⟨c,ms,e1,tk e2⟩
 ·obtain⟨c,e1,e2⟩:=x.mem e he
  have h1:=zCI (tk e2) (hT prog w (kyT h e));rw[<-e1] at h1;exact h1
noncomputable def ST(prog:Program)(w:World)(P:Addr->Prop)(h:Heap)(a:Addr)(kys:List (List Int)):Prop:=∃ o es ep t,h.get? a=some o/\o.ExactSet/\o.data=.set es ep t/\Tab t es/\OkT prog w P h es/\t.plain=true/\t.led=HI.wT w/\t.fill*5<t.mask*3/\kys.Perm (es.toList.map (kyT h))/\kys.Nodup
theorem ST.keep{h h':Heap}{a:Addr}{kys:List (List Int)}(x:ST prog w P h a kys)(k:∀ b o,h.get? b=some o->h'.get? b=some o):ST prog w P h' a kys:=by
 obtain⟨o,es,ep,t,h1,h2,h3,h4,h5,h6,h7,h8,h9,h10⟩:=x;obtain⟨k1,k2⟩:=h5.keep fun c o u0 u0 e u0=>k c o e;exact⟨o,es,ep,t,k _ _ h1,h2,h3,h4,k1,h6,h7,h8,by rw[k2];exact h9,h10⟩
theorem size_of(n:Nat)(h:n<=63):Msk (bL (n*4)-1)/\n*5<(bL (n*4)-1)*3/\bL (n*4)<=256:=by
 have:∀ n,n<64->((bL (n*4)-1==7||bL (n*4)-1==15||bL (n*4)-1==31||bL (n*4)-1==63||bL (n*4)-1==127||bL (n*4)-1==255)&&decide (n*5<(bL (n*4)-1)*3)&&decide (bL (n*4)<=256))=true:=by decide +kernel
 have:=this n (by omega);simp only[dN,Bool.or_eq_true,beq_iff_eq,decide_eq_true_eq] at this;refine⟨?_,this.1.2,this.2⟩;unfold Msk;omega
end
open HI (Ris)
section
variable {prog:Program} {w:World} {P:Addr->Prop} {A:Around} {E:Value->Shared->Prop} {s:Shared}
theorem fits_of{t:SetTable}{es:Array (Int×Value)}(T:Tab t es):t.fits es.size=true:=by
 unfold SetTable.fits;simp[T.size,T.room]
theorem zCz{h:Heap}{a:Addr}{o:Obj}{es:Array (Int×Value)}{ep:Nat}{t:SetTable}{es':Array (Int×Value)}{t':SetTable}(ho:h.get? a=some o)(hd:o.data=.set es ep t) :
  (h.update a (Obj.putSet es' t')).get? a=some { o with data:=.set es' (ep+1) t' }:=by
 rw[<-putSet_of es' t' hd];exact cD _ ho (by rw[putSet_of es' t' hd];rfl)
theorem zOn{a:Addr}{o:Obj}{es:Array (Int×Value)}{ep:Nat}{t:SetTable}{n:Nat}{Q:Unit->Shared->Prop}(ho:s.heap.get? a=some o)(hd:o.data=.set es ep t)(T:Tab t es)(hm:Msk (bL n-1))(hn:es.size<=bL n-1)(hz:bL n<=256)
  (h:∀ es' t',Tab t' es'->es'.toList.Perm es.toList->t'.plain=t.plain->t'.led=t.led->t'.mask=bL n-1->t'.fill=es.size->Q () { s with heap:=s.heap.update a (Obj.putSet es' t') }) :
  wpAny (model prog w) A (setRelay a n) Q E s:=by
 obtain⟨t',order,h1,h2,h3,h4,h5,h6,h7,h8⟩:=zJJ (mask:=bL n-1) (finger:=t.finger) (moves:=t.movedTo (bL n-1)) (led:=t.led) (plain:=t.plain) hm hn;unfold setRelay;refine bi (cc ho hd (fits_of T) ?_);dsimp only;rw[if_neg (by rw[sizeLine_eq];omega)];have hr:t.relaid (es.map (·.1)) n=some (t',order):=h1;have sz:(order.filterMap (es[·]?)).size=es.size:=by
  have:=h3.length_eq;rw[bK,bK] at this;exact this
 refine bi (df (a:=(order.filterMap (es[·]?),t')) ?_ ?_)
 ·rw[hr]
  show(if ((order.filterMap (es[·]?)).size != es.size)=true then _ else _)=_;rw[if_neg (by rw[sz];simp)]
 ·dsimp only
  refine ej ho hd (h _ t' h2 h3 h6 h5 h4 ?_) ?_
  ·show t'.place.size+t'.dummies.size=_
   rw[h7,h8];rfl
  ·rw[sz,sizeLine_eq];omega
theorem zMB{a b:Addr}{ns:List Int}{kys:List (List Int)}{Q:Bool->Shared->Prop}(hA:A.units<cLine)(hS:ST prog w P s.heap a kys)(hb:TK prog w P s.heap ns b)(room:kys.length<=60)
  (h:∀ h' kys' r,bX a s.heap h'->ST prog w P h' a kys'->kys'.Perm (if ns∈kys then kys else kys++[ns])->Q r { s with heap:=h' }):wpAny (model prog w) A (setAddHashed a (.ref b) (hT prog w ns)) Q E s:=by
 obtain⟨o,es,ep,t,h1,h2,h3,h4,h5,h6,h7,h8,h9,h10⟩:=id hS;have esz:es.size=kys.length:=by have:=h9.length_eq;simp at this;omega
 have hky:∀(i:Nat) e c ms,es[i]?=some e->e.2=.ref c->TK prog w P s.heap ms c->ms∈kys:=fun i e c ms e1 e2 e3=>by
  rw[h9.mem_iff];refine bF.mpr ⟨e,bM (l:=es.toList) (i:=i) (by simpa using e1),?_⟩;obtain⟨e0,ev⟩:=e;simp only at e2;subst e2;exact zCI e3 _
 unfold setAddHashed;refine bZ ?_;unfold setAddHashedIn;refine bi (cc h1 h3 (fits_of h4) ?_);dsimp only;rw[if_neg (by simp[byScan,Value.scannable])];obtain⟨N,n1,n2,n3⟩:=h4.stop (hT prog w ns);refine bi ?_;unfold setSearch;refine zRW (Q:=_) hA h1 h3 h4 h5 hb n1 n2 n3 (adding:=true) (fun i c e1 e2=>?_) (fun hno d hd=>?_) (N-0) 0 100000 none none rfl (cg _) ?_ (fun j q=>by cases q) rfl (fun m hm=>absurd hm (eI _))
 ·have hin:ns∈kys:=hky i _ c ns e1 rfl e2
  simp only[↓reduceIte];refine bm ?_;exact h s.heap kys false ⟨rfl,fun u0 u0=>rfl⟩ hS (by rw[if_pos hin])
 ·have hnk:ns∉kys:=fun q=>by
   rw[h9.mem_iff] at q;obtain⟨e,he,hk⟩:=bF.mp q;obtain⟨c,e1,e2⟩:=h5.mem e he;obtain⟨i,hi,e3⟩:=dG he;rw[hk] at e2;exact hno i e c ns (by rw[<-e3];simpa using hi) (by rw[e1]) e2 rfl
  dsimp only;refine bi (cc h1 h3 (fits_of h4) ?_);dsimp only;have mge:7<=t.mask:=by rcases h4.msk with z | z | z | z | z | z<;>omega
  -- the place
  have hp:∃ n j,d.getD (yo t.mask (hT prog w ns) N).j=j/\(yo t.mask (hT prog w ns) n).j=j/\(∀ m,m<n->zDM t (yo t.mask (hT prog w ns) m).j)/\(t.slot j=.empty\/t.slot j=.dummy)/\(d.isSome=true->t.slot j=.dummy):=by
   cases d with
   | none=>exact⟨N,_,rfl,rfl,n3,.inl n2,fun q=>by cases q⟩
   | some j =>
    obtain⟨d1,m,d2,d3⟩:=hd j rfl;exact⟨m,j,rfl,d3,fun m' hm'=>n3 m' (by omega),.inr d1,fun u0=>d1⟩
  obtain⟨n,j,j1,j2,j3,j4,j5⟩:=hp;rw[j1];obtain⟨T',f1,f2⟩:=h4.put (x:=.ref b) j2 j3 j4 (by omega);have pl:(t.put j).1.plain=true:=h6;have ld:(t.put j).1.led=HI.wT w:=h7;have mk:(t.put j).1.mask=t.mask:=rfl;generalize hes':cj es (t.put j).2 (hT prog w ns,.ref b)=es' at T';have pm:es'.toList.Perm (es.toList++[(hT prog w ns,.ref b)]):=by
   rw[<-hes'];have:=cW es (t.put j).2 (hT prog w ns,.ref b);simpa using this
  have sz':es'.size=es.size+1:=by have:=pm.length_eq;simp at this;omega
  rw[pl];simp only[↓reduceIte];refine bi (zL3 hb ?_);simp only[↓reduceIte];refine bi (ej h1 h3 ?_ (by rw[sizeLine_eq];omega))
  -- behind the store
  have ok1:OkT prog w P s.heap es':=.of fun e he=>by
   rcases cu.mp (pm.mem_iff.mp he) with q | q
   ·obtain⟨c,e1,e2⟩:=h5.mem e q;exact⟨c,_,e1,e2⟩
   ·rw[bG] at q;exact⟨b,ns,q,hb⟩
  have kp1:kys++[ns]=kys++[ns]:=rfl;have pk:(kys++[ns]).Perm (es'.toList.map (kyT s.heap)):=by
   refine dS.trans ?_ (pm.map _).symm;rw[dt];refine h9.append ?_;rw[List.map_singleton,zCI hb]
  have nd1:(kys++[ns]).Nodup:=eP.mpr ⟨h10,by simp,fun x hx y hy e=>by rw[bG] at hy;exact hnk (by rw[<-hy,<-e];exact hx)⟩;have fin:∀(es2:Array (Int×Value)) (t2:SetTable) (ep2:Nat) (h':Heap),bX a s.heap h'->h'.get? a=some { o with data:=.set es2 ep2 t2 }->Tab t2 es2->es2.toList.Perm es'.toList->t2.plain=true->t2.led=HI.wT w->t2.fill*5<t2.mask*3->Q true { s with heap:=h' }:=fun es2 t2 ep2 h' sb g T2 p2 pl2 ld2 fl2=>by
   have kk:∀ c o' its n,s.heap.get? c=some o'->o'.data=.seq its n->h'.get? c=some o':=fun c o' its n e1 e2=>by
    rw[sb.2 c (fun q=>by subst q;rw[h1] at e1;cases e1;rw[h3] at e2;cases e2)];exact e1
   obtain⟨k1,k2⟩:=(ok1.perm p2).keep kk;refine h h' (kys++[ns]) true sb ⟨_,es2,ep2,t2,g,h2,rfl,T2,k1,pl2,ld2,fl2,?_,nd1⟩ (by rw[if_neg hnk]);rw[k2];exact pk.trans (p2.map _).symm
  have g1:=zCz (es':=es') (t':=(t.put j).1) h1 h3;have s1:bX a s.heap (s.heap.update a (Obj.putSet es' (t.put j).1)):=bX.update ..;by_cases hrl:(!d.isSome&&(t.put j).1.tooFull)=true
  ·rw[if_pos hrl]
   have so:=size_of (es.size+1) (by omega);have gw:e9 (es.size+1)=(es.size+1)*4:=by unfold e9;rw[if_neg (by omega)]
   rw[gw];refine bi (zOn (s:={ s with heap:=s.heap.update a (Obj.putSet es' (t.put j).1) }) g1 rfl T' so.1 (by rw[sz'];omega) so.2.2 fun es2 t2 T2 p2 pl2 ld2 mk2 fl2=>?_);refine bm (fin es2 t2 _ _ (s1.trans (bX.update ..)) (zCz (o:={ o with data:=.set es' (ep+1) (t.put j).1 }) g1 rfl) T2 p2 (pl2.trans pl) (ld2.trans ld) ?_);rw[fl2,mk2,sz'];exact so.2.1
  ·rw[if_neg hrl]
   refine bm (fin es' (t.put j).1 _ _ s1 g1 T' (.refl _) pl ld ?_);cases hd':d.isSome with
   | true =>
    rw[f2 (j5 hd'),mk];exact h8
   | false =>
    rw[hd'] at hrl;have:(t.put j).1.tooFull=false:=by simpa using hrl
    unfold SetTable.tooFull at this;simpa using this
 ·rcases h4.msk with z | z | z | z | z | z<;>omega
end
end HT2
namespace HT2
open HI (Ris yX wT zBe)
noncomputable def Kp(h0 h:Heap):Prop:=∀ b o,h0.get? b=some o->h.get? b=some o
section
variable {prog:Program} {w:World} {P:Addr->Prop} {A:Around} {R:Result->Shared->Prop} {h0:Heap} {S I:Addr} {fp wr:List Addr} {n:Nat} {its:Array Value} {val:Nat->List Int} {St:Nat->Heap->Prop} {g:Array GenState} {d:Drawn} {os:OsState}
theorem zFd(W:Walks prog w A.in1 I fp wr n (fun i v=>its[i]?=some v) St)(hA:A.in1.units<cLine)(hSf:S∉fp)(hS:h0.get? S=none)(hwr:∀ b∈wr,h0.get? b=none)(hwd:∀ i h,St i h->∀ b∈wr,∀ o,h.get? b=some o->∀ its n,o.data≠.seq its n)(hb:n<=60)
  (ht:∀ i v,its[i]?=some v->∃ c,v=.ref c/\TK prog w P h0 (val i) c) :
  ∀(k i:Nat) (h:Heap) (tk:Nat) (kys:List (List Int)),n-i=k->i<=n->Kp h0 h->St i h->ST prog w P h S kys->kys.length<=i->(∀ x,x∈kys↔∃ m,m<i/\val m=x) ->
   (∀ h' tk' kys',Kp h0 h'->ST prog w P h' S kys'->kys'.length<=n->(∀ x,x∈kys'↔∃ m,m<n/\val m=x)->R (.ok (.ret .none)) ⟨h',g,d,tk',os⟩) ->
   codeAny (model prog w) A (.builtin "set.update.loop" ⟨[.ref S,.ref I],[]⟩) R ⟨h,g,d,tk,os⟩:=by
 have hSw:S∉wr:=fun q=>hSf (W.sub _ q);have kpw:∀ {h h':Heap},Kp h0 h->(∀ b o,b∉wr->h.get? b=some o->h'.get? b=some o)->Kp h0 h':=fun {h h'} kp e b o q=>e b o (fun z=>by rw[hwr b z] at q;cases q) (kp b o q);have stw:∀ {h h':Heap} {kys},ST prog w P h S kys->(∀ b o,b∉wr->h.get? b=some o->h'.get? b=some o)->(∀ b o,b∈wr->h.get? b=some o->∀ its n,o.data≠.seq its n)->ST prog w P h' S kys:=fun {h h' kys} x e e2=>by
  obtain⟨o,es,ep,t,h1,h2,h3,h4,h5,h6,h7,h8,h9,h10⟩:=x;obtain⟨k1,k2⟩:=h5.keep fun c o its n q1 q2=>e c o (fun z=>e2 c o z q1 its n q2) q1;exact⟨o,es,ep,t,e _ _ hSw h1,h2,h3,h4,k1,h6,h7,h8,by rw[k2];exact h9,h10⟩
 intro k
 induction k with
 | zero =>
  intro i h tk kys hk hi kp st hst hl mem hR;obtain rfl:i=n:=by omega
  refine cf F.entry_set_update_loop ?_;rw[Around.under_plainId F.plain_set_update_loop _];show wpAny _ A.in1 (pyNext (.ref I)>>=_) _ _ _;refine bi (W.done _ _ _ st fun h' tk' e=>bm (hR h' tk' kys (kpw kp e) (stw hst e fun b o z q=>hwd _ _ st b z o q) hl mem))
 | succ k ih =>
  intro i h tk kys hk hi kp st hst hl mem hR;have lt:i<n:=by omega
  refine cf F.entry_set_update_loop ?_;rw[Around.under_plainId F.plain_set_update_loop _];show wpAny _ A.in1 (pyNext (.ref I)>>=_) _ _ _;refine bi (W.item i _ _ _ lt st fun v h1 tk1 hP st1 e1=>?_);obtain⟨c,rfl,hc⟩:=ht i v hP;have kp1:Kp h0 h1:=kpw kp e1;have hst1:=stw hst e1 fun b o z q=>hwd _ _ st b z o q;have hc1:TK prog w P h1 (val i) c:=hc.keep fun o q=>kp1 c o q;show wpAny _ A.in1 (holding [Value.ref c] (setAdd S (.ref c))>>=_) _ _ _;refine bi (bZ ?_);unfold setAdd;refine bZ (bi ((tupleKind (intKind prog w)).pyHash (k:=val i) hA hc1.1 ?_));refine zMB (s:=⟨h1,g,d,tk1+((val i).length+1),os⟩) hA hst1 hc1 (by omega) fun h2 kys2 r sb st2 pm=>?_;have len2:kys2.length<=i+1:=by
   rw[pm.length_eq];split
   ·omega
   ·rw[bR];simp;omega
  have mem2:∀ x,x∈kys2↔∃ m,m<i+1/\val m=x:=fun x=>by
   rw[pm.mem_iff];constructor
   ·intro q
    split at q
    ·obtain⟨m,h1,h2⟩:=(mem x).mp q
     exact⟨m,by omega,h2⟩
    ·rcases cu.mp q with q | q
     ·obtain⟨m,h1,h2⟩:=(mem x).mp q
      exact⟨m,by omega,h2⟩
     ·rw[bG] at q
      exact⟨i,by omega,q.symm⟩
   ·rintro⟨m,h1,h2⟩
    rcases cC m i with z | z
    ·have:=(mem x).mpr ⟨m,z,h2⟩
     split
     ·exact this
     ·exact cy _ this
    ·obtain rfl:m=i:=by omega
     split
     ·rename_i q;rw[<-h2];exact q
     ·rw[<-h2];simp
  have kp2:Kp h0 h2:=fun b o q=>by
   rw[sb.2 b (fun z=>by subst z;rw[hS] at q;cases q)];exact kp1 b o q
  refine bm ⟨plainId_quiet F.plain_set_update_loop _,ih (i+1) h2 _ kys2 (by omega) lt kp2 (W.frame _ _ _ st1 fun b hb' o e=>?_) st2 len2 mem2 hR⟩;rw[sb.2 b (fun q:b=S=>hSf (by rw[<-q];exact hb'))];exact e
end
end HT2
namespace HT2
open PySem PySem.Spec
open HI (Ris)
section
variable {prog:Program} {w:World} {P:Addr->Prop} {A:Around} {E:Value->Shared->Prop} {s:Shared}
theorem zN5{a b:Addr}{ns:List Int}{o:Obj}{es:Array (Int×Value)}{ep:Nat}{t:SetTable}{Q:Option Nat->Shared->Prop}(hA:A.units<cLine)(h1:s.heap.get? a=some o)(h3:o.data=.set es ep t)(h4:Tab t es)(h5:OkT prog w P s.heap es)(hb:TK prog w P s.heap ns b)
  (q1:∀(i:Nat) c,es[i]?=some (hT prog w ns,.ref c)->TK prog w P s.heap ns c->Q (some i) s) (q2:(∀(i:Nat) e c ms,es[i]?=some e->e.2=.ref c->TK prog w P s.heap ms c->ms≠ns)->Q none s) :
  wpAny (model prog w) A (setFind a (.ref b) (hT prog w ns)) Q E s:=by
 unfold setFind setFindIn;refine bi (cc h1 h3 (fits_of h4) ?_);dsimp only;rw[if_neg (by simp[byScan,Value.scannable])];obtain⟨N,n1,n2,n3⟩:=h4.stop (hT prog w ns);refine bi ?_;unfold setSearch;refine zRW (Q:=_) hA h1 h3 h4 h5 hb n1 n2 n3 (adding:=false) (fun i c e1 e2=>?_) (fun hno d hd=>?_) (N-0) 0 100000 none none rfl (cg _) ?_ (fun j q=>by cases q) rfl (fun m hm=>absurd hm (eI _))
 ·exact bm (q1 i c e1 e2)
 ·exact bm (q2 hno)
 ·rcases h4.msk with z | z | z | z | z | z<;>omega
theorem zIT{a b:Addr}{ns:List Int}{kys:List (List Int)}{Q:Bool->Shared->Prop}(hA:A.units<cLine)(hS:ST prog w P s.heap a kys)(hb:TK prog w P s.heap ns b)
  (h:∀ h' kys',bX a s.heap h'->ST prog w P h' a kys'->kys'.Perm (kys.erase ns)->Q (decide (ns∈kys)) { s with heap:=h' }):wpAny (model prog w) A (setDiscardHashed a (.ref b) (hT prog w ns)) Q E s:=by
 obtain⟨o,es,ep,t,h1,h2,h3,h4,h5,h6,h7,h8,h9,h10⟩:=id hS;unfold setDiscardHashed;refine bi (zN5 hA h1 h3 h4 h5 hb (fun i c e1 e2=>?_) (fun hno=>?_))
 ·dsimp only
  have hi:i<es.size:=(cU.mp e1).1;have eL:es.toList[i]?=some (hT prog w ns,.ref c):=by simpa using e1
  have hin:ns∈kys:=by
   rw[h9.mem_iff];exact bF.mpr ⟨_,bM eL,zCI e2 _⟩
  have pl:t.place[i]?=some (t.place[i]'(by rw[h4.size];exact hi)):=by simp[h4.size,hi]
  obtain⟨T',fz⟩:=h4.drop pl;refine bi (cc h1 h3 (fits_of h4) ?_);dsimp only;have sz:(bQ es i).size<=es.size:=by
   rw[<-bK,zb,bR,cT,eB];simp only[bK];omega
  have esl:es.size<=255:=by
   have:=h4.size;have:=h4.room;have:t.fill=t.place.size+t.dummies.size:=rfl;rcases h4.msk with z | z | z | z | z | z<;>omega
  refine bi (ej h1 h3 (bi (wpAny_point (bm ?_))) (by rw[sizeLine_eq];omega));have sb:bX a s.heap (s.heap.update a (Obj.putSet (bQ es i) (t.drop i))):=bX.update ..;have g:=zCz (es':=bQ es i) (t':=t.drop i) h1 h3;have pe:es.toList.Perm ((hT prog w ns,.ref c)::(bQ es i).toList):=by rw[zb];exact zJI eL
  have ok1:OkT prog w P s.heap (bQ es i):=.of fun e he=>by
   obtain⟨c,e1,e2⟩:=h5.mem e (pe.mem_iff.mpr (bN _ he));exact⟨c,_,e1,e2⟩
  have kk:∀ c o' its n,s.heap.get? c=some o'->o'.data=.seq its n->(s.heap.update a (Obj.putSet (bQ es i) (t.drop i))).get? c=some o':=fun c o' its n e1 e2=>by
   rw[sb.2 c (fun q=>by subst q;rw[h1] at e1;cases e1;rw[h3] at e2;cases e2)];exact e1
  obtain⟨k1,k2⟩:=ok1.keep kk;have pk:(kys.erase ns).Perm ((bQ es i).toList.map (kyT s.heap)):=by
   have:=h9.trans (pe.map (kyT s.heap));rw[cz,zCI e2] at this;have:=this.erase ns;rwa [List.erase_cons_head] at this
  have dr:(t.drop i).mask=t.mask/\(t.drop i).plain=t.plain/\(t.drop i).led=t.led:=by
   unfold SetTable.drop;rw[pl];exact⟨rfl,rfl,rfl⟩
  have:=h _ (kys.erase ns) sb ⟨_,_,_,_,g,h2,rfl,T',k1,dr.2.1.trans h6,dr.2.2.trans h7,by rw[fz,dr.1];exact h8,by rw[k2];exact pk,h10.erase _⟩ (.refl _);rwa [decide_eq_true hin] at this
 ·have hnk:ns∉kys:=fun q=>by
   rw[h9.mem_iff] at q;obtain⟨e,he,hk⟩:=bF.mp q;obtain⟨c,e1,e2⟩:=h5.mem e he;obtain⟨i,hi,e3⟩:=dG he;rw[hk] at e2;exact hno i e c ns (by rw[<-e3];simpa using hi) (by rw[e1]) e2 rfl
  dsimp only;refine bm ?_;have:=h s.heap kys ⟨rfl,fun u0 u0=>rfl⟩ hS (by rw[List.erase_of_not_mem hnk]);rwa [decide_eq_false hnk] at this
noncomputable def zHP(ns:List Int)(kys:List (List Int)):List (List Int):=if ns∈kys then kys.erase ns else kys++[ns]
theorem zN6{a b:Addr}{ns:List Int}{kys:List (List Int)}{Q:Unit->Shared->Prop}(hA:A.units<cLine)(hS:ST prog w P s.heap a kys)(hb:TK prog w P s.heap ns b)(room:kys.length<=60)
  (h:∀ h' kys',bX a s.heap h'->ST prog w P h' a kys'->kys'.Perm (zHP ns kys)->Q () { s with heap:=h' }) :
  wpAny (model prog w) A (holding [.ref b] do
   if !(<-setDiscardHashed a (.ref b) (hT prog w ns)) then
    let _ <-setAddHashed a (.ref b) (hT prog w ns)) Q E s:=by
 refine bZ (bi (zIT hA hS hb fun h1 kys1 sb1 st1 p1=>?_));by_cases hin:ns∈kys
 ·rw[decide_eq_true hin]
  simp only[dB,bj,↓reduceIte];exact bm (h h1 kys1 sb1 st1 (by unfold zHP;rw[if_pos hin];exact p1))
 ·rw[decide_eq_false hin]
  simp only[Bool.not_false,↓reduceIte];rw[List.erase_of_not_mem hin] at p1;have hb1:TK prog w P h1 ns b:=by
   obtain⟨⟨o,i,n,e,c,d,r⟩,qp⟩:=hb;obtain⟨os,es,ep,t,g1,g2,g3,u0⟩:=hS;exact⟨⟨o,i,n,by rw[sb1.2 b (fun q=>by subst q;rw[g1] at e;cases e;rw[g3] at d;cases d)];exact e,c,d,r⟩,qp⟩
  refine bi (zMB (s:={ s with heap:=h1 }) hA st1 hb1 (by rw[p1.length_eq];exact room) fun h2 kys2 r sb2 st2 p2=>bm ?_);have hin1:ns∉kys1:=fun q=>hin (p1.mem_iff.mp q);rw[if_neg hin1] at p2;exact h h2 kys2 (sb1.trans sb2) st2 (by unfold zHP;rw[if_neg hin];exact p2.trans (p1.append_right _))
end
open HI (Ris yX wT)
section
variable {prog:Program} {w:World} {P:Addr->Prop} {A:Around} {E:Value->Shared->Prop} {s:Shared}
theorem zMC(n:Nat)(h:n<=60):Msk (bL ((0+n)*2)-1)/\(n=0\/n*5<(bL ((0+n)*2)-1)*3)/\bL ((0+n)*2)<=256:=by
 have:∀ n,n<61->((bL ((0+n)*2)-1==7||bL ((0+n)*2)-1==15||bL ((0+n)*2)-1==31||bL ((0+n)*2)-1==63||bL ((0+n)*2)-1==127||bL ((0+n)*2)-1==255)&&decide (n=0\/n*5<(bL ((0+n)*2)-1)*3)&&decide (bL ((0+n)*2)<=256))=true:=by decide +kernel
 have:=this n (by omega);simp only[dN,Bool.or_eq_true,beq_iff_eq,decide_eq_true_eq] at this;refine⟨?_,this.1.2,this.2⟩;unfold Msk;omega
structure New (w:World) (h:Heap) (a:Addr) (n:Nat):Prop where
 ex:∃(o:Obj) (ep:Nat) (t:SetTable),h.get? a=some o/\o.ExactSet/\o.data=.set #[] ep t/\Tab t #[]/\t.plain=true/\t.led=wT w/\t.fill=0/\(n=0\/n*5<t.mask*3)
theorem zN7{w:World}:Tab (.fresh 0 0 (wT w)) #[]:=⟨.inl rfl,rfl,dA.nil,dA.nil,fun j hj=>(by simp[ef] at hj),fun j hj=>(by simp[ef] at hj),cg _,fun j h x he=>(by
 obtain⟨i,e,u0⟩:=he;simp[ef] at e),fun j hj=>(by simp[ef] at hj)⟩
theorem zRY{a:Addr}{n:Nat}{Q:Unit->Shared->Prop}(hn:n<=60)(h0:s.heap.get? a=some (yX w))(h:∀ h',bX a s.heap h'->New w h' a n->Q () { s with heap:=h' }):wpAny (model prog w) A (setRoomFor a n) Q E s:=by
 unfold setRoomFor;refine bi (cc h0 rfl (fits_of zN7) ?_);have rf:(ef 0 0 (wT w)).roomFor n=if n*5≥21 then some ((0+n)*2) else none:=by
  unfold SetTable.roomFor;show(if (0+n)*5≥7*3 then some ((0+n)*2) else none)=_;rw[Nat.zero_add]
 dsimp only;rw[rf];have so:=zMC n hn;split
 ·rename_i wanted hw
  split at hw
  ·cases hw
   refine zOn h0 rfl zN7 so.1 (cg _) so.2.2 fun es' t' T' p pl ld mk fl=>?_;have:es'=#[]:=by
    have:=p.length_eq;simpa using this
   subst this;exact h _ (bX.update ..) ⟨_,_,t',zCz h0 rfl,⟨rfl,rfl,rfl⟩,rfl,T',pl,ld,fl,by rw[mk];exact so.2.1⟩
  ·cases hw
 ·rename_i hw
  refine bm (h s.heap ⟨rfl,fun u0 u0=>rfl⟩ ⟨_,_,_,h0,⟨rfl,rfl,rfl⟩,rfl,zN7,rfl,rfl,rfl,.inr ?_⟩);show n*5<7*3;rcases cC (n*5) 21 with z | z
  ·exact z
  ·exact(hw _ (if_pos z)).elim
theorem zKM{a r:Addr}{kys:List (List Int)}{each:Sem Unit}{Q:Unit->Shared->Prop}(har:a≠r)(h0:s.heap.get? a=some (yX w))(hS:ST prog w P s.heap r kys)(hn:kys.length<=60)
  (h:∀ h',bX a s.heap h'->ST prog w P h' a kys->Q () { s with heap:=h' }):wpAny (model prog w) A (setMerge a r each) Q E s:=by
 obtain⟨o,es,ep,t,h1,h2,h3,h4,h5,h6,h7,h8,h9,h10⟩:=id hS;have esz:es.size=kys.length:=by have:=h9.length_eq;simp at this;omega
 unfold setMerge;rw[if_neg (by simpa using har)];refine bi (cc h1 h3 (fits_of h4) ?_);dsimp only;have nt:∀ {h':Heap},bX a s.heap h'->∀ c o' its n,s.heap.get? c=some o'->o'.data=.seq its n->h'.get? c=some o':=fun {h'} sb c o' its n e1 e2=>by
  rw[sb.2 c (fun q=>by subst q;rw[h0] at e1;cases e1;cases e2)];exact e1
 by_cases he:es.isEmpty=true
 ·rw[if_pos he]
  have e0:es=#[]:=by simpa using he
  subst e0;have k0:kys=[]:=by simpa using esz.symm
  subst k0;exact bm (h s.heap ⟨rfl,fun u0 u0=>rfl⟩ ⟨_,#[],_,_,h0,⟨rfl,rfl,rfl⟩,rfl,zN7,fun i e q=>(by simp at q),rfl,rfl,(by show 0*5<7*3;decide),.refl _,List.nodup_nil⟩)
 ·rw[if_neg he]
  refine bi (zRY (n:=es.size) (by omega) h0 fun h' sb nw=>?_);obtain⟨on,epn,tn,g1,g2,g3,g4,g5,g6,g7,g8⟩:=nw.ex;have hpos:0<es.size:=by
   rcases Nat.eq_zero_or_pos es.size with z | z
   ·exact(he (by simpa using z)).elim
   ·exact z
  have g8:es.size*5<tn.mask*3:=by rcases g8 with z | z<;>omega
  refine bi (cc (s:={ s with heap:=h' }) g1 g3 (fits_of g4) ?_);dsimp only;obtain⟨k1,k2⟩:=h5.keep (nt sb);have fin:∀(es2:Array (Int×Value)) (t2:SetTable),Tab t2 es2->es2.toList.Perm es.toList->t2.plain=true->t2.led=wT w->t2.fill*5<t2.mask*3->es2.size<=sizeLine/\Q () { s with heap:=h'.update a (Obj.putSet es2 t2) }:=fun es2 t2 T2 p2 pl2 ld2 fl2=>by
   have s2:es2.size=es.size:=by have:=p2.length_eq;simpa using this
   refine⟨by rw[s2,sizeLine_eq];omega,?_⟩;have sb2:bX a s.heap (h'.update a (Obj.putSet es2 t2)):=sb.trans (bX.update ..);obtain⟨j1,j2⟩:=(h5.perm p2).keep (nt sb2);refine h _ sb2 ⟨_,es2,_,t2,zCz g1 g3,g2,rfl,T2,j1,pl2,ld2,fl2,?_,h10⟩;rw[j2];exact h9.trans (p2.map _).symm
  have rd:tn.road t=if (tn.mask==t.mask&&t.dummies.isEmpty)=true then .slotForSlot else .clean:=by
   unfold SetTable.road;rw[g7];rfl
  rw[rd];by_cases hs:(tn.mask==t.mask&&t.dummies.isEmpty)=true
  ·rw[if_pos hs]
   dsimp only;obtain⟨f1,f2⟩:=fin es { t with finger:=tn.finger,led:=tn.led&&t.led,moves:=tn.moves,plain:=tn.plain&&t.plain } ⟨h4.msk,h4.size,h4.ris,h4.risD,h4.le,h4.leD,h4.room,h4.way,h4.dis⟩ (.refl _) (by show(tn.plain&&t.plain)=true;rw[g5,h6];rfl) (by show(tn.led&&t.led)=_;rw[g6,h7];simp) h8;exact ej (s:={ s with heap:=h' }) g1 g3 f2 f1
  ·rw[if_neg hs]
   dsimp only;obtain⟨t',order,l1,l2,l3,l4,l5,l6,l7,l8⟩:=zJJ (mask:=tn.mask) (finger:=tn.finger) (moves:=tn.moves) (led:=tn.led&&t.led) (plain:=tn.plain&&t.plain) (es:=es) g4.msk (by omega);have sz:(order.filterMap (es[·]?)).size=es.size:=by
    have:=l3.length_eq;rw[bK,bK] at this;exact this
   refine bi (df (a:=(order.filterMap (es[·]?),t')) ?_ ?_)
   ·rw[l1]
    show(if ((order.filterMap (es[·]?)).size != es.size)=true then _ else _)=_;rw[if_neg (by rw[sz];simp)]
   ·dsimp only
    obtain⟨f1,f2⟩:=fin (order.filterMap (es[·]?)) t' l2 l3 (by rw[l6,g5,h6];rfl) (by rw[l5,g6,h7];simp) (by
     rw[l4];have:t'.fill=t'.place.size+t'.dummies.size:=rfl;rw[this,l7,l8];simpa using g8)
    exact ej (s:={ s with heap:=h' }) g1 g3 f2 f1
end
end HT2
namespace HT2
open HI (Ris yX wT zAl zA0)
theorem zMD:isSubtype (.type "set") (.type "set")=pure true:=by rw[isSubtype_type];kernel_rfl
section
variable {prog:Program} {w:World} {P:Addr->Prop} {A:Around} {E:Value->Shared->Prop} {s:Shared}
theorem zGS{a:Addr}{o:Obj}{Q:Bool->Shared->Prop}(ho:s.heap.get? a=some o)(hc:o.cls=.type "set")(h:Q true s):wpAny (model prog w) A (Builtin.Frozenset.isAnySet (.ref a)) Q E s:=by
 unfold Builtin.Frozenset.isAnySet;unfold orM;refine bi (cS (T:="set") (b:=true) ⟨o,ho,hc⟩ zMD ?_);exact bm h
theorem zME{nm:String}{r:Addr}{kys:List (List Int)}{Q:Value->Shared->Prop}(hS:ST prog w P s.heap r kys)(hn:kys.length<=60)
  (h:∀ h',(∀ b o,s.heap.get? b=some o->h'.get? b=some o)->ST prog w P h' s.heap.objs.size kys->Q (.ref s.heap.objs.size) { s with heap:=h' }):wpAny (model prog w) A (Builtin.Frozenset.newFrom nm (.type "set") (.ref r)) Q E s:=by
 obtain⟨o,es,ep,t,h1,h2,h3,h4,u0⟩:=id hS;have lr:r<s.heap.objs.size:=bC h1;unfold Builtin.Frozenset.newFrom newSet;refine bi (bi (zAl ?_));dsimp only;refine bS ?_;refine bi (m:=Builtin.Frozenset.addrOf _) (bm ?_);show wpAny _ _ (holding [Value.ref s.heap.objs.size] (Builtin.Frozenset.updateFrom nm s.heap.objs.size (.ref r))>>=fun u0=>pure (Value.ref s.heap.objs.size)) _ _ { s with heap:=s.heap.push (yX w) };have h0:(s.heap.push (yX w)).get? s.heap.objs.size=some (yX w):=bB _ rfl;have h1':(s.heap.push (yX w)).get? r=some o:=bn _ h1;refine bi (bZ ?_);unfold Builtin.Frozenset.updateFrom;refine bi (zGS (s:={ s with heap:=s.heap.push (yX w) }) h1' h2.1 ?_);rw[if_pos rfl];show wpAny _ _ (Builtin.Frozenset.merge nm s.heap.objs.size r) _ _ _;unfold Builtin.Frozenset.merge;refine bi (wpAny_setEpoch_of (s:={ s with heap:=s.heap.push (yX w) }) h1' h3 (fits_of h4) ?_);refine zKM (s:={ s with heap:=s.heap.push (yX w) }) (fe lr) h0 (hS.keep fun b o e=>bn _ e) hn fun h' sb st=>bm ?_;refine h h' (fun b o e=>?_) st;rw[sb.2 b (bO (bC e))];exact bn _ e
theorem zMF{a c:Addr}{o:Obj}{es:Array (Int×Value)}{ep:Nat}{t:SetTable}{Q:Array (Int×Value)->Shared->Prop}(ho:s.heap.get? a=some o)(hd:o.data=.set es ep t)(hf:t.fits es.size=true)(pl:t.plain=true)(ld:t.led=wT w)
  (h:∀ xs:Array (Int×Value),xs.toList.Perm es.toList->Q xs s):wpAny (model prog w) A (setWalkUnseen a [c] (some c)) Q E s:=by
 unfold setWalkUnseen;refine bi (cc ho hd hf (bi (zAl ?_)));dsimp only;have hc:(w.params.followText "set-order"||(t.led&&t.plain)||decide (es.size<=1))=true:=by
  rw[pl,ld];unfold HI.wT;cases w.params.followText "set-order"<;>rfl
 rw[if_pos hc];unfold setWalk;refine bi (cc ho hd hf (bi (zAl ?_)));cases bt:w.params.followText "set-order" with
 | true =>
  simp only[↓reduceIte];refine bi (wpAny_askSetting (bm (h _ (zA0 _ es))))
 | false =>
  simp only[bj,↓reduceIte];have ld':t.led=true:=by rw[ld];unfold HI.wT;rw[bt];rfl
  refine cN (fun q=>absurd (show(!t.plain&&decide (es.size>1))=true from q) (by rw[pl];simp)) (fun u0=>?_);refine bi (cN (fun q=>absurd q (by rw[ld'];simp)) (fun u0=>bm (bm (h es (.refl _)))))
theorem ST.but{h h':Heap}{a r:Addr}{kys:List (List Int)}(hS:ST prog w P h r kys)(hra:r≠a)(ha:∃ o es ep t,h.get? a=some o/\o.data=.set es ep t)(sb:bX a h h'):ST prog w P h' r kys:=by
 obtain⟨o,es,ep,t,h1,h2,h3,h4,h5,h6,h7,h8,h9,h10⟩:=hS;obtain⟨oa,ea,epa,ta,g1,g2⟩:=ha;obtain⟨k1,k2⟩:=h5.keep fun c o' its n e1 e2=>by
  rw[sb.2 c (fun q=>by subst q;rw[g1] at e1;cases e1;rw[g2] at e2;cases e2)];exact e1
 exact⟨o,es,ep,t,by rw[sb.2 r hra];exact h1,h2,h3,h4,k1,h6,h7,h8,by rw[k2];exact h9,h10⟩
theorem zMG{ns:List Int}{kys:List (List Int)}(nd:kys.Nodup)(x:List Int):x∈zHP ns kys↔(if x=ns then x∉kys else x∈kys):=by
 unfold zHP;by_cases hin:ns∈kys
 ·rw[if_pos hin,nd.mem_erase_iff]
  by_cases e:x=ns
  ·subst e;simp[hin]
  ·simp[e]
 ·rw[if_neg hin,cu,bG]
  by_cases e:x=ns
  ·subst e;simp[hin]
  ·simp[e]
theorem zN8{nm:String}{a l:Addr}{K0 kl U:List (List Int)}{Q:Unit->Shared->Prop}(hA:A.units<cLine)(hal:l≠a)(hS:ST prog w P s.heap a K0)(hL:ST prog w P s.heap l kl)(hU:U.length<=60)(u1:∀ x∈K0,x∈U)(u2:∀ x∈kl,x∈U)
  (h:∀ h' kys,bX a s.heap h'->ST prog w P h' a kys->(∀ x,x∈kys↔¬ (x∈K0↔x∈kl))->kys.length<=60->Q () { s with heap:=h' }) :
  wpAny (model prog w) A (Builtin.Frozenset.symmetricDifferenceUpdate nm a (.ref l)) Q E s:=by
 obtain⟨o,es,ep,t,h1,h2,h3,h4,h5,h6,h7,h8,h9,h10⟩:=id hL;obtain⟨oa,ea,epa,ta,g1,g2,g3,u0⟩:=id hS;unfold Builtin.Frozenset.symmetricDifferenceUpdate;rw[if_neg (by simpa using hal)];refine bi (dC (T:="set") ⟨o,h1,h2.1⟩ ?_);rw[if_neg (by decide)];refine bi (zGS h1 h2.1 ?_);rw[if_pos rfl];refine bi (bm (bi (m:=Builtin.Frozenset.addrOf _) (bm ?_)));refine bi (wpAny_setEpoch_of h1 h3 (fits_of h4) (bZ ?_));refine bi (zMF h1 h3 (fits_of h4) h6 h7 fun xs pm=>?_);rw[<-Array.forIn_toList];have key:∀ e∈xs.toList,∃ c,e=(hT prog w (kyT s.heap e),.ref c)/\TK prog w P s.heap (kyT s.heap e) c:=fun e he=>h5.mem e (pm.mem_iff.mp he);have kperm:(xs.toList.map (kyT s.heap)).Perm kl:=(pm.map _).trans h9.symm;have knd:(xs.toList.map (kyT s.heap)).Nodup:=kperm.nodup_iff.mpr h10;refine bi (dX _ (fun rest r s'=>∃ done h' kys,xs.toList=done++rest/\s'={ s with heap:=h' }/\bX a s.heap h'/\ST prog w P h' a kys/\∀ x,x∈kys↔¬ (x∈K0↔x∈done.map (kyT s.heap))) _ ?_ ?_ _ _ ⟨[],s.heap,K0,rfl,rfl,⟨rfl,fun u0 u0=>rfl⟩,hS,fun x=>by simp⟩)
 ·rintro e rest r s' ⟨done,h',kys,e1,rfl,sb,st,mem⟩
  have he:e∈xs.toList:=by rw[e1];simp
  obtain⟨c,e2,e3⟩:=key e he;generalize hns:kyT s.heap e=ns at e2 e3;subst e2;have e3':TK prog w P h' ns c:=by
   obtain⟨⟨o',i,n,q1,q2,q3,q4⟩,qp⟩:=e3;exact⟨⟨o',i,n,by rw[sb.2 c (fun q=>by subst q;rw[g1] at q1;cases q1;rw[g3] at q3;cases q3)];exact q1,q2,q3,q4⟩,qp⟩
  have hl':=hL.but hal ⟨oa,ea,epa,ta,g1,g3⟩ sb;have nd:kys.Nodup:=let ⟨_,_,_,_,_,_,_,_,_,_,_,_,_,q⟩:=st;q;have sub:∀ x∈kys,x∈U:=fun x hx=>by
   by_cases q:x∈K0
   ·exact u1 x q
   ·have:=(mem x).mp hx
    have:x∈done.map (kyT s.heap):=Classical.byContradiction fun z=>this ⟨fun y=>(q y).elim,fun y=>(z y).elim⟩;exact u2 x (kperm.mem_iff.mp (by rw[e1,dt];exact cy _ this))
  have len:kys.length<=60:=cK (eR.length_le_of_subset nd sub) hU;dsimp only;refine bi (zN6 (s:={ s with heap:=h' }) hA st e3' len fun h2 kys2 sb2 st2 p2=>?_);unfold Builtin.Frozenset.unchanged;have g1':h2.get? l=some o:=by rw[sb2.2 l hal,sb.2 l hal];exact h1
  refine bi (bi (wpAny_setEpoch_of (s:={ s with heap:=h2 }) g1' h3 (fits_of h4) ?_));rw[if_neg (by simp)];refine bm (bm ⟨done++[(hT prog w ns,.ref c)],h2,kys2,by rw[e1];simp,rfl,sb.trans sb2,st2,fun x=>?_⟩);have nn:ns∉done.map (kyT s.heap):=fun q=>by
   rw[e1,dt,cz,hns] at knd;exact(eP.mp knd).2.2 ns q ns (bU) rfl
  rw[p2.mem_iff,zMG nd,dt,cu,List.map_singleton,hns,bG];by_cases e:x=ns
  ·subst e
   rw[if_pos rfl,mem x];simp only[nn,or_true,iff_true,iff_false,Classical.not_not,false_or]
  ·rw[if_neg e,mem x]
   simp only[e,or_false]
 ·rintro r s' ⟨done,h',kys,e1,rfl,sb,st,mem⟩
  rw[eM] at e1;have nd:kys.Nodup:=let ⟨_,_,_,_,_,_,_,_,_,_,_,_,_,q⟩:=st;q;have mm:∀ x,x∈kys↔¬ (x∈K0↔x∈kl):=fun x=>by rw[mem x,<-e1,kperm.mem_iff]
  have sub:∀ x∈kys,x∈U:=fun x hx=>by
   by_cases q:x∈K0
   ·exact u1 x q
   ·have:=(mm x).mp hx
    exact u2 x (Classical.byContradiction fun z=>this ⟨fun y=>(q y).elim,fun y=>(z y).elim⟩)
  exact bm (h h' kys sb st mm (cK (eR.length_le_of_subset nd sub) hU))
end
open HI (Ris yX wT zBe)
section
variable {prog:Program} {w:World} {P:Addr->Prop} {A:Around} {E:Value->Shared->Prop} {s:Shared}
theorem zMH{h:Heap}:ST prog w P (h.push (yX w)) h.objs.size []:=by
 refine⟨yX w,#[],0,.fresh 0 0 (wT w),bB _ rfl,⟨rfl,rfl,rfl⟩,rfl,⟨.inl rfl,rfl,dA.nil,dA.nil,fun j hj=>(by simp[ef] at hj),fun j hj=>(by simp[ef] at hj),cg _,fun j h x he=>?_,fun j hj=>(by simp[ef] at hj)⟩,fun i e he=>by simp at he,rfl,rfl,(by show 0*5<7*3;decide),.refl _,List.nodup_nil⟩;obtain⟨i,e,u0⟩:=he;simp[ef] at e
theorem zKN{l:Addr}{its:Array Value}{val:Nat->List Int}{Q:Value->Shared->Prop}(hh:A.handled=none)(hA:A.in1.in1.in1.units<cLine)(hl:s.heap.IsList l its)(ht:∀ i v,its[i]?=some v->∃ c,v=.ref c/\TK prog w P s.heap (val i) c)(hb:its.size<=60)
  (h:∀(h':Heap) (tk:Nat) (kys:List (List Int)),ST prog w P h' s.heap.objs.size kys->kys.length<=its.size->(∀ x,x∈kys↔∃ m,m<its.size/\val m=x)->Kp s.heap h'->Q (.ref s.heap.objs.size) { s with heap:=h',toks:=tk }) :
  wpAny (model prog w) A (call (.type "set") [.ref l]) Q E s:=by
 obtain⟨c,tl,hmro⟩:=F.called_set.mro;have hmade:=F.called_set.made;have hsub:=F.called_set.sub;refine wpAny_call (codeAny_of_tree (show wpAny _ _ (callAny (.type "set") _) _ _ _ from bm ⟨Code.quiet_builtin _ (by decide +kernel),cf F.entry_type_call ?_⟩));rw[Around.under_plain (weight_type_call_type "set" [.ref l] []) rfl];have h1:=F.called_set.notType;have h2:=F.called_set.canCreate;have hct:=F.typeCall_set_1 (.ref l)
 (repeat (any_goals (first | assumption | wp_step)))
 refine cR (zBe (.ref l) (E:=E) (Q1:=fun obj z=>obj=.ref s.heap.objs.size/\z={ s with heap:=s.heap.push (yX w) }) ⟨rfl,rfl⟩) fun r z hr=>?_;cases r with
 | error e=>exact hr
 | ok fl =>
  cases fl with
  | ret obj =>
   obtain⟨rfl,rfl⟩:=hr;have hT:Shared.TypeIs { s with heap:=s.heap.push (yX w) } (.ref s.heap.objs.size) "set":=⟨_,bB _ rfl,rfl⟩
   have hli:=F.called_set.init.lookup;have hbi:=F.called_set.init.bind (.ref s.heap.objs.size)
   (repeat (any_goals (first | assumption | wp_step)))
   refine cR (codeAny_call_builtin (R:=wants (fun r z2=>r=.none/\∃ h' tk kys,z2={ s with heap:=h',toks:=tk }/\ST prog w P h' s.heap.objs.size kys/\kys.length<=its.size/\(∀ x,x∈kys↔∃ m,m<its.size/\val m=x)/\Kp s.heap h') E) F.called_set.init.plain F.entry_set_init (check_set_init_1 hT ?_)) fun r2 z2 hr2=>?_
   ·obtain⟨ol,hol,hcl,nl,hdl⟩:=hl
    obtain⟨ocls,odict,odata,oslots⟩:=ol;simp only at hcl hdl;subst hcl;subst hdl;have hol':(s.heap.push (yX w)).get? l=some { cls:=.type "list",dict:=odict,data:=.seq its nl,slots:=oslots }:=bn _ hol;have hsls:isSubtype (.type "list") (.type "set")=pure false:=by rw[isSubtype_type];kernel_rfl
    have hslf:isSubtype (.type "list") (.type "frozenset")=pure false:=by rw[isSubtype_type];kernel_rfl
    have hne:(Value.type "list"==Value.type "dict")=false:=by decide
    have hl1:(s.heap.push (yX w)).IsList l its:=⟨_,hol',rfl,nl,rfl⟩
    unfold Builtin.«set.__init__» noKeywords Builtin.Frozenset.updateFrom;generalize hPI:pyIter=PI
    wp_walk
    subst hPI;refine wpAny_pyIter_list hl1 (bi (e8 ?_));have lS:l<s.heap.objs.size:=bC hol;have hh3:A.in1.in1.in1.handled=none:=by simp[hh]
    have neI:l≠(s.heap.push (yX w)).objs.size:=by rw[dH];exact bO (Nat.lt_succ_of_lt lS)
    have hSf:s.heap.objs.size∉[(s.heap.push (yX w)).objs.size,l]:=by
     rw[dH];simp only[ce,bG,eu,or_false,not_or];exact⟨bO (Nat.lt_succ_self _),fe lS⟩
    have st0:ST prog w P ((s.heap.push (yX w)).push { cls:=.type "list_iterator",data:=.fields #[.ref l,.int 0 0] }) s.heap.objs.size []:=zMH.keep fun b o e=>bn _ e;refine zFd (h0:=s.heap) (Walks.list hh3 _ l neI its) hA hSf (eW (bE _)) (fun b hb'=>by
     rw[bG] at hb';rw[hb',dH];exact eW (eJ _)) (fun i h st b hb' o e its n q=>by
     rw[bG] at hb';subst hb';obtain⟨o2,e2,c2,d2⟩:=st.1;rw[e2] at e;cases e;rw[d2] at q;cases q) hb ht (its.size-0) 0 _ _ [] (by omega) (cg _) (fun b o e=>bn _ (bn _ e)) ⟨⟨_,bB _ rfl,rfl,rfl⟩,hl1.push _⟩ st0 (bE _) (fun x=>⟨fun q=>(by simp at q),fun⟨m,q,_⟩=>absurd q (eI _)⟩) ?_
    intro h' tk' kys' kp st len mem;show wpAny _ _ _ _ _ _;refine bm ?_;show wpAny _ _ (ret Value.none) _ _ _;exact bm ⟨rfl,h',tk',kys',rfl,st,len,mem,kp⟩
   ·cases r2 with
    | error e=>exact hr2
    | ok fl2 =>
     cases fl2 with
     | ret r =>
      obtain⟨rfl,h',tk,kys,rfl,st,len,mem,kp⟩:=hr2
      (repeat (any_goals (first | assumption | wp_step)))
      exact h _ _ kys st len mem kp
     | _=>exact hr2.elim
  | _=>exact hr.elim
theorem zKO{l:Addr}{its:Array Value}{val:Nat->List Int}{Q:Value->Shared->Prop}(hh:A.handled=none)(hA:A.in1.in1.in1.units<cLine)(hl:s.heap.IsTuple l its)(ht:∀ i v,its[i]?=some v->∃ c,v=.ref c/\TK prog w P s.heap (val i) c)(hb:its.size<=60)
  (h:∀(h':Heap) (tk:Nat) (kys:List (List Int)),ST prog w P h' s.heap.objs.size kys->kys.length<=its.size->(∀ x,x∈kys↔∃ m,m<its.size/\val m=x)->Kp s.heap h'->Q (.ref s.heap.objs.size) { s with heap:=h',toks:=tk }) :
  wpAny (model prog w) A (call (.type "set") [.ref l]) Q E s:=by
 obtain⟨c,tl,hmro⟩:=F.called_set.mro;have hmade:=F.called_set.made;have hsub:=F.called_set.sub;refine wpAny_call (codeAny_of_tree (show wpAny _ _ (callAny (.type "set") _) _ _ _ from bm ⟨Code.quiet_builtin _ (by decide +kernel),cf F.entry_type_call ?_⟩));rw[Around.under_plain (weight_type_call_type "set" [.ref l] []) rfl];have h1:=F.called_set.notType;have h2:=F.called_set.canCreate;have hct:=F.typeCall_set_1 (.ref l)
 (repeat (any_goals (first | assumption | wp_step)))
 refine cR (zBe (.ref l) (E:=E) (Q1:=fun obj z=>obj=.ref s.heap.objs.size/\z={ s with heap:=s.heap.push (yX w) }) ⟨rfl,rfl⟩) fun r z hr=>?_;cases r with
 | error e=>exact hr
 | ok fl =>
  cases fl with
  | ret obj =>
   obtain⟨rfl,rfl⟩:=hr;have hT:Shared.TypeIs { s with heap:=s.heap.push (yX w) } (.ref s.heap.objs.size) "set":=⟨_,bB _ rfl,rfl⟩
   have hli:=F.called_set.init.lookup;have hbi:=F.called_set.init.bind (.ref s.heap.objs.size)
   (repeat (any_goals (first | assumption | wp_step)))
   refine cR (codeAny_call_builtin (R:=wants (fun r z2=>r=.none/\∃ h' tk kys,z2={ s with heap:=h',toks:=tk }/\ST prog w P h' s.heap.objs.size kys/\kys.length<=its.size/\(∀ x,x∈kys↔∃ m,m<its.size/\val m=x)/\Kp s.heap h') E) F.called_set.init.plain F.entry_set_init (check_set_init_1 hT ?_)) fun r2 z2 hr2=>?_
   ·obtain⟨ol,hol,hcl,nl,hdl⟩:=hl
    obtain⟨ocls,odict,odata,oslots⟩:=ol;simp only at hcl hdl;subst hcl;subst hdl;have hol':(s.heap.push (yX w)).get? l=some { cls:=.type "tuple",dict:=odict,data:=.seq its nl,slots:=oslots }:=bn _ hol;have hsls:isSubtype (.type "tuple") (.type "set")=pure false:=by rw[isSubtype_type];kernel_rfl
    have hslf:isSubtype (.type "tuple") (.type "frozenset")=pure false:=by rw[isSubtype_type];kernel_rfl
    have hne:(Value.type "tuple"==Value.type "dict")=false:=by decide
    have hl1:(s.heap.push (yX w)).IsTuple l its:=⟨_,hol',rfl,nl,rfl⟩
    unfold Builtin.«set.__init__» noKeywords Builtin.Frozenset.updateFrom;generalize hPI:pyIter=PI
    wp_walk
    subst hPI;refine wpAny_pyIter_tuple hl1 (bi (e8 ?_));have lS:l<s.heap.objs.size:=bC hol;have hh3:A.in1.in1.in1.handled=none:=by simp[hh]
    have neI:l≠(s.heap.push (yX w)).objs.size:=by rw[dH];exact bO (Nat.lt_succ_of_lt lS)
    have hSf:s.heap.objs.size∉[(s.heap.push (yX w)).objs.size,l]:=by
     rw[dH];simp only[ce,bG,eu,or_false,not_or];exact⟨bO (Nat.lt_succ_self _),fe lS⟩
    have st0:ST prog w P ((s.heap.push (yX w)).push { cls:=.type "tuple_iterator",data:=.fields #[.ref l,.int 0 0] }) s.heap.objs.size []:=zMH.keep fun b o e=>bn _ e;refine zFd (h0:=s.heap) (Walks.tuple hh3 _ l neI its) hA hSf (eW (bE _)) (fun b hb'=>by
     rw[bG] at hb';rw[hb',dH];exact eW (eJ _)) (fun i h st b hb' o e its n q=>by
     rw[bG] at hb';subst hb';obtain⟨o2,e2,c2,d2⟩:=st.1;rw[e2] at e;cases e;rw[d2] at q;cases q) hb ht (its.size-0) 0 _ _ [] (by omega) (cg _) (fun b o e=>bn _ (bn _ e)) ⟨⟨_,bB _ rfl,rfl,rfl⟩,hl1.push _⟩ st0 (bE _) (fun x=>⟨fun q=>(by simp at q),fun⟨m,q,_⟩=>absurd q (eI _)⟩) ?_
    intro h' tk' kys' kp st len mem;show wpAny _ _ _ _ _ _;refine bm ?_;show wpAny _ _ (ret Value.none) _ _ _;exact bm ⟨rfl,h',tk',kys',rfl,st,len,mem,kp⟩
   ·cases r2 with
    | error e=>exact hr2
    | ok fl2 =>
     cases fl2 with
     | ret r =>
      obtain⟨rfl,h',tk,kys,rfl,st,len,mem,kp⟩:=hr2
      (repeat (any_goals (first | assumption | wp_step)))
      exact h _ _ kys st len mem kp
     | _=>exact hr2.elim
  | _=>exact hr.elim
end
open HI (Ris Sx Tells yY zEc zGN zCw zAl yQ zEa zCR zBf zA0 zCx)
section
variable {prog:Program} {w:World} {P:Addr->Prop} {A:Around} {E:Value->Shared->Prop} {s:Shared}
theorem zRZ{a it:Addr}{es:Array (Int×Value)}{ep:Nat}{t:SetTable}{sl:Nat->Nat}{xs:List Value}(hh:A.handled=none)(T:Tells prog w a es ep t sl xs)(hf:t.fits es.size=true)(hx:xs.length=es.size)(hne:a≠it) :
  Walks prog w A it [it,a] [it] es.size (fun i v=>xs[i]?=some v) (fun i h=>h.get? it=some (yY (rawInt (sl i)) i a es.size ep)/\Sx h a es ep t) where
 sub:=fun b hb=>by simp at hb ⊢;exact .inl hb
 frame:=fun i h h' st k=>⟨k it (by simp) _ st.1,st.2.keep fun o e=>k a (by simp) o e⟩
 item:=fun i s Q E hi st hQ=>zEc T hf hx hi st.1 st.2 hne fun h' v hxv e kp=>hQ _ h' s.toks hxv ⟨e,st.2.keep fun o q=>kp a o hne q⟩ fun b o hb q=>kp b o (by simpa using hb) q
 done:=fun s Q E st hQ=>zGN hh T hf hx st.1 st.2 fun h' kp=>hQ h' s.toks fun b o hb q=>kp b o (by simpa using hb) q
 self:=fun i s Q E st hQ=>zCw st.1 hQ
noncomputable def Mem(prog:Program)(w:World)(P:Addr->Prop)(h:Heap)(xs:List Value)(kys:List (List Int)):Prop:=(∀ v∈xs,∃ c ns,v=.ref c/\TK prog w P h ns c)/\(xs.map fun v=>kyT h (0,v)).Perm kys
theorem zKP{a:Addr}{kys:List (List Int)}{Q:Value->Shared->Prop}(hS:ST prog w P s.heap a kys)
  (h:∀(h1:Heap) (it:Addr) (fp:List Addr) (St:Nat->Heap->Prop) (xs:List Value),(∀ b o,s.heap.get? b=some o->h1.get? b=some o)->(∀ b∈fp,b=a\/s.heap.objs.size<=b)->s.heap.objs.size<=it ->
   (∀ B:Around,B.handled=none->Walks prog w B it fp [it] xs.length (fun i v=>xs[i]?=some v) St)->St 0 h1->Mem prog w P s.heap xs kys->xs.length=kys.length->Q (.ref it) { s with heap:=h1 }):wpAny (model prog w) A (pyIter (.ref a)) Q E s:=by
 obtain⟨o,es,ep,t,ho,hex,hd,T0,ok,pl,hl,fl,pk,nd⟩:=hS;have hf:=fits_of T0;have hr:=T0.ris;have hT:s.TypeIs (.ref a) "set":=⟨o,ho,hex.1⟩
 have la:a<s.heap.objs.size:=bC ho;refine wpAny_pyIter_slot hT F.slot_set_iter (bT F.slot_set_iter hT zEa ?_ (F.args_set_iter_1 _));unfold Builtin.«frozenset.__iter__» Builtin.Frozenset.slot0;refine bi (m:=do Builtin.Frozenset.addrOf (<-slotArgs "__iter__" 0 _).1) (show wpAny _ _ (pure a) _ _ _ from bm ?_);unfold Builtin.Frozenset.sizeOf;refine bi (bi (er ho hd hf (bm ?_)));unfold setDrawn;refine bi (bi (cc ho hd hf (bi (zAl (bm ?_)))));dsimp only;have fin:∀(sl:Nat->Nat) (xs:List Value),sl 0=0->Tells prog w a es ep t sl xs->xs.Perm (es.toList.map (·.2))->wpAny (model prog w) A.in1 (do let e <-setEpoch a;let r <-newFields "set_iterator" [rawInt 0,rawInt 0,.ref a,rawInt es.size,rawInt e];ret r) (fun fin s'=>∃ v,fin=.done (.ret v)/\∃ T' r,s'.TypeIs v T'/\typeLookup (.type T') "__next__"=pure (some r)/\Q v s') E s:=fun sl xs h0 T pm=>by
  have hx:xs.length=es.size:=by rw[pm.length_eq];simp
  refine bi (wpAny_setEpoch_of ho hd hf (bi (bS (bm ⟨_,rfl,"set_iterator",_,⟨_,bB _ rfl,rfl⟩,yQ.lookup,?_⟩))));refine h (s.heap.push (yY (rawInt 0) 0 a es.size ep)) s.heap.objs.size [s.heap.objs.size,a] (fun i h=>h.get? s.heap.objs.size=some (yY (rawInt (sl i)) i a es.size ep)/\Sx h a es ep t) xs (fun b o e=>bn _ e) (fun b hb=>?_) (bE _) (fun B hB=>by rw[hx];exact zRZ hB T hf hx (bO la)) ⟨?_,⟨o,bn _ ho,hex,hd⟩⟩ ⟨fun v hv=>?_,?_⟩ ?_
  ·simp only[ce,eu,or_false] at hb
   rcases hb with e | e
   ·exact .inr (Nat.le_of_eq e.symm)
   ·exact .inl e
  ·rw[h0];exact bB _ rfl
  ·obtain⟨e,he,rfl⟩:=bF.mp (pm.mem_iff.mp hv)
   obtain⟨c,e1,e2⟩:=ok.mem e he;exact⟨c,_,by rw[e1],e2⟩
  ·refine(pm.map _).trans ?_
   rw[dD];exact pk.symm
  ·rw[hx]
   have:=pk.length_eq;simp at this;omega
 cases bt:w.params.followText "set-order" with
 | true =>
  rw[if_neg (by simp)];exact fin (fun u0=>0) _ rfl (zCR hf bt) ((zA0 (w.params.setOrder a ep) es).map _)
 | false =>
  have hl':t.led=true:=by rw[hl];unfold HI.wT;rw[bt];rfl
  have hp:(!t.plain&&decide (es.size>1))=false:=by rw[pl];rfl
  refine cN (fun q=>absurd q (show ¬ (!false&&(!t.plain&&decide (es.size>1)))=true by rw[hp];simp)) (fun u0=>?_);exact fin _ _ rfl (zBf hf hr bt hl' hp) (.refl _)
end
open HI (zCx)
open HS (TI tAt ltI zFY)
section
variable {prog:Program} {w:World} {P:Addr->Prop} {A:Around} {E:Value->Shared->Prop} {s:Shared}
theorem zIU{ns:List Int}{vs:List Value}(h:ItemsAre (intKind prog w) ns vs):IntsAre vs ns:=by
 induction h with
 | nil=>exact .nil
 | cons h1 _ ih =>
  obtain⟨t,rfl⟩:=Value.isInt_shape h1;exact .cons _ _ ih
theorem zHQ{R:Result->Shared->Prop}{a:Addr}{kys:List (List Int)}(hh:A.handled=none)(hS:ST prog w P s.heap a kys)(hlen:kys.length<=1000)(L:Addr)(res:Value)(c0:Nat)(hL:s.heap.get? L=some { cls:=.type "list",data:=.seq #[] c0 })
  (hR:∀ h' tk acc c,(∀ b o,b≠L->s.heap.get? b=some o->h'.get? b=some o)->h'.get? L=some { cls:=.type "list",dict:=none,data:=.seq acc c,slots:=#[] }->Mem prog w P s.heap acc.toList kys->acc.size=kys.length->R (.ok (.ret res)) { s with heap:=h',toks:=tk }) :
  wpAny (model prog w) A.in1 (Builtin.List.listExtendWith (.ref L) (.ref a) res)
   (fun fin s'=>match fin with | .done f=>R (.ok f) s' | .again c'=>c'.quiet=true/\codeAny (model prog w) A c' R s') (fun e s'=>R (.error e) s') s:=by
 obtain⟨o,es,ep,t,ho,hex,hrest⟩:=id hS;have La:L≠a:=fun e=>by rw[e,ho] at hL;cases hL;have:=hex.1;simp at this
 have lL:L<s.heap.objs.size:=bC hL;unfold Builtin.List.listExtendWith;refine bi (dC (T:="set") ⟨o,ho,hex.1⟩ ?_);have h1:Builtin.List.listSameRef (.ref L) (.ref a)=false:=by simp[Builtin.List.listSameRef,La]
 have h2:(Value.type "set"==Value.type "list")=false:=by decide
 have h3:(Value.type "set"==Value.type "tuple")=false:=by decide
 simp only[h1,h2,h3,Bool.or_false,bj,if_false];refine bi (zKP hS fun g it fp St xs kp hfp hit W st me xl=>?_);have hSf:L∉fp:=fun q=>by
  rcases hfp L q with e | e
  ·exact La e
  ·exact absurd lL (Nat.not_lt.mpr e)
 have W1:=(W A.in1 (by simpa using hh)).toS;refine bi (bZ (zCx (s:={ s with heap:=g }) (kp a o ho) hex.1 ?_));have hL1:=kp L _ hL;refine cN (fun u0=>?_) (fun q=>absurd (by decide +kernel) q);refine bi (dF (bi ?_));show wpAny _ _ (updateSeq L (·.push .none)>>=fun u0=>updateSeq L (·.pop)) _ _ _;refine bi (fh hL1 rfl ?_);have hL2:=cD (Obj.mapSeq (·.push Value.none)) hL1 rfl;refine fh (hz:=by seq_fits) hL2 rfl ?_;have hL3:=cD (Obj.mapSeq (·.pop)) hL2 rfl;refine bm ⟨plainId_quiet F.plain_extend_loop _,?_⟩;have old:∀ b ob,b≠L->g.get? b=some ob->((g.update L (Obj.mapSeq (·.push Value.none))).update L (Obj.mapSeq (·.pop))).get? b=some ob:=fun b ob hb e=>by
  rw[cM _ _ _ _ hb,cM _ _ _ _ hb];exact e
 refine codeAny_extend_loopS W1 (by rw[sizeLine_eq];omega) L hSf res xs.length 0 _ #[] _ rfl (cg _) ?_ hL3 (ItemsOf.nil _) fun s' acc c hm hL' hacc=>?_
 ·exact(W A.in1 (by simpa using hh)).frame 0 _ _ st fun b hb ob e=>old b ob (fun z=>hSf (by rw[<-z];exact hb)) e
 ·have ea:acc.toList=xs:=by
   refine eY (by simp[hacc.1]) fun i h1 h2=>?_;have hi:i<acc.size:=by simpa using h1
   have:xs[i]?=some acc[i]:=hacc.2 i acc[i] (getElem?_pos acc i hi);rw[cw h2] at this;have:=Option.some.inj this;rw[this];simp
  rw[Moved.eq_with hm];refine hR s'.heap s'.toks acc c (fun b ob hb e=>hm.heap b ob (fun hmem=>?_) (old b ob hb (kp b ob e))) hL' (by rw[ea];exact me) (by rw[hacc.1];exact xl);rcases ce.mp hmem with e' | hmem
  ·exact hb e'
  ·exact absurd (bC e) (by rw[bG.mp hmem];exact Nat.not_lt.mpr hit)
theorem zGT{a:Addr}{kys:List (List Int)}{Q:List Value->Shared->Prop}(hh:A.handled=none)(hS:ST prog w P s.heap a kys)(hlen:kys.length<=1000)
  (hQ:∀ h' tk vs,(∀ b o,s.heap.get? b=some o->h'.get? b=some o)->s.heap.objs.size<=h'.objs.size->Mem prog w P s.heap vs kys->vs.length=kys.length->Q vs { s with heap:=h',toks:=tk }):wpAny (model prog w) A (collect (.ref a)) Q E s:=by
 unfold collect;refine bi (e8 (cf PySem.F.entry_proto_collect ?_));rw[Around.under_plainId PySem.F.plain_proto_collect _];show wpAny _ A.in1 (newList []>>=fun l=>again (.builtin "list.__iadd__" ⟨[l,.ref a],[]⟩)) _ _ s;refine bi (bS (bm ⟨plainId_quiet PySem.F.plain_list_iadd _,cf PySem.F.entry_list_iadd ?_⟩));rw[Around.under_plainId PySem.F.plain_list_iadd _];show wpAny _ A.in1 (Builtin.List.listExtendWith (.ref s.heap.objs.size) (.ref a) (.ref s.heap.objs.size)) _ _ _;have hL:(s.heap.push { cls:=.type "list",data:=.seq ([]:List Value).toArray }).get? s.heap.objs.size=some { cls:=.type "list",data:=.seq #[] 0 }:=bB _ rfl;have memb:∀ {vs:List Value},Mem prog w P (s.heap.push { cls:=.type "list",data:=.seq ([]:List Value).toArray }) vs kys->Mem prog w P s.heap vs kys:=fun {vs} m=>by
  have back:∀ {ns c},TK prog w P (s.heap.push { cls:=.type "list",data:=.seq ([]:List Value).toArray }) ns c->TK prog w P s.heap ns c:=fun {ns c} q=>by
   obtain⟨⟨ob,its,n,e,hc,r⟩,qp⟩:=q;refine⟨⟨ob,its,n,?_,hc,r⟩,qp⟩;by_cases z:c=s.heap.objs.size
   ·rw[z,bB _ rfl] at e
    cases e;simp at hc
   ·rw[Heap.get?_push_ne _ _ _ z] at e
    exact e
  refine⟨fun v hv=>?_,?_⟩
  ·obtain⟨c,ns,rfl,q⟩:=m.1 v hv
   exact⟨c,ns,rfl,back q⟩
  ·refine dS.trans (.of_eq (cZ fun v hv=>?_)) m.2
   obtain⟨c,ns,rfl,q⟩:=m.1 v hv;rw[zCI (back q),zCI q]
 let Pst:Result->Shared->Prop:=fun res s'=>∃(h':Heap) (tk:Nat) (acc:Array Value) (c:Nat),res=.ok (.ret (.ref s.heap.objs.size))/\s'={ s with heap:=h',toks:=tk }/\(∀ b o,s.heap.get? b=some o->h'.get? b=some o)/\h'.get? s.heap.objs.size=some { cls:=.type "list",dict:=none,data:=.seq acc c,slots:=#[] }/\Mem prog w P s.heap acc.toList kys/\acc.size=kys.length;refine eN (zHQ (A:=A) (R:=Pst) (s:={ s with heap:=s.heap.push { cls:=.type "list",data:=.seq ([]:List Value).toArray } }) hh (hS.keep fun b o e=>bn _ e) hlen s.heap.objs.size (.ref s.heap.objs.size) 0 hL fun h' tk acc c kp q1 q2 q3=>?_) (fun fin s' h=>?_) (fun e s' h=>?_)
 ·exact⟨h',tk,acc,c,rfl,rfl,fun b o e=>kp b o (bO (bC e)) (bn _ e),q1,memb q2,q3⟩
 ·have fin':∀ {r' s''},Pst r' s''->wpAny (model prog w) A (match Value.ref s.heap.objs.size with
     | Value.ref a=>do
      match (<-load a).data with
       | Data.seq xs _=>pure xs.toList
       | _=>unsupported "internal:collect"
     | _=>unsupported "internal:collect") Q E s'':=by
   rintro r' s'' ⟨h',tk,acc,c,rfl,rfl,kp,q1,q2,q3⟩;show wpAny _ A (load s.heap.objs.size>>=_) _ _ _;exact bi (wpAny_load q1 (bm (hQ h' tk _ kp (cH (bC q1)) q2 (by simpa using q3))))
  cases fin with
  | done f =>
   have hf:=h;obtain⟨h',tk,acc,c,e,u0⟩:=h;cases e;exact fin' hf
  | again c'=>exact⟨h.1,cR h.2 fun r s'' hr=>by
    have hf:=hr;obtain⟨h',tk,acc,c,e,u0⟩:=hr;subst e;exact fin' hf⟩
 ·obtain⟨u0,u0,u0,u0,e,u0⟩:=h
  cases e
theorem zHR{a:Addr}{kys:List (List Int)}{Q:Value->Shared->Prop}(hh:A.handled=none)(hS:ST prog w P s.heap a kys)(h64:kys.length<64)(hne:∀ ns∈kys,ns≠[])
  (h:∀ h' tk l (out:List Value) e,(∀ b o,s.heap.get? b=some o->h'.get? b=some o)->s.heap.objs.size<=l->h'.get? l=some (seqObj "list" out.toArray e)->Mem prog w P s.heap out kys->(out.map fun v=>kyT s.heap (0,v)).Pairwise (fun a b=>ltI b a=false)->Q (.ref l) { s with heap:=h',toks:=tk }) :
  wpAny (model prog w) A (call (.builtin "sorted") [.ref a]) Q E s:=by
 refine Calls.call_function_entry kind_sorted plain_sorted entry_sorted (args_sorted1 _) ?_;unfold Builtin.«sorted»;refine bi (m:=checkCount "sorted" 1 1 _) (bm (bi (zGT (by simpa using hh) hS (by omega) fun g tk vs kp lg me vl=>bi (wpAny_newList ?_ (by rw[sizeLine_eq];omega)))));have hoL:(g.push (seqObj "list" vs.toArray 0)).get? g.objs.size=some (seqObj "list" vs.toArray 0):=bB _ rfl;have up:∀ b o,s.heap.get? b=some o->(g.push (seqObj "list" vs.toArray 0)).get? b=some o:=fun b o e=>bn _ (kp b o e);show wpAny _ _ _ _ _ { s with heap:=g.push (seqObj "list" vs.toArray 0),toks:=tk };have ti:∀ v∈vs,TI (g.push (seqObj "list" vs.toArray 0)) v (kyT s.heap (0,v))/\v≠.ref g.objs.size:=fun v hv=>by
  obtain⟨c,ns,rfl,q⟩:=me.1 v hv;have ek:=zCI q 0;rw[ek];obtain⟨⟨o,its,n,e,hc,hd,hi⟩,u0⟩:=q;refine⟨⟨⟨c,o,its,n,rfl,up c o e,hc,hd,zIU hi⟩,hne ns (me.2.mem_iff.mp (bF.mpr ⟨_,hv,ek⟩))⟩,fun z=>?_⟩;cases z;exact absurd (bC (kp _ _ e)) (dO _)
 refine bi (bZ (bT slot_list_sort ⟨_,hoL,rfl⟩ entry_list_sort (zFY (s:={ s with heap:=g.push (seqObj "list" vs.toArray 0),toks:=tk }) hoL (fun v hv=>⟨⟨_,(ti v hv).1⟩,(ti v hv).2⟩) (by omega) fun out a2 a3=>⟨_,rfl,bm ⟨_,rfl,?_⟩⟩) (args_list_sort _)));have at1:((g.push (seqObj "list" vs.toArray 0)).update g.objs.size (Obj.mapSeq fun u0=>#[])).get? g.objs.size=some (seqObj "list" #[] _):=get?_update_seq hoL (fun u0=>#[]);have at2:((((g.push (seqObj "list" vs.toArray 0)).update g.objs.size (Obj.mapSeq fun u0=>#[])).push (seqObj "tuple" vs.toArray 0)).push (seqObj "list" #[] 0)).get? g.objs.size=some (seqObj "list" #[] _):=bn _ (bn _ at1);have at3:=get?_update_seq at2 (fun u0=>out);refine h _ tk g.objs.size out.toList _ (fun b o e=>?_) lg at3 ⟨fun v hv=>me.1 v (a2.mem_iff.mp hv),(a2.map _).trans me.2⟩ ?_
 ·have hb:b≠g.objs.size:=bO (bC (kp b o e))
  unfold sortedHeap;rw[cM _ _ _ _ hb];exact bn _ (bn _ (by rw[cM _ _ _ _ hb];exact bn _ (kp b o e)))
 ·rw[eh]
  intro i j hi hj ij;have hj':j<out.size:=by simpa using hj
  have hi':i<out.size:=by omega
  have q:=a3 i j (cH ij) hj';have gt:∀ k,(hk:k<out.size)->(tAt (g.push (seqObj "list" vs.toArray 0)) (out.getD k .none)).getD []=kyT s.heap (0,out[k]):=fun k hk=>by
   have e:out.getD k .none=out[k]:=by simp[dM,hk]
   rw[e,(ti out[k] (a2.mem_iff.mp (by simp))).1.items];rfl
  rw[gt i hi',gt j hj'] at q;simpa using q
end
theorem zRa:entryFor table "set.__xor__"=some Builtin.«frozenset.__xor__»:=entryFor_alias (id':="frozenset.__xor__") (by kernel_rfl) (by first | rfl | decide +kernel) (by decide +kernel) (by kernel_rfl)
section
variable {prog:Program} {w:World} {P:Addr->Prop} {A:Around} {E:Value->Shared->Prop} {s:Shared}
theorem zMI{l r:Addr}{kl kr U:List (List Int)}{Q:Value->Shared->Prop}(hA:A.in1.units<cLine)(hL:ST prog w P s.heap l kl)(hR:ST prog w P s.heap r kr)(hU:U.length<=60)(u1:∀ x∈kl,x∈U)(u2:∀ x∈kr,x∈U)
  (h:∀ h' kys,(∀ b o,s.heap.get? b=some o->h'.get? b=some o)->ST prog w P h' s.heap.objs.size kys->(∀ x,x∈kys↔¬ (x∈kr↔x∈kl))->kys.length<=60->Q (.ref s.heap.objs.size) { s with heap:=h' }) :
  wpAny (model prog w) A (binaryOp .BitXor (.ref l) (.ref r)) Q E s:=by
 obtain⟨ol,esl,epl,tl,l1,l2,l3,l4,u0⟩:=id hL;obtain⟨or,esr,epr,tr,r1,r2,r3,r4,u0⟩:=id hR;have hTl:s.TypeIs (.ref l) "set":=⟨ol,l1,l2.1⟩
 have hTr:s.TypeIs (.ref r) "set":=⟨or,r1,r2.1⟩
 have ll:l<s.heap.objs.size:=bC l1;have lr:kr.length<=60:=by
  have nd:kr.Nodup:=let ⟨_,_,_,_,_,_,_,_,_,_,_,_,_,q⟩:=hR;q;exact cK (eR.length_le_of_subset nd u2) hU
 refine wpAny_binaryOp_same hTl hTr F.fills_set_xor F.slot_set_xor (bT F.slot_set_xor hTl zRa ?_ (F.args_set_xor_2 _ _));show wpAny _ _ (Builtin.Frozenset.slot1 "__xor__" ⟨[.ref l,.ref r],[]⟩>>=_) _ _ _;refine bi (m:=Builtin.Frozenset.slot1 "__xor__" _) (show wpAny _ _ (pure (Value.ref l,Value.ref r)) _ _ _ from bm ?_);dsimp only;simp only[bj,↓reduceIte];unfold andM;refine bi (bi (zGS l1 l2.1 ?_));refine zGS r1 r2.1 ?_;simp only[dB,bj,↓reduceIte];refine bi (m:=Builtin.Frozenset.addrOf _) (bm ?_);refine bi ?_;show wpAny _ _ (Builtin.Frozenset.baseOf l>>=_) _ _ _;unfold Builtin.Frozenset.baseOf;refine bi (bi (cS (T:="set") (b:=true) hTl zMD (bm ?_)));simp only[↓reduceIte];refine bi (zME hR lr fun h1 kp st=>?_);have hL1:ST prog w P h1 l kl:=hL.keep kp;show wpAny _ _ (holding [Value.ref s.heap.objs.size] (Builtin.Frozenset.symmetricDifferenceUpdate _ s.heap.objs.size (.ref l))>>=_) _ _ _;refine bi (bZ (zN8 (s:={ s with heap:=h1 }) hA (bO ll) st hL1 hU u2 u1 fun h2 kys sb st2 mem len=>?_));refine bm (bm ⟨_,rfl,by simp,h h2 kys (fun b o e=>?_) st2 mem len⟩);rw[sb.2 b (bO (bC e))];exact kp b o e
end
end HT2
namespace L2
theorem zQM{X:Cx}{pins:List (Addr×Obj)}{σ:St}{H:Hp}{s:Shared}{i:Nat}{x:Str}{pos:Pos}{v:V}{Q:Value->Shared->Prop}(hN:X.N[i]?=some x)(hv:Vis X.env.scope x)(I:zU X pins σ H s)(e:σ[i]?=some (some v))(h:∀ u,RelV v u->Q u s)
  (hd:autoParam ((x==("__debug__":Str))=false) Zq2._auto_1) (hcd:autoParam ((x==("__classdict__":Str))=false) Zq2._auto_1):wpAny (model X.prog X.w) X.A (eval (.Name x pos) X.env) Q X.xe s:=by
 obtain⟨m,hn,hl⟩:=I.loc;obtain⟨u,r,l⟩:=hl i x v hN e hv;have fin:=h u r;rcases l with ⟨hk,hm⟩ | ⟨hk,c,hc,hcell⟩
 ·exact wpAny_Name (wpAny_loadName_local I.ok.kind hk hn hm fin) hd
 ·rcases hk with hk | hk
  ·exact wpAny_Name (wpAny_loadName_cell I.ok.kind hk hc hcell fin) hd
  ·exact wpAny_Name (wpAny_loadName_free I.ok.kind hk hc hcell fin hcd) hd
end L2
namespace L3
open L2 HT2 HS
theorem zMJ{prog:Program}{w:World}{ns:List Int}{vs:List Value}(h:IntsAre vs ns):ItemsAre (intKind prog w) ns vs:=by
 induction h with
 | nil=>exact .nil
 | cons n t _ ih=>exact .cons (intKind_is _ _ _ _) ih
section
variable {X:Cx} {pins:List (Addr×Obj)} {σ:L2.St} {H:Hp} {s:Shared}
noncomputable def Pd(K:PySem.W.Frag)(H:Hp)(c:Addr):Prop:=∃ ms,zO K H (tI ms) (.ref c)
theorem zOo(I:zU X pins σ H s){ns:List Int}{c:Addr}(d:zO X.K H (tI ns) (.ref c)):TK X.prog X.w (Pd X.K H) s.heap ns c:=by
 refine⟨?_,ns,d⟩;unfold tI zO at d;obtain⟨a,zs,e,hs,hd⟩:=d;cases e;have hz:=hd.ints_inv;subst hz;obtain⟨its,rv,⟨o,h1,h2,n,h3⟩,u0⟩:=I.tuple hs;exact⟨o,its.toArray,n,h1,h2,h3,zMJ (by simpa using intsAre_of rv)⟩
theorem zMK(I:zU X pins σ H s){nss:List (List Int)}{ys:List V}{its:List Value}(d:Dens X.K H (nss.map tI) ys)(rv:zX ys its):∀ i v,its.toArray[i]?=some v->∃ c,v=.ref c/\TK X.prog X.w (Pd X.K H) s.heap (nss.getD i []) c:=fun i v hv=>by
 have hv:its[i]?=some v:=by simpa using hv
 have hi:=(bD.mp hv).1;have l1:=rv.length;have l2:=d.length;rw[bA] at l2;have hn:i<nss.length:=by omega
 obtain⟨y,e1,e2⟩:=d.get (i:=i) (d:=tI nss[i]) (by rw[cb];simp[hn]);obtain⟨u,e3,e4⟩:=rv.get e1;rw[hv] at e3;cases e3;have e5:=e2;unfold tI zO at e5;obtain⟨a,zs,rfl,u0,u0⟩:=e5;cases (show v=Value.ref a from e4);have eg:nss.getD i []=nss[i]:=by simp[cO,hn]
 rw[eg];exact⟨a,rfl,zOo I e2⟩
theorem zRb{h:Heap}(I:zU X pins σ H s):∀ {out:List Value},(∀ v∈out,∃ c ns,v=.ref c/\TK X.prog X.w (Pd X.K H) s.heap ns c)->∃ ys:List V,zX ys out/\Dens X.K H ((out.map fun v=>kyT s.heap (0,v)).map tI) ys
 | [],_=>⟨[],.nil,.nil⟩
 | v::out,hh=>by
  obtain⟨ys,r,d⟩:=zRb (h:=h) I (out:=out) fun v hv=>hh v (bN _ hv);obtain⟨c,ns,rfl,tk⟩:=hh v bU;obtain⟨ms,dm⟩:=tk.2;have:=(zOo I dm).1.inj tk.1;subst this;refine⟨.ref c::ys,.cons rfl r,?_⟩;simp only[cz];rw[zCI tk 0];exact .cons dm d
end
noncomputable def tXS(K:PySem.W.Frag)(j:Nat)(t:TA):TE:=fun σ H Q=>t σ H fun vs H1=>∃(p:Addr) (ys:List V) (nl:List (List Int)) (q:Addr) (zs:List V) (nr U:List (List Int)),vs=[.ref p]/\SqT K H1 p ys/\Dens K H1 (nl.map tI) ys/\σ[j]?=some (some (.ref q))/\SqL K H1 q zs/\Dens K H1 (nr.map tI) zs/\nl.length<=60/\nr.length<=60/\U.length<=60/\(∀ x∈nl,x∈U)/\(∀ x∈nr,x∈U)/\(∀ x∈U,x≠[]) /\
 ∀(l:Addr) (ys':List V) (nss':List (List Int)),H1 l=none->nss'.Nodup->(∀ x,x∈nss'↔¬ (x∈nr↔x∈nl))->nss'.Pairwise (fun a b=>ltI b a=false)->Dens K H1 (nss'.map tI) ys'->Q (.ref l) (ye H1 l (.lst ys'))
theorem zIV{X:Cx}{e:Expr}{x:Str}{j:Nat}{t:TA}{p p1 p2 p3 pos pos1 pos2 pos3:Pos}{k:Nat}(hr:yR k X.A)(hc:X.calm=true)(hg:Gl X "sorted")(hm:X.mg "sorted"=none)(hg2:Gl X "set")(hm2:X.mg "set"=none)(ha:PA X [e] t)(hN:X.N[j]?=some x)(hv:Vis X.env.scope x)(hd:(x==("__debug__":Str))=false)(hcd:(x==("__classdict__":Str))=false)
  (he:starEach [.BinOp (.Call (.Name "set" p1) [e] [] pos1) .BitXor (.Call (.Name "set" p2) [.Name x p3] [] pos2) pos3] X.env=(false,eval (.BinOp (.Call (.Name "set" p1) [e] [] pos1) .BitXor (.Call (.Name "set" p2) [.Name x p3] [] pos2) pos3) X.env)::starEach [] X.env) (hpl:(backTo pos (starEach [] X.env)).any (·.1)=false)
  (he1:starEach [e] X.env=(false,eval e X.env)::starEach [] X.env) (hpl1:(backTo pos1 (starEach [] X.env)).any (·.1)=false)
  (he2:starEach [.Name x p3] X.env=(false,eval (.Name x p3) X.env)::starEach [] X.env) (hpl2:(backTo pos2 (starEach [] X.env)).any (·.1)=false) :
  PE X (.Call (.Name "sorted" p) [.BinOp (.Call (.Name "set" p1) [e] [] pos1) .BitXor (.Call (.Name "set" p2) [.Name x p3] [] pos2) pos3] [] pos) (tXS X.K j t):=by
 intro pins s σ H Q I h;have hu:=hr.units;have uA:∀ n,n<=50->X.A.units+n<cLine:=fun n hn=>by omega
 refine cV (zAB I hg hm boot_sorted (PyProof.Rows.callWith_builtin1 ?_ he hpl));rw[he];refine Calls.spliced_cons (wpAny_BinOp (cV (zAB I hg2 hm2 boot_set (PyProof.Rows.callWith_type1 (yU (ha pos1 pins s σ H _ I h) fun us s1 ⟨vs,H1,I1,r1,q1⟩=>?_) he1 hpl1))));obtain⟨p0,ys,nl,q,zs,nr,U,rfl,hp,dl,hj,hq,dr,n1,n2,nu,ul,ur,une,fin⟩:=q1;obtain⟨u,rfl,rx⟩:=vals1 r1;cases rx;obtain⟨its,rv,pt,u0⟩:=I1.tuple hp;have l1:=rv.length;have l2:=dl.length;rw[bA] at l2;refine zKO (P:=Pd X.K H1) (val:=fun i=>nl.getD i []) (I1.ok.hd hc) (by show X.A.units+3<cLine;exact uA 3 (by omega)) (show s1.heap.IsTuple p0 its.toArray from pt) (zMK I1 dl rv) (by rw[bH];omega) fun h1 tk1 kl stl u0 meml kp1=>?_;have I2:zU X pins σ H1 { s1 with heap:=h1,toks:=tk1 }:=I1.kept (t':=tk1) kp1;refine cV (zAB I2 hg2 hm2 boot_set (PyProof.Rows.callWith_type1 ?_ he2 hpl2));rw[he2];refine Calls.spliced_cons (zQM hN hv I2 hj (fun u ru=>Calls.spliced_nil ?_) hd hcd);cases ru;obtain⟨its2,rv2,pl2,u0⟩:=I2.list hq;have l3:=rv2.length;have l4:=dr.length;rw[bA] at l4;refine zKN (P:=Pd X.K H1) (s:={ s1 with heap:=h1,toks:=tk1 }) (val:=fun i=>nr.getD i []) (I1.ok.hd hc) (by show X.A.units+3<cLine;exact uA 3 (by omega)) pl2.isList (zMK I2 dr rv2) (by rw[bH];omega) fun h2 tk2 kr str u0 memr kp2=>?_;have stl2:ST X.prog X.w (Pd X.K H1) h2 s1.heap.objs.size kl:=stl.keep kp2;have ml:∀ x,x∈kl↔x∈nl:=fun x=>by
  rw[meml x];constructor
  ·rintro⟨m,hm',rfl⟩
   rw[bH] at hm';have:m<nl.length:=by omega
   simp[cO,this]
  ·intro hx
   obtain⟨m,hm',rfl⟩:=dG hx;exact⟨m,by rw[bH];omega,by simp[cO,hm']⟩
 have mr:∀ x,x∈kr↔x∈nr:=fun x=>by
  rw[memr x];constructor
  ·rintro⟨m,hm',rfl⟩
   rw[bH] at hm';have:m<nr.length:=by omega
   simp[cO,this]
  ·intro hx
   obtain⟨m,hm',rfl⟩:=dG hx;exact⟨m,by rw[bH];omega,by simp[cO,hm']⟩
 refine zMI (s:={ s1 with heap:=h2,toks:=tk2 }) (P:=Pd X.K H1) (by show X.A.units+1<cLine;exact uA 1 (by omega)) stl2 str nu (fun x hx=>ul x ((ml x).mp hx)) (fun x hx=>ur x ((mr x).mp hx)) fun h3 kys kp3 st3 mem3 len3=>?_;refine Calls.spliced_nil ?_;have I3:zU X pins σ H1 { s1 with heap:=h3,toks:=tk2 }:=I1.kept (t':=tk2) fun b o e=>kp3 b o (kp2 b o (kp1 b o e));have mk:∀ x,x∈kys↔¬ (x∈nr↔x∈nl):=fun x=>by rw[mem3 x,ml x,mr x]
 have kne:∀ ns∈kys,ns≠[]:=fun ns hns=>une ns (by
  by_cases z:ns∈nr
  ·exact ur ns z
  ·exact ul ns (Classical.byContradiction fun y=>(mk ns).mp hns ⟨fun a=>(z a).elim,fun a=>(y a).elim⟩))
 refine zHR (s:={ s1 with heap:=h3,toks:=tk2 }) (P:=Pd X.K H1) (I1.ok.hd hc) st3 (by omega) kne fun h4 tk4 l out ee kp4 hl4 hget me so=>?_;have sz:s1.heap.objs.size<=h3.objs.size:=by
  have g1:s1.heap.objs.size<h1.objs.size:=by obtain⟨o,u0,u0,u0,ho,u0⟩:=stl;exact bC ho
  have g2:s1.heap.objs.size<h2.objs.size:=by obtain⟨o,u0,u0,u0,ho,u0⟩:=stl2;exact bC ho
  have g3:h2.objs.size<h3.objs.size:=by obtain⟨o,u0,u0,u0,ho,u0⟩:=st3;exact bC ho
  omega
 have sl:s1.heap.objs.size<=l:=cK sz hl4;obtain⟨ys',rv',d'⟩:=zRb (h:=h4) I3 me.1;have hn:H1 l=none:=I1.hok.fresh sl;have nd:kys.Nodup:=let ⟨_,_,_,_,_,_,_,_,_,_,_,_,_,q⟩:=st3;q;have ol:out.length=kys.length:=by have:=me.2.length_eq;simpa using this
 refine⟨.ref l,_,I3.laid (t':=tk4) (o:=.lst ys') kp4 hl4 ⟨by have:=rv'.length;rw[sizeLine_eq];omega,out,ee,rv',by rw[hget]⟩,rfl,fin l ys' _ hn (me.2.nodup_iff.mpr nd) (fun x=>(me.2.mem_iff).trans (mk x)) so d'⟩
noncomputable def xXS(j:Nat)(t:yh):TL2:=fun σ G R=>t σ G fun ds G1=>match ds with
 | [.tup xs]=>∃(nl nr U:List (List Int)) (q:Addr),xs=nl.map tI/\σ[j]?=some (some (.adr q))/\Ls G1 q (nr.map tI)/\nl.length<=60/\nr.length<=60/\U.length<=60/\(∀ x∈nl,x∈U)/\(∀ x∈nr,x∈U)/\(∀ x∈U,x≠[]) /\
  ∀ nss':List (List Int),nss'.Nodup->(∀ x,x∈nss'↔¬ (x∈nr↔x∈nl))->nss'.Pairwise (fun a b=>ltI b a=false)->R (nss'.map tI) G1
 | _=>False
theorem zKQ{X:Cx}{e:Expr}{x:Str}(j:Nat){t:yh}{p p1 p2 p3 pos pos1 pos2 pos3:Pos}{k:Nat}(hr:yR k X.A)(hc:X.calm=true)(hg:Gl X "sorted")(hm:X.mg "sorted"=none)(hg2:Gl X "set")(hm2:X.mg "set"=none)(ha:A2 X [e] t)(hN:autoParam (X.N[j]?=some x) Zq4._auto_1)(hv:autoParam (Vis X.env.scope x) Zq5._auto_1)(hd:autoParam ((x==("__debug__":Str))=false) Zq2._auto_1)(hcd:autoParam ((x==("__classdict__":Str))=false) Zq2._auto_1)
  (he:autoParam (starEach [.BinOp (.Call (.Name "set" p1) [e] [] pos1) .BitXor (.Call (.Name "set" p2) [.Name x p3] [] pos2) pos3] X.env=(false,eval (.BinOp (.Call (.Name "set" p1) [e] [] pos1) .BitXor (.Call (.Name "set" p2) [.Name x p3] [] pos2) pos3) X.env)::starEach [] X.env) Zq4._auto_1) (hpl:autoParam ((backTo pos (starEach [] X.env)).any (·.1)=false) Zq4._auto_1)
  (he1:autoParam (starEach [e] X.env=(false,eval e X.env)::starEach [] X.env) Zq4._auto_1) (hpl1:autoParam ((backTo pos1 (starEach [] X.env)).any (·.1)=false) Zq4._auto_1)
  (he2:autoParam (starEach [.Name x p3] X.env=(false,eval (.Name x p3) X.env)::starEach [] X.env) Zq4._auto_1) (hpl2:autoParam ((backTo pos2 (starEach [] X.env)).any (·.1)=false) Zq4._auto_1) :
  F2 X (.Call (.Name "sorted" p) [.BinOp (.Call (.Name "set" p1) [e] [] pos1) .BitXor (.Call (.Name "set" p2) [.Name x p3] [] pos2) pos3] [] pos) (xXS j t):=by
 refine PE.mono (zIV hr hc hg hm hg2 hm2 ha hN hv hd hcd he hpl he1 hpl1 he2 hpl2) ?_;rintro σ1 H Q ⟨σ,G,R,rl,q,k'⟩;refine⟨σ,G,_,rl,q,fun ds G1 q1 vs H1 g1 r1 d1=>?_⟩;split at q1
 ·rename_i xs
  obtain⟨nl,nr,U,qa,rfl,hj,hls,b1,b2,b3,b4,b5,b6,q1⟩:=q1;obtain⟨v,rfl,d2⟩:=zAF d1;unfold zO at d2;obtain⟨a,us,rfl,h1,h2⟩:=d2;obtain⟨v2,e2,d3⟩:=rl.val j _ hj;unfold zO at d3;subst d3;obtain⟨zs,s1,t1⟩:=r1.sq hls;exact⟨a,us,nl,qa,zs,nr,U,rfl,h1,h2,e2,s1,t1,b1,b2,b3,b4,b5,b6,fun l' ys' nss' n' c1 c2 c3 c4=>k' _ G1 (q1 nss' c1 c2 c3) l' _ _ (g1.trans (.fresh n')) (r1.fresh n') (r1.free n') zf (c4.grow (.fresh n'))⟩
 ·exact q1.elim
end L3
namespace L3
open L2
section
variable {X:Cx} {elt iter:Expr} {pos:Pos} {te:zj} {ifs:List Expr} {sc:Scope} {N0:List Str} {wi:TI2} {tc:TT2}
end
end L3
namespace K
open L2 L3 HS
noncomputable def toI(p:Nat×Nat):List Int:=[(p.1:Int),(p.2:Int)]
theorem zGU{p q:Nat×Nat}(h:toI p=toI q):p=q:=by
 unfold toI at h;simp only[List.cons.injEq,and_true] at h;exact Prod.ext (by omega) (by omega)
theorem zGV(l:List (Nat×Nat)):l.map wN=(l.map toI).map tI:=by
 rw[dD];rfl
noncomputable def inB(q:Nat×Nat->Bool)(i:Nat)(p:Nat×Nat):Bool:=adj q i p.1&&adj q i p.2
noncomputable def tq(q:Nat×Nat->Bool)(i:Nat)(p:Nat×Nat):Bool:=q p != inB q i p
noncomputable abbrev arL(n:Nat)(q:Nat×Nat->Bool)(i:Nat):List Nat:=(bz n).filter (adj q i)
noncomputable abbrev zEf(ar:List Nat):List (Nat×Nat):=(yT ar.length).map fun p=>(ar.getD p.1 0,ar.getD p.2 0)
theorem zML{ar:List Nat}(hr:ar.Pairwise (·<·)){p:Nat×Nat}:p∈zEf ar↔p.1<p.2/\p.1∈ar/\p.2∈ar:=by
 constructor
 ·intro h
  obtain⟨c,hc,rfl⟩:=bF.mp h;obtain⟨c1,c2⟩:=wA.mp hc;have h1:c.1<ar.length:=by omega
  have e1:ar.getD c.1 0=ar[c.1]:=by simp[cO,h1]
  have e2:ar.getD c.2 0=ar[c.2]:=by simp[cO,c2]
  simp only;rw[e1,e2];exact⟨eh.mp hr c.1 c.2 h1 c2 c1,cJ _,cJ _⟩
 ·rintro⟨h0,h1,h2⟩
  obtain⟨i,hi,e1⟩:=dG h1;obtain⟨j,hj,e2⟩:=dG h2;have hij:i<j:=by
   rcases Nat.lt_trichotomy i j with z | z | z
   ·exact z
   ·subst z;omega
   ·have:=eh.mp hr j i hj hi z
    omega
  refine bF.mpr ⟨(i,j),wA.mpr ⟨hij,hj⟩,?_⟩;have g1:ar.getD i 0=ar[i]:=by simp[cO,hi]
  have g2:ar.getD j 0=ar[j]:=by simp[cO,hj]
  simp only;rw[g1,g2,e1,e2]
theorem zGW{n i:Nat}{q:Nat×Nat->Bool}{p:Nat×Nat}:p∈zEf (arL n q i)↔p∈yT n/\inB q i p=true:=by
 rw[zML (dE.filter _),wA];unfold inB;simp only[cF,bV,dN];constructor
 ·rintro⟨a,⟨b,c⟩,d,e⟩
  exact⟨⟨a,d⟩,c,e⟩
 ·rintro⟨⟨a,d⟩,c,e⟩
  exact⟨a,⟨by omega,c⟩,d,e⟩
theorem zRc{a b:Nat×Nat}(h:ltP a b):ltI (toI b) (toI a)=false:=by
 unfold ltP at h;unfold toI;simp only[ltI];split
 ·split
  ·rfl
  ·simp only[decide_eq_false_iff_not];omega
 ·simp only[decide_eq_false_iff_not];omega
theorem zMM:∀ n,n<10->(yT n).length<=60:=by decide +kernel
theorem zKR{n i:Nat}{q:Nat×Nat->Bool}{nss:List (List Int)}(nd:nss.Nodup)(hm:∀ x,x∈nss↔¬ (x∈(zEf (arL n q i)).map toI↔x∈((yT n).filter q).map toI))(hs:nss.Pairwise (fun a b=>ltI b a=false)):nss=((yT n).filter (tq q i)).map toI:=by
 have rs:((yT n).filter (tq q i)).Pairwise ltP:=(zLk n).filter _;refine dS.eq_of_pairwise (fun a b u0 u0 h1 h2=>zGJ a b h2 h1) hs ?_ ?_
 ·rw[eO]
  exact rs.imp zRc
 ·have nd2:(((yT n).filter (tq q i)).map toI).Nodup:=by
   unfold eR;rw[eO];refine rs.imp fun h e=>?_;have:=zGU e;subst this;unfold ltP at h;omega
  refine(eT nd nd2).mpr fun x=>?_;rw[hm x];have m1:x∈(zEf (arL n q i)).map toI↔∃ p∈yT n,inB q i p=true/\toI p=x:=by
   rw[bF];constructor
   ·rintro⟨p,hp,e⟩;obtain⟨a,b⟩:=zGW.mp hp;exact⟨p,a,b,e⟩
   ·rintro⟨p,a,b,e⟩;exact⟨p,zGW.mpr ⟨a,b⟩,e⟩
  have m2:∀ f:Nat×Nat->Bool,x∈((yT n).filter f).map toI↔∃ p∈yT n,f p=true/\toI p=x:=fun f=>by
   rw[bF];constructor
   ·rintro⟨p,hp,e⟩;obtain⟨a,b⟩:=cF.mp hp;exact⟨p,a,b,e⟩
   ·rintro⟨p,a,b,e⟩;exact⟨p,cF.mpr ⟨a,b⟩,e⟩
  rw[m1,m2 q,m2 (tq q i)];by_cases hx:∃ p∈yT n,toI p=x
  ·obtain⟨p,hp,rfl⟩:=hx
   have s:∀ f:Nat×Nat->Bool,(∃ p'∈yT n,f p'=true/\toI p'=toI p)↔f p=true:=fun f=>by
    constructor
    ·rintro⟨p',u0,b,e⟩;rw[<-zGU e];exact b
    ·intro b;exact⟨p,hp,b,rfl⟩
   rw[s (inB q i),s q,s (tq q i)];unfold tq;cases q p<;>cases inB q i p<;>simp
  ·constructor
   ·intro h
    exact(h ⟨fun⟨p,a,_,e⟩=>(hx ⟨p,a,e⟩).elim,fun⟨p,a,_,e⟩=>(hx ⟨p,a,e⟩).elim⟩).elim
   ·rintro⟨p,a,u0,e⟩
    exact(hx ⟨p,a,e⟩).elim
noncomputable def zN:wV:=fun ds G R=>∃(n:Nat) (q:Nat×Nat->Bool) (i:Nat),ds=[zM n q,nD i]/\i<n/\n<=9/\R (zM n (tq q i)) G
noncomputable def zAI:yS:=(zT (zk (yA (zy yC (zA (zJ wX (zA (zD 0) (zA (zD 1) zI))) zI))) (gN 2)) (zm (wU (zA (zZ yg (zD 0) (xC (.int 0))) (zA (zw yM (xXS 2 (zA (zZ yg (zD 0) (xC (.int 1))) zI))) zI)))))
theorem zSM{σ:S2}{G:Gp}{ta tb:zj}{d:D}{E:yF}(h:zi ta σ G d)(h':tb σ G fun d2 G2=>[d,d2].length<=sizeLine/\E.rt (.tup [d,d2]) G2):zm (wU (zA ta (zA tb zI))) E σ G:=h G (.refl G) _ h'
theorem zQN{σ:S2}{G:Gp}{tl:TL2}{R:Q2}(h:tl σ G fun ds G1=>R (.tup ds) G1):zw yM tl σ G R:=h
theorem zSN{σ:S2}{G:Gp}{t:yh}{j:Nat}{R:List D->Gp->Prop}{xs:List D}(h:PuA t σ G [.tup xs])(h':∃(nl nr U:List (List Int)) (q:Addr),xs=nl.map tI/\σ[j]?=some (some (.adr q))/\Ls G q (nr.map tI)/\nl.length<=60/\nr.length<=60/\U.length<=60/\(∀ x∈nl,x∈U)/\(∀ x∈nr,x∈U)/\(∀ x∈U,x≠[]) /\
  ∀ nss':List (List Int),nss'.Nodup->(∀ x,x∈nss'↔¬ (x∈nr↔x∈nl))->nss'.Pairwise (fun a b=>ltI b a=false)->R (nss'.map tI) G):xXS j t σ G R:=h G (.refl G) _ h'
theorem zGX(ds:List D)(G:Gp)(R:Q2)(h:zN ds G R):ds.length=2/\zAI (zg R) (zW ["web","place","near"] ds) G:=by
 obtain⟨n,q,i,rfl,hi,hn,h⟩:=h;refine⟨rfl,?_⟩;unfold zAI;have hal:(arL n q i).length<=n:=by
  have:=e7 (adj q i) (bz n);simpa using this
 refine yy (zFT (ds:=(zEf (arL n q i)).map wN) (zCd (zF (zt (d:=.tup ((arL n q i).map nD)) (zF (zE (d:=zM n q) rfl) (zF (zE (d:=nD i) rfl) zP)) fun u0 u0 u0 hh=>⟨n,q,i,rfl,hi,by omega,hh⟩) zP) fun u0 u0 u0 hh=>⟨arL n q i,rfl,by omega,hh⟩) fun l hl=>?_);show zm _ _ [some (zM n q),some (nD i),some (.adr l)] (zd G l ((zEf (arL n q i)).map wN));refine zSM (zBN (zE (i:=0) rfl)) (zQN (zSN (xs:=((yT n).filter q).map wN) (zF (zRM (zE (i:=0) rfl)) zP) ⟨((yT n).filter q).map toI,(zEf (arL n q i)).map toI,(yT n).map toI,l,zGV _,rfl,.inl (by rw[zL,zGV]),?_,?_,?_,?_,?_,?_,fun nss c1 c2 c3=>⟨by rw[sizeLine_eq];simp,?_⟩⟩))
 ·rw[bA]
  have:=e7 q (yT n);have:=zMM n (by omega);omega
 ·rw[bA,bA]
  exact zMM _ (by omega)
 ·rw[bA]
  exact zMM n (by omega)
 ·intro x hx
  obtain⟨p,hp,rfl⟩:=bF.mp hx;exact bF.mpr ⟨p,(cF.mp hp).1,rfl⟩
 ·intro x hx
  obtain⟨p,hp,rfl⟩:=bF.mp hx;exact bF.mpr ⟨p,(zGW.mp hp).1,rfl⟩
 ·intro x hx
  obtain⟨p,u0,rfl⟩:=bF.mp hx;unfold toI;simp
 ·rw[zKR c1 c2 c3,<-zGV]
  exact⟨G,.new hl,h⟩
theorem zN9{σ:S2}{G:Gp}{ta tb:zj}{a b:Bool}(ha:zi ta σ G (.bl a))(hb:zi tb σ G (.bl b)):zi (zPe ta tb) σ G (.bl (a&&b)):=fun G2 e R q=>ha G2 e _ (by
 cases a with
 | true =>
  show if true=true then _ else _;rw[if_pos rfl];exact hb G2 e R q
 | false =>
  show if false=true then _ else _;rw[if_neg (by simp)];exact q)
end K
namespace HW
open PySem
section
variable {prog:Program} {w:World} {A:Around} {E:Value->Shared->Prop} {s:Shared}
theorem zOA{d a:Addr}{k:Wb}{xs:List (Wb×Addr×Value)}{Q:Bool->Shared->Prop}(hu:A.units+4<cLine)(hk:(zCM prog w).is s.heap k a)(hd:(d==sysModules)=false)(hm:s.heap.DictOfH (zCM prog w) d xs)
  (h:Q (atKey xs k).isSome { s with toks:=s.toks+(zCM prog w).draws k }):wpAny (model prog w) A (contains (.ref d) (.ref a)) Q E s:=by
 have ty:=hm.typeIs;have rm:(zCM prog w).room A.in1:=by rw[zAq,Around.in1_units];omega
 unfold contains
 try with_reducible refine bZ ?_
 refine bi (db ty slot_dict_contains.lookup ?_);rw[if_neg (fun z=>by rw[beq_builtin_none] at z;cases z)];refine bi (wpAny_callSpecialUnlessNone?_slot (name:=Str.ofString "__contains__") ty slot_dict_contains (bT slot_dict_contains ty entry_dict_contains ?_ (args_dict_contains _ _)));show wpAny _ _ (dictGet d (.ref a)>>=_) _ _ s;refine bi (wpAny_dictGet_heap rm hk hm ?_);cases q:atKey xs k with
 | some p=>rw[q] at h;exact bm ⟨.bool true,rfl,d9 h⟩
 | none =>
  rw[q] at h;show wpAny _ _ (Builtin.Dict.pendingKey? d (.ref a)>>=_) _ _ _;exact bi (wpAny_pendingKey_other hd (bm ⟨_,rfl,d9 h⟩))
theorem zQO{d a:Addr}{k:Wb}{xs:List (Wb×Addr×Value)}{Q:Value->Shared->Prop}(hu:A.units+4<cLine)(hk:(zCM prog w).is s.heap k a)(hd:(d==sysModules)=false)(hm:s.heap.DictOfH (zCM prog w) d xs)
  (h:Q (.bool (!(atKey xs k).isSome)) { s with toks:=s.toks+(zCM prog w).draws k }):wpAny (model prog w) A (compareOp .NotIn (.ref a) (.ref d)) Q E s:=by
 show wpAny _ _ (do return .bool (!(<-contains (.ref d) (.ref a)))) Q E s;exact bi (zOA hu hk hd hm (bm h))
noncomputable def DE(h:Heap)(d:Addr)(es:Array DictEntry)(ep:Nat):Prop:=∃ o,h.get? d=some o/\o.ExactDict/\o.data=.dict es ep
theorem zKS{d:Addr}{es:Array DictEntry}{ep:Nat}{Q:Value->Shared->Prop}(hd:(d==sysModules)=false)(hm:DE s.heap d es ep)
  (h:Q (.ref s.heap.objs.size) { s with heap:=s.heap.push { cls:=.type "dict_keyiterator",data:=.fields #[.ref d,.int 0 0,.int es.size 0,.int ep 0] } }):wpAny (model prog w) A (pyIter (.ref d)) Q E s:=by
 obtain⟨o,ho,hc,he⟩:=hm;have ty:s.TypeIs (.ref d) "dict":=⟨o,ho,hc.1⟩
 refine wpAny_pyIter_slot ty F.slot_dict_iter (bT F.slot_dict_iter ty F.entry_dict_iter ?_ (F.args_dict_iter_1 _));unfold Builtin.«dict.__iter__»;refine bi ?_;unfold Builtin.Dict.dictSlotNone;refine bi (wpAny_notOrdered_dict ty (show wpAny _ _ (pure (Value.ref d)) _ _ s from bm ?_));unfold Builtin.Dict.showsAll;show wpAny _ _ ((if (d==sysModules)=true then _ else _)>>=_) _ _ s;rw[if_neg (by rw[hd];exact cQ)];refine bi (bm (bi (wpAny_dictEntries ho he (bi (wpAny_dictEpoch ho he ?_)))));refine bi (bS (bm ⟨_,rfl,"dict_keyiterator",_,⟨_,bB _ rfl,rfl⟩,F.slot_dict_keyiterator_next.lookup,?_⟩));simpa[rawInt] using h
theorem zFe{it d:Addr}{i ep:Nat}{es:Array DictEntry}{Q:Option Value->Shared->Prop}(hh:A.handled=none)(hit:s.heap.IsKeyIter it d i es.size ep)(hm:DE s.heap d es ep)
  (hI:∀ e h',es[i]?=some e->h'.IsKeyIter it d (i+1) es.size ep->Heap.ExtBut it s.heap h'->Q (some e.key) { s with heap:=h' })
  (hE:es[i]?=none->∀ h',Heap.ExtBut it s.heap h'->Q none { s with heap:=h' }):wpAny (model prog w) A (pyNext (.ref it)) Q E s:=by
 have ty:=hit.typeIs;obtain⟨o,ho,hc,hd⟩:=hit;obtain⟨od,hod,u0,hdd⟩:=hm;unfold pyNext;refine bi (dZ (wpAny_callSpecial?_slot (name:=Str.ofString "__next__") ty F.slot_dict_keyiterator_next (bT F.slot_dict_keyiterator_next ty F.entry_dict_keyiterator_next ?_ (F.args_dict_keyiterator_next_1 _))));refine bi (bm (bi (bi ?_)))
 first | refine bi (wpAny_typeNameOfWhole_keyiter ty (bm ?_)) | refine bi (wpAny_typeNameOf_keyiter ty (bm ?_))
 refine bi (wpAny_fieldsOf ho hd ?_);simp only[show Builtin.Dict_items.ownsTuple "dict_keyiterator"=false by decide,bj,if_false];show wpAny _ _ (if (Value.ref d==Value.none)=true then _ else _) _ _ s;rw[if_neg (fun z=>by cases z)];refine bi (bm (bi (wpAny_dictEntries hod hdd ?_)));rw[if_neg (by simp)];refine bi (bm (bi (wpAny_dictEpoch hod hdd ?_)));rw[if_neg (by simp)];refine bm ?_;cases hx:es[i]? with
 | some e =>
  simp only[show ¬ ((i:Int)<0) from by omega,if_false,eS,hx];refine bi ?_
  first | refine bi (wpAny_typeNameOfWhole_keyiter ty (bm ?_)) | refine bi (wpAny_typeNameOf_keyiter ty (bm ?_))
  refine bi (wpAny_isOneOf_keyiter ty ?_);show wpAny _ _ (setField (.ref it) 1 (rawInt ((i:Int)+1))>>=_) _ _ s;refine bi (wpAny_setField ho hd (by simp) ?_);have hit':(s.heap.update it (Obj.mapFields (·.setIfInBounds 1 (rawInt ((i:Int)+1))))).IsKeyIter it d (i+1) es.size ep :=
   ⟨_,cD _ ho (Obj.isFreed_of_fields (Obj.data_mapFields hd _)),(Obj.cls_mapFields ..).trans hc,by rw[Obj.data_mapFields hd];simp[rawInt]⟩
  refine bi (bZ (bi (wpAny_isOneOf_keyiter (s:={ s with heap:=s.heap.update it (Obj.mapFields (·.setIfInBounds 1 (rawInt ((i:Int)+1)))) }) hit'.typeIs ?_)));show wpAny _ _ (pure e.key) _ _ _;exact bm (bm ⟨_,rfl,bm (hI e _ hx hit' (bX.update ..).extBut)⟩)
 | none =>
  simp only[show ¬ ((i:Int)<0) from by omega,if_false,eS,hx];refine bi ?_
  first | refine bi (wpAny_typeNameOfWhole_keyiter ty (bm ?_)) | refine bi (wpAny_typeNameOf_keyiter ty (bm ?_))
  show wpAny _ _ (setField (.ref it) 0 .none>>=_) _ _ s;refine bi (wpAny_setField ho hd (by simp) ?_);show wpAny _ _ (newExc (.type "StopIteration") []>>=_) _ _ _;refine bi ?_;simp only[newExc,newTuple];refine bi (bS (bi (m:=firstArgMember _ _) (df (a:=Value.none) (by first | rfl | (simp only[firstArgMember];rfl)) (bS ?_ (by size_fits)))) (by size_fits));simp only[raiseNew];refine bi (wpAny_handled ?_);rw[show A.in1.handled=none from hh];refine bi (bm (wpAny_throw ?_));refine bi (cS (b:=true) (T:="StopIteration") ⟨_,bB _ rfl,rfl⟩ isSubtype_stop ?_);exact bm (hE hx _ (((bX.update ..).extBut.push _).push _))
theorem DE.at{h h':Heap}{d:Addr}{es:Array DictEntry}{ep:Nat}(x:DE h d es ep)(e:∀ o,h.get? d=some o->h'.get? d=some o):DE h' d es ep:=let ⟨o,ho,r⟩:=x;⟨o,e _ ho,r⟩
theorem zRd(hh:A.handled=none)(it d:Addr)(hne:d≠it)(es:Array DictEntry)(ep:Nat) :
  Walks prog w A it [it,d] [it] es.size (fun i v=>∃ e,es[i]?=some e/\v=e.key) (fun i h=>h.IsKeyIter it d i es.size ep/\DE h d es ep) where
 sub:=fun b hb=>by simp at hb;simp[hb]
 frame:=fun u0 u0 u0 st hk=>⟨st.1.at fun o e=>hk it (by simp) o e,st.2.at fun o e=>hk d (by simp) o e⟩
 item:=fun i s Q E hi st hQ=>zFe hh st.1 st.2 (fun e h' q t k=>hQ _ h' s.toks ⟨e,q,rfl⟩ ⟨t,st.2.at fun o z=>k d o hne z⟩ fun b o hb z=>k b o (fun y=>hb (by simp[y])) z) (fun q=>by rw[getElem?_pos es i hi] at q;cases q)
 done:=fun s Q E st hQ=>zFe hh st.1 st.2 (fun e h' q=>by rw[Array.getElem?_eq_none (bE _)] at q;cases q) fun u0 h' k=>hQ h' s.toks fun b o hb z=>k b o (fun y=>hb (by simp[y])) z
 self:=fun u0 u0 u0 u0 st hQ=>wpAny_pyIter_keyiter st.1 hQ
end
end HW
namespace HW
open PySem PyProof.Rows HS
structure Ord {α:Type} (lt:α->α->Bool):Prop where
 irr:∀ a,lt a a=false
 trs:∀ a b c,lt a b=true->lt b c=true->lt a c=true
 neg:∀ a b c,lt a c=true->lt a b=true\/lt b c=true
 tot:∀ a b,lt a b=false->lt b a=false->a=b
section
variable {α:Type} [DecidableEq α] {lt:α->α->Bool}
noncomputable def wc(lt:α->α->Bool):List α->List α->Bool
 | [],[]=>false
 | [],_::_=>true
 | _::_,[]=>false
 | a::r,b::t=>if a=b then wc lt r t else lt a b
theorem wz(o:Ord lt):Ord (wc lt) where
 irr:=fun a=>by
  induction a with
  | nil=>rfl
  | cons x r ih=>simpa[wc] using ih
 trs:=fun a=>by
  induction a with
  | nil=>intro b c h h';cases b<;>cases c<;>simp_all [wc]
  | cons x a ih =>
   intro b c h h';cases b with
   | nil=>simp[wc] at h
   | cons y b =>
    cases c with
    | nil=>simp[wc] at h'
    | cons z c =>
     simp only[wc] at h h' ⊢;by_cases e1:x=y
     ·subst e1
      rw[if_pos rfl] at h;by_cases e2:x=z
      ·rw[if_pos e2] at h' ⊢;exact ih b c h h'
      ·rw[if_neg e2] at h' ⊢;exact h'
     ·rw[if_neg e1] at h
      by_cases e2:y=z
      ·subst e2;rw[if_neg e1];exact h
      ·rw[if_neg e2] at h'
       have q:=o.trs _ _ _ h h';rw[if_neg (fun e=>by subst e;rw[o.irr] at q;cases q)];exact q
 neg:=fun a=>by
  induction a with
  | nil=>intro b c h;cases b<;>cases c<;>simp_all [wc]
  | cons x a ih =>
   intro b c h;cases c with
   | nil=>simp[wc] at h
   | cons z c =>
    cases b with
    | nil=>exact .inr rfl
    | cons y b =>
     simp only[wc] at h ⊢;by_cases e1:x=y
     ·subst e1
      rw[if_pos rfl];by_cases e2:x=z
      ·rw[if_pos e2] at h ⊢;exact ih b c h
      ·rw[if_neg e2] at h ⊢;exact .inr h
     ·rw[if_neg e1]
      by_cases e2:y=z
      ·subst e2;rw[if_neg e1] at h;exact .inl h
      ·rw[if_neg e2]
       by_cases e3:x=z
       ·subst e3
        cases q:lt x y with
        | true=>exact .inl rfl
        | false =>
         cases q':lt y x with
         | true=>exact .inr rfl
         | false=>exact absurd (o.tot _ _ q q') e1
       ·rw[if_neg e3] at h;exact o.neg _ _ _ h
 tot:=fun a=>by
  induction a with
  | nil=>intro b h h';cases b<;>simp_all [wc]
  | cons x a ih =>
   intro b h h';cases b with
   | nil=>simp[wc] at h'
   | cons y b =>
    simp only[wc] at h h';by_cases e:x=y
    ·subst e
     rw[if_pos rfl] at h h';rw[ih b h h']
    ·rw[if_neg e] at h;rw[if_neg (Ne.symm e)] at h'
     exact absurd (o.tot _ _ h h') e
end
noncomputable def ltZ(a b:Int):Bool:=decide (a<b)
theorem zJK:Ord ltZ:=⟨fun a=>by simp[ltZ],fun a b c h h'=>by simp only[ltZ,decide_eq_true_eq] at *;omega,fun a b c h=>by simp only[ltZ,decide_eq_true_eq] at *;omega,fun a b h h'=>by simp only[ltZ,decide_eq_false_iff_not] at *;omega⟩
noncomputable abbrev lt2:List (List Int)->List (List Int)->Bool:=wc (wc ltZ)
noncomputable def ltS:Int ⊕ List (List Int)->Int ⊕ List (List Int)->Bool
 | .inl a,.inl b=>ltZ a b
 | .inl _,.inr _=>true
 | .inr _,.inl _=>false
 | .inr a,.inr b=>lt2 a b
theorem zBw:Ord ltS:=by
 have z:=zJK;have l:Ord lt2:=wz (wz zJK);refine⟨fun a=>?_,fun a b c h h'=>?_,fun a b c h=>?_,fun a b h h'=>?_⟩
 ·cases a
  ·exact z.irr _
  ·exact l.irr _
 ·cases a<;>cases b<;>cases c<;>first | rfl | (exact z.trs _ _ _ h h') | (exact l.trs _ _ _ h h') | (cases h;done) | cases h'
 ·cases a<;>cases b<;>cases c<;>first | (exact .inl rfl) | (exact .inr rfl) | (exact z.neg _ _ _ h) | (exact l.neg _ _ _ h) | cases h
 ·cases a<;>cases b<;>first | (cases h;done) | (cases h';done) | (exact congrArg _ (z.tot _ _ h h')) | exact congrArg _ (l.tot _ _ h h')
noncomputable abbrev ltW:Wb->Wb->Bool:=wc ltS
section
variable {prog:Program} {w:World} {κ:Type} [DecidableEq κ] {e:EK prog w κ} {A:Around} {E:Value->Shared->Prop} {s:Shared} {lt:κ->κ->Bool}
theorem zMN(lo:∀ {A:Around} {E:Value->Shared->Prop} {s:Shared} {x y:κ} {u v:Value} {Q:Value->Shared->Prop},A.units+e.lv<cLine->e.is s.heap x u->e.is s.heap y v->Q (.bool (lt x y)) s->wpAny (model prog w) A (richCompare .Lt u v) Q E s)
  {xs ys:List κ} {a b:Addr} {Q:Value->Shared->Prop} (hu:A.units+(e.lv+1)<cLine) (ta:zAo e s.heap xs a) (tb:zAo e s.heap ys b) (h:Q (.bool (wc lt xs ys)) s):wpAny (model prog w) A (richCompare .Lt (.ref a) (.ref b)) Q E s:=by
 refine wpAny_richCompare_same_room (op:=.Lt) ta.typ tb.typ F.slot_tuple_lt (bT F.slot_tuple_lt ta.typ F.entry_tuple_lt ?_ (F.args_tuple_lt_2 _ _)) (by omega);have ty:=tb.typ;obtain⟨oa,ia,na,a1,u0,a2,a3⟩:=ta;obtain⟨ob,ib,nb,b1,u0,b2,b3⟩:=tb;show wpAny _ _ (isInstance (.ref b) (.type "tuple")>>=_) _ _ s;refine bi (cS ty isSubtype_tuple_tuple ?_);simp only[dB,bj,if_false];refine bi (wpAny_tupleItemsOf a1 a2 (bi (wpAny_tupleItemsOf b1 b2 (bi ?_))));refine dX _ (fun rest r s'=>r.1=none/\s'=s/\∃ p q ps qs,rest=List.zip ps qs/\Its (e.is s.heap) p ps/\Its (e.is s.heap) q qs/\wc lt p q=wc lt xs ys/\(decide (ps.length<qs.length))=decide (ia.size<ib.size)) _ ?_ ?_ _ _ ⟨rfl,rfl,xs,ys,ia.toList,ib.toList,rfl,a3,b3,rfl,by simp⟩
 ·rintro⟨u,v⟩ rest r s' ⟨hr,rfl,p,q,ps,qs,z,hp,hq,hd,hl⟩
  cases hp with
  | nil=>simp at z
  | @cons k1 _ p' ps' m1 m2 =>
   cases hq with
   | nil=>simp at z
   | @cons k2 _ q' qs' n1 n2 =>
    simp only[List.zip_cons_cons,List.cons.injEq,Prod.mk.injEq] at z;obtain⟨⟨rfl,rfl⟩,rfl⟩:=z;refine bi (e.eq (by rw[Around.in1_units];omega) m1 n1 ?_);by_cases c:k1=k2
    ·subst c
     rw[decide_eq_true rfl];simp only[dB,bj,if_false];exact bm ⟨rfl,rfl,p',q',ps',qs',rfl,m2,n2,by rw[<-hd];simp[wc],by simpa using hl⟩
    ·rw[decide_eq_false c]
     simp only[Bool.not_false,if_true];have hf:wc lt xs ys=lt k1 k2:=by rw[<-hd];simp[wc,c]
     rw[hf] at h;exact bi (dF (bi (lo (by rw[Around.in1_units];omega) m1 n1 (bi (bm (bm (bm ⟨_,rfl,(fun z=>by cases z),h⟩)))))))
 ·rintro⟨r1,r2⟩ s' ⟨hr,rfl,p,q,ps,qs,z,hp,hq,hd,hl⟩
  cases (show r1=none from hr);refine bm ⟨.bool (decide (ia.size<ib.size)),rfl,(fun z=>by cases z),?_⟩;rw[<-hl];have hz:decide (ps.length<qs.length)=wc lt p q:=by cases hp<;>cases hq<;>simp[wc] at z ⊢
  rw[hz,hd];exact h
theorem lt_int{i j:Int}{u v:Value}{Q:Value->Shared->Prop}(hi:(ekI prog w).is s.heap i u)(hj:(ekI prog w).is s.heap j v)(h:Q (.bool (ltZ i j)) s):wpAny (model prog w) A (richCompare .Lt u v) Q E s:=by
 obtain⟨t,rfl⟩:=isI.mp hi;obtain⟨t',rfl⟩:=isI.mp hj;exact wpAny_lt_int h
theorem zQP{l k:List (List Int)}{u v:Value}{Q:Value->Shared->Prop}(hu:A.units+2<cLine)(hi:(zAp (zAp (ekI prog w))).is s.heap l u)(hj:(zAp (zAp (ekI prog w))).is s.heap k v)(h:Q (.bool (lt2 l k)) s):wpAny (model prog w) A (richCompare .Lt u v) Q E s:=by
 obtain⟨a,rfl,ta⟩:=hi;obtain⟨b,rfl,tb⟩:=hj;refine zMN (lt:=wc ltZ) (fun hu hx hy q=>?_) hu ta tb h;obtain⟨c,rfl,tc⟩:=hx;obtain⟨d,rfl,td⟩:=hy;exact zMN (lt:=ltZ) (fun u0 hx hy q=>lt_int hx hy q) hu tc td q
end
end HW
namespace HW
open HS
section
variable {prog:Program} {w:World} {A:Around} {E:Value->Shared->Prop} {s:Shared}
theorem zSO{d:Addr}{es:Array DictEntry}{ep:Nat}(lo:(d==sysModules)=false):PySem.W.KdlSrc prog w "dict" d d es.size (fun i v=>∃ e,es[i]?=some e/\v=e.key) (fun h=>DE h d es ep) where
 type:=fun _ ⟨o,h1,h2,_⟩=>⟨o,h1,h2.1⟩
 there:=fun _ ⟨o,h1,_⟩=>⟨bC h1,bC h1⟩
 keep:=fun u0 u0 m k=>m.at fun o e=>k d (.inl rfl) o e
 notList:=by decide
 notTuple:=by decide
 hint:=fun _ _ _ _ ⟨o,h1,h2,_⟩ q=>PySem.W.kdl_hint_dict ⟨o,h1,h2.1⟩ q
 iter:=fun u0 u0 hh m=>⟨_,_,(fun u0 u0 q=>zKS lo m q),zRd hh _ d (let ⟨_,h1,_⟩:=m;bO (bC h1)) es ep,⟨⟨_,bB _ rfl,rfl,rfl⟩,m.at fun o e=>bn _ e⟩⟩
theorem zMO{d:Addr}{es:Array DictEntry}{ep:Nat}{Q:List Value->Shared->Prop}(hh:A.handled=none)(lo:(d==sysModules)=false)(hm:DE s.heap d es ep)(hn:es.size<=sizeLine)
  (hQ:∀ h' tk,(∀ b o,s.heap.get? b=some o->h'.get? b=some o)->s.heap.objs.size<=h'.objs.size->Q (es.toList.map (·.key)) { s with heap:=h',toks:=tk }):wpAny (model prog w) A (collect (.ref d)) Q E s:=by
 have ld:d<s.heap.objs.size:=let ⟨_,h1,_⟩:=hm;bC h1;unfold collect;refine bi (e8 (cf PySem.F.entry_proto_collect ?_));rw[Around.under_plainId PySem.F.plain_proto_collect _];show wpAny _ A.in1 (newList []>>=fun l=>again (.builtin "list.__iadd__" ⟨[l,.ref d],[]⟩)) _ _ s;refine bi (bS (bm ⟨plainId_quiet PySem.F.plain_list_iadd _,cf PySem.F.entry_list_iadd ?_⟩));rw[Around.under_plainId PySem.F.plain_list_iadd _];show wpAny _ A.in1 (Builtin.List.listExtendWith (.ref s.heap.objs.size) (.ref d) (.ref s.heap.objs.size)) _ _ _;have hL:(s.heap.push { cls:=.type "list",data:=.seq ([]:List Value).toArray }).get? s.heap.objs.size=some { cls:=.type "list",data:=.seq #[] 0 }:=bB _ rfl;let Pst:Result->Shared->Prop:=fun res s'=>∃(h':Heap) (tk:Nat) (acc:Array Value) (c:Nat),res=.ok (.ret (.ref s.heap.objs.size))/\s'={ s with heap:=h',toks:=tk }/\(∀ b o,s.heap.get? b=some o->h'.get? b=some o)/\h'.get? s.heap.objs.size=some { cls:=.type "list",dict:=none,data:=.seq acc c,slots:=#[] }/\ItemsOf (fun i v=>∃ e,es[i]?=some e/\v=e.key) acc es.size;refine eN (PySem.W.kdl_extend (A:=A) (R:=Pst) (s:={ s with heap:=s.heap.push { cls:=.type "list",data:=.seq ([]:List Value).toArray } }) (zSO lo) hh (hm.at fun o e=>bn _ e) s.heap.objs.size (fe ld) (fe ld) (.ref s.heap.objs.size) 0 hL (fun h' tk acc c kp q1 q2=>?_) hn) (fun fin s' h=>?_) (fun e s' h=>?_)
 ·exact⟨h',tk,acc,c,rfl,rfl,fun b o e=>kp b o (bO (bC e)) (bn _ e),q1,q2⟩
 ·have fin':∀ {r' s''},Pst r' s''->wpAny (model prog w) A (match Value.ref s.heap.objs.size with
     | Value.ref a=>do
      match (<-load a).data with
       | Data.seq xs _=>pure xs.toList
       | _=>unsupported "internal:collect"
     | _=>unsupported "internal:collect") Q E s'':=by
   rintro r' s'' ⟨h',tk,acc,c,rfl,rfl,kp,q1,ac⟩;show wpAny _ A (load s.heap.objs.size>>=_) _ _ _;refine bi (wpAny_load q1 (bm ?_));have ea:acc.toList=es.toList.map (·.key):=by
    refine eY (by have:=ac.1;simp[this]) fun i h1 h2=>?_;have hi:i<acc.size:=by simpa using h1
    obtain⟨e,q1,q2⟩:=ac.2 i acc[i] (getElem?_pos acc i hi);have hj:i<es.size:=by simpa using h2
    rw[getElem?_pos es i hj] at q1;cases q1;simpa using q2
   show Q acc.toList _;rw[ea];exact hQ h' tk kp (cH (bC q1))
  cases fin with
  | done f =>
   have hf:=h;obtain⟨h',tk,acc,c,e,u0⟩:=h;cases e;exact fin' hf
  | again c'=>exact⟨h.1,cR h.2 fun r s'' hr=>by
    have hf:=hr;obtain⟨h',tk,acc,c,e,u0⟩:=hr;subst e;exact fin' hf⟩
 ·obtain⟨u0,u0,u0,u0,e,u0⟩:=h
  cases e
open Classical in
noncomputable def wAt (prog:Program) (w:World) (h:Heap) (v:Value):Option Wb:=if q:∃ k,(ekW prog w).is h k v then some (Classical.choose q) else none
theorem zIW{h:Heap}{k:Wb}{v:Value}(p:(ekW prog w).is h k v):wAt prog w h v=some k:=by
 have q:∃ k,(ekW prog w).is h k v:=⟨k,p⟩
 unfold wAt;rw[dif_pos q,(ekW prog w).inj (Classical.choose_spec q) p]
noncomputable abbrev zOp (prog:Program) (w:World) (h:Heap):KeyKind where
 α:=Wb
 blt:=ltW
 irrefl:=(wz zBw).irr
 trans:=(wz zBw).trs
 negTrans:=(wz zBw).neg
 total:=(wz zBw).tot
 keyOf:=wAt prog w h
 dflt:=[]
noncomputable def Wf(k:Wb):Prop:=∃ n l,k=[.inl n,.inr l]
theorem zDN{h:Heap}{n:Int}{l:List (List Int)}{v:Value}(p:(ekW prog w).is h [.inl n,.inr l] v):∃ a o k t u,v=.ref a/\h.get? a=some o/\o.cls=.type "tuple"/\o.data=.seq #[.int n t,u] k/\(zAp (zAp (ekI prog w))).is h l u:=by
 obtain⟨a,rfl,o,its,k,h1,h2,h3,h4⟩:=p;obtain⟨its⟩:=its;cases h4 with
 | cons p1 p2 =>
  cases p2 with
  | cons p3 p4 =>
   cases p4;obtain⟨t,rfl⟩:=(isI (h:=h)).mp p1;exact⟨a,o,k,t,_,rfl,h1,h2,h3,p3⟩
theorem zKT{k:Wb}{v:Value}(f:Wf k)(p:(ekW prog w).is s.heap k v):zRR prog w A E s v:=by
 intro Q h;obtain⟨n,l,rfl⟩:=f;obtain⟨a,o,m,t,u,rfl,e,c,d,u0⟩:=zDN p;show wpAny _ _ (do
  if (<-typeOf (.ref a)) != .type "tuple" then return none
  return (<-Builtin.List.listItems (.ref a))[0]?) _ _ _
 refine bi (dC (T:="tuple") ⟨o,e,c⟩ ?_);rw[if_neg (by decide)];exact bi (listItems_at e d (bm (h n t)))
theorem zKU{b:Bool}{x y:Value}{k l:Wb}{Q:Bool->Shared->Prop}(hu:A.units+3<cLine)(fk:Wf k)(fl:Wf l)(hx:(ekW prog w).is s.heap k x)(hy:(ekW prog w).is s.heap l y)(h:Q (ltW k l) s):wpAny (model prog w) A (keyLt' (tuples' b) x y) Q E s:=by
 obtain⟨n,r,rfl⟩:=fk;obtain⟨m,t,rfl⟩:=fl;obtain⟨a,o,u0,t1,u,rfl,e,u0,d,q⟩:=zDN hx;obtain⟨a',o',u0,t2,u',rfl,e',u0,d',q'⟩:=zDN hy;rw[zCu];refine bi (listItems_at e d (bi (listItems_at e' d' (bi ?_))));simp only[List.zip_cons_cons,List.zip_nil_left,List.zipIdx_cons,List.zipIdx_nil,List.forIn_cons,List.forIn_nil];refine bi (bi (wpAny_eqBool_int ?_));by_cases c:n=m
 ·subst c
  rw[if_neg (by simp)];refine bm (bi (bi ((zAp (zAp (ekI prog w))).eq (show A.units+2<cLine by omega) q q' ?_)));by_cases c2:r=t
  ·subst c2
   rw[if_neg (by simp)];refine bm (bm (bm ?_));have:ltW [.inl n,.inr r] [.inl n,.inr r]=false:=(wz zBw).irr _;rw[this] at h;exact h
  ·rw[if_pos (by simp[c2])]
   have:ltW [.inl n,.inr r] [.inl n,.inr t]=lt2 r t:=by simp[wc,c2,ltS]
   rw[this] at h;rw[oneLt'_eq];simp only[Nat.zero_add,Nat.reduceBEq,Bool.and_false,bj,if_false];exact bi (bi (m:=richCompare .Lt u u') (zQP (by omega) q q' (d9 (bm (bm (bm h))))))
 ·rw[if_pos (by simp[c])]
  have:ltW [.inl n,.inr r] [.inl m,.inr t]=decide (n<m):=by simp[wc,c,ltS,ltZ]
  rw[this] at h;exact bi (zEV (bm (bm (bm h))))
theorem zHS{d:Addr}{es:Array DictEntry}{ep:Nat}{Q:Value->Shared->Prop}(hh:A.handled=none)(hu:A.units+10<cLine)(lo:(d==sysModules)=false)(hm:DE s.heap d es ep)(hw:∀ v∈es.toList.map (·.key),∃ k,Wf k/\(ekW prog w).is s.heap k v)(h64:es.size<64)
  (h:∀ h' tk l (out:List Value) e,(∀ b o,s.heap.get? b=some o->h'.get? b=some o)->s.heap.objs.size<=l->h'.get? l=some (seqObj "list" out.toArray e)->out.Perm (es.toList.map (·.key)) ->
   out.Pairwise (fun a b=>ltW ((wAt prog w s.heap b).getD []) ((wAt prog w s.heap a).getD [])=false)->Q (.ref l) { s with heap:=h',toks:=tk }):wpAny (model prog w) A (call (.builtin "sorted") [.ref d]) Q E s:=by
 refine Calls.call_function_entry kind_sorted plain_sorted entry_sorted (args_sorted1 _) ?_;unfold Builtin.«sorted»;refine bi (m:=checkCount "sorted" 1 1 _) (bm (bi (zMO (A:=A.in1) (by simpa using hh) lo hm (by rw[sizeLine_eq];omega) fun g tk kp lg=>bi (wpAny_newList ?_ (by rw[sizeLine_eq];simp;omega)))));generalize hvs:es.toList.map (·.key)=vs at *;have hl:vs.length<64:=by rw[<-hvs];simpa using h64
 have hoL:(g.push (seqObj "list" vs.toArray 0)).get? g.objs.size=some (seqObj "list" vs.toArray 0):=bB _ rfl;have up:∀ b o,s.heap.get? b=some o->(g.push (seqObj "list" vs.toArray 0)).get? b=some o:=fun b o e=>bn _ (kp b o e);show wpAny _ _ _ _ _ { s with heap:=g.push (seqObj "list" vs.toArray 0),toks:=tk };refine bi (bZ (bT slot_list_sort ⟨_,hoL,rfl⟩ entry_list_sort (zHG (κ:=zOp prog w s.heap) (s:={ s with heap:=g.push (seqObj "list" vs.toArray 0),toks:=tk }) hoL hl (fun g2 up2=>?_) fun out a2 a3=>⟨_,rfl,bm ⟨_,rfl,?_⟩⟩) (args_list_sort _)))
 ·have hv':∀ v∈vs,∃ k,Wf k/\(ekW prog w).is g2 k v/\kOf (zOp prog w s.heap) v=k:=fun v hv=>by
   obtain⟨k,f,p⟩:=hw v hv;refine⟨k,f,(ekW prog w).mono p fun c o e hc=>up2 c o (fun z=>?_) (up c o e),?_⟩
   ·subst z
    exact absurd (bC e) (Nat.not_lt.mpr lg)
   ·show(wAt prog w s.heap v).getD []=k
    rw[zIW p];rfl
  refine⟨fun Q h1 q=>zDW (s:={ s with heap:=g2,toks:=tk }) h1 (fun v hv=>by obtain⟨k,f,p,u0⟩:=hv' v hv;exact zKT f p) q,fun x hx y hy E' Q q=>?_⟩;obtain⟨k,f1,p1,e1⟩:=hv' x hx;obtain⟨l,f2,p2,e2⟩:=hv' y hy;rw[e1,e2] at q;exact zKU (s:={ s with heap:=g2,toks:=tk }) (by simp only[Around.in1_units];omega) f1 f2 p1 p2 q
 have at1:((g.push (seqObj "list" vs.toArray 0)).update g.objs.size (Obj.mapSeq fun u0=>#[])).get? g.objs.size=some (seqObj "list" #[] _):=get?_update_seq hoL (fun u0=>#[]);have at2:((((g.push (seqObj "list" vs.toArray 0)).update g.objs.size (Obj.mapSeq fun u0=>#[])).push (seqObj "tuple" vs.toArray 0)).push (seqObj "list" #[] 0)).get? g.objs.size=some (seqObj "list" #[] _):=bn _ (bn _ at1);refine h _ tk g.objs.size out.toList _ (fun b o e=>?_) lg (get?_update_seq at2 (fun u0=>out)) a2 ?_
 ·have hb:b≠g.objs.size:=bO (bC (kp b o e))
  unfold sortedHeap;rw[cM _ _ _ _ hb];exact bn _ (bn _ (by rw[cM _ _ _ _ hb];exact bn _ (kp b o e)))
 ·rw[eh]
  intro i j hi hj ij;have hj':j<out.size:=by simpa using hj
  have q:=a3 i j (cH ij) hj';have gt:∀ k,(hk:k<out.size)->out.getD k .none=out[k]:=fun k hk=>by simp[dM,hk]
  rw[gt i (by omega),gt j hj'] at q;simpa using q
end
end HW
namespace L3
open L2
section
variable {X:Cx} {pins:List (Addr×Obj)} {σ1:L2.St} {H:Hp} {s:Shared} {κ:Type} [DecidableEq κ]
theorem zJL{K:PySem.W.Frag}{p:κ->Value->Prop}{f:κ->D}(g:∀ x v u,zO K H (f x) v->RelV v u->p x u):∀ {xs:List κ} {vs:List V} {us:List Value},Dens K H (xs.map f) vs->zX vs us->HW.Its p xs us
 | [],vs,us,d,r=>by
  rw[List.map_nil] at d;unfold Dens at d;subst d;cases r;exact .nil
 | x::xs,vs,us,d,r=>by
  rw[cz] at d;unfold Dens at d;obtain⟨v,t,rfl,d1,d2⟩:=d;cases r with
  | cons r1 r2=>exact .cons (g _ _ _ d1 r1) (zJL g d2 r2)
theorem zGY(I:zU X pins σ1 H s){e:HW.EK X.prog X.w κ}{f:κ->D}(g:∀ x v u,zO X.K H (f x) v->RelV v u->e.is s.heap x u){xs:List κ}{v:V}{u:Value}(d:zO X.K H (.tup (xs.map f)) v)(r:RelV v u):(HW.zAp e).is s.heap xs u:=by
 unfold zO at d;obtain⟨a,vs,rfl,sq,ds⟩:=d;cases r;obtain⟨its,rv,⟨o,h1,h2,n,h3⟩,u0⟩:=I.tuple sq;exact⟨a,rfl,o,_,n,h1,h2,h3,by simpa using zJL g ds rv⟩
theorem zJM{i:Int}{v:V}{u:Value}(d:zO X.K H (.int i) v)(r:RelV v u):(HW.ekI X.prog X.w).is s.heap i u:=by
 unfold zO at d;subst d;exact HW.isI.mpr r
theorem zAJ(I:zU X pins σ1 H s){k:HW.Wb}{v:V}{u:Value}(d:zO X.K H (wu k) v)(r:RelV v u):(HW.ekW X.prog X.w).is s.heap k u :=
 zGY I (e:=HW.ekX X.prog X.w) (f:=wbI) (fun x v u d r=>by
  cases x with
  | inl i=>exact zJM (s:=s) d r
  | inr l=>exact zGY I (e:=HW.zAp (HW.ekI X.prog X.w)) (f:=fun p=>.tup (p.map D.int)) (fun p v u d r=>zGY I (f:=D.int) (fun i v u d r=>zJM d r) d r) d r) d r
theorem zC0{K:PySem.W.Frag}{k:HW.Wb}{v:V}(d:zO K H (wu k) v):∃ a,v=.ref a:=by
 unfold wu zO at d;obtain⟨a,u0,e,u0⟩:=d;exact⟨a,e⟩
theorem zMP(P:Program)(w:World)(k:HW.Wb):(HW.zCM P w).hash k=wbH k:=by
 unfold wbH;show reduceHash (Builtin.Tuple.tupleHashOf (k.map (HW.ekX P w).hash))=_;congr 2;refine cZ fun x u0=>?_;cases x<;>rfl
theorem _root_.PySem.Paired.memR{α β:Type}{F:α->β->Prop}{l:List α}{l':List β}(h:Paired F l l'){b:β}(hb:b∈l'):∃ a∈l,F a b:=by
 induction h with
 | nil=>cases hb
 | cons r _ ih =>
  rcases ce.mp hb with e | e
  ·subst e;exact⟨_,bU,r⟩
  ·obtain⟨a,h1,h2⟩:=ih e;exact⟨a,bN _ h1,h2⟩
noncomputable abbrev lk{α:Type}(xs:List (HW.Wb×α))(k:HW.Wb):Option (HW.Wb×α):=xs.find? fun x=>decide (x.1=k)
theorem zAf{α β:Type}{F:HW.Wb×α->HW.Wb×β->Prop}(hF:∀ a b,F a b->a.1=b.1){xs:List (HW.Wb×α)}{ys:List (HW.Wb×β)}(h:Paired F xs ys)(k:HW.Wb):(lk xs k=none/\lk ys k=none)\/∃ a b,lk xs k=some a/\lk ys k=some b/\F a b:=by
 induction h with
 | nil=>exact .inl ⟨rfl,rfl⟩
 | @cons a b _ _ r _ ih =>
  have e:=hF _ _ r;by_cases c:a.1=k
  ·exact .inr ⟨a,b,by simp[lk,c],by simp[lk,<-e,c],r⟩
  ·have c':b.1≠k:=by rw[<-e];exact c
   simpa[lk,c,c'] using ih
noncomputable abbrev Xy:HW.Wb×Addr×V->HW.Wb×Addr×Value->Prop:=fun x y=>x.1=y.1/\x.2.1=y.2.1/\RelV x.2.2 y.2.2
noncomputable abbrev Kx(K:PySem.W.Frag)(H:Hp):HW.Wb×D->HW.Wb×Addr×V->Prop:=fun kv x=>kv.1=x.1/\zO K H (wu x.1) (.ref x.2.1)/\zO K H kv.2 x.2.2
theorem zBK(I:zU X pins σ1 H s){d:Addr}{xs:List (HW.Wb×Addr×V)}(e:H d=some (.ext (DW d xs)))(hd:∀ x∈xs,zO X.K H (wu x.1) (.ref x.2.1)) :
  (d==sysModules)=false/\xs.length<=sizeLine/\∃ ys,Paired Xy xs ys/\s.heap.DictOfH (HW.zCM X.prog X.w) d ys/\∃ es ep,HW.DE s.heap d es ep/\es.toList=ys.map fun y=>(⟨wbH y.1,.ref y.2.1,y.2.2⟩:DictEntry):=by
 obtain⟨⟨h1,h2,ys,h3,h4,o,es,ep,h5,h6,h7,h8⟩,u0⟩:=(show zAE X.prog X.w H s.heap d (.ext (DW d xs)) from I.hok d _ e)
 refine⟨h1,h2,ys,h3,⟨o,es,ep,h5,h6,h7,?_,fun y hy=>?_,h4⟩,es,ep,⟨o,h5,h6,h7⟩,h8⟩
 ·rw[h8]
  refine cZ fun y u0=>?_;unfold entryOfKey;rw[zMP]
 ·obtain⟨x,hx,e1,e2,u0⟩:=h3.memR hy
  rw[<-e1,<-e2];exact zAJ I (hd x hx) rfl
theorem zMQ{P:Program}{w:World}{h:Heap}{d:Addr}{xs:List (HW.Wb×Addr×V)}(q:DW d xs h):zAE P w H h d (.ext (DW d xs)):=by
 refine⟨q,?_,fun h1 h2 z k=>?_⟩
 ·obtain⟨u0,u0,u0,u0,u0,o,u0,u0,e,u0⟩:=q
  exact⟨o,e⟩
 ·obtain⟨a1,a2,ys,a3,a4,o,es,ep,a5,a6⟩:=z
  exact⟨a1,a2,ys,a3,a4,o,es,ep,k o a5,a6⟩
theorem zMR{P:Program}{w:World}{h:Heap}{d:Addr}{xs:List (HW.Wb×Addr×V)}{ys:List (HW.Wb×Addr×Value)}(lo:(d==sysModules)=false)(hl:xs.length<=sizeLine)(p:Paired Xy xs ys)(q:h.DictOfH (HW.zCM P w) d ys):DW d xs h:=by
 obtain⟨o,es,ep,h5,h6,h7,h8,u0,h4⟩:=q;refine⟨lo,hl,ys,p,h4,o,es,ep,h5,h6,h7,?_⟩;rw[h8];refine cZ fun y u0=>?_;unfold entryOfKey;rw[zMP]
theorem zGZ(ys:List (HW.Wb×Addr×Value))(k:HW.Wb):atKey ys k=(lk ys k).map (·.2):=rfl
noncomputable def rNW(K:PySem.W.Frag):R2:=fun x y H Q=>∃ a d xs k,x=.ref a/\y=.ref d/\H d=some (.ext (DW d xs))/\(∀ x∈xs,zO K H (wu x.1) (.ref x.2.1))/\zO K H (wu k) (.ref a)/\Q (.bl (lk xs k).isNone) H
theorem zKV(hu:X.A.units+10<cLine):OpR X (compareOp .NotIn) (rNW X.K):=by
 intro pins s σ H x y v u Q I rx ry h;obtain⟨a,d,xs,k,rfl,rfl,e1,e2,e3,q⟩:=h;cases rx;cases ry;obtain⟨lo,u0,ys,pr,dh,u0⟩:=zBK I e1 e2;refine HW.zQO (by omega) (zAJ I e3 rfl) lo dh ⟨.bl _,H,I.tok _,rfl,?_⟩;rw[zGZ];rcases zAf (fun a b z=>z.1) pr k with ⟨z1,z2⟩ | ⟨u0,u0,z1,z2,u0⟩<;>rw[z1] at q<;>rw[z2]<;>exact q
noncomputable def rGW(K:PySem.W.Frag):R2:=fun x y H Q=>∃ d a xs k z,x=.ref d/\y=.ref a/\H d=some (.ext (DW d xs))/\(∀ x∈xs,zO K H (wu x.1) (.ref x.2.1))/\zO K H (wu k) (.ref a)/\lk xs k=some z/\Q z.2.2 H
theorem zQQ(hu:X.A.units+10<cLine):IxR X (rGW X.K):=by
 intro value slice pins s σ H x y v u Q I rx ry h hs;obtain⟨d,a,xs,k,z,rfl,rfl,e1,e2,e3,e4,q⟩:=h;cases rx;cases ry;obtain⟨lo,u0,ys,pr,dh,u0⟩:=zBK I e1 e2;rcases zAf (fun a b z=>z.1) pr k with ⟨z1,u0⟩ | ⟨x,y,z1,z2,r⟩
 ·rw[z1] at e4;cases e4
 ·rw[e4] at z1;cases z1
  exact tail_any dh.typeIs slot_dict_getitem.lookup (wpAny_getItem_heap (p:=y.2) (by rw[HW.zAq,Around.in1_units];omega) (zAJ I e3 rfl) dh (by rw[zGZ,z2];rfl) ⟨z.2.2,H,I.tok _,r.2.2,q⟩) hs
noncomputable def rSW(K:PySem.W.Frag):zM1:=fun o i v H Q=>∃ d a xs k,o=.ref d/\i=.ref a/\H d=some (.ext (DW d xs))/\(∀ x∈xs,zO K H (wu x.1) (.ref x.2.1))/\zO K H (wu k) (.ref a)/\lk xs k=none/\xs.length+1<=sizeLine/\Q (ye H d (.ext (DW d (xs++[(k,a,v)]))))
theorem zOB(hu:X.A.units+10<cLine):zPA X (rSW X.K):=by
 intro pins s σ H o i v ov iv u Q I ro ri rv h;obtain⟨d,a,xs,k,rfl,rfl,e1,e2,e3,e4,hl,q⟩:=h;cases ro;cases ri;obtain⟨lo,hl0,ys,pr,dh,u0⟩:=zBK I e1 e2;have hn:atKey ys k=none:=by
  rcases zAf (fun a b z=>z.1) pr k with ⟨u0,z2⟩ | ⟨u0,u0,z1,u0⟩
  ·rw[zGZ,z2];rfl
  ·rw[e4] at z1;cases z1
 have yl:ys.length=xs.length:=by have:=pr.length;omega
 refine wpAny_setItem_heap (knd:=HW.zCM X.prog X.w) (by rw[HW.zAq,Around.in1_units];omega) (zAJ I e3 rfl) dh (fun h' dh' sb=>?_) (by omega);rw[storedH_new hn] at dh';have dw:DW d (xs++[(k,a,v)]) h':=zMR lo (by simpa using hl) (pr.snoc ⟨rfl,rfl,rv⟩) dh';exact⟨_,I.write (by rw[e1];trivial) (.inl rfl) (fun b o hb e=>(sb.2 b hb).trans e) (by obtain⟨u0,u0,u0,u0,u0,o,u0,u0,e,u0⟩:=dw;exact⟨o,e⟩) (zMQ dw),q⟩
end
section
variable {X:Cx} {a b o:Expr} {pos p:Pos} {ta tb te:zj}
noncomputable def fNW:D->D->Gp->Q2->Prop:=fun x y G R=>match y with
 | .adr d=>∃ k kvs,x=wu k/\G.dc d=some kvs/\R (.bl (lk kvs k).isNone) G
 | _=>False
noncomputable def fGW:D->D->Gp->Q2->Prop:=fun x y G R=>match x with
 | .adr d=>∃ k kvs z,y=wu k/\G.dc d=some kvs/\lk kvs k=some z/\R z.2 G
 | _=>False
theorem zDO{K:PySem.W.Frag}{H:Hp}{kvs:List (HW.Wb×D)}{xs:List (HW.Wb×Addr×V)}(h:Paired (Kx K H) kvs xs):∀ x∈xs,zO K H (wu x.1) (.ref x.2.1):=fun x hx=>by
 obtain⟨u0,u0,z⟩:=h.memR hx;exact z.2.1
theorem zQR{K:PySem.W.Frag}:Fit K (rNW K) fNW:=by
 intro dx dy G R x y H Q h r d1 d2 kk;unfold fNW at h;split at h
 ·rename_i d
  obtain⟨k,kvs,rfl,e,h⟩:=h;obtain⟨xs,e1,e2⟩:=r.dc d kvs e;obtain⟨a,rfl⟩:=zC0 d1;unfold zO at d2;refine⟨a,d,xs,k,rfl,d2,e1,zDO e2,d1,kk (.bl (lk xs k).isNone) G ?_ _ H (.refl H) r (by unfold zO;rfl)⟩;rcases zAf (fun a b z=>z.1) e2 k with ⟨z1,z2⟩ | ⟨u0,u0,z1,z2,u0⟩<;>rw[z1] at h<;>rw[z2]<;>exact h
 ·exact h.elim
theorem zQS{K:PySem.W.Frag}:Fit K (rGW K) fGW:=by
 intro dx dy G R x y H Q h r d1 d2 kk;unfold fGW at h;split at h
 ·rename_i d
  obtain⟨k,kvs,z,rfl,e,e4,h⟩:=h;obtain⟨xs,e1,e2⟩:=r.dc d kvs e;obtain⟨a,rfl⟩:=zC0 d2;unfold zO at d1;rcases zAf (fun a b z=>z.1) e2 k with ⟨z1,u0⟩ | ⟨x,y,z1,z2,q⟩
  ·rw[z1] at e4;cases e4
  ·rw[e4] at z1;cases z1
   exact⟨d,a,xs,k,y,d1,rfl,e1,zDO e2,d2,z2,kk _ G h _ H (.refl H) r q.2.2⟩
 ·exact h.elim
theorem zMS{n:Nat}(hr:yR n X.A)(ha:E2 X a ta)(hb:E2 X b tb)(hm:autoParam (behindInMarks .NotIn b=false) Zq4._auto_1):T2 X (.Compare a [.NotIn] [b] pos) (xB (zZ fNW ta tb)):=zDT (zKV (by have:=hr.units;omega)) zQR ha hb hm
theorem zRe{n:Nat}(hr:yR n X.A)(ha:E2 X a ta)(hb:E2 X b tb)(hs:autoParam (zFt b) Zq7._auto_1):E2 X (.Subscript a b pos) (zZ fGW ta tb) :=
 PE.mono (zOV (zQQ (by have:=hr.units;omega)) ha hb hs) fun σ1 H Q h=>zGx zQS h
theorem zl.dput{K:PySem.W.Frag}{G:Gp}{H:Hp}{d:Addr}{kvs:List (HW.Wb×D)}{xs:List (HW.Wb×Addr×V)}{φ:Heap->Prop}(h:H d=some (.ext φ))(r:zl K G H)(p:Paired (Kx K H) kvs xs):zn H (ye H d (.ext (DW d xs)))/\zl K (zDd G d kvs) (ye H d (.ext (DW d xs))):=by
 have g:zn H (ye H d (.ext (DW d xs))):=⟨fun a ys e=>by rw[zq (zE6 e h (by intro z;cases z))];exact e,fun a o u e=>by rw[zq (zE6 e h (by intro z;cases z))];exact e⟩
 refine⟨g,fun a ds e=>?_,fun a ds e=>?_,fun a ds e=>?_⟩
 ·obtain⟨ys,e1,e2⟩:=r.m a ds e
  exact⟨ys,by rw[zq (zE6 e1 h (by intro z;cases z))];exact e1,e2.grow g⟩
 ·obtain⟨ys,e1,e2⟩:=r.ro a ds e
  exact⟨ys,g.roL e1,e2.grow g⟩
 ·by_cases c:a=d
  ·subst c
   rw[zBn] at e;cases e;exact⟨xs,zf,L2.Paired.mapP p fun u0 u0 z=>⟨z.1,z.2.1.grow g,z.2.2.grow g⟩⟩
  ·rw[zDh c] at e
   obtain⟨ys,e1,e2⟩:=r.dc a ds e;exact⟨ys,by rw[zq c];exact e1,L2.Paired.mapP e2 fun u0 u0 z=>⟨z.1,z.2.1.grow g,z.2.2.grow g⟩⟩
noncomputable def zMT(to ti:zj):TG2:=fun d σ G R=>to σ G fun o G1=>ti σ G1 fun i G2=>match o with
 | .adr a=>∃ k kvs,i=wu k/\G2.dc a=some kvs/\lk kvs k=none/\kvs.length+1<=sizeLine/\R σ (zDd G2 a (kvs++[(k,d)]))
 | _=>False
theorem zRf{n:Nat}{i:Expr}{to ti:zj}(hr:yR n X.A)(ho:E2 X o to)(hi:E2 X i ti)
  (ha:autoParam (∀ v,assign (.Subscript o i pos) X.env v=(do
   let ov <-holding [v] (eval o X.env);let iv <-holding [v,ov] (eval i X.env)
   standAt pos
   holding [v,ov,iv] (setItem ov iv v)
   release [v,ov,iv] [])) Zq3._auto_1):G2 X (.Subscript o i pos) (zMT to ti):=by
 refine PG.mono (zKs ho hi (zOB (by have:=hr.units;omega)) ha) ?_;rintro v σ1 H Q ⟨σ,G,d,R,r,dv,q,k⟩;refine⟨σ,G,_,r,q,fun dx G1 q1 x H1 g1 r1 d1=>⟨σ,G1,_,r.to g1 r1,q1,fun dy G2' q2 y H2 g2 r2 d2=>?_⟩⟩;split at q2
 ·rename_i l
  obtain⟨w,kvs,rfl,e1,e2,e3,q2⟩:=q2;have d1':=d1.grow g2;unfold zO at d1';subst d1';obtain⟨a,rfl⟩:=zC0 d2;obtain⟨xs,h1,h2⟩:=r2.dc l kvs e1;have hl:=h2.length;have h3:lk xs w=none:=by
   rcases zAf (fun a b z=>z.1) h2 w with ⟨u0,z2⟩ | ⟨u0,u0,z1,u0⟩
   ·exact z2
   ·rw[e2] at z1;cases z1
  obtain⟨g3,r3⟩:=zl.dput h1 r2 (h2.snoc (a:=(w,d)) (b:=(w,a,v)) ⟨rfl,d2,dv.grow (g1.trans g2)⟩);exact⟨l,a,xs,w,rfl,rfl,h1,zDO h2,d2,h3,by omega,k _ _ q2 _ _ ((g1.trans g2).trans g3) ((r.to (g1.trans g2) r2).to g3 r3)⟩
 ·exact q2.elim
noncomputable def zIX(tk tv:zj):zj:=fun σ G R=>∀ p,G.m p=none->G.dc p=none->tk σ (zDd G p []) fun dk G1=>tv σ G1 fun dv G2=>∃ k,dk=wu k/\G2.dc p=some []/\R (.adr p) (zDd G2 p [(k,dv)])
theorem zl.dnew{K:PySem.W.Frag}{G:Gp}{H:Hp}{d:Addr}(h:H d=none)(r:zl K G H):zn H (ye H d (.ext (DW d [])))/\zl K (zDd G d []) (ye H d (.ext (DW d []))):=by
 have g:zn H (ye H d (.ext (DW d []))):=.fresh h;obtain⟨g',r'⟩:=zl.dput (φ:=DW d []) (kvs:=[]) (xs:=[]) zf (r.fresh (o:=.ext (DW d [])) h) .nil;rw[zMt] at r';exact⟨g,r'⟩
theorem zl.dfree{K:PySem.W.Frag}{G:Gp}{H:Hp}{p:Addr}(r:zl K G H)(h:H p=none):G.dc p=none:=by
 cases q:G.dc p with
 | none=>rfl
 | some ds=>obtain⟨xs,e1,u0⟩:=r.dc p _ q;rw[h] at e1;cases e1
theorem zOC{n:Nat}{k v:Expr}{tk tv:zj}(hr:yR n X.A)(hk:E2 X k tk)(hv:E2 X v tv):E2 X (.Dict [some k] [v] pos) (zIX tk tv):=by
 intro pins s σ1 H Q I h;obtain⟨σ,G,R,rl,q,kk⟩:=h;have hb:=zNv I;have hp:H s.heap.objs.size=none:=I.hok.fresh (bE _);obtain⟨g0,r0⟩:=zl.dnew hp rl.g;have lo:(s.heap.objs.size==sysModules)=false:=beq_eq_false_iff_ne.mpr fun z=>absurd hb (by rw[show s.heap.objs.size=1 from z];decide);have I1:zU X pins σ1 (ye H s.heap.objs.size (.ext (DW s.heap.objs.size []))) { s with heap:=s.heap.push { cls:=.type "dict",data:=.dict #[] } } :=
  I.laid (t':=s.toks) (fun b u e=>bn _ e) (bE _) (zMQ (zMR lo (cg _) .nil (Heap.DictOfH.new (knd:=HW.zCM X.prog X.w) s.heap)))
 rw[arm_eval_Dict,zip_pairTrees [some k] [v] X.env pos rfl rfl,dictDisplay_pairs _ (by simp[pairTrees]) (by simp[pairTrees])];refine bi (wpAny_standAt (bi ?_));unfold subDict;refine bi (wpAny_alloc (bi (bZ ?_)));rw[if_pos (by simp[pairTrees])];refine bi (pairTrees_cons_walk (yU (hk pins _ σ1 _ (fun x H1=>∃ dk G1,zn H H1/\zl X.K G1 H1/\zO X.K H1 dk x/\tv σ G1 fun dv G2=>∃ k,dk=wu k/\G2.dc s.heap.objs.size=some []/\R (.adr s.heap.objs.size) (zDd G2 s.heap.objs.size [(k,dv)])) I1 ⟨σ,_,_,rl.to g0 r0,q _ (rl.g.free hp) (rl.g.dfree hp),fun d G' z v H' g r d'=>⟨d,G',g0.trans g,r,d',z⟩⟩) fun u1 s1 u9=>?_));obtain⟨x1,H1,I2,rx1,dk,G1,g1,r1,d1,q1⟩:=u9;refine yU (hv pins _ σ1 _ (fun y H2=>∃ dv G2,zn H1 H2/\zl X.K G2 H2/\zO X.K H2 dv y/\∃ k,dk=wu k/\G2.dc s.heap.objs.size=some []/\R (.adr s.heap.objs.size) (zDd G2 s.heap.objs.size [(k,dv)])) I2 ⟨σ,_,_,rl.to g1 r1,q1,fun d G' z v H' g r d'=>⟨d,G',g,r,d',z⟩⟩) fun u2 s2 u9=>?_;obtain⟨x2,H2,I3,rx2,dv,G2,g2,r2,d2,w,hw,hd,q2⟩:=u9;refine pairTrees_nil_walk (bZ ?_);subst hw;have d1':=d1.grow g2;obtain⟨a,rfl⟩:=zC0 d1';cases rx1;obtain⟨xs,e1,e2⟩:=r2.dc _ _ hd;cases e2;obtain⟨u0,u0,ys,pr,dh,u0⟩:=zBK I3 e1 (fun x hx=>by cases hx);cases pr;refine bi ?_;simp only[List.forIn_cons,List.forIn_nil];refine bi (bi (wpAny_dictSet_heap (knd:=HW.zCM X.prog X.w) (by rw[HW.zAq];have:=hr.units;omega) (zAJ I3 d1' rfl) dh (fun h' dh' sb=>bm (bm (bm (bm ?_)))) (cg _)));rw[storedH_new rfl] at dh';have dw:DW s.heap.objs.size [(w,a,x2)] h':=zMR lo (by rw[sizeLine_eq];simp) (.cons ⟨rfl,rfl,rx2⟩ .nil) dh';obtain⟨g3,r3⟩:=zl.dput e1 r2 (kvs:=[(w,dv)]) (xs:=[(w,a,x2)]) (.cons ⟨rfl,d1',d2⟩ .nil);exact bm ⟨.ref s.heap.objs.size,_,I3.write (by rw[e1];trivial) (.inl rfl) (fun b o hb e=>(sb.2 b hb).trans e) (by obtain⟨u0,u0,u0,u0,u0,o,u0,u0,e,u0⟩:=dw;exact⟨o,e⟩) (zMQ dw),rfl,kk _ _ q2 _ _ ((g1.trans g2).trans g3) r3 (by unfold zO;rfl)⟩
end
end L3
namespace HZ
section
variable {prog:Program} {w:World} {A:Around} {E:Value->Shared->Prop} {s:Shared} {e it l:Addr} {xs:Array Value} (Z:Zs prog w it l xs)
end
end HZ
namespace L2
open HZ
end L2
namespace L3
open L2
end L3
namespace HZ
end HZ
namespace L2
open HZ
end L2
namespace L3
open L2
end L3
namespace HI
section
variable {prog:Program} {w:World} {A:Around} {E:Value->Shared->Prop} {s:Shared}
theorem zIY{l:Addr}{its:Array Value}{ns:List Int}{Q:Value->Shared->Prop}(hh:A.handled=none)(hl:s.heap.IsTuple l its)(hi:IntsAre its.toList ns)(hb:its.size+1<scanBound)
  (h:∀(h':Heap) (tk:Nat) (ks:List Int),SI prog w h' s.heap.objs.size ks->ks.Nodup->ks.length<=ns.length->(∀ x,x∈ks↔x∈ns)->(∀ b o,b<s.heap.objs.size->s.heap.get? b=some o->h'.get? b=some o)->Q (.ref s.heap.objs.size) { s with heap:=h',toks:=tk }) :
  wpAny (model prog w) A (call (.type "set") [.ref l]) Q E s:=by
 obtain⟨c,tl,hmro⟩:=F.called_set.mro;have hmade:=F.called_set.made;have hsub:=F.called_set.sub;refine wpAny_call (codeAny_of_tree (show wpAny _ _ (callAny (.type "set") _) _ _ _ from bm ⟨Code.quiet_builtin _ (by decide +kernel),cf F.entry_type_call ?_⟩));rw[Around.under_plain (weight_type_call_type "set" [.ref l] []) rfl];have h1:=F.called_set.notType;have h2:=F.called_set.canCreate;have hct:=F.typeCall_set_1 (.ref l)
 (repeat (any_goals (first | assumption | wp_step)))
 refine cR (zBe (.ref l) (E:=E) (Q1:=fun obj z=>obj=.ref s.heap.objs.size/\z={ s with heap:=s.heap.push (yX w) }) ⟨rfl,rfl⟩) fun r z hr=>?_;cases r with
 | error e=>exact hr
 | ok fl =>
  cases fl with
  | ret obj =>
   obtain⟨rfl,rfl⟩:=hr;have hT:Shared.TypeIs { s with heap:=s.heap.push (yX w) } (.ref s.heap.objs.size) "set":=⟨_,bB _ rfl,rfl⟩
   have hli:=F.called_set.init.lookup;have hbi:=F.called_set.init.bind (.ref s.heap.objs.size)
   (repeat (any_goals (first | assumption | wp_step)))
   refine cR (codeAny_call_builtin (R:=wants (fun r z2=>r=.none/\∃ h' tk ks,z2={ s with heap:=h',toks:=tk }/\SI prog w h' s.heap.objs.size ks/\ks.Nodup/\ks.length<=its.size/\(∀ x,x∈ks↔∃ m,m<its.size/\ns.getD m 0=x)/\(∀ b o,b<s.heap.objs.size->s.heap.get? b=some o->h'.get? b=some o)) E) F.called_set.init.plain F.entry_set_init (check_set_init_1 hT ?_)) fun r2 z2 hr2=>?_
   ·obtain⟨ol,hol,hcl,nl,hdl⟩:=hl
    obtain⟨ocls,odict,odata,oslots⟩:=ol;simp only at hcl hdl;subst hcl;subst hdl;have hol':(s.heap.push (yX w)).get? l=some { cls:=.type "tuple",dict:=odict,data:=.seq its nl,slots:=oslots }:=bn _ hol;have hsls:=F.sub_tuple_set;have hslf:=(show isSubtype (.type "tuple") (.type "frozenset")=pure false by rw[isSubtype_type];kernel_rfl);have hne:(Value.type "tuple"==Value.type "dict")=false:=by decide
    have hl1:(s.heap.push (yX w)).IsTuple l its:=⟨_,hol',rfl,nl,rfl⟩
    unfold Builtin.«set.__init__» noKeywords Builtin.Frozenset.updateFrom;generalize hPI:pyIter=PI
    wp_walk
    subst hPI;refine wpAny_pyIter_tuple hl1 (bi (e8 ?_));have lS:l<s.heap.objs.size:=bC hol;have hh3:A.in1.in1.in1.handled=none:=by simp[hh]
    have neI:l≠(s.heap.push (yX w)).objs.size:=by rw[dH];exact bO (Nat.lt_succ_of_lt lS)
    have hSf:s.heap.objs.size∉[(s.heap.push (yX w)).objs.size,l]:=by
     rw[dH];simp only[ce,bG,eu,or_false,not_or];exact⟨bO (Nat.lt_succ_self _),fe lS⟩
    have hval:∀(i:Nat) (v:Value),its[i]?=some v->∃ t,v=.int ((fun i=>ns.getD i 0) i) t:=fun i v hv=>IntsAre.int_at hi i v (by rw[Array.getElem?_toList];exact hv);refine zLr ((Walks.tuple hh3 _ l neI its).toS) s.heap.objs.size hSf (fun i=>ns.getD i 0) hval hb (its.size-0) 0 _ [] (by omega) (cg _) ⟨⟨_,bB _ rfl,rfl,rfl⟩,(hl1.push _)⟩ (zQD.keep fun o e=>bn _ e) (bE _) .nil (fun x=>⟨fun q=>(by simp at q),fun⟨m,q,_⟩=>absurd q (eI _)⟩) ?_;intro s' ks' hm si nd len mem;obtain⟨h',g',d',tk',os'⟩:=s';have eg:g'=s.gens:=hm.gens;have ed:d'=s.drawn:=hm.drawn;have eo:os'=s.os:=hm.os;subst eg;subst ed;subst eo;show wpAny _ _ _ _ _ _;refine bm ?_;show wpAny _ _ (ret Value.none) _ _ _;refine bm ⟨rfl,h',tk',ks',rfl,si,nd,len,mem,fun b o hb' e=>?_⟩;have b1:b≠s.heap.objs.size:=bO hb';have b2:b≠(s.heap.push (yX w)).objs.size:=by rw[dH];exact bO (Nat.lt_succ_of_lt hb')
    exact hm.heap b o (by simp only[ce,bG,eu,or_false,not_or];exact⟨b1,b2⟩) (bn _ (bn _ e))
   ·cases r2 with
    | error e=>exact hr2
    | ok fl2 =>
     cases fl2 with
     | ret r =>
      obtain⟨rfl,h',tk,ks,rfl,si,nd,len,mem,kp⟩:=hr2
      (repeat (any_goals (first | assumption | wp_step)))
      have ln:=hi.length;rw[bK] at ln;refine h _ _ ks si nd (by omega) (fun x=>?_) kp;rw[mem x];constructor
      ·rintro⟨m,q,rfl⟩
       have:m<ns.length:=by omega
       simp[cO,this]
      ·intro q
       obtain⟨m,hm,rfl⟩:=List.mem_iff_getElem.mp q;exact⟨m,by omega,by simp[cO,hm]⟩
     | _=>exact hr2.elim
  | _=>exact hr.elim
end
end HI
namespace L2
open HI
variable {X:Cx} {e:Expr} {t:TA} {p p2 pos pos2:Pos}
theorem zGa(hc:X.calm=true)(hg:Gl X "sorted")(hm:X.mg "sorted"=none)(hg2:Gl X "set")(hm2:X.mg "set"=none)(ha:PA X [e] t)
  (he:autoParam (starEach [.Call (.Name "set" p2) [e] [] pos2] X.env=(false,eval (.Call (.Name "set" p2) [e] [] pos2) X.env)::starEach [] X.env) Zq4._auto_1) (hpl:autoParam ((backTo pos (starEach [] X.env)).any (·.1)=false) Zq4._auto_1)
  (he2:autoParam (starEach [e] X.env=(false,eval e X.env)::starEach [] X.env) Zq4._auto_1) (hpl2:autoParam ((backTo pos2 (starEach [] X.env)).any (·.1)=false) Zq4._auto_1) :
  PE X (.Call (.Name "sorted" p) [.Call (.Name "set" p2) [e] [] pos2] [] pos) (fun σ H Q=>t σ H fun vs H1=>∃(q:Addr) (ns:List Int),vs=[.ref q]/\SqT X.K H1 q (ns.map V.int)/\ns.length<64/\∀(l:Addr) (ns':List Int),H1 l=none->ns'.Nodup->(∀ x,x∈ns'↔x∈ns)->ns'.Pairwise (·<=·)->Q (.ref l) (ye H1 l (.lst (ns'.map V.int)))):=by
 intro pins s σ H Q I h;refine cV (zAB I hg hm boot_sorted (PyProof.Rows.callWith_builtin1 ?_ he hpl));rw[he];show wpAny _ _ (spliced ((false,eval (.Call (.Name "set" p2) [e] [] pos2) X.env)::backTo pos (starEach [] X.env))) _ _ s;refine Calls.spliced_cons (cV (zAB I hg2 hm2 boot_set (PyProof.Rows.callWith_type1 (yU (ha pos2 pins s σ H _ I h) fun us s1 ⟨vs,H1,I1,r1,q1⟩=>?_) he2 hpl2)));obtain⟨q,ns,rfl,hq,hz,qq⟩:=q1;obtain⟨u,rfl,rx⟩:=vals1 r1;cases rx;obtain⟨its,rv,pl,u0⟩:=I1.tuple hq;have hl:=rv.length;rw[bA] at hl;refine zIY (I1.ok.hd hc) (show s1.heap.IsTuple q its.toArray from pl) (ns:=ns) (by simpa using intsAre_of rv) (by simp[scanBound];omega) fun h' tk ks si nd len mem kp=>?_;refine Calls.spliced_nil ?_;have kp1:∀ b o,s1.heap.get? b=some o->h'.get? b=some o:=fun b o e=>kp b o (bC e) e;have sz1:s1.heap.objs.size<h'.objs.size:=by obtain⟨o,u0,u0,u0,ho,u0⟩:=si;exact bC ho
 refine zIQ (s:={ s1 with heap:=h',toks:=tk }) (I1.ok.hd hc) si (by omega) fun h2 d tk2 l out ns' c kp2 hl2 hget hI pm so=>?_;have sl:s1.heap.objs.size<=l:=cK (cH sz1) hl2;have hn:H1 l=none:=I1.hok.fresh sl;have J:zU X pins σ (ye H1 l (.lst (ns'.map V.int))) { s1 with heap:=h2,toks:=tk2 }:=I1.laid (t':=tk2) (o:=.lst (ns'.map V.int)) (fun b o e=>kp2 b o (kp1 b o e)) sl ⟨by rw[bA,pm.length_eq,sizeLine_eq];omega,out.toList,c,zBm hI,by rw[hget]⟩;exact⟨.ref l,_,J.drw d,rfl,qq l ns' hn (pm.nodup_iff.mpr nd) (fun x=>(pm.mem_iff).trans (mem x)) so⟩
end L2
namespace L3
open L2
section
variable {X:Cx} {e:Expr} {p p2 pos pos2:Pos}
noncomputable def zQT(t:yh):TL2:=fun σ G R=>t σ G fun ds G1=>match ds with
 | [.tup xs]=>∃ ns:List Int,xs=ns.map D.int/\ns.length<64/\∀ ns':List Int,ns'.Nodup->(∀ x,x∈ns'↔x∈ns)->ns'.Pairwise (·<=·)->R (ns'.map D.int) G1
 | _=>False
theorem zHT{t:yh}(hc:X.calm=true)(hg:Gl X "sorted")(hm:X.mg "sorted"=none)(hg2:Gl X "set")(hm2:X.mg "set"=none)(ha:A2 X [e] t)
  (he:autoParam (starEach [.Call (.Name "set" p2) [e] [] pos2] X.env=(false,eval (.Call (.Name "set" p2) [e] [] pos2) X.env)::starEach [] X.env) Zq4._auto_1) (hpl:autoParam ((backTo pos (starEach [] X.env)).any (·.1)=false) Zq4._auto_1)
  (he2:autoParam (starEach [e] X.env=(false,eval e X.env)::starEach [] X.env) Zq4._auto_1) (hpl2:autoParam ((backTo pos2 (starEach [] X.env)).any (·.1)=false) Zq4._auto_1) :
  F2 X (.Call (.Name "sorted" p) [.Call (.Name "set" p2) [e] [] pos2] [] pos) (zQT t):=by
 refine PE.mono (zGa hc hg hm hg2 hm2 ha he hpl he2 hpl2) ?_;rintro σ1 H Q ⟨σ,G,R,rl,q,k⟩;refine⟨σ,G,_,rl,q,fun ds G1 q1 vs H1 g1 r1 d1=>?_⟩;split at q1
 ·rename_i xs
  obtain⟨ns,rfl,hl,q1⟩:=q1;obtain⟨v,rfl,d2⟩:=zAF d1;unfold zO at d2;obtain⟨a,us,rfl,s1,t1⟩:=d2;have hxs:=t1.ints_inv;subst hxs;refine⟨a,ns,rfl,s1,hl,fun l' ns' n' h1 h2 h3=>?_⟩;exact k _ G1 (q1 ns' h1 h2 h3) l' _ _ (g1.trans (.fresh n')) (r1.fresh n') (r1.free n') zf (Dens.ints ns')
 ·exact q1.elim
end
end L3
namespace L2
section
variable {X:Cx} {pos:Pos}
end
end L2
namespace L3
open L2
section
variable {X:Cx} {e o:Expr} {te to:zj} {t:yh} {tl:TL2} {pos p apos cpos:Pos}
theorem zRg{st:Stmt}:P2 X st (fun u0 u0 u0=>False):=by
 rintro pins s σ H E I ⟨σ',G,D2,r,q,k⟩;exact q.elim
end
end L3
namespace L3
open L2 HS
section
variable {X:Cx} {e:Expr} {p pos:Pos}
theorem zFf{pins:List (Addr×Obj)}{σ:L2.St}{H:Hp}{s:Shared}(I:zU X pins σ H s):∀ {us:List Value},(∀ u∈us,∃ a k,u=.ref a/\zO X.K H (wu k) (.ref a)) ->
  ∃ ys:List V,zX ys us/\Dens X.K H ((us.map fun u=>(HW.wAt X.prog X.w s.heap u).getD []).map wu) ys
 | [],_=>⟨[],.nil,.nil⟩
 | u::us,h=>by
  obtain⟨ys,v,d⟩:=zFf I (us:=us) fun w hw=>h w (bN _ hw);obtain⟨a,k,rfl,d1⟩:=h u (by simp);refine⟨.ref a::ys,.cons rfl v,?_⟩;simp only[cz];rw[HW.zIW (zAJ I d1 rfl)];exact .cons d1 d
theorem zKW{pins:List (Addr×Obj)}{σ:L2.St}{H:Hp}{s:Shared}(I:zU X pins σ H s){zs:List (HW.Wb×Addr×V)}{ys:List (HW.Wb×Addr×Value)}(pr:Paired Xy zs ys)(h:∀ x∈zs,zO X.K H (wu x.1) (.ref x.2.1)) :
  (ys.map ((fun u=>(HW.wAt X.prog X.w s.heap u).getD [])∘fun y=>Value.ref y.2.1))=zs.map (·.1):=by
 induction pr with
 | nil=>rfl
 | @cons x y _ _ z _ ih =>
  simp only[cz];rw[ih fun x hx=>h x (bN _ hx)];congr 1;show(HW.wAt X.prog X.w s.heap (.ref y.2.1)).getD []=x.1;rw[<-z.2.1,HW.zIW (zAJ I (h x bU) rfl)];rfl
theorem zGb(hc:X.calm=true)(hu:X.A.units+20<cLine):wO X (.builtin "sorted") (fun xs H Q=>∃(d:Addr) (zs:List (HW.Wb×Addr×V)),xs=[.ref d]/\H d=some (.ext (DW d zs))/\(∀ x∈zs,zO X.K H (wu x.1) (.ref x.2.1))/\(∀ x∈zs,HW.Wf x.1)/\zs.length<64 /\
  ∀(l:Addr) (ys':List V) (ks:List HW.Wb),H l=none->ks.Perm (zs.map (·.1))->Dens X.K H (ks.map wu) ys'->ks.Pairwise (fun a b=>HW.ltW b a=false)->Q (.ref l) (ye H l (.lst ys'))):=by
 intro pins s σ H xs us Q I r h;obtain⟨d,zs,rfl,e1,e2,e3,hl,q⟩:=h;obtain⟨u,rfl,rx⟩:=vals1 r;cases rx;obtain⟨lo,hl0,ys,pr,dh,es,ep,de,ee⟩:=zBK I e1 e2;have yl:zs.length=ys.length:=pr.length;have keys:es.toList.map (·.key)=ys.map fun y=>Value.ref y.2.1:=by rw[ee,dD];rfl
 have hk:∀ v∈es.toList.map (·.key),∃ a k,v=.ref a/\HW.Wf k/\zO X.K H (wu k) (.ref a):=fun v hv=>by
  rw[keys] at hv;obtain⟨y,hy,rfl⟩:=bF.mp hv;obtain⟨x,hx,z1,z2,u0⟩:=pr.memR hy;exact⟨_,x.1,rfl,e3 x hx,by rw[<-z2];exact e2 x hx⟩
 have es':es.size=ys.length:=by rw[<-bK,ee,bA]
 refine HW.zHS (I.ok.hd hc) (by omega) lo de (fun v hv=>by obtain⟨a,k,rfl,f,dn⟩:=hk v hv;exact⟨k,f,zAJ I dn rfl⟩) (by omega) fun h' tk l out ec kp hL at' pm so=>?_;obtain⟨vs',rv',d'⟩:=zFf I (us:=out) fun w hw=>by obtain⟨a,k,z,u0,dn⟩:=hk w (pm.mem_iff.mp hw);exact⟨a,k,z,dn⟩
 have hn:H l=none:=I.hok.fresh hL;refine⟨.ref l,_,I.laid (t':=tk) (o:=.lst vs') kp hL ?_,rfl,q l vs' _ hn ?_ d' ?_⟩
 ·refine⟨?_,out,ec,rv',at'⟩
  have l1:=rv'.length;have l2:=pm.length_eq;rw[keys,bA] at l2;rw[sizeLine_eq];omega
 ·refine(pm.map _).trans (.of_eq ?_)
  rw[keys,dD];exact zKW I pr e2
 ·rw[eO]
  exact so
noncomputable def zC1(t:yh):TL2:=fun σ G R=>t σ G fun ds G1=>match ds with
 | [.adr d]=>∃ kvs:List (HW.Wb×D),G1.dc d=some kvs/\(∀ x∈kvs,HW.Wf x.1)/\kvs.length<64/\∀ ks:List HW.Wb,ks.Perm (kvs.map (·.1))->ks.Pairwise (fun a b=>HW.ltW b a=false)->R (ks.map wu) G1
 | _=>False
theorem zOD{K:PySem.W.Frag}{H:Hp}{kvs:List (HW.Wb×D)}{xs:List (HW.Wb×Addr×V)}(h:Paired (Kx K H) kvs xs):xs.map (·.1)=kvs.map (·.1):=by
 induction h with
 | nil=>rfl
 | cons r _ ih=>rw[cz,cz,ih,r.1]
theorem zKX{n:Nat}{t:yh}(hr:yR n X.A)(hc:X.calm=true)(hg:Gl X "sorted")(hm:X.mg "sorted"=none)(ha:A2 X [e] t)(he:autoParam (starEach [e] X.env=(false,eval e X.env)::starEach [] X.env) Zq4._auto_1)(hpl:autoParam ((backTo pos (starEach [] X.env)).any (·.1)=false) Zq4._auto_1) :
  F2 X (.Call (.Name "sorted" p) [e] [] pos) (zC1 t):=by
 refine PE.mono (zCY (zGb hc (by have:=hr.units;omega)) hg hm boot_sorted ha (by decide) (by decide) he hpl) ?_;rintro σ1 H Q ⟨σ,G,R,rl,q,k⟩;refine⟨σ,G,_,rl,q,fun ds G1 q1 vs H1 g1 r1 d1=>?_⟩;split at q1
 ·rename_i d
  obtain⟨kvs,e1,hf,hl,q1⟩:=q1;obtain⟨v,rfl,d2⟩:=zAF d1;obtain⟨xs,h1,h2⟩:=r1.dc d kvs e1;unfold zO at d2;subst d2;have hl2:kvs.length=xs.length:=h2.length;refine⟨d,xs,rfl,h1,zDO h2,fun x hx=>?_,by omega,fun l' ys' ks n' z1 z2 z3=>?_⟩
  ·obtain⟨kv,hkv,z,u0⟩:=h2.memR hx
   rw[<-z];exact hf kv hkv
  ·rw[zOD h2] at z1
   exact k _ G1 (q1 ks z1 z3) l' _ _ (g1.trans (.fresh n')) (r1.fresh n') (r1.free n') zf (z2.grow (.fresh n'))
 ·exact q1.elim
noncomputable def zOq(t:zj):TT2:=fun σ G R=>t σ G fun d G1=>match d with | .adr l=>∃ xs,Ls G1 l xs/\R (!xs.isEmpty) G1 | _=>False
theorem zQU{te:zj}(h:E2 X e te)(he:autoParam (∀ whole,isTrue e X.env whole=(do let v <-whole;standAt e.pos;holding [v] (truthy v))) Zq3._auto_1):T2 X e (zOq te):=by
 refine PT.mono (zKw h he) ?_;rintro σ1 H Q ⟨σ,G,R,r,q,k⟩;refine⟨σ,G,_,r,q,fun d G1 q1 v H1 g1 r1 d1=>?_⟩;split at q1
 ·obtain⟨xs,e1,q1⟩:=q1
  unfold zO at d1;subst d1;obtain⟨us,hs,hd⟩:=r1.sq e1;refine⟨_,.inl ⟨us,hs,rfl⟩,?_⟩;have:us.isEmpty=xs.isEmpty:=by
   have:=hd.length;cases us<;>cases xs<;>simp_all
  rw[this];exact k _ G1 q1 H1 g1 r1
 ·exact q1.elim
end
end L3
namespace L3
open L2
section
variable {X:Cx} {e o:Expr} {to:zj} {t:yh} {apos cpos:Pos}
theorem zOE(hu:X.A.units+10<cLine):MtR X "dict.get" (fun x vs H Q=>∃ d a xs k,x=.ref d/\vs=[.ref a]/\H d=some (.ext (DW d xs))/\(∀ x∈xs,zO X.K H (wu x.1) (.ref x.2.1))/\zO X.K H (wu k) (.ref a)/\Q (((lk xs k).map fun z=>z.2.2).getD .non) H):=by
 intro pins s σ H x vs v us Q I rx rv h;obtain⟨d,a,xs,k,rfl,rfl,e1,e2,e3,q⟩:=h;cases rx;obtain⟨u,rfl,ru⟩:=vals1 rv;cases ru;obtain⟨lo,u0,ys,pr,dh,u0⟩:=zBK I e1 e2;refine bT PySem.F.slot_dict_get dh.typeIs PySem.F.entry_dict_get ?_ (PySem.F.args_dict_get_2 _ _);show wpAny _ _ (dictGet d (.ref a)>>=_) _ _ s;refine bi (wpAny_dictGet_heap (knd:=HW.zCM X.prog X.w) (by rw[HW.zAq,Around.in1_units];omega) (zAJ I e3 rfl) dh ?_);rw[zGZ];rcases zAf (fun a b z=>z.1) pr k with ⟨z1,z2⟩ | ⟨x,y,z1,z2,r⟩
 ·rw[z1] at q
  rw[z2];show wpAny _ _ (Builtin.Dict.missed d (.ref a)>>=_) _ _ _;exact bi (wpAny_missed_other lo (bm ⟨_,rfl,.non,H,I.tok _,rfl,q⟩))
 ·rw[z1] at q
  rw[z2];exact bm ⟨_,rfl,x.2.2,H,I.tok _,r.2.2,q⟩
noncomputable def zHU(to:zj)(t:yh):zj:=fun σ G R=>to σ G fun d G1=>match d with
 | .adr a=>(∃ kvs,G1.dc a=some kvs)/\t σ G1 fun ds G2=>∃ k kvs,ds=[wu k]/\G2.dc a=some kvs/\R (((lk kvs k).map fun z=>z.2).getD .non) G2
 | _=>False
theorem zQV{n:Nat}(hr:yR n X.A)(ho:E2 X o to)(ha:A2 X [e] t)
  (hbase:autoParam (attributeBase o "get" X.env (eval o X.env)=eval o X.env) Zq4._auto_1)
  (hfew:autoParam (((backTo cpos (starEach [e] X.env)).all (fun x=>!x.1)&&(backToKw cpos (keywordEach [] X.env)).all (fun x=>x.1.isSome)
   && decide ([e].length+([]:List Keyword).length+(if ([]:List Keyword).isEmpty then 0 else 1)<30))=true) Zq4._auto_1)
  (hline:autoParam ((apos.endLine==cpos.line)=true) Zq4._auto_1) (hs:autoParam (starEach [e] X.env=(false,eval e X.env)::starEach [] X.env) Zq4._auto_1) (hplain:autoParam ((backTo cpos (starEach [] X.env)).any (·.1)=false) Zq4._auto_1) :
  E2 X (.Call (.Attribute o "get" apos) [e] [] cpos) (zHU to t):=by
 intro pins s σ1 H Q I h;obtain⟨σ,G,R,r,q,k⟩:=h;refine wpAny_Call_method_late hbase hfew hline rfl (yU (ho pins s σ1 H (fun v H1=>∃ d G1,zn H H1/\zl X.K G1 H1/\v=.ref d/\(∃ kvs,G1.dc d=some kvs)/\t σ G1 fun ds G2=>∃ k kvs,ds=[wu k]/\G2.dc d=some kvs/\R (((lk kvs k).map fun z=>z.2).getD .non) G2) I ⟨σ,G,_,r,q,fun d G1 q1 v H1 g1 r1 d1=>by
  split at q1
  ·rename_i a
   unfold zO at d1;exact⟨a,G1,g1,r1,d1,q1.1,q1.2⟩
  ·exact q1.elim⟩) fun v s1 ⟨x,H1,I1,r1,d,G1,g1,rg,hx,⟨kvs0,hk0⟩,q1⟩=>?_)
 subst hx;cases r1;obtain⟨xs0,e0,p0⟩:=rg.dc d kvs0 hk0;obtain⟨lo,u0,ys,pr,dh,es,ep,⟨ob,hob,hex,u0⟩,u0⟩:=zBK I1 e0 (zDO p0);refine⟨"dict","dict.get",PySem.F.plainAttrs_dict,PySem.F.slot_dict_get,PySem.F.type_dict_get,dh.typeIs,fun b eb=>by cases eb;exact⟨ob,hob,hex.2.1⟩,?_⟩;have hA:=ha cpos pins s1 σ1 H1 (fun vs H2=>∃ d' a xs k,V.ref d=.ref d'/\vs=[.ref a]/\H2 d'=some (.ext (DW d' xs))/\(∀ x∈xs,zO X.K H2 (wu x.1) (.ref x.2.1))/\zO X.K H2 (wu k) (.ref a)/\Q (((lk xs k).map fun z=>z.2.2).getD .non) H2) I1 ⟨σ,G1,_,r.to g1 rg,q1,fun ds G2 q2 vs H2 g2 r2 d2=>?_⟩
 ·rw[hs] at hA ⊢
  refine Calls.callWith_builtin (by show(false||(backTo cpos (starEach [] X.env)).any (·.1))=false;rw[hplain]<;>rfl) (Calls.evalArgs_plain ?_);exact yU hA fun us s2 ⟨vs,H2,I2,r2,q2⟩=>zOE (by have:=hr.units;omega) pins s2 σ1 H2 (.ref d) vs _ us Q I2 rfl r2 q2
 ·obtain⟨w,kvs,rfl,hk,q2⟩:=q2
  obtain⟨v,rfl,d3⟩:=zAF d2;obtain⟨a,rfl⟩:=zC0 d3;obtain⟨xs,e1,p1⟩:=r2.dc d kvs hk;refine⟨d,a,xs,w,rfl,rfl,e1,zDO p1,d3,?_⟩;rcases zAf (fun a b z=>z.1) p1 w with ⟨z1,z2⟩ | ⟨x,y,z1,z2,z⟩
  ·rw[z1] at q2
   rw[z2];exact k _ G2 q2 _ H2 (g1.trans g2) r2 (by show zO X.K H2 .non .non;unfold zO;rfl)
  ·rw[z1] at q2
   rw[z2];exact k _ G2 q2 _ H2 (g1.trans g2) r2 z.2.2
end
end L3
namespace K
open L2 L3 HS
noncomputable abbrev Qs:=Nat×Nat->Bool
noncomputable abbrev Pw:=List (Qs×List Nat)
noncomputable def yj(n:Nat)(q:Qs):HW.Wb:=[.inl (n:Int),.inr (((yT n).filter q).map toI)]
theorem kyD(n:Nat)(q:Qs):zM n q=wu (yj n q):=by
 unfold zM;rw[zGV];rfl
noncomputable def wM(n:Nat)(P:Pw)(q:Qs):Option (Qs×List Nat):=P.find? fun p=>decide (yj n p.1=yj n q)
noncomputable def vis(n:Nat)(x:Qs)(s:Pw×List Qs)(i:Nat):Pw×List Qs :=
 if (wM n s.1 (tq x i)).isSome then s else (s.1++[(tq x i,((wM n s.1 x).map (·.2)).getD []++[i])],s.2++[tq x i])
noncomputable def visA(n:Nat)(x:Qs)(s:Pw×List Qs)(k:Nat):Pw×List Qs:=(bz k).foldl (vis n x) s
noncomputable def zCS(n:Nat)(P:Pw)(E:List Qs)(k:Nat):Pw×List Qs:=(E.take k).foldl (fun s x=>visA n x s n) (P,[])
noncomputable abbrev spr(n:Nat)(P:Pw)(E:List Qs):Pw×List Qs:=zCS n P E E.length
set_option genInjectivity true in
inductive Bfs (n:Nat):Pw->List Qs->Pw->Prop
 | done {P:Pw}:Bfs n P [] P
 | more {P R:Pw} {E:List Qs}:E≠[]->Bfs n (spr n P E).1 (spr n P E).2 R->Bfs n P E R
theorem Bfs.det{n:Nat}{P R:Pw}{E:List Qs}(h:Bfs n P E R):∀ {R':Pw},Bfs n P E R'->R=R':=by
 induction h with
 | done =>
  intro R' h';cases h' with
  | done=>rfl
  | more e _=>exact absurd rfl e
 | more e _ ih =>
  intro R' h';cases h' with
  | done=>exact absurd rfl e
  | more _ h2=>exact ih h2
structure Good (n:Nat) (P:Pw):Prop where
 nd:(P.map fun p=>yj n p.1).Nodup
 wl:∀ p∈P,p.2.length<P.length
theorem zHV{n:Nat}{P:Pw}{q:Qs}(h:wM n P q=none):∀ p∈P,yj n p.1≠yj n q:=fun p hp e=>by
 have:=List.find?_eq_none.mp h p hp;simp[e] at this
theorem zGc{n:Nat}{P R:Pw}{q:Qs}:wM n (P++R) q=(wM n P q).or (wM n R q):=List.find?_append
theorem zGd{n:Nat}{P:Pw}{q:Qs}{p:Qs×List Nat}(h:wM n P q=some p):p∈P:=List.mem_of_find?_eq_some h
structure Sti (n:Nat) (P0:Pw) (s:Pw×List Qs):Prop where
 good:Good n s.1
 f:∀ y∈s.2,(wM n s.1 y).isSome=true
 len:s.1.length=P0.length+s.2.length
 mono:∀ y,(wM n P0 y).isSome=true->(wM n s.1 y).isSome=true
theorem Sti.vis{n:Nat}{P0:Pw}{s:Pw×List Qs}{x:Qs}{i:Nat}(h:Sti n P0 s)(hx:(wM n P0 x).isSome=true):Sti n P0 (vis n x s i):=by
 unfold K.vis;by_cases c:(wM n s.1 (tq x i)).isSome=true
 ·rw[if_pos c];exact h
 ·rw[if_neg c]
  have up:∀ y,(wM n s.1 y).isSome=true->(wM n (s.1++[(tq x i,((wM n s.1 x).map (·.2)).getD []++[i])]) y).isSome=true:=fun y hy=>by
   rw[zGc];cases q:wM n s.1 y with
   | none=>rw[q] at hy;cases hy
   | some _=>rfl
  have no:wM n s.1 (tq x i)=none:=by simpa using c
  have hx':=h.mono x hx;refine⟨⟨?_,fun p hp=>?_⟩,fun y hy=>?_,?_,fun y hy=>up y (h.mono y hy)⟩
  ·rw[dt,eP]
   refine⟨h.good.nd,by simp,fun a ha b hb e=>?_⟩;obtain⟨p,hp,rfl⟩:=bF.mp ha;simp only[cz,List.map_nil,bG] at hb;exact zHV no p hp (e.trans hb)
  ·simp only[bR,bu,bw]
   rcases cu.mp hp with hp | hp
   ·have:=h.good.wl p hp;omega
   ·rw[bG] at hp
    subst hp;cases q:wM n s.1 x with
    | none=>rw[q] at hx';cases hx'
    | some z =>
     have:=h.good.wl z (zGd q);simp;omega
  ·rcases cu.mp hy with hy | hy
   ·exact up y (h.f y hy)
   ·rw[bG] at hy
    subst hy;rw[zGc,no];simp[wM]
  ·have:=h.len
   simp;omega
theorem Sti.visA{n:Nat}{P0:Pw}{s:Pw×List Qs}{x:Qs}(h:Sti n P0 s)(hx:(wM n P0 x).isSome=true):∀ k,Sti n P0 (visA n x s k)
 | 0=>h
 | k+1=>by
  unfold K.visA;rw[eK,eQ];exact(Sti.visA h hx k).vis hx
theorem zFg{n:Nat}{s:Pw×List Qs}{x:Qs}{k:Nat}:visA n x s (k+1)=vis n x (visA n x s k) k:=by
 unfold visA;rw[eK,eQ];rfl
theorem zDP{n:Nat}{P:Pw}{E:List Qs}{k:Nat}{x:Qs}(h:E[k]?=some x):zCS n P E (k+1)=visA n x (zCS n P E k) n:=by
 unfold zCS;rw[yn h,eQ];rfl
theorem Sti.spr{n:Nat}{P:Pw}{E:List Qs}(g:Good n P)(hE:∀ x∈E,(wM n P x).isSome=true):∀ k,k<=E.length->Sti n P (zCS n P E k)
 | 0,_=>⟨g,fun y hy=>by simp[zCS] at hy,rfl,fun u0 h=>h⟩
 | k+1,hk=>by
  obtain⟨x,hx⟩:∃ x,E[k]?=some x:=⟨E[k],by simp[show k<E.length by omega]⟩
  rw[zDP hx];exact(Sti.spr g hE k (by omega)).visA (hE x (bM hx)) n
noncomputable def allB:Nat->List (List Bool)
 | 0=>[[]]
 | m+1=>(allB m).map (true::·)++(allB m).map (false::·)
theorem zEg:∀ m,(allB m).length=2 ^ m
 | 0=>rfl
 | m+1=>by simp[allB,zEg m,Nat.pow_succ];omega
theorem zC2:∀(l:List Bool),l∈allB l.length
 | []=>by simp[allB]
 | b::l=>by
  have:=zC2 l;cases b<;>simp[allB,this]
theorem zRh{n:Nat}(h:n<=5):(yT n).length<=10:=by
 have:∀ m,m<=5->(yT m).length<=10:=by decide
 exact this n h
theorem zBg{l:List (Nat×Nat)}{q r:Qs}(h:l.map q=l.map r):l.filter q=l.filter r:=by
 induction l with
 | nil=>rfl
 | cons a l ih =>
  simp only[cz,List.cons.injEq] at h;simp only[eC,h.1,ih h.2]
theorem Good.few{n:Nat}{P:Pw}(g:Good n P)(hn:n<=5):P.length<=1024:=by
 have nd:(P.map fun p=>(yT n).map p.1).Nodup:=by
  have h:=g.nd;unfold eR at h ⊢;rw[eO] at h ⊢;exact h.imp fun hne e=>hne (by unfold yj;rw[zBg e])
 have:=eR.length_le_of_subset nd (l₂:=allB (yT n).length) fun x hx=>by
  obtain⟨p,u0,rfl⟩:=bF.mp hx;have:=zC2 ((yT n).map p.1);rwa [bA] at this
 rw[bA,zEg] at this;have h2:2 ^ (yT n).length<=2 ^ 10:=Nat.pow_le_pow_right (by omega) (zRh hn);omega
noncomputable def Rl(n:Nat)(G:Gp)(X:Addr->Prop):HW.Wb×D->Qs×List Nat->Prop:=fun kv p=>kv.1=yj n p.1/\∃ l,kv.2=.adr l/\¬ X l/\G.m l=some (p.2.map nD)
noncomputable def Dw(n:Nat)(P:Pw)(G:Gp)(d:Addr)(X:Addr->Prop):Prop:=∃ kvs,G.dc d=some kvs/\Paired (Rl n G X) kvs P
structure zCT (d:Addr) (G G':Gp):Prop where
 m:∀ a o,G.m a=some o->G'.m a=some o
 ro:∀ a o,G.ro a=some o->G'.ro a=some o
 dc:∀ a o,a≠d->G.dc a=some o->G'.dc a=some o
theorem zCT.refl(d:Addr)(G:Gp):zCT d G G:=⟨fun u0 u0 e=>e,fun u0 u0 e=>e,fun u0 u0 u0 e=>e⟩
theorem zCT.trans{d:Addr}{G G1 G2:Gp}(h:zCT d G G1)(h':zCT d G1 G2):zCT d G G2:=⟨fun a o e=>h'.m a o (h.m a o e),fun a o e=>h'.ro a o (h.ro a o e),fun a o n e=>h'.dc a o n (h.dc a o n e)⟩
theorem _root_.L3.Sub.x{G G':Gp}(d:Addr)(h:Sub G G'):zCT d G G':=⟨h.m,h.ro,fun a o u0 e=>h.dc a o e⟩
theorem zCT.sub{d:Addr}{G G':Gp}(h:zCT d G G')(n:G.dc d=none):Sub G G':=⟨h.m,h.ro,fun a o e=>h.dc a o (fun z=>by rw[z,n] at e;cases e) e⟩
theorem Dw.sub{n:Nat}{P:Pw}{G G':Gp}{d:Addr}{X:Addr->Prop}(h:Dw n P G d X)(s:Sub G G'):Dw n P G' d X:=by
 obtain⟨kvs,e,p⟩:=h;exact⟨kvs,s.dc _ _ e,L2.Paired.mapP p fun _ _ ⟨z1,l,z2,z3,z4⟩=>⟨z1,l,z2,z3,s.m _ _ z4⟩⟩
theorem Dw.put{n:Nat}{P:Pw}{G:Gp}{d l:Addr}{X:Addr->Prop}{o:List D}(h:Dw n P G d X)(hl:X l\/G.m l=none):Dw n P (zd G l o) d X:=by
 obtain⟨kvs,e,p⟩:=h;refine⟨kvs,e,L2.Paired.mapP p fun _ _ ⟨z1,l',z2,z3,z4⟩=>⟨z1,l',z2,z3,?_⟩⟩;rw[ze (fun z=>by
  subst z;rcases hl with hl | hl
  ·exact z3 hl
  ·rw[hl] at z4;cases z4)]
 exact z4
theorem Dw.to{n:Nat}{P:Pw}{G:Gp}{d:Addr}{X Y:Addr->Prop}(h:Dw n P G d X)(f:∀ l,Y l->X l\/G.m l=none):Dw n P G d Y:=by
 obtain⟨kvs,e,p⟩:=h;refine⟨kvs,e,L2.Paired.mapP p fun _ _ ⟨z1,l',z2,z3,z4⟩=>⟨z1,l',z2,fun y=>?_,z4⟩⟩;rcases f _ y with hl | hl
 ·exact z3 hl
 ·rw[hl] at z4;cases z4
theorem zC3{n:Nat}{G:Gp}{X:Addr->Prop}{kvs:List (HW.Wb×D)}{P:Pw}(h:Paired (Rl n G X) kvs P)(q:Qs):(lk kvs (yj n q)=none/\wM n P q=none)\/∃ z p,lk kvs (yj n q)=some z/\wM n P q=some p/\Rl n G X z p:=by
 induction h with
 | nil=>exact .inl ⟨rfl,rfl⟩
 | @cons a b _ _ r _ ih =>
  have e:=r.1;by_cases c:yj n b.1=yj n q
  ·exact .inr ⟨a,b,by simp[lk,e,c],by simp[wM,c],r⟩
  ·have c':a.1≠yj n q:=by rw[e];exact c
   simpa[lk,wM,c,c'] using ih
theorem Dw.len{n:Nat}{P:Pw}{G:Gp}{d:Addr}{X:Addr->Prop}(h:Dw n P G d X):∃ kvs,G.dc d=some kvs/\kvs.length=P.length:=by
 obtain⟨kvs,e,p⟩:=h;exact⟨kvs,e,p.length⟩
theorem zu{σ:S2}{i:Nat}{d:D}{G:Gp}{R:Q2}(h:look σ i=some d)(q:R d G):zD i σ G R:=by
 unfold zD;rw[h];exact q
structure zMU (d f:Addr) (G G':Gp):Prop where
 m:∀ a o,G.m a=some o->a≠f->G'.m a=some o
 ro:∀ a o,G.ro a=some o->G'.ro a=some o
 dc:∀ a o,a≠d->G.dc a=some o->G'.dc a=some o
theorem zMU.x{d f:Addr}{G G1 G2:Gp}(h:zCT d G G1)(n:G.m f=none)(h':zMU d f G1 G2):zCT d G G2:=⟨fun a o e=>h'.m a o (h.m a o e) (fun z=>by rw[z,n] at e;cases e),fun a o e=>h'.ro a o (h.ro a o e),fun a o n e=>h'.dc a o n (h.dc a o n e)⟩
theorem zMV{a b c t f:Nat}{σ:S2}{G:Gp}{E:yF}{n i:Nat}{d fa:Addr}{P:Pw}{F:List Qs}{x:Qs}{p:Qs×List Nat}(ha:look σ a=some (.adr d))(hb:look σ b=some (zM n x))(hc:look σ c=some (nD i))(ht:look σ t=some (zM n (tq x i)))(hf:look σ f=some (.adr fa))
  {X:Addr->Prop} (hXf:X fa) (hX:∀ l,X l->∃ o,G.m l=some o) (D:Dw n P G d X) (hF:G.m fa=some (F.map (zM n))) (hx:wM n P x=some p) (hn:wM n P (tq x i)=none) (hl:P.length<=2000) (hlF:F.length<=2000) (hp:p.2.length<=2000)
  (k:∀ G',zMU d fa G G'->Dw n (P++[(tq x i,p.2++[i])]) G' d X->G'.m fa=some ((F++[tq x i]).map (zM n))->E.nx σ G') :
  zT (zk (yA (zG2 (zZ fGW (zD a) (zD b)) (yA (zAC (zA (zD c) zI))))) (zMT (zD a) (zD t))) (wF (zEC (zD f) (zA (zD t) zI))) E σ G:=by
 obtain⟨kvs,e,pr⟩:=D;have kl:kvs.length=P.length:=pr.length;rcases zC3 pr x with ⟨u0,z⟩ | ⟨z,p',z1,z2,z3,l,z4,z5,z6⟩
 ·rw[hx] at z;cases z
 rw[hx] at z2;cases z2;rcases zC3 pr (tq x i) with ⟨y1,u0⟩ | ⟨u0,u0,u0,y2,u0⟩
 rotate_left
 ·rw[hn] at y2;cases y2
 unfold zT zk yA zG2;refine zu ha ?_;refine zu hb ?_;refine⟨yj n x,kvs,z,kyD n x,e,z1,?_⟩;refine zu hc ?_;refine⟨by rw[sizeLine_eq];simp,fun m hm=>?_⟩;rw[z4];have nlm:l≠m:=fun y=>by rw[y,hm] at z6;cases z6
 have nfm:fa≠m:=fun y=>by rw[y,hm] at hF;cases hF
 refine⟨p.2.map nD,[nD i],by rw[ze nlm];exact z6,zL,by simp;omega,fun v hv=>?_⟩;have hv':G.m v=none/\v≠m:=by
  by_cases y:v=m
  ·subst y;rw[zL] at hv;cases hv
  ·rw[ze y] at hv;exact⟨hv,y⟩
 have nfv:fa≠v:=fun y=>by rw[y,hv'.1] at hF;cases hF
 unfold zMT;refine zu ha ?_;refine zu ht ?_;refine⟨yj n (tq x i),kvs,kyD n _,e,y1,by rw[kl,sizeLine_eq];omega,?_⟩;generalize hG1:zDd (zd (zd G m [nD i]) v (p.2.map nD++[nD i])) d (kvs++[(yj n (tq x i),.adr v)])=G1;have m1:∀ a,a≠m->a≠v->G1.m a=G.m a:=fun a n1 n2=>by
  rw[<-hG1];show(zd (zd G m [nD i]) v _).m a=_;rw[ze n2,ze n1]
 have hf1:G1.m fa=some (F.map (zM n)):=by rw[m1 fa nfm nfv];exact hF
 have hv1:G1.m v=some (p.2.map nD++[nD i]):=by rw[<-hG1];exact zL
 have hd1:G1.dc d=some (kvs++[(yj n (tq x i),.adr v)]):=by rw[<-hG1];exact zBn
 have hd2:∀ a,a≠d->G1.dc a=G.dc a:=fun a na=>by rw[<-hG1,zDh na];rfl
 have hr1:G1.ro=G.ro:=by rw[<-hG1];rfl
 show zEC (zD f) (zA (zD t) zI) σ G1 fun u0 G1=>E.nx σ G1;refine zCn (t:=zA (zD t) zI) (d:=zM n (tq x i)) hf hf1 (fun Q q=>zu ht q) (by rw[bA];omega) ?_;refine k _ ⟨fun a o q=>?_,fun a o q=>?_,fun a o y q=>?_⟩ ⟨kvs++[(yj n (tq x i),L3.D.adr v)],hd1,?_⟩ ?_
 ·intro na
  rw[ze na,m1 a (fun y=>by rw[y,hm] at q;cases q) (fun y=>by rw[y,hv'.1] at q;cases q)];exact q
 ·show G1.ro a=_
  rw[hr1];exact q
 ·show G1.dc a=_
  rw[hd2 a y];exact q
 ·refine Paired.snoc (L2.Paired.mapP pr fun _ _ ⟨w1,l',w2,w3,w4⟩=>⟨w1,l',w2,w3,?_⟩) ⟨rfl,v,rfl,(fun y=>by obtain⟨o,y⟩:=hX v y;rw[hv'.1] at y;cases y),?_⟩
  ·rw[ze (fun y=>w3 (by rw[y];exact hXf)),m1 l' (fun y=>by rw[y,hm] at w4;cases w4) (fun y=>by rw[y,hv'.1] at w4;cases w4)]
   exact w4
  ·rw[ze (Ne.symm nfv),hv1]
   simp
 ·rw[zL]
  simp
noncomputable def zMW(G:Gp)(f:Addr):Gp:={ G with m:=fun b=>if b=f then none else G.m b }
theorem zKY{G:Gp}{f:Addr}:(zMW G f).m f=none:=if_pos rfl
theorem zGe{G:Gp}{f b:Addr}(h:b≠f):(zMW G f).m b=G.m b:=if_neg h
theorem zOF{G:Gp}{f:Addr}{o:List D}(h:G.m f=some o):Sub (zd (zMW G f) f o) G:=⟨fun a u e=>by
 by_cases c:a=f
 ·subst c;rw[zL] at e;cases e;exact h
 ·rw[ze c,zGe c] at e;exact e,fun u0 u0 e=>e,fun u0 u0 e=>e⟩
theorem Dw.del{n:Nat}{P:Pw}{G:Gp}{d f:Addr}{X:Addr->Prop}(h:Dw n P G d (fun l=>X l\/l=f)):Dw n P (zMW G f) d X:=by
 obtain⟨kvs,e,p⟩:=h;exact⟨kvs,e,L2.Paired.mapP p fun _ _ ⟨z1,l',z2,z3,z4⟩=>⟨z1,l',z2,fun y=>z3 (.inl y),by rw[zGe (fun y=>z3 (.inr y))];exact z4⟩⟩
theorem zKZ{a b c t f:Nat}{σ:S2}{G:Gp}{E:yF}{n i:Nat}{d fa:Addr}{P0:Pw}{s:Pw×List Qs}{x:Qs}(ha:look σ a=some (.adr d))(hb:look σ b=some (zM n x))(hc:look σ c=some (nD i))(ht:look σ t=some (zM n (tq x i)))(hf:look σ f=some (.adr fa))(hn:n<=5)
  {X:Addr->Prop} (hXf:X fa) (hX:∀ l,X l->∃ o,G.m l=some o) (D:Dw n s.1 G d X) (hF:G.m fa=some (s.2.map (zM n))) (S:Sti n P0 s) (hx:(wM n P0 x).isSome=true)
  (k:∀ G',zMU d fa G G'->Dw n (vis n x s i).1 G' d X->G'.m fa=some ((vis n x s i).2.map (zM n))->E.nx σ G') :
  xIf (xB (zZ fNW (zD t) (zD a))) (zT (zk (yA (zG2 (zZ fGW (zD a) (zD b)) (yA (zAC (zA (zD c) zI))))) (zMT (zD a) (zD t))) (wF (zEC (zD f) (zA (zD t) zI)))) zx E σ G:=by
 have D0:=D;obtain⟨kvs,e,pr⟩:=D;have hl:=S.good.few hn;have hlen:=S.len;unfold xIf xB;refine zu ht ?_;refine zu ha ?_;refine⟨yj n (tq x i),kvs,kyD n _,e,?_⟩;rcases zC3 pr (tq x i) with ⟨y1,y2⟩ | ⟨u0,u0,y1,y2,u0⟩
 ·rw[y1]
  show if true=true then _ else _;rw[if_pos rfl];obtain⟨p,hp⟩:∃ p,wM n s.1 x=some p:=Option.isSome_iff_exists.mp (S.mono x hx);have e2:vis n x s i=(s.1++[(tq x i,p.2++[i])],s.2++[tq x i]):=by unfold vis;rw[y2,hp];rfl
  rw[e2] at k;exact zMV ha hb hc ht hf hXf hX D0 hF hp y2 (by omega) (by omega) (by have:=S.good.wl p (zGd hp);omega) k
 ·rw[y1]
  show if false=true then _ else _;rw[if_neg (by simp)];have e2:vis n x s i=s:=by unfold vis;rw[y2];rfl
  rw[e2] at k;exact k G ⟨fun a o q u0=>q,fun a o q=>q,fun a o u0 q=>q⟩ D0 hF
theorem zRi{σ:S2}{G:Gp}{te:zj}{j:Nat}{u:yS}{E:yF}{d:D}(h:zi te σ G d)(h':u E (σ.set j (some d)) G):zT (zk te (gN j)) u E σ G:=h G (.refl G) _ h'
theorem zMX{σ:S2}{G:Gp}{b c:Nat}{n i:Nat}{x:Qs}(hb:look σ b=some (zM n x))(hc:look σ c=some (nD i))(hi:i<n)(hn:n<=5):zi (zJ zN (zA (zD b) (zA (zD c) zI))) σ G (zM n (tq x i)) :=
 zt (zF (zE hb) (zF (zE hc) zP)) fun u0 u0 u0 hh=>⟨n,x,i,rfl,hi,by omega,hh⟩
noncomputable def wd:List D->Gp->(List D->Gp->Prop)->Prop:=fun ds G R=>∃(n:Nat) (P:Pw) (E:List Qs) (d e:Addr) (X:Addr->Prop),(∀ l,X l->∃ o,G.m l=some o)/\ds=[.adr d,.adr e]/\n<=5/\Good n P/\Dw n P G d X/\G.m e=some (E.map (zM n))/\(∀ x∈E,(wM n P x).isSome=true) /\
 ∀ G',zCT d G G'->Dw n (spr n P E).1 G' d X->R ((spr n P E).2.map (zM n)) G'
theorem zHW:∀ ds G R R',(∀ ls G',R ls G'->R' ls G')->wd ds G R->wd ds G R':=by
 rintro ds G R R' h ⟨n,P,E,d,e,X,e0,e1,e2,e3,e4,e5,e6,q⟩;exact⟨n,P,E,d,e,X,e0,e1,e2,e3,e4,e5,e6,fun G' s w=>h _ _ (q G' s w)⟩
noncomputable def zC4:yS:=(zT (zk (yA (zAC zI)) (gN 2)) (zT (wG (iV (zD 1)) (gN 3) (wG (iR1 (zA (zZ yg (zD 3) (xC (.int 0))) zI)) (gN 4) (zT (zk (zJ zN (zA (zD 3) (zA (zD 4) zI))) (gN 5)) (xIf (xB (zZ fNW (zD 5) (zD 0))) (zT (zk (yA (zG2 (zZ fGW (zD 0) (zD 3)) (yA (zAC (zA (zD 4) zI))))) (zMT (zD 0) (zD 5))) (wF (zEC (zD 2) (zA (zD 5) zI)))) zx)))) (zm (zD 2))))
theorem zMY(ds:List D)(G:Gp)(R:Q2)(h:spL wd ds G R):ds.length=2/\zC4 (zg R) (zW ["lists","edge","farther","web","place","turned"] ds) G:=by
 obtain⟨n,P,E,d,e,X,hX,rfl,hn,g,D,hE,hfn,h⟩:=h;refine⟨rfl,?_⟩;unfold zC4;refine yy (zFT (ds:=[]) (fun G2 e R q=>zHD (zP G2 e _ ⟨by rw[sizeLine_eq];simp,q⟩)) fun f hf=>?_);show zT _ _ _ [some (.adr d),some (.adr e),some (.adr f),none,none,none] (zd G f []);have nef:e≠f:=fun z=>by rw[z,hf] at hE;cases hE
 have S:=fun k hk=>Sti.spr g hfn k hk;refine zF8 ?_;refine zu (i:=1) rfl ?_;refine⟨E.map (zM n),.inl (by rw[ze nef];exact hE),?_⟩;refine zAb (fun k G'=>zCT d G G'/\Dw n (zCS n P E k).1 G' d (fun l=>X l\/l=f)/\G'.m f=some ((zCS n P E k).2.map (zM n))) ⟨(Sub.new hf).x d,(D.to (Y:=fun l=>X l\/l=f) fun l z=>z.elim .inl fun z=>.inr (by rw[z];exact hf)).put (.inl (.inr rfl)),zL⟩ (fun u0 u0 h=>.inl (h.1.m _ _ hE)) ?_ ?_
 ·rintro k y hy G2 ⟨i1,i2,i3⟩
  obtain⟨x,hx,rfl⟩:=zCW hy;have hk:k<E.length:=(bD.mp hx).1;have hxs:=hfn x (bM hx);show wG _ _ _ _ [some (.adr d),some (.adr e),some (.adr f),some (zM n x),none,none] G2;refine zF9 (n:=n) (zF (zBN (zE rfl)) zP) (by omega) ?_;refine zAb (fun j G'=>zCT d G G'/\Dw n (visA n x (zCS n P E k) j).1 G' d (fun l=>X l\/l=f)/\G'.m f=some ((visA n x (zCS n P E k) j).2.map (zM n))) ⟨i1,i2,i3⟩ (fun u0 u0 u0=>trivial) ?_ ?_
  ·rintro i y hy G3 ⟨j1,j2,j3⟩
   obtain⟨rfl,hi⟩:=zEM hy;show zT _ _ _ [some (.adr d),some (.adr e),some (.adr f),some (zM n x),some (nD i),none] G3;refine zRi (zMX (b:=3) (c:=4) rfl rfl hi hn) ?_;refine zKZ (a:=0) (b:=3) (c:=4) (t:=5) (f:=2) (s:=visA n x (zCS n P E k) i) rfl rfl rfl rfl rfl hn (X:=fun l=>X l\/l=f) (.inr rfl) (fun l z=>z.elim (fun z=>by obtain⟨o,z⟩:=hX l z;exact⟨o,j1.m _ _ z⟩) fun z=>⟨(visA n x (zCS n P E k) i).2.map (zM n),by rw[z];exact j3⟩) j2 j3 ((S k (by omega)).visA hxs i) hxs fun G' s1 s2 s3=>⟨.keep (.keep (.keep (.keep (.skip (.skip .nil))))),G',.refl _,zMU.x j1 hf s1,?_⟩
   rw[zFg];exact⟨s2,s3⟩
  ·rintro G3 ⟨j1,j2,j3⟩
   rw[bA,ck] at j2 j3;refine⟨.keep (.keep (.keep (.skip (.skip (.skip .nil))))),G3,.refl _,j1,?_⟩;rw[zDP hx];exact⟨j2,j3⟩
 ·rintro G2 ⟨i1,i2,i3⟩
  rw[bA] at i2 i3;show FgR R (.adr f) G2;exact⟨_,zOF i3,h (zMW G2 f) ⟨fun a o q=>by rw[zGe (fun z=>by rw[z,hf] at q;cases q)];exact i1.m a o q,i1.ro,i1.dc⟩ i2.del f zKY⟩
noncomputable def yD:wV:=fun ds G R=>∃(n:Nat) (q:Qs),ds=[zM n q]/\n<=5/\∀ d G' P,Sub G G'->Bfs n [(q,[])] [q] P->Good n P->Dw n P G' d (fun l=>∃ o,G.m l=some o)->R (.adr d) G'
theorem zHX(n:Nat)(q:Qs):Good n [(q,[])]:=⟨by simp,fun p hp=>by rw[bG] at hp;subst hp;simp⟩
theorem zQW(n:Nat)(q:Qs):∀ x∈[q],(wM n [(q,[])] x).isSome=true:=fun x hx=>by
 rw[bG] at hx;subst hx;simp[wM]
theorem zKa{j:Nat}{σ:S2}{G:Gp}{E:yF}{n:Nat}{q:Qs}{u:yS}(hw:look σ j=some (zM n q))(k:∀ d G',G.dc d=none->Sub G G'->Dw n [(q,[])] G' d (fun l=>∃ o,G.m l=some o)->u E (σ.set 1 (some (.adr d))) G') :
  zT (zk (zIX (zD j) (yA (zAC zI))) (gN 1)) u E σ G:=by
 intro d hm hd;refine zu hw ?_;refine⟨by rw[sizeLine_eq];simp,fun l hl=>⟨yj n q,kyD n q,zBn,?_⟩⟩;have hl':G.m l=none:=hl;refine k d _ hd ⟨fun a o e=>?_,fun a o e=>e,fun a o e=>?_⟩ ⟨[(yj n q,.adr l)],zBn,.cons ⟨rfl,l,rfl,(fun⟨o,y⟩=>by rw[hl'] at y;cases y),?_⟩ .nil⟩
 ·show(zd (zDd G d []) l []).m a=some o
  rw[ze (fun z=>by rw[z,hl'] at e;cases e)];exact e
 ·have na:a≠d:=fun z=>by rw[z,hd] at e;cases e
  rw[zDh na];show(zDd G d []).dc a=some o;rw[zDh na];exact e
 ·exact zL
theorem zOG{n:Nat}{P:Pw}{E:List Qs}(g:Good n P)(hE:∀ x∈E,(wM n P x).isSome=true):(spr n P E).1.length=P.length+(spr n P E).2.length:=(Sti.spr g hE E.length (bE _)).len
noncomputable def msr(P:Pw)(E:List Qs):Nat:=1025-P.length+(if E.isEmpty then 0 else 1)
theorem zQX{n:Nat}{P:Pw}{E:List Qs}(g:Good n P)(hE:∀ x∈E,(wM n P x).isSome=true)(hn:n<=5)(h:E≠[]):msr (spr n P E).1 (spr n P E).2<msr P E:=by
 have l1:=zOG g hE;have l2:=(Sti.spr g hE E.length (bE _)).good.few hn;have l3:=g.few hn;unfold msr;have e:E.isEmpty=false:=by cases E<;>simp_all
 rw[e];cases q:(spr n P E).2 with
 | nil=>rw[q] at l1;simp at l1 ⊢;omega
 | cons a r=>rw[q] at l1;simp at l1 ⊢;omega
noncomputable def zAK:yS:=(zT (zk (zIX (zD 0) (yA (zAC zI))) (gN 1)) (zT (zk (yA (zAC (zA (zD 0) zI))) (gN 2)) (zT (zF4 (zOq (zD 2)) (zk (yA (zy wd (zA (zD 1) (zA (zD 2) zI)))) (gN 2))) (zm (zD 1)))))
theorem zGf(ds:List D)(G:Gp)(R:Q2)(h:yD ds G R):ds.length=1/\zAK (zg R) (zW ["web","lists","edge"] ds) G:=by
 obtain⟨n,q,rfl,hn,h⟩:=h;refine⟨rfl,?_⟩;unfold zAK;refine zKa (j:=0) (n:=n) (q:=q) rfl fun d G1 hd s1 D1=>?_;show zT _ _ _ [some (zM n q),some (.adr d),none] G1;refine yy (zFT (ds:=[zM n q]) (fun G2 e R z=>zHD (zF (zE rfl) zP G2 e _ ⟨by rw[sizeLine_eq];simp,z⟩)) fun l hl=>?_);show zT _ _ _ [some (zM n q),some (.adr d),some (.adr l)] (zd G1 l [zM n q]);refine Fg.of ⟨fun m σ G'=>∃(P:Pw) (E:List Qs) (e:Addr),σ=[some (zM n q),some (.adr d),some (.adr e)]/\m=msr P E/\Good n P/\(∀ x∈E,(wM n P x).isSome=true)/\Dw n P G' d (fun l=>∃ o,G.m l=some o)/\G'.m e=some (E.map (zM n))/\zCT d G G'/\∀ R,Bfs n P E R->Bfs n [(q,[])] [q] R,
  ⟨_,[(q,[])],[q],l,rfl,rfl,zHX n q,zQW n q,D1.put (.inr hl),zL,(s1.trans (.new hl)).x d,fun u0 z=>z⟩,?_⟩
 rintro m σ G2 ⟨P,E,e,rfl,rfl,g,hE,D,he,sx,hb⟩;refine zu (i:=2) rfl ?_;refine⟨E.map (zM n),.inl he,?_⟩;by_cases c:E=[]
 ·subst c
  show if false=true then _ else _;rw[if_neg (by simp)];exact⟨G2,.refl _,h d G2 P (sx.sub hd) (hb P .done) g D⟩
 ·have e0:(E.map (zM n)).isEmpty=false:=by cases E<;>simp_all
  rw[e0];show if true=true then _ else _;rw[if_pos rfl];have S:=Sti.spr g hE E.length (bE _);unfold zk yA zy;refine zu (show look [some (zM n q),some (.adr d),some (.adr e)] 1=some (.adr d) from rfl) ?_;refine zu (show look [some (zM n q),some (.adr d),some (.adr e)] 2=some (.adr e) from rfl) ?_;refine⟨n,P,E,d,e,fun l=>∃ o,G.m l=some o,fun l ⟨o,z⟩=>⟨o,sx.m _ _ z⟩,rfl,hn,g,D,he,hE,fun G3 sx3 D3 l3 hl3=>?_⟩;exact .of ⟨msr (spr n P E).1 (spr n P E).2,zQX g hE hn c,_,_,l3,rfl,rfl,S.good,S.f,D3.put (.inr hl3),zL,(sx.trans sx3).trans ((Sub.new hl3).x d),fun R z=>hb R (.more c z)⟩
end K
namespace K
open L2 L3
noncomputable def tf(s:Nat->Nat->Bool)(p x y:Nat):Bool:=decide (x≠y)&&(s x y != (s p x&&s p y))
structure Web (s:Nat->Nat->Bool):Prop where
 sy:∀ x y,s x y=s y x
 ir:∀ x,s x x=false
theorem Web.adj(q:Nat×Nat->Bool):Web (adj q):=⟨zAz q,fun x=>by simp[K.adj]⟩
theorem zQY(q:Nat×Nat->Bool)(p x y:Nat):adj (tq q p) x y=tf (adj q) p x y:=by
 unfold tf;by_cases h:x=y
 ·subst h;simp[adj]
 ·unfold adj tq inB
  rcases cC x y with g | g
  ·rw[di (by omega),dY (by omega)]
   simp[h,adj,di (cH g),dY (cH g)]
  ·rw[Nat.min_eq_right g,Nat.max_eq_left g]
   simp[h,adj,Nat.min_eq_right g,Nat.max_eq_left g,Bool.and_comm]
theorem zIZ{s:Nat->Nat->Bool}(w:Web s)(p:Nat):Web (tf s p):=⟨fun x y=>by
 unfold tf;rw[w.sy x y,Bool.and_comm (s p x),show decide (x≠y)=decide (y≠x) by rw[decide_eq_decide];exact⟨Ne.symm,Ne.symm⟩],fun x=>by simp[tf]⟩
theorem zOr{s:Nat->Nat->Bool}(w:Web s)(p x:Nat):tf s p p x=s p x:=by
 unfold tf;rw[w.ir p];by_cases h:p=x
 ·subst h;simp[w.ir]
 ·simp[h]
theorem zMZ{s:Nat->Nat->Bool}(w:Web s)(p x y:Nat):tf (tf s p) p x y=s x y:=by
 rw[tf,zOr w,zOr w,tf];by_cases h:x=y
 ·subst h;simp[w.ir]
 ·simp[h]
theorem zJN{s:Nat->Nat->Bool}(w:Web s){a b:Nat}(h:s a b=false)(x:Nat):tf s a b x=s b x:=by
 rw[tf,h];by_cases e:b=x
 ·subst e;simp[w.ir]
 ·simp[e]
theorem zOH{s:Nat->Nat->Bool}(w:Web s){a b:Nat}(h:s a b=false)(x y:Nat):tf (tf s a) b x y=tf (tf s b) a x y:=by
 have h':s b a=false:=by rw[w.sy];exact h
 rw[tf,zJN w h,zJN w h,tf,tf,zJN w h',zJN w h',tf];cases decide (x≠y)<;>cases s x y<;>cases s a x<;>cases s a y<;>cases s b x<;>cases s b y<;>rfl
noncomputable def sw(s:Nat->Nat->Bool)(a b:Nat):Nat->Nat->Bool:=tf (tf (tf s a) b) a
theorem sw_eq{s:Nat->Nat->Bool}(w:Web s){a b x y:Nat}(h:s a b=true):sw s a b x y=if x=y then false else if x=a then (if y=b then true else s b y) else if x=b then (if y=a then true else s a y) else if y=a then s b x else if y=b then s a x else (s x y != ((s a x&&s b y) != (s b x&&s a y))):=by
 have hb:s b a=true:=by rw[w.sy];exact h
 have hab:a≠b:=fun e=>by subst e;rw[w.ir] at h;cases h
 have hba:b≠a:=Ne.symm hab;unfold sw;by_cases h1:x=y
 ·subst h1;simp[tf]
 rw[if_neg h1];have ya:=w.ir a;have yb:=w.ir b;have sx:=w.sy x a;have sx':=w.sy x b;have sy:=w.sy y a;have sy':=w.sy y b;by_cases h2:x=a
 ·subst h2
  by_cases h3:y=b
  ·subst h3;simp[tf,h1,hab,hba,h,hb,ya,yb]
  ·simp[tf,h1,Ne.symm h1,hab,hba,h,hb,ya,yb,h3,Ne.symm h3]
   cases s x y<;>cases s b y<;>rfl
 by_cases h3:x=b
 ·subst h3
  by_cases h4:y=a
  ·subst h4;simp[tf,h1,hab,hba,h,hb,ya,yb]
  ·simp[tf,h1,Ne.symm h1,hab,hba,h,hb,ya,yb,h4,Ne.symm h4,h2]
 by_cases h4:y=a
 ·subst h4
  simp[tf,h1,Ne.symm h1,hab,hba,h,hb,ya,yb,h2,h3,Ne.symm h2,Ne.symm h3,sx,sx'];cases s y x<;>cases s b x<;>rfl
 by_cases h5:y=b
 ·subst h5
  simp[tf,h1,Ne.symm h1,hab,hba,h,hb,ya,yb,h2,h3,Ne.symm h2,Ne.symm h3,sx,sx',h4]
 simp only[tf,h1,Ne.symm h1,hab,hba,h,hb,ya,yb,h2,h3,h4,h5,Ne.symm h2,Ne.symm h3,Ne.symm h4,Ne.symm h5,ne_eq,not_false_eq_true,decide_true,Bool.true_and,if_false,not_true_eq_false,decide_false,Bool.false_and];cases s x y<;>cases s a x<;>cases s a y<;>cases s b x<;>cases s b y<;>rfl
theorem zQZ{s:Nat->Nat->Bool}(w:Web s)(a b:Nat):Web (sw s a b):=zIZ (zIZ (zIZ w a) b) a
theorem zOI{s:Nat->Nat->Bool}(w:Web s){a b:Nat}(h:s a b=true)(x y:Nat):sw s a b x y=sw s b a x y:=by
 have hb:s b a=true:=by rw[w.sy];exact h
 have hab:a≠b:=fun e=>by subst e;rw[w.ir] at h;cases h
 rw[sw_eq w h,sw_eq w hb];by_cases h1:x=y
 ·rw[if_pos h1,if_pos h1]
 rw[if_neg h1,if_neg h1];by_cases h2:x=a
 ·rw[if_pos h2,if_neg (show ¬ x=b by omega),if_pos h2]
 rw[if_neg h2];by_cases h3:x=b
 ·rw[if_pos h3,if_pos h3]
 rw[if_neg h3,if_neg h3,if_neg h2];by_cases h4:y=a
 ·rw[if_pos h4,if_neg (show ¬ y=b by omega),if_pos h4]
 rw[if_neg h4];by_cases h5:y=b
 ·rw[if_pos h5,if_pos h5]
 rw[if_neg h5,if_neg h5,if_neg h4];cases s x y<;>cases s a x<;>cases s a y<;>cases s b x<;>cases s b y<;>rfl
theorem zOs{s:Nat->Nat->Bool}(w:Web s){a b:Nat}(h:s a b=true):sw s a b a b=true:=by
 have hab:a≠b:=fun e=>by subst e;rw[w.ir] at h;cases h
 rw[sw_eq w h,if_neg hab,if_pos rfl,if_pos rfl]
theorem zRj{s:Nat->Nat->Bool}(w:Web s){a b:Nat}(h:s a b=true)(x y:Nat):sw (sw s a b) a b x y=s x y:=by
 have hb:s b a=true:=by rw[w.sy];exact h
 have hab:a≠b:=fun e=>by subst e;rw[w.ir] at h;cases h
 rw[sw_eq (zQZ w a b) (zOs w h)];have fa:∀ y,y≠a->y≠b->sw s a b b y=s a y:=fun y y1 y2=>by rw[sw_eq w h,if_neg (Ne.symm y2),if_neg (Ne.symm hab),if_pos rfl,if_neg y1]
 have fb:∀ y,y≠a->y≠b->sw s a b a y=s b y:=fun y y1 y2=>by rw[sw_eq w h,if_neg (Ne.symm y1),if_pos rfl,if_neg y2]
 by_cases h1:x=y
 ·rw[if_pos h1,h1,w.ir]
 rw[if_neg h1];by_cases h2:x=a
 ·rw[if_pos h2]
  by_cases h3:y=b
  ·rw[if_pos h3,h2,h3,h]
  ·rw[if_neg h3,fa y (by omega) h3,h2]
 rw[if_neg h2];by_cases h3:x=b
 ·rw[if_pos h3]
  by_cases h4:y=a
  ·rw[if_pos h4,h3,h4,hb]
  ·rw[if_neg h4,fb y h4 (by omega),h3]
 rw[if_neg h3];by_cases h4:y=a
 ·rw[if_pos h4,fa x h2 h3,h4,w.sy]
 rw[if_neg h4];by_cases h5:y=b
 ·rw[if_pos h5,fb x h2 h3,h5,w.sy]
 rw[if_neg h5,fa x h2 h3,fb x h2 h3,fa y h4 h5,fb y h4 h5,sw_eq w h,if_neg h1,if_neg h2,if_neg h3,if_neg h4,if_neg h5];cases s x y<;>cases s a x<;>cases s a y<;>cases s b x<;>cases s b y<;>rfl
theorem yB(q:Nat×Nat->Bool)(p:Nat):adj (tq q p)=tf (adj q) p:=funext fun x=>funext fun y=>zQY q p x y
theorem zC5{n:Nat}{q q':Nat×Nat->Bool}(h:∀ x y,x<n->y<n->adj q x y=adj q' x y):zM n q=zM n q':=zEP fun p hp=>by
 obtain⟨h1,h2⟩:=wA.mp hp;have:=h p.1 p.2 (by omega) h2;unfold adj at this;rw[di (cH h1),dY (cH h1)] at this;simpa[bO h1] using this
theorem zKb(n:Nat)(q:Nat×Nat->Bool)(p:Nat):zM n (tq (tq q p) p)=zM n q:=zC5 fun x y u0 u0=>by rw[yB,yB,zMZ (.adj q)]
theorem zMa(n:Nat){q:Nat×Nat->Bool}{a b:Nat}(h:adj q a b=false):zM n (tq (tq q a) b)=zM n (tq (tq q b) a):=zC5 fun x y u0 u0=>by rw[yB,yB,yB,yB,zOH (.adj q) h]
theorem zEh(q:Nat×Nat->Bool)(a b:Nat):adj (tq (tq (tq q a) b) a)=sw (adj q) a b:=by rw[yB,yB,yB];rfl
theorem zQa(n:Nat){q:Nat×Nat->Bool}{a b:Nat}(h:adj q a b=true):zM n (tq (tq (tq q b) a) b)=zM n (tq (tq (tq q a) b) a):=zC5 fun x y u0 u0=>by rw[zEh,zEh,zOI (.adj q) h]
theorem zKc{q:Nat×Nat->Bool}{a b:Nat}(h:adj q a b=true):adj (tq (tq (tq q a) b) a) a b=true:=by rw[zEh];exact zOs (.adj q) h
theorem zMb(n:Nat){q:Nat×Nat->Bool}{a b:Nat}(h:adj q a b=true):zM n (tq (tq (tq (tq (tq (tq q a) b) a) a) b) a)=zM n q:=zC5 fun x y u0 u0=>by rw[zEh,zEh,zRj (.adj q) h]
theorem zFh{n:Nat}{q:Nat×Nat->Bool}{p:Nat}(hp:p<n){i j:Nat}(h:Reach n (tq q p) i j):Reach n q i j:=by
 induction h with
 | refl h=>exact .refl h
 | @step j k _ hk ha ih =>
  rw[yB] at ha;unfold tf at ha;by_cases c:adj q j k=true
  ·exact .step ih hk c
  ·have c':adj q j k=false:=by simpa using c
   rw[c'] at ha;have c2:adj q p j=true/\adj q p k=true:=by
    cases e1:adj q p j<;>cases e2:adj q p k<;>simp[e1,e2] at ha ⊢
   exact .step (.step ih hp (by rw[zAz];exact c2.1)) hk c2.2
theorem zHY{n:Nat}{q q':Nat×Nat->Bool}(e:∀ x y,adj q x y=adj q' x y){i j:Nat}(h:Reach n q i j):Reach n q' i j:=by
 induction h with
 | refl h=>exact .refl h
 | step _ hk ha ih=>exact .step ih hk (by rw[<-e];exact ha)
theorem zHZ{n:Nat}{q:Nat×Nat->Bool}{p:Nat}(hp:p<n):Reach n (tq q p)=Reach n q:=by
 funext i j;refine propext ⟨zFh hp,fun h=>zFh hp (zHY (q:=q) (fun x y=>?_) h)⟩;rw[yB,yB,zMZ (.adj q)]
theorem zMc{n:Nat}{q:Nat×Nat->Bool}{p k:Nat}(hp:p<n):wR n (tq q p) k=wR n q k:=by
 have e1:zAT n (tq q p)=zAT n q:=by unfold zAT;rw[zHZ hp]
 have e2:comp n (tq q p)=comp n q:=by unfold comp;rw[zHZ hp]
 unfold wR;rw[e1,e2]
theorem zHa{q:Nat×Nat->Bool}{ps:List Nat}(nd:ps.Nodup){i:Nat}(hi:i<ps.length):zM ps.length (tq (zAG q ps) i)=zM ps.length (zAG (tq q (ps.getD i 0)) ps):=zC5 fun x y hx hy=>by
 have ne:x≠y->ps.getD x 0≠ps.getD y 0:=fun h e=>by
  simp only[cO,cw hx,cw hy,Option.getD_some] at e;exact h ((List.getElem_inj nd).mp e)
 rw[zCr,yB,yB];unfold tf;rw[zCr,zCr,zCr];by_cases h:x=y
 ·subst h;simp
 ·rw[decide_eq_true h,decide_eq_true (ne h)]
theorem zQb{n:Nat}{q q':Qs}:yj n q=yj n q'↔∀ p∈yT n,q p=q' p:=by
 unfold yj;constructor
 ·intro h p hp
  simp only[List.cons.injEq,Sum.inr.injEq,and_true,true_and] at h;have e:(yT n).filter q=(yT n).filter q':=List.map_inj_right (fun a b=>zGU) |>.mp h;have:p∈(yT n).filter q↔p∈(yT n).filter q':=by rw[e]
  simp only[cF,hp,true_and] at this;exact cG.mpr this
 ·intro h
  rw[List.filter_congr h]
theorem zIa{n:Nat}{q q':Qs}:yj n q=yj n q'↔∀ x y,x<n->y<n->adj q x y=adj q' x y:=by
 rw[zQb];constructor
 ·intro h x y hx hy
  unfold adj;by_cases e:x=y
  ·subst e;simp
  ·rw[h (min x y,max x y) (wA.mpr ⟨by omega,by omega⟩)]
 ·intro h p hp
  obtain⟨h1,h2⟩:=wA.mp hp;have:=h p.1 p.2 (by omega) h2;unfold adj at this;rw[di (cH h1),dY (cH h1)] at this;simpa[bO h1] using this
theorem zHb{n:Nat}{q q':Qs}{i:Nat}(hi:i<n)(h:yj n q=yj n q'):yj n (tq q i)=yj n (tq q' i):=by
 rw[zIa] at h ⊢;intro x y hx hy;rw[yB,yB];unfold tf;rw[h x y hx hy,h i x hi hx,h i y hi hy]
theorem zRk{n:Nat}{q:Qs}{i:Nat}:yj n (tq (tq q i) i)=yj n q:=zIa.mpr fun x y u0 u0=>by rw[yB,yB,zMZ (.adj q)]
noncomputable abbrev zBR(q:Qs)(l:List Nat):Qs:=l.foldl tq q
theorem zJO{n:Nat}:∀(l:List Nat) {q q':Qs},(∀ i∈l,i<n)->yj n q=yj n q'->yj n (zBR q l)=yj n (zBR q' l):=by
 intro l
 induction l with
 | nil=>exact fun u0 h=>h
 | cons i r ih=>exact fun hl h=>ih (fun j hj=>hl j (by simp[hj])) (zHb (hl i (by simp)) h)
theorem zFi{n:Nat}:∀(l:List Nat) {q:Qs},(∀ i∈l,i<n)->yj n (zBR (zBR q l) l.reverse)=yj n q:=by
 intro l
 induction l with
 | nil=>exact fun u0=>rfl
 | cons i r ih =>
  intro q hl;show yj n (zBR (zBR (tq q i) r) (i::r).reverse)=_;rw[el];unfold zBR;rw[eQ];exact(zHb (hl i (by simp)) (ih (q:=tq q i) fun j hj=>hl j (by simp[hj]))).trans zRk
noncomputable def zKd(n:Nat)(q:Qs)(P:Pw):Prop:=∀ p∈P,(∀ i∈p.2,i<n)/\yj n p.1=yj n (zBR q p.2)
theorem zHc{n:Nat}{P:Pw}{q:Qs}{p:Qs×List Nat}(h:wM n P q=some p):p∈P/\yj n p.1=yj n q:=by
 refine⟨zGd h,?_⟩;have:=List.find?_some h;simpa using this
theorem zAm{n:Nat}{P:Pw}{q:Qs}:(wM n P q).isSome=true↔∃ p∈P,yj n p.1=yj n q:=by
 unfold wM;rw[List.find?_isSome];simp
theorem zKd.vis{n:Nat}{q0 x:Qs}{s:Pw×List Qs}{i:Nat}(h:zKd n q0 s.1)(hx:(wM n s.1 x).isSome=true)(hi:i<n):zKd n q0 (vis n x s i).1:=by
 unfold K.vis;by_cases c:(wM n s.1 (tq x i)).isSome=true
 ·rw[if_pos c];exact h
 ·rw[if_neg c]
  intro p hp;rcases cu.mp hp with hp | hp
  ·exact h p hp
  ·rw[bG] at hp
   subst hp;obtain⟨z,hz⟩:=Option.isSome_iff_exists.mp hx;obtain⟨z1,z2⟩:=zHc hz;obtain⟨z3,z4⟩:=h z z1;rw[hz];dsimp only[Option.map_some,Option.getD_some];refine⟨fun j hj=>?_,?_⟩
   ·rcases cu.mp hj with hj | hj
    ·exact z3 j hj
    ·rw[bG] at hj;omega
   ·unfold zBR
    rw[eQ];exact zHb hi (z2.symm.trans z4)
structure Seen (n:Nat) (q0:Qs) (P0:Pw) (F0:List Qs) (s:Pw×List Qs):Prop where
 path:zKd n q0 s.1
 mono:∀ y,(wM n P0 y).isSome=true->(wM n s.1 y).isSome=true
 new:∀ p∈s.1,p∈P0\/p.1∈s.2
 fm:∀ x∈F0,x∈s.2
theorem up1{n:Nat}{P R:Pw}{y:Qs}(h:(wM n P y).isSome=true):(wM n (P++R) y).isSome=true:=by
 rw[zGc];cases q:wM n P y with
 | none=>rw[q] at h;cases h
 | some _=>rfl
theorem Seen.visA{n:Nat}{q0 x:Qs}{P0:Pw}{F0:List Qs}{s:Pw×List Qs}(h:Seen n q0 P0 F0 s)(hx:(wM n P0 x).isSome=true):∀ k,k<=n->Seen n q0 P0 F0 (visA n x s k)/\∀ i,i<k->(wM n (visA n x s k).1 (tq x i)).isSome=true:=by
 intro k
 induction k with
 | zero=>exact fun u0=>⟨h,fun i hi=>absurd hi (by omega)⟩
 | succ k ih =>
  intro hk;obtain⟨h1,h2⟩:=ih (by omega);rw[zFg];have hp:=h1.path.vis (h1.mono x hx) (show k<n by omega);generalize K.visA n x s k=u at h1 h2 hp;unfold K.vis at hp ⊢;by_cases c:(wM n u.1 (tq x k)).isSome=true
  ·rw[if_pos c] at hp ⊢
   refine⟨h1,fun i hi=>?_⟩;rcases cC i k with z | z
   ·exact h2 i z
   ·rw[show i=k by omega];exact c
  ·rw[if_neg c] at hp ⊢
   refine⟨⟨hp,fun y hy=>up1 (h1.mono y hy),fun p hp=>?_,fun z hz=>cy _ (h1.fm z hz)⟩,fun i hi=>?_⟩
   ·rcases cu.mp hp with hp | hp
    ·exact(h1.new p hp).imp_right fun z=>cy _ z
    ·rw[bG] at hp
     subst hp;exact .inr (by simp)
   ·rcases cC i k with z | z
    ·exact up1 (h2 i z)
    ·rw[show i=k by omega,zAm]
     exact⟨(tq x k,_),ci _ (bG.mpr rfl),rfl⟩
theorem Seen.spr{n:Nat}{q0:Qs}{P:Pw}{E:List Qs}(hp:zKd n q0 P)(hE:∀ x∈E,(wM n P x).isSome=true):∀ k,k<=E.length->Seen n q0 P [] (zCS n P E k)/\∀ x∈E.take k,∀ i,i<n->(wM n (zCS n P E k).1 (tq x i)).isSome=true:=by
 intro k
 induction k with
 | zero=>exact fun u0=>⟨⟨hp,fun u0 h=>h,fun p h=>.inl h,fun x hx=>by cases hx⟩,fun x hx=>by simp at hx⟩
 | succ k ih =>
  intro hk;obtain⟨h1,h2⟩:=ih (by omega);obtain⟨x,hx⟩:∃ x,E[k]?=some x:=⟨E[k],by simp[show k<E.length by omega]⟩
  rw[zDP hx];generalize zCS n P E k=s at h1 h2;have xP:=hE x (bM hx);have st:Seen n q0 s.1 s.2 s:=⟨h1.path,fun u0 h=>h,fun p h=>.inl h,fun u0 h=>h⟩
  obtain⟨h3,h4⟩:=st.visA (h1.mono x xP) n (bE _);refine⟨⟨h3.path,fun y hy=>h3.mono y (h1.mono y hy),fun p hp=>?_,fun x hx=>by cases hx⟩,fun y hy i hi=>?_⟩
  ·rcases h3.new p hp with z | z
   ·exact(h1.new p z).imp_right (h3.fm _)
   ·exact .inr z
  ·rw[yn hx] at hy
   rcases cu.mp hy with hy | hy
   ·exact h3.mono _ (h2 y hy i hi)
   ·rw[bG] at hy
    subst hy;exact h4 i hi
structure Orb (n:Nat) (q0:Qs) (P:Pw) (E:List Qs):Prop where
 path:zKd n q0 P
 st:(wM n P q0).isSome=true
 ed:∀ x∈E,(wM n P x).isSome=true
 cl:∀ p∈P,p.1∈E\/∀ i,i<n->(wM n P (tq p.1 i)).isSome=true
theorem Orb.bfs{n:Nat}{q0:Qs}{P R:Pw}{E:List Qs}(b:Bfs n P E R):Good n P->Orb n q0 P E->Orb n q0 R []:=by
 induction b with
 | done=>exact fun u0 h=>h
 | @more P R E ne b ih =>
  intro g h;have st:=Sti.spr g h.ed E.length (bE _);obtain⟨h1,h2⟩:=Seen.spr h.path h.ed E.length (bE _);refine ih st.good ⟨h1.path,h1.mono _ h.st,st.f,fun p hp=>?_⟩;rcases h1.new p hp with z | z
  ·rcases h.cl p z with y | y
   ·exact .inr fun i hi=>h2 p.1 (by rw[et];exact y) i hi
   ·exact .inr fun i hi=>h1.mono _ (y i hi)
  ·exact .inl z
theorem zBx{n:Nat}(q:Qs):Orb n q [(q,[])] [q]:=by
 refine⟨fun p hp=>?_,zQW n q q (by simp),zQW n q,fun p hp=>.inl ?_⟩
 ·rw[bG] at hp;subst hp;exact⟨fun i hi=>(by cases hi),rfl⟩
 ·rw[bG] at hp;subst hp;simp
theorem Orb.all{n:Nat}{q0:Qs}{P:Pw}(h:Orb n q0 P []):∀(l:List Nat) {x:Qs},(∀ i∈l,i<n)->(wM n P x).isSome=true->(wM n P (zBR x l)).isSome=true:=by
 intro l
 induction l with
 | nil=>exact fun u0 h=>h
 | cons i r ih =>
  intro x hl hx;refine ih (fun j hj=>hl j (by simp[hj])) ?_;obtain⟨p,hp,e⟩:=zAm.mp hx;rcases h.cl p hp with z | z
  ·cases z
  ·obtain⟨u,hu,e'⟩:=zAm.mp (z i (hl i (by simp)))
   exact zAm.mpr ⟨u,hu,e'.trans (zHb (hl i (by simp)) e)⟩
theorem zMd{n:Nat}{q:Qs}{P P':Pw}{p:Qs×List Nat}(b:Bfs n [(q,[])] [q] P)(g:Good n P)(hp:p∈P)(b':Bfs n [(p.1,[])] [p.1] P')(g':Good n P'):(P'.map fun p=>yj n p.1).Perm (P.map fun p=>yj n p.1):=by
 have o:=Orb.bfs b (zHX n q) (zBx q);have o':=Orb.bfs b' (zHX n p.1) (zBx p.1);obtain⟨h1,h2⟩:=o.path p hp;have pin:(wM n P p.1).isSome=true:=zAm.mpr ⟨p,hp,rfl⟩;have qin:(wM n P' q).isSome=true:=by
  have:=o'.all p.2.reverse (x:=p.1) (fun i hi=>h1 i (by simpa using hi)) o'.st;obtain⟨u,hu,e⟩:=zAm.mp this;refine zAm.mpr ⟨u,hu,e.trans ?_⟩;exact(zJO p.2.reverse (fun i hi=>h1 i (by simpa using hi)) h2).trans (zFi p.2 h1)
 refine(eT g'.nd g.nd).mpr fun k=>⟨fun hk=>?_,fun hk=>?_⟩
 ·obtain⟨u,hu,rfl⟩:=bF.mp hk
  obtain⟨u1,u2⟩:=o'.path u hu;obtain⟨v,hv,e⟩:=zAm.mp (o.all u.2 u1 pin);exact bF.mpr ⟨v,hv,e.trans u2.symm⟩
 ·obtain⟨u,hu,rfl⟩:=bF.mp hk
  obtain⟨u1,u2⟩:=o.path u hu;obtain⟨v,hv,e⟩:=zAm.mp (o'.all u.2 u1 qin);exact bF.mpr ⟨v,hv,e.trans u2.symm⟩
noncomputable def yG:wV:=fun ds G R=>∃(A B C:List Nat) (i:Nat),ds=[.tup ((A++i::(B++i::C)).map nD),nD i]/\i∉A/\i∉B/\(A++i::(B++i::C)).length<=1000/\R (.tup ((A++i::(B.reverse++i::C)).map nD)) G
noncomputable def wq:yS:=(zT (zk (xMt wH (zD 0) (zA (zD 1) zI)) (gN 2)) (zT (zk (xMt zAv (zD 0) (zA (zD 1) (zA (zZ ym (zD 2) (xC (.int 1))) zI))) (gN 3)) (zm (zZ ym (zZ ym (zAj (zD 0) zA9 (zAR (zD 2))) (zJ zGH (zA (zAj (zD 0) (zAR (zD 2)) (zAR (zZ ym (zD 3) (xC (.int 1))))) zI))) (zAj (zD 0) (zAR (zZ ym (zD 3) (xC (.int 1)))) zA9)))))
theorem zOJ{σ:S2}{G:Gp}{t:zj}{xs:List D}(h:zi t σ G (.tup xs))(hl:xs.length<=1000000):zi (zJ zGH (zA t zI)) σ G (.tup xs.reverse):=zt (zF h zP) fun u0 u0 u0 q=>⟨hl,q⟩
theorem zE1(ds:List D)(G:Gp)(R:Q2)(h:yG ds G R):ds.length=2/\wq (zg R) (zW ["ring","place","first","second"] ds) G:=by
 obtain⟨A,B,C,i,rfl,hA,hB,hlen,h⟩:=h;refine⟨rfl,?_⟩;generalize hr:A++i::(B++i::C)=r at *;have i1:zBZ (r.map nD) (nD i) 0 A.length:=hr▸zFV hA;have i2:zBZ (r.map nD) (nD i) (A.length+1) (A.length+1+B.length):=hr▸zHB hB;have hl:A.length+1+B.length+1+C.length=r.length:=by rw[<-hr];simp;omega
 have e1:(r.map nD).take A.length=A.map nD:=by rw[<-hr];simp
 have e2:L3.cutD (r.map nD) (some ((A.length:Nat):Int)) (some ((A.length+1+B.length+1:Nat):Int))=(i::(B++[i])).map nD:=by
  rw[zI3 (by omega) (by rw[bA];omega),<-hr];have:A.length+1+B.length+1-A.length=(B++[i]).length+1:=by simp;omega
  rw[this,dt,List.drop_left' (by simp),cz,List.take_succ_cons,<-List.map_take];have:B++i::C=(B++[i])++C:=by simp
  rw[this,List.take_left' rfl];rfl
 have e3:(r.map nD).drop (A.length+1+B.length+1)=C.map nD:=by
  rw[<-hr,<-List.map_drop];have:A++i::(B++i::C)=(A++i::(B++[i]))++C:=by simp
  rw[this,List.drop_left' (by simp;omega)]
 unfold wq;refine wB (d:=nD A.length) (zFW (zE rfl) (zF (zE rfl) zP) fun u0 u0 u0 q=>⟨_,_,rfl,rfl,wQ _,i1,q⟩) ?_;show zT _ _ _ [some (.tup (r.map nD)),some (nD i),some (nD A.length),none] G;refine wB (d:=nD (A.length+1+B.length)) (zFW (zE rfl) (zF (zE rfl) (zF (zIE (zE rfl) wL) zP)) fun u0 u0 u0 q=>⟨A.length+1,_,by omega,rfl,wQ _,i2,q⟩) ?_;show zm _ _ [some (.tup (r.map nD)),some (nD i),some (nD A.length),some (nD (A.length+1+B.length))] G;generalize hσ:[some (D.tup (r.map nD)),some (nD i),some (nD A.length),some (nD (A.length+1+B.length))]=σ;have v0:zi (zD 0) σ G (.tup (r.map nD)):=zE (by rw[<-hσ];rfl);have v2:zi (zD 2) σ G (nD A.length):=zE (by rw[<-hσ];rfl);have v3:zi (zZ ym (zD 3) (xC (.int 1))) σ G (nD (A.length+1+B.length+1)):=zIE (i:=((A.length+1+B.length:Nat):Int)) (j:=1) (zE (by rw[<-hσ];rfl)) wL;have rl:(r.map nD).length=r.length:=by simp
 have p1:=zOm v0 v2 (by omega);have p2:=zHC v0 v2 v3;have p3:=zNr v0 v3 (by omega);rw[e1] at p1;rw[e2] at p2;rw[e3] at p3;have p4:=zOJ p2 (by simp;omega);have fin:=zIJ (zIJ p1 p4 (by simp;omega)) p3 (by simp;omega);have e:bJ nD A++(bJ nD (i::(B++[i]))).reverse++bJ nD C=(A++i::(B.reverse++i::C)).map nD:=by simp
 rw[e] at fin;exact zRO fin (.of h)
section
variable {α:Type}
end
noncomputable def zHd:List Nat->Bool
 | a::b::c::_=>decide (a≠b)&&decide (b≠c)
 | _=>false
theorem zBy(r:List Nat)(p:Nat×Nat):zz r p=zHd (both r p):=by
 unfold zz zHd;rfl
theorem four{w:List Nat}{i j:Nat}(h:w.length=4)(hm:∀ x∈w,x=i\/x=j)(hi:w.count i=2)(hij:i≠j) :
  w=[i,i,j,j]\/w=[i,j,i,j]\/w=[i,j,j,i]\/w=[j,i,i,j]\/w=[j,i,j,i]\/w=[j,j,i,i]:=by
 match w,h with
 | [a,b,c,d],_ =>
  have ji:¬ j=i:=fun e=>hij e.symm;have ha:=hm a (by simp);have hb:=hm b (by simp);have hc:=hm c (by simp);have hd:=hm d (by simp);rcases ha with rfl | rfl<;>rcases hb with rfl | rfl<;>rcases hc with rfl | rfl<;>rcases hd with rfl | rfl<;>simp_all [cY]
theorem zKe(r:List Nat)(i j:Nat):both r (i,j)=both r (j,i):=by
 unfold both;exact List.filter_congr fun x u0=>Bool.or_comm _ _
noncomputable def nm(od:List Nat)(x:Nat):Nat:=od.idxOf x
structure zHe (q:Nat×Nat->Bool) (S w:List Nat):Prop where
 cnt:∀ x,w.count x=if x∈S then 2 else 0
 crs:∀ i∈S,∀ j∈S,i≠j->zz w (i,j)=adj q i j
theorem zHe.mem{q:Nat×Nat->Bool}{S w:List Nat}(h:zHe q S w){x:Nat}:x∈w↔x∈S:=by
 rw[<-List.count_pos_iff,h.cnt x];by_cases hx:x∈S<;>simp[hx]
theorem zHe.two{q:Nat×Nat->Bool}{S w:List Nat}(h:zHe q S w){x:Nat}(hx:x∈S):w.count x=2:=by rw[h.cnt,if_pos hx]
theorem zKf{i j:Nat}(hij:i≠j)(l:List Nat):(both l (i,j)).length=l.count i+l.count j:=by
 unfold both
 induction l with
 | nil=>rfl
 | cons a r ih =>
  simp only[eC,cY];by_cases ha:a=i
  ·subst ha
   simp[hij,ih];omega
  ·by_cases hb:a=j
   ·subst hb;simp[ha,ih];omega
   ·simp[ha,hb,ih]
theorem zEi(w:List Nat)(i j:Nat):zz w (i,j)=zz w (j,i):=by rw[zBy,zBy,zKe]
theorem zC6(X Y:List Nat)(p:Nat×Nat):both (X++Y) p=both X p++both Y p:=List.filter_append _ _
theorem zMe{q:Nat×Nat->Bool}{p i j:Nat}(h:i≠j):adj (tq q p) i j=(adj q i j != (adj q p i&&adj q p j)):=by
 unfold adj tq inB;rcases Nat.lt_or_gt_of_ne h with z | z
 ·simp only[di (cH z),dY (cH z),h]
  simp[adj,h]
 ·simp only[Nat.min_eq_right (cH z),Nat.max_eq_left (cH z),h]
  simp[adj,h,Bool.and_comm]
noncomputable def zRl:List (List Bool):=[[true,true,false,false],[true,false,true,false],[true,false,false,true],[false,true,true,false],[false,true,false,true],[false,false,true,true]]
noncomputable def zOK:List Bool->Bool
 | a::b::c::_=>(a != b)&&(b != c)
 | _=>false
theorem zMf:∀ v∈zRl,∀ m:Fin 5,∀ k:Fin 5,m.val+k.val<=4->zOK (v.take m.val++((v.drop m.val).take k.val).reverse++v.drop (m.val+k.val))=(zOK v != (decide (((v.drop m.val).take k.val).count true=1)&&decide (((v.drop m.val).take k.val).count false=1))):=by decide +kernel
theorem zJP{i j:Nat}(hij:i≠j):∀ v:List Bool,zHd (v.map fun b=>bif b then i else j)=zOK v
 | []=>rfl
 | [_]=>rfl
 | [_,_]=>rfl
 | a::b::c::_=>by
  have ji:j≠i:=Ne.symm hij;cases a<;>cases b<;>cases c<;>simp[zHd,zOK,hij,ji]
theorem zJQ{i j:Nat}(hij:i≠j)(v:List Bool):(v.map fun b=>bif b then i else j).count i=v.count true/\(v.map fun b=>bif b then i else j).count j=v.count false:=by
 have ji:j≠i:=Ne.symm hij
 induction v with
 | nil=>exact⟨rfl,rfl⟩
 | cons a v ih=>cases a<;>simp[cY,ih.1,ih.2,hij,ji]
theorem zMg{i j:Nat}(hij:i≠j){w:List Nat}(h:w=[i,i,j,j]\/w=[i,j,i,j]\/w=[i,j,j,i]\/w=[j,i,i,j]\/w=[j,i,j,i]\/w=[j,j,i,i]){m k:Nat}(hmk:m+k<=4) :
  zHd (w.take m++((w.drop m).take k).reverse++w.drop (m+k))=(zHd w != (decide (((w.drop m).take k).count i=1)&&decide (((w.drop m).take k).count j=1))):=by
 obtain⟨v,hv,rfl⟩:∃ v∈zRl,w=v.map fun b=>bif b then i else j:=by
  rcases h with rfl | rfl | rfl | rfl | rfl | rfl
  ·exact⟨[true,true,false,false],by decide,rfl⟩
  ·exact⟨[true,false,true,false],by decide,rfl⟩
  ·exact⟨[true,false,false,true],by decide,rfl⟩
  ·exact⟨[false,true,true,false],by decide,rfl⟩
  ·exact⟨[false,true,false,true],by decide,rfl⟩
  ·exact⟨[false,false,true,true],by decide,rfl⟩
 rw[<-List.map_take,<-List.map_drop,<-List.map_take,<-List.map_drop,<-List.map_reverse,<-dt,<-dt,zJP hij,zJP hij,(zJQ hij _).1,(zJQ hij _).2];exact zMf v hv ⟨m,by omega⟩ ⟨k,by omega⟩ hmk
theorem zOL{i j:Nat}(hij:i≠j){x y z:List Nat}(hl:(x++y++z).length=4)(hm:∀ u∈x++y++z,u=i\/u=j)(hi:(x++y++z).count i=2):zHd (x++y.reverse++z)=(zHd (x++y++z) != (decide (y.count i=1)&&decide (y.count j=1))):=by
 have:=zMg hij (four hl hm hi hij) (m:=x.length) (k:=y.length) (by simp only[bR] at hl;omega);have e1:(x++y++z).take x.length=x:=by rw[en];exact List.take_left' rfl
 have e2:((x++y++z).drop x.length).take y.length=y:=by rw[en,List.drop_left];exact List.take_left' rfl
 have e3:(x++y++z).drop (x.length+y.length)=z:=by rw[<-bR];exact List.drop_left' rfl
 rw[e1,e2,e3] at this;exact this
noncomputable def zC7(A B C:List Nat)(p:Nat):List Nat:=A++p::(B.reverse++p::C)
theorem zAL{p i j:Nat}(h1:p≠i)(h2:p≠j)(X:List Nat):both (p::X) (i,j)=both X (i,j):=by
 unfold both;simp[h1,h2]
theorem zHf{i j:Nat}(X:List Nat):(both X (i,j)).count i=X.count i:=by unfold both;rw[List.count_filter (by simp)]
theorem zKg{i j:Nat}(X:List Nat):(both X (i,j)).count j=X.count j:=by unfold both;rw[List.count_filter (by simp)]
theorem zHe.turn{q:Nat×Nat->Bool}{S A B C:List Nat}{p:Nat}(h:zHe q S (A++p::(B++p::C)))(hA:p∉A)(hB:p∉B)(hC:p∉C):zHe (tq q p) S (zC7 A B C p):=by
 have hp:p∈S:=h.mem.mp (by simp);have cn:∀ x,(zC7 A B C p).count x=(A++p::(B++p::C)).count x:=fun x=>by
  unfold zC7;simp only[dR,cY,List.count_reverse]
 have hBr:p∉B.reverse:=fun z=>hB (List.mem_reverse.mp z);have app:∀ j∈S,p≠j->adj q p j=decide (B.count j=1):=fun j hj n=>by
  rw[<-h.crs p hp j hj n,zER n hA hB hC (h.two hj),cY];simp[n]
 refine⟨fun x=>by rw[cn];exact h.cnt x,fun i hi j hj n=>?_⟩;have withP:∀ j∈S,p≠j->zz (zC7 A B C p) (p,j)=adj (tq q p) p j:=fun j hj n=>by
  rw[zMe n,show adj q p p=false by unfold adj;simp,Bool.false_and,Bool.bne_false,app j hj n];unfold zC7;rw[zER n hA hBr hC (by have:=cn j;unfold zC7 at this;rw[this];exact h.two hj),cY,List.count_reverse];simp[n]
 by_cases hpi:p=i
 ·subst hpi;exact withP j hj n
 ·by_cases hpj:p=j
  ·subst hpj
   rw[zEi,zAz];exact withP i hi (Ne.symm n)
  ·rw[zMe n,<-h.crs i hi j hj n,app i hi hpi,app j hj hpj,zBy,zBy]
   have e1:both (zC7 A B C p) (i,j)=both A (i,j)++(both B (i,j)).reverse++both C (i,j):=by
    unfold zC7;rw[zC6,zAL hpi hpj,zC6,zAL hpi hpj,en];congr 2;unfold both;rw[List.filter_reverse]
   have e2:both (A++p::(B++p::C)) (i,j)=both A (i,j)++both B (i,j)++both C (i,j):=by
    rw[zC6,zAL hpi hpj,zC6,zAL hpi hpj,en]
   rw[e1,e2];have l4:=zKf n (A++p::(B++p::C));rw[h.two hi,h.two hj,e2] at l4;have:=zOL n (x:=both A (i,j)) (y:=both B (i,j)) (z:=both C (i,j)) l4 (fun u hu=>by
    rw[<-e2] at hu;simpa using(cF.mp hu).2) (by rw[<-e2,zHf];exact h.two hi)
   rw[this,zHf,zKg]
theorem zEj{tc:TT2}{t u v:yS}{E:yF}{σ:S2}{G:Gp}(h:xIf tc t u { E with nx:=v E } σ G):zT (xIf tc t u) v E σ G:=h
theorem zFj{σ:S2}{G:Gp}{te:zj}{E:yF}{d:D}(h:zi te σ G d)(h':E.rt d G):zm te E σ G:=h G (.refl G) _ h'
theorem zQc{σ:S2}{G:Gp}{t u:zj}{a b:Nat}{c:Bool}(h:zi t σ G (nD a))(h':zi u σ G (nD b))(e:decide (b<a)=c):zi (zZ (fII fun i j=>.bl (decide (j<i))) t u) σ G (.bl c):=by
 have:=zLO (g:=fun i j=>.bl (decide (j<i))) h h';have e2:decide ((b:Int)<(a:Int))=c:=by rw[<-e];simp
 rw[e2] at this;exact this
noncomputable def yH:wV:=fun ds G R=>∃ a b:Nat,ds=[nD a,nD b]/\a<=b/\R .non G
noncomputable def wt:yS:=(xIf (xB (zZ (fII fun i j=>.bl (decide (j<i))) (zD 0) (zD 1))) (fun u0 u0 u0=>False) zx)
theorem zE2(ds:List D)(G:Gp)(R:Q2)(h:yH ds G R):ds.length=2/\wt (zg R) (zW ["many","most"] ds) G:=by
 obtain⟨a,b,rfl,hab,h⟩:=h;refine⟨rfl,?_⟩;unfold wt;exact zFS (σ:=[some (nD a),some (nD b)]) (zAQ (zQc (a:=a) (b:=b) (zE rfl) (zE rfl) (by simp;omega))) (FgR.of h)
theorem zOt{σ:S2}{G:Gp}{te:zj}{E:yF}{u:yS}{d:D}(h:zi te σ G d)(h':u E σ G):zT (wF te) u E σ G:=h G (.refl G) _ h'
theorem zJR{wi:TI2}{g:TG2}{tb u:yS}{E:yF}{σ:S2}{G:Gp}(h:wG wi g tb { E with nx:=u E } σ G):zT (wG wi g tb) u E σ G:=h
noncomputable def yk:wV:=fun ds G R=>∃(n:Nat) (q:Nat×Nat->Bool) (i j:Nat),ds=[zM n q,nD i,nD j]/\i<n/\j<n/\n<=9/\adj q i j=true/\R (zM n (tq (tq (tq q i) j) i)) G
noncomputable def zBz:yS:=(zT (xIf (ww (xB (zJ yf (zA (zD 0) (zA (zD 1) (zA (zD 2) zI)))))) (fun u0 u0 u0=>False) zx) (zm (zJ zN (zA (zJ zN (zA (zJ zN (zA (zD 0) (zA (zD 1) zI))) (zA (zD 2) zI))) (zA (zD 1) zI)))))
theorem zGg{σ:S2}{G:Gp}{t u v:zj}{n:Nat}{q:Nat×Nat->Bool}{i j:Nat}(h:zi t σ G (zM n q))(h1:zi u σ G (nD i))(h2:zi v σ G (nD j))(hi:i<n)(hj:j<n):zi (zJ yf (zA t (zA u (zA v zI)))) σ G (.bl (adj q i j)) :=
 zt (zF h (zF h1 (zF h2 zP))) fun u0 u0 u0 hh=>⟨n,q,i,j,rfl,hi,hj,hh⟩
theorem zAH{σ:S2}{G:Gp}{t u:zj}{n:Nat}{q:Nat×Nat->Bool}{i:Nat}(h:zi t σ G (zM n q))(h1:zi u σ G (nD i))(hi:i<n)(hn:n<=9):zi (zJ zN (zA t (zA u zI))) σ G (zM n (tq q i)) :=
 zt (zF h (zF h1 zP)) fun u0 u0 u0 hh=>⟨n,q,i,rfl,hi,hn,hh⟩
theorem zKh(ds:List D)(G:Gp)(R:Q2)(h:yk ds G R):ds.length=3/\zBz (zg R) (zW ["web","one","other"] ds) G:=by
 obtain⟨n,q,i,j,rfl,hi,hj,hn,ha,h⟩:=h;refine⟨rfl,?_⟩;unfold zBz;show zT _ _ _ [some (zM n q),some (nD i),some (nD j)] G;refine zEj (zFS (zBo (b:=true) (zAQ ?_)) ?_)
 ·rw[<-ha];exact zGg (zE rfl) (zE rfl) (zE rfl) hi hj
 ·unfold zx
  exact zFj (σ:=[some (zM n q),some (nD i),some (nD j)]) (E:=zg R) (zAH (zAH (zAH (zE (i:=0) rfl) (zE (i:=1) rfl) hi hn) (zE (i:=2) rfl) hj hn) (zE (i:=1) rfl) hi hn) (FgR.of h)
theorem Dw.keys{n:Nat}{P:Pw}{G:Gp}{d:Addr}{X:Addr->Prop}(h:Dw n P G d X):∃ kvs,G.dc d=some kvs/\kvs.map (·.1)=P.map fun p=>yj n p.1:=by
 obtain⟨kvs,e,p⟩:=h;refine⟨kvs,e,?_⟩;clear e
 induction p with
 | nil=>rfl
 | cons r _ ih=>rw[cz,cz,ih,r.1]
theorem zSP{n:Nat}(h:n<=4):(yT n).length<=6:=by
 have:n=0\/n=1\/n=2\/n=3\/n=4:=by omega
 rcases this with rfl | rfl | rfl | rfl | rfl<;>decide
theorem zSQ{n:Nat}{q:Qs}{P:Pw}(g:Good n P)(b:Bfs n [(q,[])] [q] P)(hn:n<=4):P.length<64:=by
 by_cases c:∃ p∈P,yj n p.1=yj n (fun u0=>false)
 ·obtain⟨p,hp,e⟩:=c
  have o:=Orb.bfs b (zHX n q) (zBx q);have z0:∀ i,yj n (tq (fun u0=>false) i)=yj n (fun u0=>false):=fun i=>zIa.mpr fun x y u0 u0=>by
   rw[yB];simp[tf,adj]
  have z:∀(l:List Nat) {x:Qs},(∀ i∈l,i<n)->yj n x=yj n (fun u0=>false)->yj n (zBR x l)=yj n (fun u0=>false):=by
   intro l
   induction l with
   | nil=>exact fun u0 h=>h
   | cons i r ih=>exact fun {x} hl hx=>ih (fun j hj=>hl j (by simp[hj])) ((zHb (hl i (by simp)) hx).trans (z0 i))
  obtain⟨h1,h2⟩:=o.path p hp;have h1':∀ i∈p.2.reverse,i<n:=fun i hi=>h1 i (by simpa using hi);have hq:yj n q=yj n (fun u0=>false):=((zFi p.2 h1).symm.trans (zJO p.2.reverse h1' h2).symm).trans (z _ h1' e);have all:∀ u∈P,yj n u.1=yj n (fun u0=>false):=fun u hu=>(o.path u hu).2.trans (z _ (o.path u hu).1 hq);have r:(P.map fun p=>yj n p.1)=bP P.length (yj n (fun u0=>false)):=List.eq_replicate_iff.mpr ⟨by simp,fun k hk=>by
   obtain⟨u,hu,rfl⟩:=bF.mp hk;exact all u hu⟩
  have nd:=g.nd;rw[r,List.nodup_replicate] at nd;omega
 ·have nd:(P.map fun p=>(yT n).map p.1).Nodup:=by
   have h:=g.nd;unfold eR at h ⊢;rw[eO] at h ⊢;exact h.imp fun hne e=>hne (by unfold yj;rw[zBg e])
  have mz:=zC2 ((yT n).map fun u0=>false);rw[bA] at mz;have:=eR.length_le_of_subset nd (l₂:=(allB (yT n).length).erase ((yT n).map fun u0=>false)) fun x hx=>by
   obtain⟨p,hp,rfl⟩:=bF.mp hx;have hm:=zC2 ((yT n).map p.1);rw[bA] at hm;refine(List.mem_erase_of_ne fun e=>c ⟨p,hp,?_⟩).mpr hm;unfold yj;rw[zBg e]
  rw[bA,List.length_erase_of_mem mz,zEg] at this;have h2:2 ^ (yT n).length<=2 ^ 6:=Nat.pow_le_pow_right (by omega) (zSP hn);omega
theorem zKi{G:Gp}{R:List L3.D->Gp->Prop}{n:Nat}{P:Pw}{d:Addr}(hn:n<=4)(g:Good n P){q:Qs}(bf:Bfs n [(q,[])] [q] P){X:Addr->Prop}(D:Dw n P G d X)(k:∀ ks:List HW.Wb,ks.Perm (P.map fun p=>yj n p.1)->ks.Pairwise (fun a b=>HW.ltW b a=false)->R (ks.map wu) G) :
  ∃ kvs:List (HW.Wb×L3.D),G.dc d=some kvs/\(∀ x∈kvs,HW.Wf x.1)/\kvs.length<64/\∀ ks:List HW.Wb,ks.Perm (kvs.map (·.1))->ks.Pairwise (fun a b=>HW.ltW b a=false)->R (ks.map wu) G:=by
 obtain⟨kvs,e,ek⟩:=D.keys;have hl:=zSQ g bf hn;have kl:kvs.length=P.length:=by have:=congrArg List.length ek;simpa using this
 refine⟨kvs,e,fun x hx=>?_,by omega,fun ks p1 p2=>k ks (by rw[<-ek];exact p1) p2⟩;have:x.1∈kvs.map (·.1):=bF.mpr ⟨x,hx,rfl⟩;rw[ek] at this;obtain⟨p,u0,e⟩:=bF.mp this;exact⟨n,((yT n).filter p.1).map toI,e.symm⟩
theorem zIb{σ:S2}{G:Gp}{R:Q2}{n j:Nat}{q:Qs}(h:look σ j=some (zM n q))(hn:n<=4)
  (k:∀ G' P (ks:List HW.Wb) l,Sub G G'->Good n P->Bfs n [(q,[])] [q] P->G'.m l=none->ks.Perm (P.map fun p=>yj n p.1)->ks.Pairwise (fun a b=>HW.ltW b a=false)->R (.adr l) (zd G' l (ks.map wu))) :
  yA (zC1 (zA (zJ yD (zA (zD j) zI)) zI)) σ G R:=by
 unfold yA zC1 zA zI zJ;refine zu h ?_;exact⟨n,q,rfl,by omega,fun d G' P s b g D=>zKi (R:=fun ds G'=>∀ l,G'.m l=none->R (.adr l) (zd G' l ds)) hn g b D fun ks p1 p2 l hl=>k G' P ks l s g b hl p1 p2⟩
noncomputable def yE:List D->Gp->(List D->Gp->Prop)->Prop:=fun ds G R=>∃(n:Nat) (q:Qs),ds=[zM n q]/\n<=4/\∀ G' P (ks:List HW.Wb),Sub G G'->Good n P->Bfs n [(q,[])] [q] P->ks.Perm (P.map fun p=>yj n p.1)->ks.Pairwise (fun a b=>HW.ltW b a=false)->R (ks.map wu) G'
theorem zBP:∀ ds G R R',(∀ ls G',R ls G'->R' ls G')->yE ds G R->yE ds G R':=by
 rintro ds G R R' h ⟨n,q,e1,e2,k⟩;exact⟨n,q,e1,e2,fun G' P ks a b c d e=>h _ _ (k G' P ks a b c d e)⟩
noncomputable def zAM:yS:=(zT (wF (zJ yH (zA (zZ yg (zD 0) (xC (.int 0))) (zA (xC (.int 5)) zI)))) (zm (yA (zC1 (zA (zJ yD (zA (zD 0) zI)) zI)))))
theorem zGh(ds:List D)(G:Gp)(R:Q2)(h:spL yE ds G R):ds.length=1/\zAM (zg R) (zW ["web"] ds) G:=by
 obtain⟨n,q,rfl,hn,h⟩:=h;refine⟨rfl,?_⟩;unfold zAM;show zT _ _ _ [some (zM n q)] G;refine zOt (d:=.non) (zt (zF (zBN (zE rfl)) (zF (wL (d:=nD 5)) zP)) fun u0 u0 u0 hh=>⟨n,5,rfl,by omega,hh⟩) ?_;exact zIb (n:=n) (q:=q) (σ:=[some (zM n q)]) (j:=0) rfl hn fun G' P ks l s g b hl p1 p2=>FgR.of (h G' P ks s g b p1 p2 l hl)
theorem zIc{l l' m:List HW.Wb}(p:l.Perm m)(p':l'.Perm m)(s:l.Pairwise fun a b=>HW.ltW b a=false)(s':l'.Pairwise fun a b=>HW.ltW b a=false):l=l' :=
 dS.eq_of_pairwise (fun a b u0 u0 x y=>(HW.wz HW.zBw).tot _ _ y x) s s' (p.trans p'.symm)
theorem zJS{σ:S2}{G:Gp}{tl:TL2}{R:Q2}(h:tl σ G fun ds G1=>∀ l,G1.m l=none->R (.adr l) (zd G1 l ds)):yA tl σ G R:=h
theorem zQd{σ:S2}{G:Gp}{f:D->D->Gp->Q2->Prop}{ta tb:zj}{R:Q2}(h:ta σ G fun x G1=>tb σ G1 fun y G2=>f x y G2 R):zZ f ta tb σ G R:=h
theorem zDu{σ:S2}{G:Gp}{sp:List D->Gp->(List D->Gp->Prop)->Prop}{t:yh}{R:List D->Gp->Prop}(h:t σ G fun ds G1=>sp ds G1 R):zy sp t σ G R:=h
theorem zDQ{σ:S2}{G:Gp}{ta:zj}{tr:yh}{R:List D->Gp->Prop}(h:ta σ G fun d G1=>tr σ G1 fun xs G2=>R (d::xs) G2):zA ta tr σ G R:=h
theorem zQe{σ:S2}{G:Gp}{t u:zj}{i j:Nat}(h:zi t σ G (nD i))(h':zi u σ G (nD j)):PuT (xB (zZ (fEq true) t u)) σ G (!decide (i=j)):=zAQ (zHA h h' rfl rfl (by rw[if_pos rfl,zBI]))
noncomputable def zAA:wV:=fun ds G R=>∃(n m:Nat) (q q':Qs),ds=[zM n q,zM m q']/\((n≠m/\R .non G)\/(n=m/\n<=5/\∀ P,Bfs n [(q,[])] [q] P->Good n P->(wM n P q'=none->∀ G',Sub G G'->R .non G')/\∀ p,wM n P q'=some p->∀ l G',Sub G G'->G.m l=none->G'.m l=some (p.2.map nD)->R (.adr l) G'))
theorem zMh{σ:S2}{G:Gp}{R:Q2}{n a b:Nat}{P:Pw}{d:Addr}{q:Qs}{X:Addr->Prop}(D:Dw n P G d X)(ha:look σ a=some (.adr d))(hb:look σ b=some (zM n q))
  (k1:wM n P q=none->R .non G) (k2:∀ p l,wM n P q=some p->¬ X l->G.m l=some (p.2.map nD)->R (.adr l) G):zHU (zD a) (zA (zD b) zI) σ G R:=by
 obtain⟨kvs,e,pr⟩:=D;unfold zHU;refine zu ha ?_;refine⟨⟨kvs,e⟩,?_⟩;refine zu hb ?_;refine⟨yj n q,kvs,by rw[<-kyD],e,?_⟩;rcases zC3 pr q with ⟨y1,y2⟩ | ⟨z,p,y1,y2,y3,l,y4,y5,y6⟩
 ·rw[y1];exact k1 y2
 ·rw[y1]
  show R z.2 G;rw[y4];exact k2 p l y2 y5 y6
noncomputable def zBL:yS:=(zT (xIf (xB (zZ (fEq true) (zZ yg (zD 0) (xC (.int 0))) (zZ yg (zD 1) (xC (.int 0))))) (zm (xC .non)) zx) (zT (wF (zJ yH (zA (zZ yg (zD 0) (xC (.int 0))) (zA (xC (.int 5)) zI)))) (zm (zHU (zJ yD (zA (zD 0) zI)) (zA (zD 1) zI)))))
theorem zId(ds:List D)(G:Gp)(R:Q2)(h:zAA ds G R):ds.length=2/\zBL (zg R) (zW ["one","other"] ds) G:=by
 obtain⟨n,m,q,q',rfl,h⟩:=h;refine⟨rfl,?_⟩;unfold zBL;show zT _ _ _ [some (zM n q),some (zM m q')] G;have c:=zQe (σ:=[some (zM n q),some (zM m q')]) (G:=G) (zBN (zE (i:=0) rfl)) (zBN (zE (i:=1) rfl));rcases h with ⟨ne,h⟩ | ⟨rfl,hn,h⟩
 ·rw[decide_eq_false ne] at c
  exact zEj (zGA c (zFj (d:=.non) wL (FgR.of h)))
 ·rw[decide_eq_true rfl] at c
  refine zEj (zFS c ?_);unfold zx;dsimp only;refine zOt (d:=.non) (zt (zF (zBN (q:=q) (zE (i:=0) rfl)) (zF (wL (d:=nD 5)) zP)) fun u0 u0 u0 hh=>⟨n,5,rfl,hn,hh⟩) ?_;unfold zm zHU zJ zA zI;refine zu (show look [some (zM n q),some (zM n q')] 0=some (zM n q) from rfl) ?_;refine⟨n,q,rfl,hn,fun d G' P s b g D=>?_⟩;obtain⟨h1,h2⟩:=h P b g;exact zMh (σ:=[some (zM n q),some (.adr d),some (zM n q')]) (a:=1) (b:=2) (R:=FgR R) D rfl rfl (fun z=>FgR.of (h1 z G' s)) fun p l z nx y=>FgR.of (h2 p z l G' s (by
   cases w:G.m l with
   | none=>rfl
   | some o=>exact absurd ⟨o,w⟩ nx) y)
theorem zRm{od:List Nat}{x:Nat}(h:x∈od):zBZ (od.map nD) (nD x) 0 (od.idxOf x):=by
 have hl:od.idxOf x<od.length:=ff.mpr h;refine⟨cg _,⟨nD x,?_,by rw[zBI];simp⟩,fun m z u0 hm hz=>?_⟩
 ·rw[cb,cw hl,List.getElem_idxOf hl];rfl
 ·rw[cb,cw (by omega)] at hz
  cases hz;rw[zBI];have:od[m]'(by omega)≠x:=fun e=>by
   have:=List.not_of_lt_findIdx (p:=fun y=>y==x) (xs:=od) hm;simp at this;exact this e
  simpa using this
theorem zRn{od:List Nat}{x:Nat}(h:x∈od):od.getD (od.idxOf x) 0=x:=by
 have hl:od.idxOf x<od.length:=ff.mpr h;simp[cO,hl]
theorem zGi{σ:S2}{G:Gp}{t u:zj}{x y:D}(h:zi t σ G x)(h':zi u σ G y)(hx:flat 8 x=true)(e:x=y):zi (zZ (fEq false) t u) σ G (.bl true):=by
 subst e;exact zHA h h' hx hx (by simpa using zBV x 8 hx)
theorem zEk{σ:S2}{G:Gp}{t u:zj}{x y:D}(h:zi t σ G x)(h':zi u σ G y)(hx:flat 8 x=true)(e:x=y):zi (zZ (fEq true) t u) σ G (.bl false):=by
 subst e;exact zHA h h' hx hx (by simpa using zBV x 8 hx)
noncomputable def zA2:wV:=fun ds G R=>∃(n:Nat) (q:Nat×Nat->Bool) (i j:Nat),ds=[zM n q,nD i,nD j]/\i<n/\j<n/\n<=9/\R (.bl true) G
noncomputable def zDv:yS:=(zT (zk (zJ zN (zA (zJ zN (zA (zD 0) (zA (zD 1) zI))) (zA (zD 2) zI))) (gN 3)) (zT (xIf (ww (xB (zJ yf (zA (zD 0) (zA (zD 1) (zA (zD 2) zI)))))) (zm (zZ (fEq false) (zJ zN (zA (zJ zN (zA (zD 0) (zA (zD 2) zI))) (zA (zD 1) zI))) (zD 3))) zx) (zT (zk (zJ yk (zA (zD 0) (zA (zD 1) (zA (zD 2) zI)))) (gN 4)) (zm (zPe (zZ (fEq false) (zJ yk (zA (zD 0) (zA (zD 2) (zA (zD 1) zI)))) (zD 4)) (zZ (fEq false) (zJ yk (zA (zD 4) (zA (zD 1) (zA (zD 2) zI)))) (zD 0)))))))
theorem zMi{σ:S2}{G:Gp}{t u v:zj}{n:Nat}{q:Nat×Nat->Bool}{i j:Nat}(h:zi t σ G (zM n q))(h1:zi u σ G (nD i))(h2:zi v σ G (nD j))(hi:i<n)(hj:j<n)(hn:n<=9)(ha:adj q i j=true):zi (zJ yk (zA t (zA u (zA v zI)))) σ G (zM n (tq (tq (tq q i) j) i)) :=
 zt (zF h (zF h1 (zF h2 zP))) fun u0 u0 u0 hh=>⟨n,q,i,j,rfl,hi,hj,hn,ha,hh⟩
theorem zOM(ds:List D)(G:Gp)(R:Q2)(h:zA2 ds G R):ds.length=3/\zDv (zg R) (zW ["web","one","other","both","swap"] ds) G:=by
 obtain⟨n,q,i,j,rfl,hi,hj,hn,h⟩:=h;refine⟨rfl,?_⟩;unfold zDv;refine wB (d:=zM n (tq (tq q i) j)) (zAH (zAH (zE (i:=0) rfl) (zE (i:=1) rfl) hi hn) (zE (i:=2) rfl) hj hn) ?_;show zT _ _ _ [some (zM n q),some (nD i),some (nD j),some (zM n (tq (tq q i) j)),none] G;cases ha:adj q i j with
 | false =>
  refine zEj (zGA (zBo (b:=false) (zAQ (by rw[<-ha];exact zGg (zE (i:=0) rfl) (zE (i:=1) rfl) (zE (i:=2) rfl) hi hj))) ?_);exact zFj (zGi (zAH (zAH (zE (i:=0) (d:=zM n q) rfl) (zE (i:=2) rfl) hj hn) (zE (i:=1) rfl) hi hn) (zE (i:=3) rfl) yP (zMa n ha).symm) (FgR.of h)
 | true =>
  refine zBt (zBo (b:=true) (zAQ (by rw[<-ha];exact zGg (zE (i:=0) rfl) (zE (i:=1) rfl) (zE (i:=2) rfl) hi hj))) ?_;refine wB (d:=zM n (tq (tq (tq q i) j) i)) (zMi (zE (i:=0) rfl) (zE (i:=1) rfl) (zE (i:=2) rfl) hi hj hn ha) ?_;show zm _ _ [some (zM n q),some (nD i),some (nD j),some (zM n (tq (tq q i) j)),some (zM n (tq (tq (tq q i) j) i))] G;have ha':adj q j i=true:=by rw[zAz];exact ha
  exact zFj (zN9 (a:=true) (b:=true) (zGi (zMi (zE (i:=0) (d:=zM n q) rfl) (zE (i:=2) rfl) (zE (i:=1) rfl) hj hi hn ha') (zE (i:=4) rfl) yP (zQa n ha)) (zGi (zMi (zE (i:=4) (d:=zM n (tq (tq (tq q i) j) i)) rfl) (zE (i:=1) rfl) (zE (i:=2) rfl) hi hj hn (zKc ha)) (zE (i:=0) rfl) yP (zMb n ha))) (FgR.of h)
noncomputable def zAU:wV:=fun ds G R=>∃(n:Nat) (q:Nat×Nat->Bool) (od:List Nat) (p m:Nat),ds=[zM n q,.tup (od.map nD),nD p,nD m]/\od.Perm (bz n)/\p<n/\m<=n/\n<=9/\R (.bl true) G
noncomputable def zB0:yS:=(zT (zk (zJ zN (zA (zJ zAx (zA (zD 0) (zA (zD 1) zI))) (zA (xMt wH (zD 1) (zA (zD 2) zI)) zI))) (gN 4)) (zT (xIf (xB (zZ (fEq true) (zD 4) (zJ zAx (zA (zJ zN (zA (zD 0) (zA (zD 2) zI))) (zA (zD 1) zI))))) (zm (xC (.bl false))) zx) (zT (zk (zw yM (zQT (zA (zZ ym (zAj (zD 1) zA9 (zAR (zD 3))) (wU (zA (zD 2) zI))) zI))) (gN 5)) (zm (zZ (fEq false) (zJ wn (zA (zJ zN (zA (zD 0) (zA (zD 2) zI))) (zA (zD 5) zI))) (zJ zN (zA (zJ wn (zA (zD 0) (zA (zD 5) zI))) (zA (xMt wH (zD 5) (zA (zD 2) zI)) zI))))))))
theorem zC8{σ:S2}{G:Gp}{t u:zj}{n:Nat}{q:Nat×Nat->Bool}{ps:List Nat}(h:zi t σ G (zM n q))(h':zi u σ G (.tup (ps.map nD)))(hl:∀ x∈ps,x<n)(hn:ps.length<=100):zi (zJ wn (zA t (zA u zI))) σ G (zM ps.length (zAG q ps)) :=
 zt (zF h (zF h' zP)) fun u0 u0 u0 hh=>⟨n,q,ps,rfl,hl,hn,hh⟩
theorem zMj{σ:S2}{G:Gp}{t u:zj}{ps:List Nat}{p:Nat}(h:zi t σ G (.tup (ps.map nD)))(h':zi u σ G (nD p))(hp:p∈ps):zi (xMt wH t (zA u zI)) σ G (nD (ps.idxOf p)) :=
 zFW h (zF h' zP) fun u0 u0 u0 q=>⟨_,_,rfl,rfl,wQ _,zRm hp,q⟩
theorem zQf{ns:List Int}(h:∀ x∈ns,0<=x):ns.map D.int=(ns.map Int.toNat).map nD:=by
 rw[dD];refine cZ fun x hx=>?_;show D.int x=D.int ((x.toNat:Nat):Int);rw[Int.toNat_of_nonneg (h x hx)]
theorem zKj(ds:List D)(G:Gp)(R:Q2)(h:zAU ds G R):ds.length=4/\zB0 (zg R) (zW ["web","order","place","many","there","some"] ds) G:=by
 obtain⟨n,q,od,p,m,rfl,hod,hp,hm,hn,h⟩:=h;refine⟨rfl,?_⟩;unfold zB0;have ol:od.length=n:=by rw[hod.length_eq,ck]
 have om:∀ x∈od,x<n:=fun x hx=>bV.mp (hod.mem_iff.mp hx);have nd:od.Nodup:=hod.nodup_iff.mpr eA;have po:p∈od:=hod.mem_iff.mpr (bV.mpr hp);have pl:od.idxOf p<od.length:=ff.mpr po;have keq:=zHa (q:=q) nd pl;rw[zRn po] at keq;refine wB (d:=zM od.length (tq (zAG q od) (od.idxOf p))) (zAH (zC8 (zE (i:=0) rfl) (zE (i:=1) rfl) om (by omega)) (zMj (zE (i:=1) rfl) (zE (i:=2) rfl) po) pl (by omega)) ?_;show zT _ _ _ [some (zM n q),some (.tup (od.map nD)),some (nD p),some (nD m),some (zM od.length (tq (zAG q od) (od.idxOf p))),none] G;refine zBt (zAQ (zEk (zE (i:=4) rfl) (zC8 (q:=tq q p) (zAH (zE (i:=0) (d:=zM n q) rfl) (zE (i:=2) rfl) hp hn) (zE (i:=1) rfl) om (by omega)) yP keq)) ?_;refine yy ?_;have av:PuA (zA (zZ ym (zAj (zD 1) zA9 (zAR (zD 3))) (wU (zA (zD 2) zI))) zI) [some (zM n q),some (.tup (od.map nD)),some (nD p),some (nD m),some (zM od.length (tq (zAG q od) (od.idxOf p))),none] G [.tup ((od.take m++[p]).map nD)]:=by
  have c1:=zOm (σ:=[some (zM n q),some (.tup (od.map nD)),some (nD p),some (nD m),some (zM od.length (tq (zAG q od) (od.idxOf p))),none]) (G:=G) (zE (i:=1) (d:=.tup (od.map nD)) rfl) (zE (i:=3) (d:=nD m) rfl) (by rw[bA];omega);have c2:=zIJ c1 (zED (zF (zE (i:=2) (d:=nD p) rfl) zP) (by simp)) (by simp;omega);rw[<-List.map_take] at c2;have e:(od.take m).map nD++[nD p]=(od.take m++[p]).map nD:=by simp
  rw[e] at c2;exact zF c2 zP
 unfold zw zQT;refine av G (.refl G) _ ?_;refine⟨(od.take m++[p]).map fun(x:Nat)=>(x:Int),by rw[dD];rfl,by rw[bA,bR,cT];simp;omega,fun ns' nd' mem' srt=>?_⟩;have nn:∀ x∈ns',0<=x:=fun x hx=>by
  obtain⟨y,u0,rfl⟩:=bF.mp ((mem' x).mp hx);omega
 have hps:∀ y,y∈ns'.map Int.toNat↔y∈od.take m++[p]:=fun y=>by
  constructor
  ·intro hy
   obtain⟨x,hx,rfl⟩:=bF.mp hy;obtain⟨z,hz,rfl⟩:=bF.mp ((mem' x).mp hx);simpa using hz
  ·intro hy
   exact bF.mpr ⟨(y:Int),(mem' _).mpr (bF.mpr ⟨y,hy,rfl⟩),by simp⟩
 have ndp:(ns'.map Int.toNat).Nodup:=by
  refine dA.map _ (S:=fun a b=>a≠b) (fun a b hab e=>?_) (dA.imp_of_mem (S:=fun a b=>a≠b/\0<=a/\0<=b) (fun ha hb hab=>⟨hab,nn _ ha,nn _ hb⟩) nd');omega
 rw[zQf nn];generalize ns'.map Int.toNat=ps at hps ndp;have pp:p∈ps:=(hps p).mpr (by simp);have pm:∀ x∈ps,x<n:=fun x hx=>by
  rcases cu.mp ((hps x).mp hx) with z | z
  ·exact om x (List.mem_of_mem_take z)
  ·rw[bG.mp z];exact hp
 have plen:ps.length<=n:=by
  have e:=((eT ndp (eA.filter fun x=>decide (x∈ps))).mpr fun x=>⟨fun hx=>cF.mpr ⟨bV.mpr (pm x hx),decide_eq_true hx⟩,fun hx=>of_decide_eq_true (cF.mp hx).2⟩).length_eq;have:=e7 (fun x=>decide (x∈ps)) (bz n);rw[ck] at this;omega
 have pl2:ps.idxOf p<ps.length:=ff.mpr pp;have keq2:=zHa (q:=q) ndp pl2;rw[zRn pp] at keq2;show zm _ _ [some (zM n q),some (.tup (od.map nD)),some (nD p),some (nD m),some (zM od.length (tq (zAG q od) (od.idxOf p))),some (.tup (ps.map nD))] G;exact zFj (zGi (zC8 (q:=tq q p) (zAH (zE (i:=0) (d:=zM n q) rfl) (zE (i:=2) rfl) hp hn) (zE (i:=5) rfl) pm (by omega)) (zAH (zC8 (zE (i:=0) rfl) (zE (i:=5) rfl) pm (by omega)) (zMj (zE (i:=5) rfl) (zE (i:=2) rfl) pp) pl2 (by omega)) yP keq2.symm) (FgR.of h)
theorem zGj{n:Nat}{P:Pw}{ks:List HW.Wb}(p:ks.Perm (P.map fun p=>yj n p.1)){d:D}(h:d∈ks.map wu):∃ u∈P,d=zM n u.1:=by
 obtain⟨k,hk,rfl⟩:=bF.mp h;obtain⟨u,hu,rfl⟩:=bF.mp (p.mem_iff.mp hk);exact⟨u,hu,(kyD n u.1).symm⟩
theorem flat_keys{n:Nat}{P:Pw}{ks:List HW.Wb}(p:ks.Perm (P.map fun p=>yj n p.1)):∀ d∈ks.map wu,flat 8 d=true:=fun d hd=>by
 obtain⟨u,u0,rfl⟩:=zGj p hd;exact yP
theorem zMk{σ:S2}{G:Gp}{t:zj}{i:Int}(h:zi t σ G (.int i)):zi (zP9 t) σ G (.int (-i)):=fun G2 e R q=>h G2 e _ q
theorem zON{ds:List D}(h:ds≠[]):∃ d∈ds,atI ds (-1)=some d:=by
 refine⟨ds[ds.length-1]'(by have:=List.length_pos_iff.mpr h;omega),cJ _,?_⟩;have:=List.length_pos_iff.mpr h;unfold atI ixN;rw[if_neg (by omega),if_pos (by omega)];show ds[((ds.length:Int)+-1).toNat]?=_;rw[show((ds.length:Int)+-1).toNat=ds.length-1 by omega,cw]
noncomputable def zBh:wV:=fun ds G R=>∃(n:Nat) (q:Qs),ds=[zM n q]/\n<=4/\∀ G',L3.Sub G G'->R (.bl true) G'
noncomputable def zDw:yS:=(zT (zk (yA (zy yE (zA (zD 0) zI))) (gN 1)) (zT (xIf (zBU (xB (zZ (fIn true) (zD 0) (zD 1))) (xB (zZ (fEq true) (yA (zy yE (zA (zZ yg (zD 1) (zP9 (xC (.int 1)))) zI))) (zD 1)))) (zm (xC (.bl false))) zx) (zT (wG (iF (zGI (zD 1) (zAR (xC (.int 1))) (zAR (xC (.int 4))))) (gN 2) (zT (zk (zD 0) (gN 3)) (zT (wG (iV (zJ zAA (zA (zD 0) (zA (zD 2) zI)))) (gN 4) (zk (zJ zN (zA (zD 3) (zA (zD 4) zI))) (gN 3))) (xIf (xB (zZ (fEq true) (zD 3) (zD 2))) (zm (xC (.bl false))) zx)))) (zm (xC (.bl true))))))
theorem zOO(ds:List D)(G:Gp)(R:Q2)(h:zBh ds G R):ds.length=1/\zDw (zg R) (zW ["web","some","other","here","place"] ds) G:=by
 obtain⟨n,q,rfl,hn,h⟩:=h;refine⟨rfl,?_⟩;unfold zDw;show zT _ _ _ [some (zM n q),none,none,none,none] G;refine yy (zJS (zDu (zBd (zE (i:=0) (d:=zM n q) rfl) (zCG ⟨n,q,rfl,hn,fun G1 P ks s1 g1 b1 p1 p2 l1 hl1=>?_⟩))));simp only[gN,bq,bp];have o:=Orb.bfs b1 (zHX n q) (zBx q);have s2:L3.Sub G (zd G1 l1 (ks.map wu)):=s1.trans (.new hl1);have ls:Ls (zd G1 l1 (ks.map wu)) l1 (ks.map wu):=.own;generalize zd G1 l1 (ks.map wu)=G2 at s2 ls;have win:zM n q∈ks.map wu:=by
  obtain⟨u,hu,e⟩:=zAm.mp o.st;rw[kyD];exact bF.mpr ⟨yj n q,p1.mem_iff.mpr (bF.mpr ⟨u,hu,e⟩),rfl⟩
 have c1:zi (zZ (fIn true) (zD 0) (zD 1)) [some (zM n q),some (.adr l1),none,none,none] G2 (.bl false):=yx (zE (i:=0) (d:=zM n q) rfl) (zE (i:=1) (d:=.adr l1) rfl) fun G3 e R q1=>⟨ks.map wu,e.ls ls,yP,flat_keys p1,by
  rw[if_pos rfl,show((ks.map wu).any fun z=>yz z (zM n q))=true from eD.mpr ⟨zM n q,win,zBV _ 8 yP⟩];exact q1⟩
 obtain⟨dl,hdl,hat⟩:=zON (List.ne_nil_of_mem win);obtain⟨u,hu,rfl⟩:=zGj p1 hdl;refine zEj ?_;unfold xIf zBU;refine zAQ c1 G2 (.refl _) _ ?_;rw[if_neg (by simp)];unfold xB;refine zQd (zJS (zDu (zBd (d:=zM n u.1) (yx (zE (i:=1) (d:=.adr l1) rfl) (zMk (wL (d:=.int 1))) fun G3 e R q1=>⟨ks.map wu,zM n u.1,e.ls ls,hat,q1⟩) (zCG ⟨n,u.1,rfl,hn,fun G3 P' ks' s3 g3 b3 p3 p4 l3 hl3=>?_⟩))));refine zu (show look [some (zM n q),some (.adr l1),none,none,none] 1=some (.adr l1) from rfl) ?_;obtain rfl:=zIc (p3.trans (zMd b1 g1 hu b3 g3)) p1 p4 p2;have s4:L3.Sub G2 (zd G3 l3 (ks'.map wu)):=s3.trans (.new hl3);refine⟨ks'.map wu,ks'.map wu,.own,ls.sub s4,flat_keys p1,flat_keys p1,?_⟩;rw[if_pos rfl,eqDs_refl _ 8 (flat_keys p1)];show if false=true then _ else _;rw[if_neg (by simp)];unfold zx;dsimp only;have s5:=s2.trans s4;have ls5:=ls.sub s4;generalize zd G3 l3 (ks'.map wu)=G4 at s5 ls5;clear c1 s4 hat hdl hl1 s2 ls win
 -- the first few
 refine zJR (zGD (σ':=[some (zM n q),some (.adr l1),none,none,none]) (.refl _) (zSJ ?_));unfold zGI;refine zu (show look [some (zM n q),some (.adr l1),none,none,none] 1=some (.adr l1) from rfl) ?_;refine⟨ks'.map wu,ls5,fun a5 ha5=>zJ9 .own (fun x hx=>?_) ?_⟩
 rotate_left
 ·exact zFj (σ:=[some (zM n q),some (.adr l1),none,none,none]) (E:=zg R) (d:=.bl true) wL (FgR.of (h _ (s5.trans (.new ha5))))
 have hx':x∈ks'.map wu:=List.mem_of_mem_drop (List.mem_of_mem_take hx);obtain⟨v,hv,rfl⟩:=zGj p1 hx';generalize zd G4 a5 _=G5;simp only[gN,bq,bp];refine wB (d:=zM n q) (zE (i:=0) rfl) ?_;simp only[gN,bq,bp];refine zJR (zGD (σ':=[some (zM n q),some (.adr l1),some (zM n v.1),some (zM n q),none]) (.refl _) ?_);unfold iV;refine zBc (ds:=[zM n q,zM n v.1]) (zF (zE (i:=0) rfl) (zF (zE (i:=2) rfl) zP)) ⟨n,n,q,v.1,rfl,.inr ⟨rfl,by omega,fun P2 b2 g2=>?_⟩⟩;obtain rfl:=b1.det b2;refine⟨fun z=>absurd rfl (zHV z v hv),fun p hp l G6 s6 u0 hl=>?_⟩;obtain⟨y1,y2⟩:=zHc hp;obtain⟨y3,y4⟩:=o.path p y1;refine⟨p.2.map nD,.inl hl,?_⟩;refine⟨fun i σ' G'=>σ'=[some (zM n q),some (.adr l1),some (zM n v.1),some (zM n (zBR q (p.2.take i))),none]/\G'=G6,⟨rfl,rfl⟩,?_,?_,?_⟩
 ·rintro i σ' G' u0 ⟨u0,rfl⟩
  exact .inl hl
 ·rintro i x σ' G' hx ⟨rfl,rfl⟩
  rw[cb] at hx;obtain⟨y,hy,rfl⟩:=Option.map_eq_some_iff.mp hx;simp only[gN,bq,bp];refine zAH (zE (i:=3) (d:=zM n (zBR q (p.2.take i))) rfl) (zE (i:=4) (d:=nD y) rfl) (y3 y (bM hy)) (by omega) G' (.refl _) _ ?_;simp only[gN,bq,bp];have e:zBR q (p.2.take (i+1))=tq (zBR q (p.2.take i)) y:=by
   unfold zBR;rw[yn hy,eQ];rfl
  refine⟨_,_,?_,.refl _,rfl,rfl⟩;rw[e];exact .keep (.keep (.keep (.keep (.skip .nil))))
 ·rintro σ' G' ⟨rfl,rfl⟩
  have e:zM n (zBR q (p.2.take (p.2.map nD).length))=zM n v.1:=by
   rw[bA,et,kyD,kyD,<-y4,y2]
  refine zFS (σ:=[some (zM n q),some (.adr l1),some (zM n v.1),some (zM n (zBR q (p.2.take (p.2.map nD).length))),none]) (zAQ (zEk (zE (i:=3) rfl) (zE (i:=2) rfl) yP e)) ?_;exact⟨.keep (.keep (.skip (.skip (.skip .nil)))),s6⟩
theorem wD.tell{n:Nat}{r:List Nat}(h:wD n r):zHe (zz r) (bz n) r:=by
 refine⟨fun x=>?_,fun i u0 j u0 hij=>?_⟩
 ·rw[h.count_eq,dR,List.count_range]
  by_cases c:x<n<;>simp[c]
 ·unfold adj
  rw[decide_eq_true hij,Bool.true_and];rcases cC i j with z | z
  ·rw[di (by omega),dY (by omega)]
  ·rw[Nat.min_eq_right z,Nat.max_eq_left z,zEi]
theorem zMl{n:Nat}{A B C:List Nat}{p:Nat}(hr:wD n (A++p::(B++p::C)))(hA:p∉A)(hB:p∉B)(hC:p∉C):zM n (zz (A++p::(B.reverse++p::C)))=zM n (tq (zz (A++p::(B++p::C))) p):=by
 have t:=hr.tell.turn hA hB hC;refine zEP fun u hu=>?_;obtain⟨h1,h2⟩:=wA.mp hu;have:=t.crs u.1 (bV.mpr (by omega)) u.2 (bV.mpr h2) (by omega);unfold zC7 adj at this;rw[di (by omega),dY (by omega),decide_eq_true (show u.1≠u.2 by omega),Bool.true_and] at this;exact this
theorem zEl{n:Nat}{A B C:List Nat}{p:Nat}(hr:wD n (A++p::(B++p::C))):wD n (A++p::(B.reverse++p::C)):=by
 refine dS.trans ?_ hr;refine dS.append_left _ (dS.cons _ (dS.append_right _ (List.reverse_perm B)))
theorem zHg{σ:S2}{G:Gp}{t:zj}{n:Nat}{r:List Nat}(h:zi t σ G (.tup (r.map nD)))(hr:wD n r)(hn:n<=9):zi (zJ wb (zA t zI)) σ G (zM n (zz r)) :=
 zt (zF h zP) fun u0 u0 u0 q=>⟨n,r,rfl,hr,by omega,q⟩
theorem zOu{σ:S2}{G:Gp}{t u:zj}{A B C:List Nat}{p:Nat}(h:zi t σ G (.tup ((A++p::(B++p::C)).map nD)))(h':zi u σ G (nD p))(hA:p∉A)(hB:p∉B)(hl:(A++p::(B++p::C)).length<=18):zi (zJ yG (zA t (zA u zI))) σ G (.tup ((A++p::(B.reverse++p::C)).map nD)) :=
 zt (zF h (zF h' zP)) fun u0 u0 u0 q=>⟨A,B,C,p,rfl,hA,hB,by omega,q⟩
theorem zQg{σ:S2}{G:Gp}{t:zj}{r:List Nat}{n:Nat}(h:zi t σ G (.tup (r.map nD)))(hl:r.length=2*n):zi (zZ (yu zGp fun i j=>.int (i / j)) (zJ yi (zA t zI)) (xC (.int 2))) σ G (nD n):=by
 have e:(((r.map nD).length:Nat):Int) / 2=(n:Int):=by rw[bA,hl];omega
 exact yx (zIH h) wL fun u0 u0 u0 q=>⟨⟨by decide,by decide⟩,by dsimp only;rw[e];exact q⟩
theorem zOP{i j:Nat}{t:yh}{u:yS}{E:yF}{σ:S2}{G:Gp}(h:t σ G fun ds G1=>match ds with | [d,e]=>u E ((σ.set i (some d)).set j (some e)) G1 | _=>False):zT (zP8 i j t) u E σ G:=h
theorem ifW{tc:TT2}{t v:yS}{E:yF}{σ:S2}{G:Gp}(h:tc σ G fun b G1=>if b=true then t { E with nx:=v E } σ G1 else v E σ G1):zT (xIf tc t zx) v E σ G:=h
theorem ifE{tc:TT2}{t:yS}{E:yF}{σ:S2}{G:Gp}(h:tc σ G fun b G1=>if b=true then t E σ G1 else E.nx σ G1):xIf tc t zx E σ G:=h
theorem zSR{t u:TT2}{R:Bool->Gp->Prop}{σ:S2}{G:Gp}(h:t σ G fun c G1=>if c=true then R true G1 else u σ G1 R):zBU t u σ G R:=h
theorem zRo{t u:TT2}{R:Bool->Gp->Prop}{σ:S2}{G:Gp}(h:t σ G fun c G1=>if c=true then u σ G1 R else R false G1):zAt t u σ G R:=h
theorem zOv{t:TT2}{R:Bool->Gp->Prop}{σ:S2}{G:Gp}(h:t σ G fun c G1=>R (!c) G1):ww t σ G R:=h
theorem bW{t:zj}{R:Bool->Gp->Prop}{σ:S2}{G:Gp}(h:t σ G fun d G1=>match d with | .bl b=>R b G1 | _=>False):xB t σ G R:=h
noncomputable def zJT:yS:=(zT (wG (iR1 (zA (zJ zAu (zA (xC (.int 1)) (zA (zJ zAa (zA (zJ yi (zA (zD 0) zI)) (zA (xC (.int 6)) zI))) zI))) zI)) (gN 1) (zT (zk (yA (zy yW (zA (zD 0) (zA (zD 1) zI)))) (gN 2)) (zT (zk (zJ wZ (zA (zD 2) (zA (zZ ym (xC (.int 1)) (zJ zc (zA (zD 2) (zA (xC (.int 9)) zI)))) zI))) (gN 3)) (zT (zk (zJ zc (zA (zD 2) (zA (zZ (yu zGp fun i j=>.int (i / j)) (zJ yi (zA (zD 3) zI)) (xC (.int 2))) zI))) (gN 4)) (zT (zk (zJ yG (zA (zD 3) (zA (zD 4) zI))) (gN 5)) (zT (xIf (zBU (xB (zZ (fEq true) (zJ wb (zA (zD 5) zI)) (zJ zN (zA (zJ wb (zA (zD 3) zI)) (zA (zD 4) zI))))) (xB (zZ (fEq true) (zJ yG (zA (zD 5) (zA (zD 4) zI))) (zD 3)))) (zm (xC (.bl false))) zx) (zT (zk (zJ zBb (zA (zD 2) (zA (zZ yg (yA (zAC (zA (xC (.int 9)) (zA (xC (.int 9)) (zA (xC (.int 5)) zI))))) (zJ zc (zA (zD 2) (zA (xC (.int 3)) zI)))) zI))) (gN 6)) (zT (zP8 7 8 (zA (zJ zc (zA (zD 2) (zA (zZ yg (zD 6) (xC (.int 0))) zI))) (zA (zJ zc (zA (zD 2) (zA (zZ yg (zD 6) (xC (.int 0))) zI))) zI))) (zT (xIf (zBU (xB (zZ (fEq true) (zJ zN (zA (zJ zN (zA (zD 6) (zA (zD 7) zI))) (zA (zD 7) zI))) (zD 6))) (xB (zZ (fEq true) (yA (zy wJ (zA (zJ zN (zA (zD 6) (zA (zD 7) zI))) zI))) (yA (zy wJ (zA (zD 6) zI)))))) (zm (xC (.bl false))) zx) (zT (xIf (zAt (xB (zZ (fEq true) (zD 7) (zD 8))) (ww (xB (zJ zA2 (zA (zD 6) (zA (zD 7) (zA (zD 8) zI))))))) (zm (xC (.bl false))) zx) (zT (xIf (ww (xB (zJ zAU (zA (zD 6) (zA (zJ wa (zA (zD 2) (zA (zZ yg (zD 6) (xC (.int 0))) zI))) (zA (zD 7) (zA (zZ ym (xC (.int 1)) (zJ zc (zA (zD 2) (zA (zZ yg (zD 6) (xC (.int 0))) zI)))) zI))))))) (zm (xC (.bl false))) zx) (xIf (zAt (xB (zZ (fII fun i j=>.bl (decide (i<j))) (zZ yg (zD 6) (xC (.int 0))) (xC (.int 5)))) (ww (xB (zJ zBh (zA (zD 6) zI))))) (zm (xC (.bl false))) zx)))))))))))) (zm (xC (.bl true))))
theorem zRp(ds:List D)(G:Gp)(R:Q2)(h:zFP ds G R):ds.length=1/\zJT (zg R) (zW ["script","k","state","ring","place","later","web","one","other"] ds) G:=by
 obtain⟨a,ns,rfl,ha,u0,u0,h⟩:=h;refine⟨rfl,?_⟩;unfold zJT;obtain⟨m,hm⟩:=zJ4 (σ:=zW ["script","k","state","ring","place","later","web","one","other"] [.adr a]) (G:=G) (a:=a) (ns:=ns) (c:=6) (by omega) rfl (.inr ha);refine zLT hm (fun x hx G1 e1=>?_) (fun G1 e1=>show FgR R (.bl true) G1 from⟨G,e1.sub,h⟩);obtain⟨k,u0,rfl⟩:=bF.mp hx;refine zJ6 (σ:=[some (.adr a),some (nD k),none,none,none,none,none,none,none]) (i:=0) (j:=1) (x:=2) (ns:=ns) rfl rfl (e1.ls (.inr ha)) fun l s b hl ok=>?_;have drS:∀ {G G':Gp},L3.Sub G1 G->Dr l G G'->L3.Sub G1 G':=fun {G G'} hs hd=>by
  obtain⟨s',b',rfl,u0⟩:=hd;exact hs.put hl
 have sb0:L3.Sub G1 (zd G1 l [.int s,.bl b]):=.new hl
 -- the ring
 refine yy (zIG (zBd (zE rfl) (zP1 (zRN wL (zBc (zF (zE rfl) (zF wL zP)) ?_)))));refine⟨l,9,rfl,⟨s,b,zL,ok⟩,by omega,by omega,fun r G2 hr d2=>?_⟩;have e0:(1:Int)+(r:Int)=((r+1:Nat):Int):=by omega
 simp only[ym];rw[e0];have hn1:1<=r+1:=by omega
 have hn:r+1<=9:=by omega
 generalize r+1=n at hn hn1;refine zCG ⟨l,n,rfl,d2.st,by omega,fun ring G3 hring d3=>?_⟩;simp only[gN,bq,bp];have sb3:L3.Sub G1 G3:=drS (drS sb0 d2) d3;have st3:=d3.st;clear d2 d3 sb0
 -- the place
 refine yy (zBc (sp:=zc) (ds:=[.adr l,nD n]) (zF (zE (i:=2) (d:=.adr l) rfl) (zF (zQg (zE (i:=3) rfl) hring.len) zP)) ⟨l,n,rfl,st3,by omega,by omega,fun p G4 hp d4=>?_⟩);simp only[gN,bq,bp];have sb4:L3.Sub G1 G4:=drS sb3 d4;have st4:=d4.st;clear d4 sb3 st3;obtain⟨A,B,C,rfl,hA,hB,hC⟩:=zLi (hring.count hp);have hz:(A++p::(B++p::C)).length<=18:=by rw[hring.len];omega
 refine wB (d:=.tup ((A++p::(B.reverse++p::C)).map nD)) (zOu (zE (i:=3) rfl) (zE (i:=4) rfl) hA hB hz) ?_;simp only[gN,bq,bp];have hz2:(A++p::(B.reverse++p::C)).length<=18:=by rw[(zEl hring).len];omega
 have hBr:p∉B.reverse:=fun z=>hB (List.mem_reverse.mp z);have back:=zOu (σ:=[some (.adr a),some (nD k),some (.adr l),some (.tup ((A++p::(B++p::C)).map nD)),some (nD p),some (.tup ((A++p::(B.reverse++p::C)).map nD)),none,none,none]) (G:=G4) (B:=B.reverse) (zE (i:=5) rfl) (zE (i:=4) rfl) hA hBr hz2;refine zBt (zP0 (zAQ (zEk (zHg (zE (i:=5) rfl) (zEl hring) hn) (zAH (zHg (zE (i:=3) rfl) hring hn) (zE (i:=4) rfl) hp hn) yP (zMl hring hA hB hC))) (zAQ (zEk back (zE (i:=3) rfl) (zFU _) (by rw[List.reverse_reverse])))) ?_;clear back hz2 hBr
 -- the web
 refine yy (zDQ (zE (i:=2) (d:=.adr l) rfl G4 (.refl _) _ (zDQ (zQd (zFT (ds:=[9,9,5].map nD) (fun G2 e R q=>zHD (zF wL (zF wL (zF wL zP)) G2 e _ ⟨by rw[sizeLine_eq];simp,q⟩)) fun c0 hc0=>zBc (zF (zE (i:=2) (d:=.adr l) rfl) (zF (wL (d:=.int 3)) zP)) ⟨l,3,rfl,st4.ext (.new hc0),by omega,by omega,fun t0 G5 ht0 d5=>?_⟩)))));have c0l:c0≠l:=st4.ne hc0;have m5:G5.m c0=some ([9,9,5].map nD):=by rw[d5.ne c0l];exact zL
 have sb5:L3.Sub G1 G5:=drS (sb4.trans (.new hc0)) d5;have hw0:∃ mo,atI ([9,9,5].map nD) (t0:Int)=some (nD mo)/\1<=mo/\mo<=9:=by
  match t0,ht0 with
  | 0,_=>exact⟨9,rfl,by omega,by omega⟩
  | 1,_=>exact⟨9,rfl,by omega,by omega⟩
  | 2,_=>exact⟨5,rfl,by omega,by omega⟩
 obtain⟨mo,hw0,mo1,mo9⟩:=hw0;refine wY m5 hw0 (zCG ⟨l,mo,rfl,d5.st,by omega,by omega,fun w q G6 hw1 hw2 d6=>?_⟩);simp only[gN,bq,bp];have sb6:L3.Sub G1 G6:=drS sb5 d6;have st6:=d6.st;have hw9:w<=9:=by omega
 clear m5 hw0 d5 d6 hc0 c0l sb4 st4 sb5 mo1
 -- two places
 refine zOP (zDQ (zBc (sp:=zc) (ds:=[.adr l,nD w]) (zF (zE (i:=2) (d:=.adr l) rfl) (zF (zBN (q:=q) (zE (i:=6) rfl)) zP)) ⟨l,w,rfl,st6,by omega,by omega,fun i G7 hi d7=>?_⟩));have sb7:L3.Sub G1 G7:=drS sb6 d7;have st7:=d7.st;refine zDQ (zBc (sp:=zc) (ds:=[.adr l,nD w]) (zF (zE (i:=2) (d:=.adr l) rfl) (zF (zBN (q:=q) (zE (i:=6) rfl)) zP)) ⟨l,w,rfl,st7,by omega,by omega,fun j G8 hj d8=>zCG ?_⟩);have sb8:L3.Sub G1 G8:=drS sb7 d8;have st8:=d8.st;clear d7 d8 sb6 st6 sb7 st7;dsimp only;simp only[bq,bp];generalize hσ:[some (D.adr a),some (nD k),some (D.adr l),some (D.tup ((A++p::(B++p::C)).map nD)),some (nD p),some (D.tup ((A++p::(B.reverse++p::C)).map nD)),some (zM w q),some (nD i),some (nD j)]=σ;have v2:∀ G,zi (zD 2) σ G (.adr l):=fun G=>zE (by rw[<-hσ];rfl);have v6:∀ G,zi (zD 6) σ G (zM w q):=fun G=>zE (by rw[<-hσ];rfl);have v7:∀ G,zi (zD 7) σ G (nD i):=fun G=>zE (by rw[<-hσ];rfl);have v8:∀ G,zi (zD 8) σ G (nD j):=fun G=>zE (by rw[<-hσ];rfl);have fg:∀ G',L3.Sub G1 G'->wS [some (D.adr a),none,none,none,none,none,none,none,none] σ/\L3.Sub G1 G':=fun G' s=>⟨by rw[<-hσ];exact .keep (.skip (.skip (.skip (.skip (.skip (.skip (.skip (.skip .nil)))))))),s⟩
 clear hσ
 -- turned twice;pieces
 refine ifW (zSR ?_);refine zAQ (zEk (zAH (zAH (v6 G8) (v7 G8) hi hw9) (v7 G8) hi hw9) (v6 G8) yP (zKb w q i)) G8 (.refl _) _ ?_;rw[if_neg (by simp)];refine bW (zQd (zJS (zDu (zBd (zAH (v6 G8) (v7 G8) hi hw9) (zCG ⟨w,tq q i,rfl,by omega,fun l1 hl1=>?_⟩)))));refine zJS (zDu (zBd (v6 _) (zCG ⟨w,q,rfl,by omega,fun l2 hl2=>?_⟩)));have n12:l1≠l2:=fun z=>by rw[<-z,zL] at hl2;cases hl2
 rw[zMc hi];have fp:∀ d∈(wR w q w).map tD,flat 8 d=true:=fun d hd=>by
  obtain⟨c,u0,rfl⟩:=bF.mp hd;exact zFU c
 refine⟨_,_,.inl (by rw[ze n12];exact zL),.own,fp,fp,?_⟩;rw[if_pos rfl,eqDs_refl _ 8 fp];show if false=true then _ else _;rw[if_neg (by simp)];rw[zMc hi] at hl2;have sx:L3.Sub G8 (zd (zd G8 l1 ((wR w q w).map tD)) l2 ((wR w q w).map tD)):=(Sub.new hl1).trans (.new hl2);have sb9:=sb8.trans sx;have st9:=st8.ext sx;generalize zd (zd G8 l1 ((wR w q w).map tD)) l2 ((wR w q w).map tD)=G9 at sb9 st9;clear sx st8 sb8 fp n12
 -- two
 have c2:PuT (ww (xB (zJ zA2 (zA (zD 6) (zA (zD 7) (zA (zD 8) zI)))))) σ G9 false:=zBo (b:=true) (zAQ (zt (zF (v6 G9) (zF (v7 G9) (zF (v8 G9) zP))) fun u0 u0 u0 z=>⟨w,q,i,j,rfl,hi,hj,hw9,z⟩));have c3:=zNR (zAQ (zHA (ng:=true) (v7 G9) (v8 G9) rfl rfl rfl)) fun u0=>c2;rw[Bool.and_false] at c3;refine zBt c3 ?_;clear c2 c3
 -- named
 refine ifW (zOv (bW ?_));refine zIG (zBd (v6 G9) (zDQ (zBc (sp:=wa) (ds:=[.adr l,nD w]) (zF (v2 G9) (zF (zBN (v6 G9)) zP)) ⟨l,w,rfl,st9,by omega,fun od G10 hod d10=>?_⟩)));have sb10:L3.Sub G1 G10:=drS sb9 d10;have st10:=d10.st;refine zBd (v7 G10) (zDQ (zRN wL (zBc (sp:=zc) (ds:=[.adr l,nD w]) (zF (v2 G10) (zF (zBN (v6 G10)) zP)) ⟨l,w,rfl,st10,by omega,by omega,fun u G11 hu d11=>?_⟩)));have sb11:L3.Sub G1 G11:=drS sb10 d11;have e5:(1:Int)+(u:Int)=((u+1:Nat):Int):=by omega
 simp only[ym];rw[e5];refine zCG ⟨w,q,od,i,u+1,rfl,hod,hi,by omega,hw9,?_⟩;show if (!true)=true then _ else _;rw[if_neg (by simp)];clear sb9 st9 d10 sb10 st10 d11
 -- few
 have c6:zi (zZ (fII fun i j=>.bl (decide (i<j))) (zZ yg (zD 6) (xC (.int 0))) (xC (.int 5))) σ G11 (.bl (decide ((w:Int)<5))):=zLO (g:=fun i j=>.bl (decide (i<j))) (zBN (v6 G11)) wL;refine ifE (zRo ?_);refine zAQ c6 G11 (.refl _) _ ?_;by_cases c:(w:Int)<5
 ·rw[decide_eq_true c,if_pos rfl]
  refine zOv (bW (zIG (zBd (v6 G11) (zCG ⟨w,q,rfl,by omega,fun G12 s12=>?_⟩))));show if (!true)=true then _ else _;rw[if_neg (by simp)];exact fg G12 (sb11.trans s12)
 ·rw[decide_eq_false c,if_neg (by simp)]
  show if false=true then _ else _;rw[if_neg (by simp)];exact fg G11 sb11
noncomputable def top(i:Nat):Stmt:=PySem.Challenge.pw_chordwebs_k36_whole_turns.main.body.getD i (.Pass ⟨0,0,0,0⟩)
noncomputable abbrev zB1:Stmt:=top 5
theorem zHh:zY ["many"] ["many"] (zG zB1):=⟨rfl,rfl,rfl,by decide +kernel,rfl,by decide +kernel,by decide +kernel⟩
noncomputable abbrev wf:Stmt:=top 6
theorem zDX:zY ["places","found","k","j"] ["places"] (zG wf):=⟨rfl,rfl,rfl,by decide +kernel,rfl,by decide +kernel,by decide +kernel⟩
noncomputable abbrev yc:Stmt:=top 7
theorem zBi:zY ["many","most"] ["many","most"] (zG yc):=⟨rfl,rfl,rfl,by decide +kernel,rfl,by decide +kernel,by decide +kernel⟩
noncomputable abbrev zDR:Stmt:=top 9
theorem zJU:zY ["web","one","other"] ["web","one","other"] (zG zDR):=⟨rfl,rfl,rfl,by decide +kernel,rfl,by decide +kernel,by decide +kernel⟩
noncomputable abbrev zAV:Stmt:=top 10
theorem zFk:zY ["web","place"] ["web","place"] (zG zAV):=⟨rfl,rfl,rfl,by decide +kernel,rfl,by decide +kernel,by decide +kernel⟩
noncomputable abbrev zCU:Stmt:=top 11
theorem zJV:zY ["web","places","many","ties"] ["web","places"] (zG zCU):=⟨rfl,rfl,rfl,by decide +kernel,rfl,by decide +kernel,by decide +kernel⟩
noncomputable abbrev zB2:Stmt:=top 12
theorem zHi:zY ["web","order"] ["web","order"] (zG zB2):=⟨rfl,rfl,rfl,by decide +kernel,rfl,by decide +kernel,by decide +kernel⟩
noncomputable abbrev zAW:Stmt:=top 13
theorem zFl:zY ["web","found","place"] ["web"] (zG zAW):=⟨rfl,rfl,rfl,by decide +kernel,rfl,by decide +kernel,by decide +kernel⟩
noncomputable abbrev wg:Stmt:=top 14
theorem zDY:zY ["web","place","reached","done","other"] ["web","place"] (zG wg):=⟨rfl,rfl,rfl,by decide +kernel,rfl,by decide +kernel,by decide +kernel⟩
noncomputable abbrev yp:Stmt:=top 17
theorem zCJ:zY ["web","place","near"] ["web","place"] (zG yp):=⟨rfl,rfl,rfl,by decide +kernel,rfl,by decide +kernel,by decide +kernel⟩
noncomputable abbrev yd:Stmt:=top 18
theorem zBj:zY ["ring","place","first","second"] ["ring","place"] (zG yd):=⟨rfl,rfl,rfl,by decide +kernel,rfl,by decide +kernel,by decide +kernel⟩
noncomputable abbrev zAN:Stmt:=top 19
theorem zEm:zY ["web","one","other"] ["web","one","other"] (zG zAN):=⟨rfl,rfl,rfl,by decide +kernel,rfl,by decide +kernel,by decide +kernel⟩
noncomputable abbrev yq:Stmt:=top 20
theorem zCK:zY ["web"] ["web"] (zG yq):=⟨rfl,rfl,rfl,by decide +kernel,rfl,by decide +kernel,by decide +kernel⟩
noncomputable abbrev wj:Stmt:=top 21
theorem zDZ:zY ["one","other"] ["one","other"] (zG wj):=⟨rfl,rfl,rfl,by decide +kernel,rfl,by decide +kernel,by decide +kernel⟩
noncomputable abbrev yr:Stmt:=top 22
theorem zCL:zY ["web","lists","edge"] ["web"] (zG yr):=⟨rfl,rfl,rfl,by decide +kernel,rfl,by decide +kernel,by decide +kernel⟩
noncomputable abbrev zA3:Stmt:=top 23
theorem zFm:zY ["lists","edge","farther","web","place","turned"] ["lists","edge"] (zG zA3):=⟨rfl,rfl,rfl,by decide +kernel,rfl,by decide +kernel,by decide +kernel⟩
noncomputable abbrev zB3:Stmt:=top 25
theorem zHj:zY ["ring","one","other","first","second"] ["ring","one","other"] (zG zB3):=⟨rfl,rfl,rfl,by decide +kernel,rfl,by decide +kernel,by decide +kernel⟩
noncomputable abbrev zAX:Stmt:=top 26
theorem zFn:zY ["ring","many"] ["ring"] (zG zAX):=⟨rfl,rfl,rfl,by decide +kernel,rfl,by decide +kernel,by decide +kernel⟩
noncomputable abbrev wK:Stmt:=top 28
theorem zC9:zY ["script","k"] ["script","k"] (zG wK):=⟨rfl,rfl,rfl,by decide +kernel,rfl,by decide +kernel,by decide +kernel⟩
noncomputable abbrev zAO:Stmt:=top 29
theorem zEn:zY ["script","k","cell"] ["script","k"] (zG zAO):=⟨rfl,rfl,rfl,by decide +kernel,rfl,by decide +kernel,by decide +kernel⟩
noncomputable abbrev zA4:Stmt:=top 30
theorem zFo:zY ["state","many","found","mixed"] ["state","many"] (zG zA4):=⟨rfl,rfl,rfl,by decide +kernel,rfl,by decide +kernel,by decide +kernel⟩
noncomputable abbrev wk:Stmt:=top 31
theorem zEo:zY ["many","found","one"] ["many"] (zG wk):=⟨rfl,rfl,rfl,by decide +kernel,rfl,by decide +kernel,by decide +kernel⟩
noncomputable abbrev zAg:Stmt:=top 32
theorem zHk:zY ["state","most","many","way","pairs_v","far"] ["state","most"] (zG zAg):=⟨rfl,rfl,rfl,by decide +kernel,rfl,by decide +kernel,by decide +kernel⟩
noncomputable abbrev zAY:Stmt:=top 33
theorem zFp:zY ["state","many","left"] ["state","many"] (zG zAY):=⟨rfl,rfl,rfl,by decide +kernel,rfl,by decide +kernel,by decide +kernel⟩
noncomputable abbrev wE:Stmt:=top 34
theorem zDa:zY ["ring","many","found","one","other","some"] ["ring"] (zG wE):=⟨rfl,rfl,rfl,by decide +kernel,rfl,by decide +kernel,by decide +kernel⟩
noncomputable abbrev wm:Stmt:=top 35
theorem zEp:zY ["state","many","left"] ["state","many"] (zG wm):=⟨rfl,rfl,rfl,by decide +kernel,rfl,by decide +kernel,by decide +kernel⟩
noncomputable abbrev zB4:Stmt:=top 36
theorem zHl:zY ["web","one","other","both","swap"] ["web","one","other"] (zG zB4):=⟨rfl,rfl,rfl,by decide +kernel,rfl,by decide +kernel,by decide +kernel⟩
noncomputable abbrev zAP:Stmt:=top 37
theorem zEq:zY ["web","order","place","many","there","some"] ["web","order","place","many"] (zG zAP):=⟨rfl,rfl,rfl,by decide +kernel,rfl,by decide +kernel,by decide +kernel⟩
noncomputable abbrev zB5:Stmt:=top 38
theorem zHm:zY ["web","some","other","here","place"] ["web"] (zG zB5):=⟨rfl,rfl,rfl,by decide +kernel,rfl,by decide +kernel,by decide +kernel⟩
noncomputable abbrev zDA:Stmt:=top 39
theorem zMm:zY ["script","k","state","ring","place","later","web","one","other"] ["script"] (zG zDA):=⟨rfl,rfl,rfl,by decide +kernel,rfl,by decide +kernel,by decide +kernel⟩
section
variable {P:Program} {w:World} {K:PySem.W.Frag} {mg:Str->Option Value} {base:Heap}
theorem zMn{f:Addr}{fd:FuncData}(F:Fun K "pairs" "pairs" zB1 f fd)(hm:mg "pairs"=some (.ref f))(ab:mg "tuple"=none)(ad:mg "range"=none)   (am:Df P w K mg base 1 "pairs_of" ["places"] (spL yC)):Df P w K mg base 2 "pairs" ["many"] (spL yZ):=by
 have nd:=(zHh).nd;refine zr zDm F zHh hm (F.binds fun u0 u0 u0 u0 u0 u0 us hl=>us1 us hl fun u0=>rfl) (fun cdv A outer s H E hr=>?_) zNd;unfold zDm;exact(zR (zh (yN (zAD am zCE hr (by decide) rfl (zB (zPt rfl rfl ab rfl ad (zB (zC 0) zH)) zH)))))
theorem zHn{f:Addr}{fd:FuncData}(F:Fun K "pairs_of" "pairs_of" wf f fd)(hm:mg "pairs_of"=some (.ref f))(ad:mg "range"=none)(af:mg "len"=none)   :Df P w K mg base 1 "pairs_of" ["places"] (spL yC):=by
 have nd:=(zDX).nd;refine zr zBG F zDX hm (F.binds fun u0 u0 u0 u0 u0 u0 us hl=>us1 us hl fun u0=>rfl) (fun cdv A outer s H E hr=>?_) zIC;unfold zBG;exact(zK (zo 1 nd (yN (zAs zH))) (zK (zAS PassesOwn.never rfl (wv rfl ad (zB (zBW rfl af (zB (zC 0) zH)) zH)) (zAi 2 nd) (zR (zAS PassesOwn.never rfl (zGy rfl ad (zB (wx (zC 2) zQ) (zB (zBW rfl af (zB (zC 0) zH)) zH))) (zAi 3 nd) (zR (zBT (zBY (zC 1) (zB (zBM (zB (yO (zC 0) (zC 2)) (zB (yO (zC 0) (zC 3)) zH))) zH))))))) (zR (zh (zC 1)))))
theorem zEr{f:Addr}{fd:FuncData}(F:Fun K "refuse_more" "refuse_more" yc f fd)(hm:mg "refuse_more"=some (.ref f))    :Df P w K mg base 1 "refuse_more" ["many","most"] yH:=by
 have nd:=(zBi).nd;refine zr wt F zBi hm (F.binds fun u0 u0 u0 u0 u0 u0 us hl=>us2 us hl fun u0 u0=>rfl) (fun cdv A outer s H E hr=>?_) zE2;unfold wt;exact(zR (zAh (zSE (zC 0) (zC 1)) (zR zRg) yL))
theorem zOQ{f:Addr}{fd:FuncData}(F:Fun K "tied" "tied" zDR f fd)(hm:mg "tied"=some (.ref f))(aS:mg "min"=none)(aT:mg "max"=none)   :Df P w K mg base 1 "tied" ["web","one","other"] yf:=by
 have nd:=(zJU).nd;refine zr zF6 F zJU hm (F.binds fun u0 u0 u0 u0 u0 u0 us hl=>us3 us hl fun u0 u0 u0=>rfl) (fun cdv A outer s H E hr=>?_) zPy;unfold zF6;exact(zR (zh (zRF hr (zBM (zB (zOa rfl rfl aS (zB (zC 1) (zB (zC 2) zH))) (zB (zOb rfl rfl aT (zB (zC 1) (zB (zC 2) zH))) zH))) (yO (zC 0) zQ))))
theorem zKk{f:Addr}{fd:FuncData}(F:Fun K "around" "around" zAV f fd)(hm:mg "around"=some (.ref f))(ab:mg "tuple"=none)(ad:mg "range"=none)   (aq:Df P w K mg base 1 "tied" ["web","one","other"] yf):Df P w K mg base 2 "around" ["web","place"] wX:=by
 have nd:=(zFk).nd;refine zr zCl F zFk hm (F.binds fun u0 u0 u0 u0 u0 u0 us hl=>us2 us hl fun u0 u0=>rfl) (fun cdv A outer s H E hr=>?_) zLa;unfold zCl;exact(zR (zh (zA8 rfl ab (zG0 "other" rfl (yw (osc:=zG zAV) (N:=["web","place"]) (N0:=["web","place"]) (own:=["other"]) (by decide +kernel)) (wv rfl ad (zB (yO (zC 0) zQ) zH)) (fun u0 u0 u0 u0 u0=>(zDG (zCB (zS aq hr (by decide) rfl (zB (zC 0) (zB (zC 1) (zB (zC 2) zH))))))) (fun u0 u0 u0 u0 u0=>(zC 2))))))
theorem zOR{f:Addr}{fd:FuncData}(F:Fun K "kept" "kept" zCU f fd)(hm:mg "kept"=some (.ref f))(af:mg "len"=none)(ab:mg "tuple"=none)   (aC:Df P w K mg base 2 "pairs" ["many"] (spL yZ))(aq:Df P w K mg base 1 "tied" ["web","one","other"] yf):Df P w K mg base 3 "kept" ["web","places"] wn:=by
 have nd:=(zJV).nd;refine zr zGC F zJV hm (F.binds fun u0 u0 u0 u0 u0 u0 us hl=>us2 us hl fun u0 u0=>rfl) (fun cdv A outer s H E hr=>?_) zP3;unfold zGC;exact(zK (zo 2 nd (zBW rfl af (zB (zC 1) zH))) (zK (zIw 3 "pair" rfl (yw (osc:=zG zCU) (N:=["web","places","many","ties"]) (N0:=["web","places","!02","!03"]) (own:=["pair"]) (by decide +kernel)) (zIr (zAD aC zCN hr (by decide) rfl (zB (zC 2) zH))) (fun u0 u0 u0 u0 u0=>(zDG (zCB (zS aq hr (by decide) rfl (zB (zC 0) (zB (yO (zC 1) (yO (zC 4) zQ)) (zB (yO (zC 1) (yO (zC 4) zQ)) zH))))))) (fun u0 u0 u0 u0 u0=>(zC 4)) nd) (zR (zh (zBM (zB (zC 2) (zB (zIu rfl ab (zB (zC 3) zH)) zH)))))))
theorem zMo{f:Addr}{fd:FuncData}(F:Fun K "named" "named" zB2 f fd)(hm:mg "named"=some (.ref f))    (aD:Df P w K mg base 3 "kept" ["web","places"] wn):Df P w K mg base 4 "named" ["web","order"] zAx:=by
 have nd:=(zHi).nd;refine zr zDo F zHi hm (F.binds fun u0 u0 u0 u0 u0 u0 us hl=>us2 us hl fun u0 u0=>rfl) (fun cdv A outer s H E hr=>?_) zNh;unfold zDo;exact(zR (zh (zS aD hr (by decide) rfl (zB (zC 0) (zB (zC 1) zH)))))
theorem zKl{f:Addr}{fd:FuncData}(F:Fun K "pieces" "pieces" zAW f fd)(hm:mg "pieces"=some (.ref f))(ad:mg "range"=none)(b9:mg "any"=none)   (aE:Df P w K mg base 3 "piece_of" ["web","place"] wy):Df P w K mg base 4 "pieces" ["web"] (spL wJ):=by
 have nd:=(zFl).nd;refine zr zCq F zFl hm (F.binds fun u0 u0 u0 u0 u0 u0 us hl=>us1 us hl fun u0=>rfl) (fun cdv A outer s H E hr=>?_) zLm;unfold zCq;exact(zK (zo 1 nd (yN (zAs zH))) (zK (zAS PassesOwn.never rfl (wv rfl ad (zB (yO (zC 0) zQ) zH)) (zAi 2 nd) (zR (zAh (zFH (zCB (zRL rfl rfl b9 (zG0 "piece" rfl (yw (osc:=zG zAW) (N:=["web","found","place"]) (N0:=["!00","!01","place"]) (own:=["piece"]) (by decide +kernel)) (zD6 (zC 1)) (fun u0 u0 u0 u0 u0=>zFx) (fun u0 u0 u0 u0 u0=>(zRF hr (zC 2) (zC 3))))))) (zR (zBT (zBY (zC 1) (zB (zS aE hr (by decide) rfl (zB (zC 0) (zB (zC 2) zH))) zH)))) yL))) (zR (zh (zC 1)))))
theorem zHo{f:Addr}{fd:FuncData}(F:Fun K "piece_of" "piece_of" wg f fd)(hm:mg "piece_of"=some (.ref f))(af:mg "len"=none)(ab:mg "tuple"=none)(ag:mg "sorted"=none)   (ay:Df P w K mg base 2 "around" ["web","place"] wX):Df P w K mg base 3 "piece_of" ["web","place"] wy:=by
 have nd:=(zDY).nd;refine zr zBJ F zDY hm (F.binds fun u0 u0 u0 u0 u0 u0 us hl=>us2 us hl fun u0 u0=>rfl) (fun cdv A outer s H E hr=>?_) zIL;unfold zBJ;exact(zK (zo 2 nd (yN (zAs (zB (zC 1) zH)))) (zK (zo 3 nd zQ) (zK (zG3 PassesOwn.never (zPf (zC 3) (zBW rfl af (zB (zC 2) zH))) (zK (zAS PassesOwn.never rfl (zD6 (zS ay hr (by decide) rfl (zB (zC 0) (zB (yO (zC 2) (zC 3)) zH)))) (zAi 4 nd) (zR (zAh (zIt hr (zC 4) (zC 2)) (zR (zBT (zBY (zC 2) (zB (zC 4) zH)))) yL))) (zR (zLL 3 nd zQ)))) (zR (zh (zA8 rfl ab (zLQ rfl ag (zB (zC 2) zH))))))))
theorem zE3{f:Addr}{fd:FuncData}(F:Fun K "web_turned" "web_turned" yp f fd)(hm:mg "web_turned"=some (.ref f))(ab:mg "tuple"=none)(ag:mg "sorted"=none)(aU:mg "set"=none)   (ay:Df P w K mg base 2 "around" ["web","place"] wX)(am:Df P w K mg base 1 "pairs_of" ["places"] (spL yC)):Df P w K mg base 3 "web_turned" ["web","place"] zN:=by
 have nd:=(zCJ).nd;refine zr zAI F zCJ hm (F.binds fun u0 u0 u0 u0 u0 u0 us hl=>us2 us hl fun u0 u0=>rfl) (fun cdv A outer s H E hr=>?_) zGX;unfold zAI;exact(zK (zo 2 nd (yN (zAD am zCE hr (by decide) rfl (zB (zS ay hr (by decide) rfl (zB (zC 0) (zB (zC 1) zH))) zH)))) (zR (zh (zBM (zB (yO (zC 0) zQ) (zB (zA8 rfl ab (zKQ 2 hr rfl rfl ag rfl aU (zB (yO (zC 0) zQ) zH))) zH))))))
theorem zEs{f:Addr}{fd:FuncData}(F:Fun K "ring_turned" "ring_turned" yd f fd)(hm:mg "ring_turned"=some (.ref f))(ab:mg "tuple"=none)(aF:mg "reversed"=none)   :Df P w K mg base 1 "ring_turned" ["ring","place"] yG:=by
 have nd:=(zBj).nd;refine zr wq F zBj hm (F.binds fun u0 u0 u0 u0 u0 u0 us hl=>us2 us hl fun u0 u0=>rfl) (fun cdv A outer s H E hr=>?_) zE1;unfold wq;exact(zK (zo 2 nd (zCj hr (zC 0) (zB (zC 1) zH))) (zK (zo 3 nd (zG6 hr (zC 0) (zB (zC 1) (zB (wx (zC 2) zQ) zH)))) (zR (zh (wx (wx (zCe (zC 0) zH7 (zBA (zC 2))) (zP6 rfl rfl ab rfl aF (zB (zCe (zC 0) (zBA (zC 2)) (zBA (wx (zC 3) zQ))) zH))) (zCe (zC 0) (zBA (wx (zC 3) zQ)) zH7))))))
theorem zIe{f:Addr}{fd:FuncData}(F:Fun K "swapped" "swapped" zAN f fd)(hm:mg "swapped"=some (.ref f))    (aq:Df P w K mg base 1 "tied" ["web","one","other"] yf)(aa:Df P w K mg base 3 "web_turned" ["web","place"] zN):Df P w K mg base 4 "swapped" ["web","one","other"] yk:=by
 have nd:=(zEm).nd;refine zr zBz F zEm hm (F.binds fun u0 u0 u0 u0 u0 u0 us hl=>us3 us hl fun u0 u0 u0=>rfl) (fun cdv A outer s H E hr=>?_) zKh;unfold zBz;exact(zK (zAh (zFH (zCB (zS aq hr (by decide) rfl (zB (zC 0) (zB (zC 1) (zB (zC 2) zH)))))) (zR zRg) yL) (zR (zh (zS aa hr (by decide) rfl (zB (zS aa hr (by decide) rfl (zB (zS aa hr (by decide) rfl (zB (zC 0) (zB (zC 1) zH))) (zB (zC 2) zH))) (zB (zC 1) zH))))))
theorem zE4{f:Addr}{fd:FuncData}(F:Fun K "all_turned" "all_turned" yq f fd)(hm:mg "all_turned"=some (.ref f))(ag:mg "sorted"=none){aj:Tok}(ah:mg "MOST_TURNED"=some (.int 5 aj))  (ai:Df P w K mg base 1 "refuse_more" ["many","most"] yH)(ak:Df P w K mg base 5 "turn_lists" ["web"] yD):Df P w K mg base 6 "all_turned" ["web"] (spL yE):=by
 have nd:=(zCK).nd;refine zr zAM F zCK hm (F.binds fun u0 u0 u0 u0 u0 u0 us hl=>us1 us hl fun u0=>rfl) (fun cdv A outer s H E hr=>?_) zGh;unfold zAM;exact(zK (zBT (zS ai hr (by decide) rfl (zB (yO (zC 0) zQ) (zB (zIz rfl ah) zH)))) (zR (zh (yN (zKX hr rfl rfl ag (zB (zS ak hr (by decide) rfl (zB (zC 0) zH)) zH))))))
theorem zHp{f:Addr}{fd:FuncData}(F:Fun K "turns_to" "turns_to" wj f fd)(hm:mg "turns_to"=some (.ref f)) {aj:Tok}(ah:mg "MOST_TURNED"=some (.int 5 aj))  (ai:Df P w K mg base 1 "refuse_more" ["many","most"] yH)(ak:Df P w K mg base 5 "turn_lists" ["web"] yD):Df P w K mg base 6 "turns_to" ["one","other"] zAA:=by
 have nd:=(zDZ).nd;refine zr zBL F zDZ hm (F.binds fun u0 u0 u0 u0 u0 u0 us hl=>us2 us hl fun u0 u0=>rfl) (fun cdv A outer s H E hr=>?_) zId;unfold zBL;exact(zK (zAh (zD9 hr (yO (zC 0) zQ) (yO (zC 1) zQ)) (zR (zh zQ8)) yL) (zK (zBT (zS ai hr (by decide) rfl (zB (yO (zC 0) zQ) (zB (zIz rfl ah) zH)))) (zR (zh (zQV hr (zS ak hr (by decide) rfl (zB (zC 0) zH)) (zB (zC 1) zH))))))
theorem zE5{f:Addr}{fd:FuncData}(F:Fun K "turn_lists" "turn_lists" yr f fd)(hm:mg "turn_lists"=some (.ref f))    (aQ:Df P w K mg base 4 "spread" ["lists","edge"] (spL wd)):Df P w K mg base 5 "turn_lists" ["web"] yD:=by
 have nd:=(zCL).nd;refine zr zAK F zCL hm (F.binds fun u0 u0 u0 u0 u0 u0 us hl=>us1 us hl fun u0=>rfl) (fun cdv A outer s H E hr=>?_) zGf;unfold zAK;exact(zK (zo 1 nd (zOC hr (zC 0) (yN (zAs zH)))) (zK (zo 2 nd (yN (zAs (zB (zC 0) zH)))) (zK (zG3 PassesOwn.never (zQU (zC 2)) (zR (zo 2 nd (yN (zAD aQ zHW hr (by decide) rfl (zB (zC 1) (zB (zC 2) zH))))))) (zR (zh (zC 1))))))
theorem zKm{f:Addr}{fd:FuncData}(F:Fun K "spread" "spread" zA3 f fd)(hm:mg "spread"=some (.ref f))(ad:mg "range"=none)   (aa:Df P w K mg base 3 "web_turned" ["web","place"] zN):Df P w K mg base 4 "spread" ["lists","edge"] (spL wd):=by
 have nd:=(zFm).nd;refine zr zC4 F zFm hm (F.binds fun u0 u0 u0 u0 u0 u0 us hl=>us2 us hl fun u0 u0=>rfl) (fun cdv A outer s H E hr=>?_) zMY;unfold zC4;exact(zK (zo 2 nd (yN (zAs zH))) (zK (zAS PassesOwn.never rfl (zD6 (zC 1)) (zAi 3 nd) (zR (zAS PassesOwn.never rfl (wv rfl ad (zB (yO (zC 3) zQ) zH)) (zAi 4 nd) (zK (zo 5 nd (zS aa hr (by decide) rfl (zB (zC 3) (zB (zC 4) zH)))) (zR (zAh (zMS hr (zC 5) (zC 0)) (zK (zK7 (yN (zRI (zRe hr (zC 0) (zC 3)) (yN (zAs (zB (zC 4) zH))))) (zRf hr (zC 0) (zC 5))) (zR (zBT (zBY (zC 2) (zB (zC 5) zH))))) yL)))))) (zR (zh (zC 2)))))
theorem zMp{f:Addr}{fd:FuncData}(F:Fun K "cross" "cross" zB3 f fd)(hm:mg "cross"=some (.ref f))    :Df P w K mg base 1 "cross" ["ring","one","other"] zAy:=by
 have nd:=(zHj).nd;refine zr zDp F zHj hm (F.binds fun u0 u0 u0 u0 u0 u0 us hl=>us3 us hl fun u0 u0 u0=>rfl) (fun cdv A outer s H E hr=>?_) zNi;unfold zDp;exact(zK (zo 3 nd (zCj hr (zC 0) (zB (zC 1) zH))) (zK (zo 4 nd (zG6 hr (zC 0) (zB (zC 1) (zB (wx (zC 3) zQ) zH)))) (zR (zh (zLD hr (zLY hr (zCe (zC 0) (zBA (zC 3)) (zBA (zC 4))) (zB (zC 2) zH)) zQ)))))
theorem zKn{f:Addr}{fd:FuncData}(F:Fun K "web_of" "web_of" zAX f fd)(hm:mg "web_of"=some (.ref f))(af:mg "len"=none)(ab:mg "tuple"=none)   (aC:Df P w K mg base 2 "pairs" ["many"] (spL yZ))(aV:Df P w K mg base 1 "cross" ["ring","one","other"] zAy):Df P w K mg base 3 "web_of" ["ring"] wb:=by
 have nd:=(zFn).nd;refine zr zCp F zFn hm (F.binds fun u0 u0 u0 u0 u0 u0 us hl=>us1 us hl fun u0=>rfl) (fun cdv A outer s H E hr=>?_) zLj;unfold zCp;exact(zK (zo 1 nd (zD7 (zBW rfl af (zB (zC 0) zH)) zQ)) (zR (zh (zBM (zB (zC 1) (zB (zA8 rfl ab (zG0 "pair" rfl (yw (osc:=zG zAX) (N:=["ring","many"]) (N0:=["ring","!01"]) (own:=["pair"]) (by decide +kernel)) (zIr (zAD aC zCN hr (by decide) rfl (zB (zC 1) zH))) (fun u0 u0 u0 u0 u0=>(zDG (zCB (zS aV hr (by decide) rfl (zB (zC 0) (zB (yO (zC 2) zQ) (zB (yO (zC 2) zQ) zH))))))) (fun u0 u0 u0 u0 u0=>(zC 2)))) zH))))))
theorem zGk{f:Addr}{fd:FuncData}(F:Fun K "_law_cell_at" "_law_cell_at" wK f fd)(hm:mg "_law_cell_at"=some (.ref f))(af:mg "len"=none)   :Df P w K mg base 1 "_law_cell_at" ["script","k"] wP:=by
 have nd:=(zC9).nd;refine zr zAc F zC9 hm (F.binds fun u0 u0 u0 u0 u0 u0 us hl=>us2 us hl fun u0 u0=>rfl) (fun cdv A outer s H E hr=>?_) zG8;unfold zAc;exact(zK (zAh (zPf (zC 1) (zBW rfl af (zB (zC 0) zH))) (zR (zh (yO (zC 0) (zC 1)))) yL) (zR (zh zQ)))
theorem zIf{f:Addr}{fd:FuncData}(F:Fun K "_law_state" "_law_state" zAO f fd)(hm:mg "_law_state"=some (.ref f))    (aB:Df P w K mg base 1 "_law_cell_at" ["script","k"] wP):Df P w K mg base 2 "_law_state" ["script","k"] (spL yW):=by
 have nd:=(zEn).nd;refine zr zBq F zEn hm (F.binds fun u0 u0 u0 u0 u0 u0 us hl=>us2 us hl fun u0 u0=>rfl) (fun cdv A outer s H E hr=>?_) zJ0;unfold zBq;exact(zK (zo 2 nd (zS aB hr (by decide) rfl (zB (zC 0) (zB (zC 1) zH)))) (zK (zAh (zSF (zC 2) (zOZ zQ zQ)) (zR (zh (yN (zAs (zB (zOY (zC 2) (zOZ zQ zQ)) (zB zDe zH)))))) yL) (zR (zh (yN (zAs (zB (zFI (zC 2) zQ) (zB zDe zH))))))))
theorem zKo{f:Addr}{fd:FuncData}(F:Fun K "_law_take" "_law_take" zA4 f fd)(hm:mg "_law_take"=some (.ref f))    :Df P w K mg base 1 "_law_take" ["state","many"] zc:=by
 have nd:=(zFo).nd;refine zr zCm F zFo hm (F.binds fun u0 u0 u0 u0 u0 u0 us hl=>us2 us hl fun u0 u0=>rfl) (fun cdv A outer s H E hr=>?_) zLc;unfold zCm;exact(zK (zAh (zCB (yO (zC 0) zQ)) (zK (zo 2 nd (zFI (yO (zC 0) zQ) (zC 1))) (zK (zK7 (zD7 (yO (zC 0) zQ) (zC 1)) (zRA (zC 0) zQ)) (zR (zh (zC 2))))) yL) (zK (zK7 (zFI (wx (zDH (yO (zC 0) zQ) zQ) zQ) zQ) (zRA (zC 0) zQ)) (zK (zo 3 nd (zFI (wx (wx (zDH (yO (zC 0) zQ) (yO (zC 0) zQ)) (zDH zQ (yO (zC 0) zQ))) zQ) zQ)) (zK (zo 3 nd (zFI (wx (zDH (zC 3) (zC 3)) (zDH zQ (zC 3))) zQ)) (zR (zh (zFI (zD7 (zC 3) zQ) (zC 1))))))))
theorem zIg{f:Addr}{fd:FuncData}(F:Fun K "_law_pairs" "_law_pairs" wk f fd)(hm:mg "_law_pairs"=some (.ref f))(ad:mg "range"=none)   :Df P w K mg base 1 "_law_pairs" ["many"] (spL yV):=by
 have nd:=(zEo).nd;refine zr zBr F zEo hm (F.binds fun u0 u0 u0 u0 u0 u0 us hl=>us1 us hl fun u0=>rfl) (fun cdv A outer s H E hr=>?_) zJ2;unfold zBr;exact(zK (zo 1 nd (yN (zAs zH))) (zK (zAS PassesOwn.never rfl (wv rfl ad (zB (zC 0) zH)) (zAi 2 nd) (zR (zBT (zLJ (zC 1) (zG0 "other" rfl (yw (osc:=zG wk) (N:=["many","found","one"]) (N0:=["!00","!01","one"]) (own:=["other"]) (by decide +kernel)) (zGy rfl ad (zB (wx (zC 2) zQ) (zB (zC 0) zH))) (fun u0 u0 u0 u0 u0=>zFx) (fun u0 u0 u0 u0 u0=>(zBM (zB (zC 2) (zB (zC 3) zH))))))))) (zR (zh (zC 1)))))
theorem zMq{f:Addr}{fd:FuncData}(F:Fun K "_law_web" "_law_web" zAg f fd)(hm:mg "_law_web"=some (.ref f))(ab:mg "tuple"=none)   (ae:Df P w K mg base 1 "_law_take" ["state","many"] zc)(aw:Df P w K mg base 1 "_law_pairs" ["many"] (spL yV))(az:Df P w K mg base 2 "_law_ring" ["state","many"] wZ)(aG:Df P w K mg base 2 "_law_web_of" ["ring"] wI):Df P w K mg base 3 "_law_web" ["state","most"] zBb:=by
 have nd:=(zHk).nd;refine zr zDn F zHk hm (F.binds fun u0 u0 u0 u0 u0 u0 us hl=>us2 us hl fun u0 u0=>rfl) (fun cdv A outer s H E hr=>?_) zNg;unfold zDn;exact(zK (zo 2 nd (wx zQ (zS ae hr (by decide) rfl (zB (zC 0) (zB (zC 1) zH))))) (zK (zo 3 nd (zS ae hr (by decide) rfl (zB (zC 0) (zB zQ zH)))) (zK (zo 4 nd (yN (zAD aw zCk hr (by decide) rfl (zB (zC 2) zH)))) (zK (zAh (zLE hr (zC 3) zQ) (zR (zh (zS aG hr (by decide) rfl (zB (zS az hr (by decide) rfl (zB (zC 0) (zB (zC 2) zH))) zH)))) yL) (zK (zAh (zLE hr (zC 3) zQ) (zR (zh (zBM (zB (zC 2) (zB (zA8 rfl ab (zG0 "pair" rfl (yw (osc:=zG zAg) (N:=["state","most","many","way","pairs_v","far"]) (N0:=["state","!01","!02","!03","!04","!05"]) (own:=["pair"]) (by decide +kernel)) (zD6 (zC 4)) (fun u0 u0 u0 u0 u0=>(zDG (W2.test (w_or (zLE hr (yO (zC 6) zQ) (wx (yO (zC 6) zQ) zQ)) (zIs (zLE hr (zS ae hr (by decide) rfl (zB (zC 0) (zB zQ zH))) zQ)))))) (fun u0 u0 u0 u0 u0=>(zC 6)))) zH))))) yL) (zK (zo 5 nd (yO (yN (zAs (zB zQ (zB zQ (zB zQ zH))))) (zOY (zC 3) zQ))) (zR (zh (zBM (zB (zC 2) (zB (zA8 rfl ab (zG0 "pair" rfl (yw (osc:=zG zAg) (N:=["state","most","many","way","pairs_v","far"]) (N0:=["state","!01","!02","!03","!04","far"]) (own:=["pair"]) (by decide +kernel)) (zD6 (zC 4)) (fun u0 u0 u0 u0 u0=>(zDG (zLE hr (zS ae hr (by decide) rfl (zB (zC 0) (zB (zC 5) zH))) zQ))) (fun u0 u0 u0 u0 u0=>(zC 6)))) zH)))))))))))
theorem zKp{f:Addr}{fd:FuncData}(F:Fun K "_law_ring" "_law_ring" zAY f fd)(hm:mg "_law_ring"=some (.ref f))(aL:mg "list"=none)(ad:mg "range"=none)(ab:mg "tuple"=none)(af:mg "len"=none)   (ae:Df P w K mg base 1 "_law_take" ["state","many"] zc):Df P w K mg base 2 "_law_ring" ["state","many"] wZ:=by
 have nd:=(zFp).nd;refine zr zCo F zFp hm (F.binds fun u0 u0 u0 u0 u0 u0 us hl=>us2 us hl fun u0 u0=>rfl) (fun cdv A outer s H E hr=>?_) zLf;unfold zCo;exact(zK (zo 2 nd (yN (zRG (yN (zIv rfl rfl aL rfl ad (zB (zC 1) zH))) zQ))) (zR (zh (zA8 rfl ab (zG0 "k" rfl (yw (osc:=zG zAY) (N:=["state","many","left"]) (N0:=["state","!01","left"]) (own:=["k"]) (by decide +kernel)) (wv rfl ad (zB (zDH zQ (zC 1)) zH)) (fun u0 u0 u0 u0 u0=>zFx) (fun u0 u0 u0 u0 u0=>(zOc (zC 2) (zB (zS ae hr (by decide) rfl (zB (zC 0) (zB (zBW rfl af (zB (zC 2) zH)) zH))) zH))))))))
theorem zHq{f:Addr}{fd:FuncData}(F:Fun K "_law_web_of" "_law_web_of" wE f fd)(hm:mg "_law_web_of"=some (.ref f))(af:mg "len"=none)(ab:mg "tuple"=none)   (aw:Df P w K mg base 1 "_law_pairs" ["many"] (spL yV)):Df P w K mg base 2 "_law_web_of" ["ring"] wI:=by
 have nd:=(zDa).nd;refine zr zBH F zDa hm (F.binds fun u0 u0 u0 u0 u0 u0 us hl=>us1 us hl fun u0=>rfl) (fun cdv A outer s H E hr=>?_) zIF;unfold zBH;exact(zK (zo 1 nd (zD7 (zBW rfl af (zB (zC 0) zH)) zQ)) (zK (zo 2 nd (yN (zAs zH))) (zK (zAS PassesOwn.never rfl (zIr (zAD aw zCk hr (by decide) rfl (zB (zC 1) zH))) (zQ9 3 4 rfl nd) (zK (zIw 5 "place" rfl (yw (osc:=zG wE) (N:=["ring","many","found","one","other","some"]) (N0:=["!00","!01","!02","one","other","!05"]) (own:=["place"]) (by decide +kernel)) (zD6 (zC 0)) (fun u0 u0 u0 u0 u0=>(zDG (zSG hr (zC 6) (zBM (zB (zC 3) (zB (zC 4) zH)))))) (fun u0 u0 u0 u0 u0=>(zC 6)) nd) (zR (zAh (W2.test (w_and (zD9 hr (yO (zC 5) zQ) (yO (zC 5) zQ)) (zH0 (zD9 hr (yO (zC 5) zQ) (yO (zC 5) zQ))))) (zR (zBT (zBY (zC 2) (zB (zBM (zB (zC 3) (zB (zC 4) zH))) zH)))) yL)))) (zR (zh (zBM (zB (zC 1) (zB (zIu rfl ab (zB (zC 2) zH)) zH))))))))
theorem zIh{f:Addr}{fd:FuncData}(F:Fun K "_law_order" "_law_order" wm f fd)(hm:mg "_law_order"=some (.ref f))(aL:mg "list"=none)(ad:mg "range"=none)(ab:mg "tuple"=none)(af:mg "len"=none)   (ae:Df P w K mg base 1 "_law_take" ["state","many"] zc):Df P w K mg base 2 "_law_order" ["state","many"] wa:=by
 have nd:=(zEp).nd;refine zr zBs F zEp hm (F.binds fun u0 u0 u0 u0 u0 u0 us hl=>us2 us hl fun u0 u0=>rfl) (fun cdv A outer s H E hr=>?_) zJ3;unfold zBs;exact(zK (zo 2 nd (yN (zIv rfl rfl aL rfl ad (zB (zC 1) zH)))) (zR (zh (zA8 rfl ab (zG0 "k" rfl (yw (osc:=zG wm) (N:=["state","many","left"]) (N0:=["state","!01","left"]) (own:=["k"]) (by decide +kernel)) (wv rfl ad (zB (zC 1) zH)) (fun u0 u0 u0 u0 u0=>zFx) (fun u0 u0 u0 u0 u0=>(zOc (zC 2) (zB (zS ae hr (by decide) rfl (zB (zC 0) (zB (zBW rfl af (zB (zC 2) zH)) zH))) zH))))))))
theorem zMr{f:Addr}{fd:FuncData}(F:Fun K "_law_two" "_law_two" zB4 f fd)(hm:mg "_law_two"=some (.ref f))    (aa:Df P w K mg base 3 "web_turned" ["web","place"] zN)(aq:Df P w K mg base 1 "tied" ["web","one","other"] yf)(aA:Df P w K mg base 4 "swapped" ["web","one","other"] yk):Df P w K mg base 5 "_law_two" ["web","one","other"] zA2:=by
 have nd:=(zHl).nd;refine zr zDv F zHl hm (F.binds fun u0 u0 u0 u0 u0 u0 us hl=>us3 us hl fun u0 u0 u0=>rfl) (fun cdv A outer s H E hr=>?_) zOM;unfold zDv;exact(zK (zo 3 nd (zS aa hr (by decide) rfl (zB (zS aa hr (by decide) rfl (zB (zC 0) (zB (zC 1) zH))) (zB (zC 2) zH)))) (zK (zAh (zFH (zCB (zS aq hr (by decide) rfl (zB (zC 0) (zB (zC 1) (zB (zC 2) zH)))))) (zR (zh (zLD hr (zS aa hr (by decide) rfl (zB (zS aa hr (by decide) rfl (zB (zC 0) (zB (zC 2) zH))) (zB (zC 1) zH))) (zC 3)))) yL) (zK (zo 4 nd (zS aA hr (by decide) rfl (zB (zC 0) (zB (zC 1) (zB (zC 2) zH))))) (zR (zh (zRE (zLD hr (zS aA hr (by decide) rfl (zB (zC 0) (zB (zC 2) (zB (zC 1) zH)))) (zC 4)) (zRD (zLD hr (zS aA hr (by decide) rfl (zB (zC 4) (zB (zC 1) (zB (zC 2) zH)))) (zC 0)))))))))
theorem zIi{f:Addr}{fd:FuncData}(F:Fun K "_law_named" "_law_named" zAP f fd)(hm:mg "_law_named"=some (.ref f))(ab:mg "tuple"=none)(ag:mg "sorted"=none)(aU:mg "set"=none)   (aP:Df P w K mg base 4 "named" ["web","order"] zAx)(aa:Df P w K mg base 3 "web_turned" ["web","place"] zN)(aD:Df P w K mg base 3 "kept" ["web","places"] wn):Df P w K mg base 5 "_law_named" ["web","order","place","many"] zAU:=by
 have nd:=(zEq).nd;refine zr zB0 F zEq hm (F.binds fun u0 u0 u0 u0 u0 u0 us hl=>match us,hl with | [_,_,_,_],_=>rfl) (fun cdv A outer s H E hr=>?_) zKj;unfold zB0;exact(zK (zo 4 nd (zS aa hr (by decide) rfl (zB (zS aP hr (by decide) rfl (zB (zC 0) (zB (zC 1) zH))) (zB (zCj hr (zC 1) (zB (zC 2) zH)) zH)))) (zK (zAh (zD9 hr (zC 4) (zS aP hr (by decide) rfl (zB (zS aa hr (by decide) rfl (zB (zC 0) (zB (zC 2) zH))) (zB (zC 1) zH)))) (zR (zh zDe)) yL) (zK (zo 5 nd (zA8 rfl ab (zHT rfl rfl ag rfl aU (zB (wx (zCe (zC 1) zH7 (zBA (zC 3))) (zBM (zB (zC 2) zH))) zH)))) (zR (zh (zLD hr (zS aD hr (by decide) rfl (zB (zS aa hr (by decide) rfl (zB (zC 0) (zB (zC 2) zH))) (zB (zC 5) zH))) (zS aa hr (by decide) rfl (zB (zS aD hr (by decide) rfl (zB (zC 0) (zB (zC 5) zH))) (zB (zCj hr (zC 5) (zB (zC 2) zH)) zH)))))))))
theorem zMs{f:Addr}{fd:FuncData}(F:Fun K "_law_few" "_law_few" zB5 f fd)(hm:mg "_law_few"=some (.ref f))    (au:Df P w K mg base 6 "all_turned" ["web"] (spL yE))(aH:Df P w K mg base 6 "turns_to" ["one","other"] zAA)(aa:Df P w K mg base 3 "web_turned" ["web","place"] zN):Df P w K mg base 7 "_law_few" ["web"] zBh:=by
 have nd:=(zHm).nd;refine zr zDw F zHm hm (F.binds fun u0 u0 u0 u0 u0 u0 us hl=>us1 us hl fun u0=>rfl) (fun cdv A outer s H E hr=>?_) zOO;unfold zDw;exact(zK (zo 1 nd (yN (zAD au zBP hr (by decide) rfl (zB (zC 0) zH)))) (zK (zAh (W2.test (w_or (zIt hr (zC 0) (zC 1)) (zIs (zD9 hr (yN (zAD au zBP hr (by decide) rfl (zB (yO (zC 1) (zRQ zQ)) zH))) (zC 1))))) (zR (zh zDe)) yL) (zK (zAS PassesOwn.never rfl (zIr (zNs (zC 1) (zBA zQ) (zBA zQ))) (zAi 2 nd) (zK (zo 3 nd (zC 0)) (zK (zAS PassesOwn.never rfl (zD6 (zS aH hr (by decide) rfl (zB (zC 0) (zB (zC 2) zH)))) (zAi 4 nd) (zR (zo 3 nd (zS aa hr (by decide) rfl (zB (zC 3) (zB (zC 4) zH)))))) (zR (zAh (zD9 hr (zC 3) (zC 2)) (zR (zh zDe)) yL))))) (zR (zh zDe)))))
theorem zQh{f:Addr}{fd:FuncData}(F:Fun K "law" "law" zDA f fd)(ad:mg "range"=none)(aT:mg "max"=none)(aS:mg "min"=none)(af:mg "len"=none)   (aM:Df P w K mg base 2 "_law_state" ["script","k"] (spL yW))(ae:Df P w K mg base 1 "_law_take" ["state","many"] zc)(az:Df P w K mg base 2 "_law_ring" ["state","many"] wZ)(ao:Df P w K mg base 1 "ring_turned" ["ring","place"] yG)(aJ:Df P w K mg base 3 "web_of" ["ring"] wb)(aa:Df P w K mg base 3 "web_turned" ["web","place"] zN)(aW:Df P w K mg base 3 "_law_web" ["state","most"] zBb)(aK:Df P w K mg base 4 "pieces" ["web"] (spL wJ))(aX:Df P w K mg base 5 "_law_two" ["web","one","other"] zA2)(aN:Df P w K mg base 2 "_law_order" ["state","many"] wa)(aO:Df P w K mg base 5 "_law_named" ["web","order","place","many"] zAU)(aY:Df P w K mg base 7 "_law_few" ["web"] zBh):zCX P w K mg base CX0 8 f fd ["script"] (lSp K zFP):=by
 have nd:=zMm.nd;refine zPp zJT F zMm (fun cdv A outer s H E hr=>?_) zRp;unfold zJT;exact(zK (zAS PassesOwn.never rfl (wv rfl ad (zB (zOb rfl rfl aT (zB zQ (zB (zOa rfl rfl aS (zB (zBW rfl af (zB (zC 0) zH)) (zB zQ zH))) zH))) zH)) (zAi 1 nd) (zK (zo 2 nd (yN (zAD aM zF7 hr (by decide) rfl (zB (zC 0) (zB (zC 1) zH))))) (zK (zo 3 nd (zS az hr (by decide) rfl (zB (zC 2) (zB (wx zQ (zS ae hr (by decide) rfl (zB (zC 2) (zB zQ zH)))) zH)))) (zK (zo 4 nd (zS ae hr (by decide) rfl (zB (zC 2) (zB (zD7 (zBW rfl af (zB (zC 3) zH)) zQ) zH)))) (zK (zo 5 nd (zS ao hr (by decide) rfl (zB (zC 3) (zB (zC 4) zH)))) (zK (zAh (W2.test (w_or (zD9 hr (zS aJ hr (by decide) rfl (zB (zC 5) zH)) (zS aa hr (by decide) rfl (zB (zS aJ hr (by decide) rfl (zB (zC 3) zH)) (zB (zC 4) zH)))) (zIs (zD9 hr (zS ao hr (by decide) rfl (zB (zC 5) (zB (zC 4) zH))) (zC 3))))) (zR (zh zDe)) yL) (zK (zo 6 nd (zS aW hr (by decide) rfl (zB (zC 2) (zB (yO (yN (zAs (zB zQ (zB zQ (zB zQ zH))))) (zS ae hr (by decide) rfl (zB (zC 2) (zB zQ zH)))) zH)))) (zK (zRP 7 8 rfl nd (zB (zS ae hr (by decide) rfl (zB (zC 2) (zB (yO (zC 6) zQ) zH))) (zB (zS ae hr (by decide) rfl (zB (zC 2) (zB (yO (zC 6) zQ) zH))) zH))) (zK (zAh (W2.test (w_or (zD9 hr (zS aa hr (by decide) rfl (zB (zS aa hr (by decide) rfl (zB (zC 6) (zB (zC 7) zH))) (zB (zC 7) zH))) (zC 6)) (zIs (zD9 hr (yN (zAD aK zDU hr (by decide) rfl (zB (zS aa hr (by decide) rfl (zB (zC 6) (zB (zC 7) zH))) zH))) (yN (zAD aK zDU hr (by decide) rfl (zB (zC 6) zH))))))) (zR (zh zDe)) yL) (zK (zAh (W2.test (w_and (zD9 hr (zC 7) (zC 8)) (zH0 (zFH (zCB (zS aX hr (by decide) rfl (zB (zC 6) (zB (zC 7) (zB (zC 8) zH))))))))) (zR (zh zDe)) yL) (zK (zAh (zFH (zCB (zS aO hr (by decide) rfl (zB (zC 6) (zB (zS aN hr (by decide) rfl (zB (zC 2) (zB (yO (zC 6) zQ) zH))) (zB (zC 7) (zB (wx zQ (zS ae hr (by decide) rfl (zB (zC 2) (zB (yO (zC 6) zQ) zH)))) zH))))))) (zR (zh zDe)) yL) (zR (zAh (W2.test (w_and (zPf (yO (zC 6) zQ) zQ) (zH0 (zFH (zCB (zS aY hr (by decide) rfl (zB (zC 6) zH))))))) (zR (zh zDe)) yL))))))))))))) (zR (zh zDe)))
end
theorem zQi{l:PySem.W.OpenLaw}{w:World}{K:PySem.W.Frag}{h:Heap}{mg:Str->Option Value}{fa:Addr}(X:K.In h)(G:h.Ns mainGlobals mg)(hfa:mg "law"=some (.ref fa))
  {f0:Addr} {od0 an0:Option Addr} {sl0:Array (Option Value)} {oc0 kV0 dc0 pm0 cd0 ct0:Value} {f1:Addr} {od1 an1:Option Addr} {sl1:Array (Option Value)} {oc1 kV1 dc1 pm1 cd1 ct1:Value} {f2:Addr} {od2 an2:Option Addr} {sl2:Array (Option Value)} {oc2 kV2 dc2 pm2 cd2 ct2:Value} {f3:Addr} {od3 an3:Option Addr} {sl3:Array (Option Value)} {oc3 kV3 dc3 pm3 cd3 ct3:Value} {f4:Addr} {od4 an4:Option Addr} {sl4:Array (Option Value)} {oc4 kV4 dc4 pm4 cd4 ct4:Value} {f5:Addr} {od5 an5:Option Addr} {sl5:Array (Option Value)} {oc5 kV5 dc5 pm5 cd5 ct5:Value} {f6:Addr} {od6 an6:Option Addr} {sl6:Array (Option Value)} {oc6 kV6 dc6 pm6 cd6 ct6:Value} {f7:Addr} {od7 an7:Option Addr} {sl7:Array (Option Value)} {oc7 kV7 dc7 pm7 cd7 ct7:Value} {f8:Addr} {od8 an8:Option Addr} {sl8:Array (Option Value)} {oc8 kV8 dc8 pm8 cd8 ct8:Value} {f9:Addr} {od9 an9:Option Addr} {sl9:Array (Option Value)} {oc9 kV9 dc9 pm9 cd9 ct9:Value} {f10:Addr} {od10 an10:Option Addr} {sl10:Array (Option Value)} {oc10 kV10 dc10 pm10 cd10 ct10:Value} {f11:Addr} {od11 an11:Option Addr} {sl11:Array (Option Value)} {oc11 kV11 dc11 pm11 cd11 ct11:Value} {f12:Addr} {od12 an12:Option Addr} {sl12:Array (Option Value)} {oc12 kV12 dc12 pm12 cd12 ct12:Value} {f13:Addr} {od13 an13:Option Addr} {sl13:Array (Option Value)} {oc13 kV13 dc13 pm13 cd13 ct13:Value} {f14:Addr} {od14 an14:Option Addr} {sl14:Array (Option Value)} {oc14 kV14 dc14 pm14 cd14 ct14:Value} {f15:Addr} {od15 an15:Option Addr} {sl15:Array (Option Value)} {oc15 kV15 dc15 pm15 cd15 ct15:Value} {f16:Addr} {od16 an16:Option Addr} {sl16:Array (Option Value)} {oc16 kV16 dc16 pm16 cd16 ct16:Value} {f17:Addr} {od17 an17:Option Addr} {sl17:Array (Option Value)} {oc17 kV17 dc17 pm17 cd17 ct17:Value} {f18:Addr} {od18 an18:Option Addr} {sl18:Array (Option Value)} {oc18 kV18 dc18 pm18 cd18 ct18:Value} {f19:Addr} {od19 an19:Option Addr} {sl19:Array (Option Value)} {oc19 kV19 dc19 pm19 cd19 ct19:Value} {f20:Addr} {od20 an20:Option Addr} {sl20:Array (Option Value)} {oc20 kV20 dc20 pm20 cd20 ct20:Value} {f21:Addr} {od21 an21:Option Addr} {sl21:Array (Option Value)} {oc21 kV21 dc21 pm21 cd21 ct21:Value} {f22:Addr} {od22 an22:Option Addr} {sl22:Array (Option Value)} {oc22 kV22 dc22 pm22 cd22 ct22:Value} {f23:Addr} {od23 an23:Option Addr} {sl23:Array (Option Value)} {oc23 kV23 dc23 pm23 cd23 ct23:Value} {f24:Addr} {od24 an24:Option Addr} {sl24:Array (Option Value)} {oc24 kV24 dc24 pm24 cd24 ct24:Value} {f25:Addr} {od25 an25:Option Addr} {sl25:Array (Option Value)} {oc25 kV25 dc25 pm25 cd25 ct25:Value} {f26:Addr} {od26 an26:Option Addr} {sl26:Array (Option Value)} {oc26 kV26 dc26 pm26 cd26 ct26:Value} {f27:Addr} {od27 an27:Option Addr} {sl27:Array (Option Value)} {oc27 kV27 dc27 pm27 cd27 ct27:Value} {f28:Addr} {od28 an28:Option Addr} {sl28:Array (Option Value)} {oc28 kV28 dc28 pm28 cd28 ct28:Value} {f29:Addr} {od29 an29:Option Addr} {sl29:Array (Option Value)} {oc29 kV29 dc29 pm29 cd29 ct29:Value} {aj:Tok}
  (a0:PySem.W.nsIn K mainGlobals "pairs"=some (some (.ref f0))) (l0:K.lookup f0=some ⟨oc0,od0,.func (PySem.W.fnOf "pairs" "pairs" (za zB1) (zV zB1) (zG zB1) .none kV0 dc0 pm0 an0 cd0 ct0),sl0⟩) (c0:PySem.W.codeIn K cd0 "pairs"=true) (k0:PySem.W.keepIn K (.ref f0)=true)
  (a1:PySem.W.nsIn K mainGlobals "pairs_of"=some (some (.ref f1))) (l1:K.lookup f1=some ⟨oc1,od1,.func (PySem.W.fnOf "pairs_of" "pairs_of" (za wf) (zV wf) (zG wf) .none kV1 dc1 pm1 an1 cd1 ct1),sl1⟩) (c1:PySem.W.codeIn K cd1 "pairs_of"=true) (k1:PySem.W.keepIn K (.ref f1)=true)
  (a2:PySem.W.nsIn K mainGlobals "refuse_more"=some (some (.ref f2))) (l2:K.lookup f2=some ⟨oc2,od2,.func (PySem.W.fnOf "refuse_more" "refuse_more" (za yc) (zV yc) (zG yc) .none kV2 dc2 pm2 an2 cd2 ct2),sl2⟩) (c2:PySem.W.codeIn K cd2 "refuse_more"=true) (k2:PySem.W.keepIn K (.ref f2)=true)
  (a3:PySem.W.nsIn K mainGlobals "tied"=some (some (.ref f3))) (l3:K.lookup f3=some ⟨oc3,od3,.func (PySem.W.fnOf "tied" "tied" (za zDR) (zV zDR) (zG zDR) .none kV3 dc3 pm3 an3 cd3 ct3),sl3⟩) (c3:PySem.W.codeIn K cd3 "tied"=true) (k3:PySem.W.keepIn K (.ref f3)=true)
  (a4:PySem.W.nsIn K mainGlobals "around"=some (some (.ref f4))) (l4:K.lookup f4=some ⟨oc4,od4,.func (PySem.W.fnOf "around" "around" (za zAV) (zV zAV) (zG zAV) .none kV4 dc4 pm4 an4 cd4 ct4),sl4⟩) (c4:PySem.W.codeIn K cd4 "around"=true) (k4:PySem.W.keepIn K (.ref f4)=true)
  (a5:PySem.W.nsIn K mainGlobals "kept"=some (some (.ref f5))) (l5:K.lookup f5=some ⟨oc5,od5,.func (PySem.W.fnOf "kept" "kept" (za zCU) (zV zCU) (zG zCU) .none kV5 dc5 pm5 an5 cd5 ct5),sl5⟩) (c5:PySem.W.codeIn K cd5 "kept"=true) (k5:PySem.W.keepIn K (.ref f5)=true)
  (a6:PySem.W.nsIn K mainGlobals "named"=some (some (.ref f6))) (l6:K.lookup f6=some ⟨oc6,od6,.func (PySem.W.fnOf "named" "named" (za zB2) (zV zB2) (zG zB2) .none kV6 dc6 pm6 an6 cd6 ct6),sl6⟩) (c6:PySem.W.codeIn K cd6 "named"=true) (k6:PySem.W.keepIn K (.ref f6)=true)
  (a7:PySem.W.nsIn K mainGlobals "pieces"=some (some (.ref f7))) (l7:K.lookup f7=some ⟨oc7,od7,.func (PySem.W.fnOf "pieces" "pieces" (za zAW) (zV zAW) (zG zAW) .none kV7 dc7 pm7 an7 cd7 ct7),sl7⟩) (c7:PySem.W.codeIn K cd7 "pieces"=true) (k7:PySem.W.keepIn K (.ref f7)=true)
  (a8:PySem.W.nsIn K mainGlobals "piece_of"=some (some (.ref f8))) (l8:K.lookup f8=some ⟨oc8,od8,.func (PySem.W.fnOf "piece_of" "piece_of" (za wg) (zV wg) (zG wg) .none kV8 dc8 pm8 an8 cd8 ct8),sl8⟩) (c8:PySem.W.codeIn K cd8 "piece_of"=true) (k8:PySem.W.keepIn K (.ref f8)=true)
  (a9:PySem.W.nsIn K mainGlobals "web_turned"=some (some (.ref f9))) (l9:K.lookup f9=some ⟨oc9,od9,.func (PySem.W.fnOf "web_turned" "web_turned" (za yp) (zV yp) (zG yp) .none kV9 dc9 pm9 an9 cd9 ct9),sl9⟩) (c9:PySem.W.codeIn K cd9 "web_turned"=true) (k9:PySem.W.keepIn K (.ref f9)=true)
  (a10:PySem.W.nsIn K mainGlobals "ring_turned"=some (some (.ref f10))) (l10:K.lookup f10=some ⟨oc10,od10,.func (PySem.W.fnOf "ring_turned" "ring_turned" (za yd) (zV yd) (zG yd) .none kV10 dc10 pm10 an10 cd10 ct10),sl10⟩) (c10:PySem.W.codeIn K cd10 "ring_turned"=true) (k10:PySem.W.keepIn K (.ref f10)=true)
  (a11:PySem.W.nsIn K mainGlobals "swapped"=some (some (.ref f11))) (l11:K.lookup f11=some ⟨oc11,od11,.func (PySem.W.fnOf "swapped" "swapped" (za zAN) (zV zAN) (zG zAN) .none kV11 dc11 pm11 an11 cd11 ct11),sl11⟩) (c11:PySem.W.codeIn K cd11 "swapped"=true) (k11:PySem.W.keepIn K (.ref f11)=true)
  (a12:PySem.W.nsIn K mainGlobals "all_turned"=some (some (.ref f12))) (l12:K.lookup f12=some ⟨oc12,od12,.func (PySem.W.fnOf "all_turned" "all_turned" (za yq) (zV yq) (zG yq) .none kV12 dc12 pm12 an12 cd12 ct12),sl12⟩) (c12:PySem.W.codeIn K cd12 "all_turned"=true) (k12:PySem.W.keepIn K (.ref f12)=true)
  (a13:PySem.W.nsIn K mainGlobals "turns_to"=some (some (.ref f13))) (l13:K.lookup f13=some ⟨oc13,od13,.func (PySem.W.fnOf "turns_to" "turns_to" (za wj) (zV wj) (zG wj) .none kV13 dc13 pm13 an13 cd13 ct13),sl13⟩) (c13:PySem.W.codeIn K cd13 "turns_to"=true) (k13:PySem.W.keepIn K (.ref f13)=true)
  (a14:PySem.W.nsIn K mainGlobals "turn_lists"=some (some (.ref f14))) (l14:K.lookup f14=some ⟨oc14,od14,.func (PySem.W.fnOf "turn_lists" "turn_lists" (za yr) (zV yr) (zG yr) .none kV14 dc14 pm14 an14 cd14 ct14),sl14⟩) (c14:PySem.W.codeIn K cd14 "turn_lists"=true) (k14:PySem.W.keepIn K (.ref f14)=true)
  (a15:PySem.W.nsIn K mainGlobals "spread"=some (some (.ref f15))) (l15:K.lookup f15=some ⟨oc15,od15,.func (PySem.W.fnOf "spread" "spread" (za zA3) (zV zA3) (zG zA3) .none kV15 dc15 pm15 an15 cd15 ct15),sl15⟩) (c15:PySem.W.codeIn K cd15 "spread"=true) (k15:PySem.W.keepIn K (.ref f15)=true)
  (a16:PySem.W.nsIn K mainGlobals "cross"=some (some (.ref f16))) (l16:K.lookup f16=some ⟨oc16,od16,.func (PySem.W.fnOf "cross" "cross" (za zB3) (zV zB3) (zG zB3) .none kV16 dc16 pm16 an16 cd16 ct16),sl16⟩) (c16:PySem.W.codeIn K cd16 "cross"=true) (k16:PySem.W.keepIn K (.ref f16)=true)
  (a17:PySem.W.nsIn K mainGlobals "web_of"=some (some (.ref f17))) (l17:K.lookup f17=some ⟨oc17,od17,.func (PySem.W.fnOf "web_of" "web_of" (za zAX) (zV zAX) (zG zAX) .none kV17 dc17 pm17 an17 cd17 ct17),sl17⟩) (c17:PySem.W.codeIn K cd17 "web_of"=true) (k17:PySem.W.keepIn K (.ref f17)=true)
  (a18:PySem.W.nsIn K mainGlobals "_law_cell_at"=some (some (.ref f18))) (l18:K.lookup f18=some ⟨oc18,od18,.func (PySem.W.fnOf "_law_cell_at" "_law_cell_at" (za wK) (zV wK) (zG wK) .none kV18 dc18 pm18 an18 cd18 ct18),sl18⟩) (c18:PySem.W.codeIn K cd18 "_law_cell_at"=true) (k18:PySem.W.keepIn K (.ref f18)=true)
  (a19:PySem.W.nsIn K mainGlobals "_law_state"=some (some (.ref f19))) (l19:K.lookup f19=some ⟨oc19,od19,.func (PySem.W.fnOf "_law_state" "_law_state" (za zAO) (zV zAO) (zG zAO) .none kV19 dc19 pm19 an19 cd19 ct19),sl19⟩) (c19:PySem.W.codeIn K cd19 "_law_state"=true) (k19:PySem.W.keepIn K (.ref f19)=true)
  (a20:PySem.W.nsIn K mainGlobals "_law_take"=some (some (.ref f20))) (l20:K.lookup f20=some ⟨oc20,od20,.func (PySem.W.fnOf "_law_take" "_law_take" (za zA4) (zV zA4) (zG zA4) .none kV20 dc20 pm20 an20 cd20 ct20),sl20⟩) (c20:PySem.W.codeIn K cd20 "_law_take"=true) (k20:PySem.W.keepIn K (.ref f20)=true)
  (a21:PySem.W.nsIn K mainGlobals "_law_pairs"=some (some (.ref f21))) (l21:K.lookup f21=some ⟨oc21,od21,.func (PySem.W.fnOf "_law_pairs" "_law_pairs" (za wk) (zV wk) (zG wk) .none kV21 dc21 pm21 an21 cd21 ct21),sl21⟩) (c21:PySem.W.codeIn K cd21 "_law_pairs"=true) (k21:PySem.W.keepIn K (.ref f21)=true)
  (a22:PySem.W.nsIn K mainGlobals "_law_web"=some (some (.ref f22))) (l22:K.lookup f22=some ⟨oc22,od22,.func (PySem.W.fnOf "_law_web" "_law_web" (za zAg) (zV zAg) (zG zAg) .none kV22 dc22 pm22 an22 cd22 ct22),sl22⟩) (c22:PySem.W.codeIn K cd22 "_law_web"=true) (k22:PySem.W.keepIn K (.ref f22)=true)
  (a23:PySem.W.nsIn K mainGlobals "_law_ring"=some (some (.ref f23))) (l23:K.lookup f23=some ⟨oc23,od23,.func (PySem.W.fnOf "_law_ring" "_law_ring" (za zAY) (zV zAY) (zG zAY) .none kV23 dc23 pm23 an23 cd23 ct23),sl23⟩) (c23:PySem.W.codeIn K cd23 "_law_ring"=true) (k23:PySem.W.keepIn K (.ref f23)=true)
  (a24:PySem.W.nsIn K mainGlobals "_law_web_of"=some (some (.ref f24))) (l24:K.lookup f24=some ⟨oc24,od24,.func (PySem.W.fnOf "_law_web_of" "_law_web_of" (za wE) (zV wE) (zG wE) .none kV24 dc24 pm24 an24 cd24 ct24),sl24⟩) (c24:PySem.W.codeIn K cd24 "_law_web_of"=true) (k24:PySem.W.keepIn K (.ref f24)=true)
  (a25:PySem.W.nsIn K mainGlobals "_law_order"=some (some (.ref f25))) (l25:K.lookup f25=some ⟨oc25,od25,.func (PySem.W.fnOf "_law_order" "_law_order" (za wm) (zV wm) (zG wm) .none kV25 dc25 pm25 an25 cd25 ct25),sl25⟩) (c25:PySem.W.codeIn K cd25 "_law_order"=true) (k25:PySem.W.keepIn K (.ref f25)=true)
  (a26:PySem.W.nsIn K mainGlobals "_law_two"=some (some (.ref f26))) (l26:K.lookup f26=some ⟨oc26,od26,.func (PySem.W.fnOf "_law_two" "_law_two" (za zB4) (zV zB4) (zG zB4) .none kV26 dc26 pm26 an26 cd26 ct26),sl26⟩) (c26:PySem.W.codeIn K cd26 "_law_two"=true) (k26:PySem.W.keepIn K (.ref f26)=true)
  (a27:PySem.W.nsIn K mainGlobals "_law_named"=some (some (.ref f27))) (l27:K.lookup f27=some ⟨oc27,od27,.func (PySem.W.fnOf "_law_named" "_law_named" (za zAP) (zV zAP) (zG zAP) .none kV27 dc27 pm27 an27 cd27 ct27),sl27⟩) (c27:PySem.W.codeIn K cd27 "_law_named"=true) (k27:PySem.W.keepIn K (.ref f27)=true)
  (a28:PySem.W.nsIn K mainGlobals "_law_few"=some (some (.ref f28))) (l28:K.lookup f28=some ⟨oc28,od28,.func (PySem.W.fnOf "_law_few" "_law_few" (za zB5) (zV zB5) (zG zB5) .none kV28 dc28 pm28 an28 cd28 ct28),sl28⟩) (c28:PySem.W.codeIn K cd28 "_law_few"=true) (k28:PySem.W.keepIn K (.ref f28)=true)
  (a29:PySem.W.nsIn K mainGlobals "law"=some (some (.ref f29))) (l29:K.lookup f29=some ⟨oc29,od29,.func (PySem.W.fnOf "law" "law" (za zDA) (zV zDA) (zG zDA) .none kV29 dc29 pm29 an29 cd29 ct29),sl29⟩) (c29:PySem.W.codeIn K cd29 "law"=true) (k29:PySem.W.keepIn K (.ref f29)=true)
  (ax:PySem.W.nsIn K mainGlobals "MOST_TURNED"=some (some (.int 5 aj)))
  (aZ:PySem.W.nsIn K mainGlobals "tuple"=some none)
  (b7:PySem.W.nsIn K mainGlobals "range"=some none)
  (ba:PySem.W.nsIn K mainGlobals "len"=some none)
  (bb:PySem.W.nsIn K mainGlobals "min"=some none)
  (bc:PySem.W.nsIn K mainGlobals "max"=some none)
  (bg:PySem.W.nsIn K mainGlobals "any"=some none)
  (aR:PySem.W.nsIn K mainGlobals "sorted"=some none)
  (bh:PySem.W.nsIn K mainGlobals "set"=some none)
  (aI:PySem.W.nsIn K mainGlobals "reversed"=some none)
  (b8:PySem.W.nsIn K mainGlobals "list"=some none) :
  ∃ fd:FuncData,(∀(s:Shared) (v:Value),BindsTo s fd ⟨[v],[]⟩ [("script",v)])/\∀ base:Heap,K.In base->base.Ns mainGlobals mg->zCX l.prog w K mg base CX0 8 fa fd ["script"] (lSp K zFP):=by
 have e:=hfa.symm.trans (PySem.W.mg_of X G a29);cases e;have ah:=PySem.W.mg_of X G ax;have ab:=PySem.W.mg_none_of X G aZ;have ad:=PySem.W.mg_none_of X G b7;have af:=PySem.W.mg_none_of X G ba;have aS:=PySem.W.mg_none_of X G bb;have aT:=PySem.W.mg_none_of X G bc;have b9:=PySem.W.mg_none_of X G bg;have ag:=PySem.W.mg_none_of X G aR;have aU:=PySem.W.mg_none_of X G bh;have aF:=PySem.W.mg_none_of X G aI;have aL:=PySem.W.mg_none_of X G b8;refine⟨PySem.W.fnOf "law" "law" (za zDA) (zV zDA) (zG zDA) .none kV29 dc29 pm29 an29 cd29 ct29,fun s v=>.of_eq rfl,fun base kb u0 =>?_⟩;have am:Df l.prog w K mg base 1 "pairs_of" ["places"] (spL yC):=zHn (zp (st:=wf) l1 c1 k1) (PySem.W.mg_of X G a1) ad af;have ai:Df l.prog w K mg base 1 "refuse_more" ["many","most"] yH:=zEr (zp (st:=yc) l2 c2 k2) (PySem.W.mg_of X G a2) ;have aq:Df l.prog w K mg base 1 "tied" ["web","one","other"] yf:=zOQ (zp (st:=zDR) l3 c3 k3) (PySem.W.mg_of X G a3) aS aT;have ao:Df l.prog w K mg base 1 "ring_turned" ["ring","place"] yG:=zEs (zp (st:=yd) l10 c10 k10) (PySem.W.mg_of X G a10) ab aF;have aV:Df l.prog w K mg base 1 "cross" ["ring","one","other"] zAy:=zMp (zp (st:=zB3) l16 c16 k16) (PySem.W.mg_of X G a16) ;have aB:Df l.prog w K mg base 1 "_law_cell_at" ["script","k"] wP:=zGk (zp (st:=wK) l18 c18 k18) (PySem.W.mg_of X G a18) af;have ae:Df l.prog w K mg base 1 "_law_take" ["state","many"] zc:=zKo (zp (st:=zA4) l20 c20 k20) (PySem.W.mg_of X G a20) ;have aw:Df l.prog w K mg base 1 "_law_pairs" ["many"] (spL yV):=zIg (zp (st:=wk) l21 c21 k21) (PySem.W.mg_of X G a21) ad;have aC:Df l.prog w K mg base 2 "pairs" ["many"] (spL yZ):=zMn (zp (st:=zB1) l0 c0 k0) (PySem.W.mg_of X G a0) ab ad am;have ay:Df l.prog w K mg base 2 "around" ["web","place"] wX:=zKk (zp (st:=zAV) l4 c4 k4) (PySem.W.mg_of X G a4) ab ad aq;have aM:Df l.prog w K mg base 2 "_law_state" ["script","k"] (spL yW):=zIf (zp (st:=zAO) l19 c19 k19) (PySem.W.mg_of X G a19) aB;have az:Df l.prog w K mg base 2 "_law_ring" ["state","many"] wZ:=zKp (zp (st:=zAY) l23 c23 k23) (PySem.W.mg_of X G a23) aL ad ab af ae;have aG:Df l.prog w K mg base 2 "_law_web_of" ["ring"] wI:=zHq (zp (st:=wE) l24 c24 k24) (PySem.W.mg_of X G a24) af ab aw;have aN:Df l.prog w K mg base 2 "_law_order" ["state","many"] wa:=zIh (zp (st:=wm) l25 c25 k25) (PySem.W.mg_of X G a25) aL ad ab af ae;have aD:Df l.prog w K mg base 3 "kept" ["web","places"] wn:=zOR (zp (st:=zCU) l5 c5 k5) (PySem.W.mg_of X G a5) af ab aC aq;have aE:Df l.prog w K mg base 3 "piece_of" ["web","place"] wy:=zHo (zp (st:=wg) l8 c8 k8) (PySem.W.mg_of X G a8) af ab ag ay;have aa:Df l.prog w K mg base 3 "web_turned" ["web","place"] zN:=zE3 (zp (st:=yp) l9 c9 k9) (PySem.W.mg_of X G a9) ab ag aU ay am;have aJ:Df l.prog w K mg base 3 "web_of" ["ring"] wb:=zKn (zp (st:=zAX) l17 c17 k17) (PySem.W.mg_of X G a17) af ab aC aV;have aW:Df l.prog w K mg base 3 "_law_web" ["state","most"] zBb:=zMq (zp (st:=zAg) l22 c22 k22) (PySem.W.mg_of X G a22) ab ae aw az aG;have aP:Df l.prog w K mg base 4 "named" ["web","order"] zAx:=zMo (zp (st:=zB2) l6 c6 k6) (PySem.W.mg_of X G a6) aD;have aK:Df l.prog w K mg base 4 "pieces" ["web"] (spL wJ):=zKl (zp (st:=zAW) l7 c7 k7) (PySem.W.mg_of X G a7) ad b9 aE;have aA:Df l.prog w K mg base 4 "swapped" ["web","one","other"] yk:=zIe (zp (st:=zAN) l11 c11 k11) (PySem.W.mg_of X G a11) aq aa;have aQ:Df l.prog w K mg base 4 "spread" ["lists","edge"] (spL wd):=zKm (zp (st:=zA3) l15 c15 k15) (PySem.W.mg_of X G a15) ad aa;have ak:Df l.prog w K mg base 5 "turn_lists" ["web"] yD:=zE5 (zp (st:=yr) l14 c14 k14) (PySem.W.mg_of X G a14) aQ;have aX:Df l.prog w K mg base 5 "_law_two" ["web","one","other"] zA2:=zMr (zp (st:=zB4) l26 c26 k26) (PySem.W.mg_of X G a26) aa aq aA;have aO:Df l.prog w K mg base 5 "_law_named" ["web","order","place","many"] zAU:=zIi (zp (st:=zAP) l27 c27 k27) (PySem.W.mg_of X G a27) ab ag aU aP aa aD;have au:Df l.prog w K mg base 6 "all_turned" ["web"] (spL yE):=zE4 (zp (st:=yq) l12 c12 k12) (PySem.W.mg_of X G a12) ag ah ai ak;have aH:Df l.prog w K mg base 6 "turns_to" ["one","other"] zAA:=zHp (zp (st:=wj) l13 c13 k13) (PySem.W.mg_of X G a13) ah ai ak;have aY:Df l.prog w K mg base 7 "_law_few" ["web"] zBh:=zMs (zp (st:=zB5) l28 c28 k28) (PySem.W.mg_of X G a28) au aH aa;exact zQh (zp (st:=zDA) l29 c29 k29) ad aT aS af aM ae az ao aJ aa aW aK aX aN aO aY
end K
open PySem PySem.W PyProof.Rows
set_option maxRecDepth 100000 in
set_option maxHeartbeats 0 in
theorem PySem.Challenge.cw_chordwebs_k36_whole_turns_holds : PySem.Challenge.rw_chordwebs_k36_whole_turns.Holds := by
 w_on;o_law;k_head;(case hw=>w_witness2)
 k_fill
 refine L3.zLU (l:=PySem.Challenge.rw_chordwebs_k36_whole_turns) (k:=8) rfl rfl ⟨rfl,by decide,by decide⟩ (fun w h Y=>⟨PySem.W.kIn_of Y,[],fun u0=>"",⟨(fun u0 h=>nomatch h),(fun u0 h=>nomatch h),(fun u0 h=>nomatch h),fun x hx=>nomatch hx⟩⟩) ?F
 case F =>
  intro w mg fa h KX G hmg;refine' K.zQi KX G hmg ?a0 ?l0 ?c0 ?k0 ?a1 ?l1 ?c1 ?k1 ?a2 ?l2 ?c2 ?k2 ?a3 ?l3 ?c3 ?k3 ?a4 ?l4 ?c4 ?k4 ?a5 ?l5 ?c5 ?k5 ?a6 ?l6 ?c6 ?k6 ?a7 ?l7 ?c7 ?k7 ?a8 ?l8 ?c8 ?k8 ?a9 ?l9 ?c9 ?k9 ?a10 ?l10 ?c10 ?k10 ?a11 ?l11 ?c11 ?k11 ?a12 ?l12 ?c12 ?k12 ?a13 ?l13 ?c13 ?k13 ?a14 ?l14 ?c14 ?k14 ?a15 ?l15 ?c15 ?k15 ?a16 ?l16 ?c16 ?k16 ?a17 ?l17 ?c17 ?k17 ?a18 ?l18 ?c18 ?k18 ?a19 ?l19 ?c19 ?k19 ?a20 ?l20 ?c20 ?k20 ?a21 ?l21 ?c21 ?k21 ?a22 ?l22 ?c22 ?k22 ?a23 ?l23 ?c23 ?k23 ?a24 ?l24 ?c24 ?k24 ?a25 ?l25 ?c25 ?k25 ?a26 ?l26 ?c26 ?k26 ?a27 ?l27 ?c27 ?k27 ?a28 ?l28 ?c28 ?k28 ?a29 ?l29 ?c29 ?k29 ?ax ?aZ ?b7 ?ba ?bb ?bc ?bg ?aR ?bh ?aI ?b8
  (case a0=>k_is)
  (case l0=>k_is)
  (case c0=>k_is)
  (case k0=>k_is)
  (case a1=>k_is)
  (case l1=>k_is)
  (case c1=>k_is)
  (case k1=>k_is)
  (case a2=>k_is)
  (case l2=>k_is)
  (case c2=>k_is)
  (case k2=>k_is)
  (case a3=>k_is)
  (case l3=>k_is)
  (case c3=>k_is)
  (case k3=>k_is)
  (case a4=>k_is)
  (case l4=>k_is)
  (case c4=>k_is)
  (case k4=>k_is)
  (case a5=>k_is)
  (case l5=>k_is)
  (case c5=>k_is)
  (case k5=>k_is)
  (case a6=>k_is)
  (case l6=>k_is)
  (case c6=>k_is)
  (case k6=>k_is)
  (case a7=>k_is)
  (case l7=>k_is)
  (case c7=>k_is)
  (case k7=>k_is)
  (case a8=>k_is)
  (case l8=>k_is)
  (case c8=>k_is)
  (case k8=>k_is)
  (case a9=>k_is)
  (case l9=>k_is)
  (case c9=>k_is)
  (case k9=>k_is)
  (case a10=>k_is)
  (case l10=>k_is)
  (case c10=>k_is)
  (case k10=>k_is)
  (case a11=>k_is)
  (case l11=>k_is)
  (case c11=>k_is)
  (case k11=>k_is)
  (case a12=>k_is)
  (case l12=>k_is)
  (case c12=>k_is)
  (case k12=>k_is)
  (case a13=>k_is)
  (case l13=>k_is)
  (case c13=>k_is)
  (case k13=>k_is)
  (case a14=>k_is)
  (case l14=>k_is)
  (case c14=>k_is)
  (case k14=>k_is)
  (case a15=>k_is)
  (case l15=>k_is)
  (case c15=>k_is)
  (case k15=>k_is)
  (case a16=>k_is)
  (case l16=>k_is)
  (case c16=>k_is)
  (case k16=>k_is)
  (case a17=>k_is)
  (case l17=>k_is)
  (case c17=>k_is)
  (case k17=>k_is)
  (case a18=>k_is)
  (case l18=>k_is)
  (case c18=>k_is)
  (case k18=>k_is)
  (case a19=>k_is)
  (case l19=>k_is)
  (case c19=>k_is)
  (case k19=>k_is)
  (case a20=>k_is)
  (case l20=>k_is)
  (case c20=>k_is)
  (case k20=>k_is)
  (case a21=>k_is)
  (case l21=>k_is)
  (case c21=>k_is)
  (case k21=>k_is)
  (case a22=>k_is)
  (case l22=>k_is)
  (case c22=>k_is)
  (case k22=>k_is)
  (case a23=>k_is)
  (case l23=>k_is)
  (case c23=>k_is)
  (case k23=>k_is)
  (case a24=>k_is)
  (case l24=>k_is)
  (case c24=>k_is)
  (case k24=>k_is)
  (case a25=>k_is)
  (case l25=>k_is)
  (case c25=>k_is)
  (case k25=>k_is)
  (case a26=>k_is)
  (case l26=>k_is)
  (case c26=>k_is)
  (case k26=>k_is)
  (case a27=>k_is)
  (case l27=>k_is)
  (case c27=>k_is)
  (case k27=>k_is)
  (case a28=>k_is)
  (case l28=>k_is)
  (case c28=>k_is)
  (case k28=>k_is)
  (case a29=>k_is)
  (case l29=>k_is)
  (case c29=>k_is)
  (case k29=>k_is)
  (case ax=>k_is)
  (case aZ=>k_is)
  (case b7=>k_is)
  (case ba=>k_is)
  (case bb=>k_is)
  (case bc=>k_is)
  (case bg=>k_is)
  (case aR=>k_is)
  (case bh=>k_is)
  (case aI=>k_is)
  (case b8=>k_is)
#print axioms PySem.Challenge.cw_chordwebs_k36_whole_turns_holds
