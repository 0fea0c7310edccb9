import PyProof.Rows.All
import Wide.All
import OpenK.AllK
import Wide.FinOn
import Lean
import PyProof.EqAt
import PyProof.EqKinds
import PyProof.TupleCall
import PyProof.DictRoadsH
import PyProof.NeKinds
import PyProof.SetKind
import PyProof.DictStraight
import KE.KRevIter
import PyProof.Rows.Range3
import PyProof.ZipIter
import PyProof.Rows.SortRunsK
import PyProof.Rows.SortShell
import PyProof.Rows.IntRules
import PyProof.Dict
import PyProof.Conv_int_bool
import PyProof.Rows.DictRows
import PyProof.DictTable
import PyProof.Rows.SetFrom
import PyProof.Rows.SortPure
import PyProof.FactsAll.set_1
import PyProof.SetRoads
import PyProof.Walks
import PyProof.CollectWalk
import PyProof.ListRange
import PyProof.TupleKey
import PyProof.IsRules
import PyProof.WalksMore
import PyProof.DictWalks
import KE.KDictList
import PyProof.EnumStmt
import PyProof.Rows.EnumRows
import PyProof.SeqI3
import PyProof.StrCalls2
import PyProof.StrBlockH
import PyProof.StrLawsTight
import PyProof.StrLawsJoin
import KE.KIntText
import PyProof.AttrMiss
import PyProof.IsiH_list
import PyProof.IsiH_tuple
import KE.KDictOf
import PySem.Challenge.RW_chordwebs_k35_turns_to_a_web
set_option Elab.async false
set_option linter.all false
set_option maxRecDepth 100000
set_option autoImplicit true
set_option bootstrap.genMatcherCode false
set_option genSizeOf false
set_option compiler.extract_closed false
set_option genInjectivity false
local macro_rules | `(tactic| omega) => `(tactic| lia)
open PySem renaming wpAny_bind → cN, wpAny_pure → cS, wpAny_call_entry → dY, wpAny_holding → dZ, wpAny_setState_of → ef, wpAny_newObj_type → eR, wpAny_truthy_bool → fq, wpAny_mono → ft, codeAny_mono → fu, wpAny_setField_rec → fB, wpAny_Call_Name_kw → fC, wpAny_execs_cons → fG, wpAny_seqItems → fN, codeAny_builtin → fS, wpAny_isInstance → fV, wpAny_rule → fY, wpAny_forIn_list → gf, wpAny_field → gj, wpAny_ite_split → gu, wpAny_passesOwn → gJ, wpAny_ite_false → gK, wpAny_attempt → gO, wpAny_of_eq → gX, wpAny_tupleItemsOf → gZ, wpAny_specialOf → hJ
open PySem.Heap renaming get?_push_of_some → cP, lt_size → d7, get?_push_size → d9, SameBut → dW, size_push → eE, get?_update_ne → ge, get?_update_self → gi, get?_none_of_le → gS
open Bool renaming false_eq_true → cQ, eq_iff_iff → eD, false_ne_true → eH, and_eq_true → fm, not_eq_true' → fL, not_true → fQ
open List renaming set_cons_zero → cR, set_cons_succ → cT, replicate_succ → cU, replicate_zero → cV, length_cons → cW, cons_append → cX, nil_append → cY, length_nil → cZ, length_map → db, getElem?_eq_some_iff → di, range → dq, mem_singleton → dt, map → dB, mem_cons_of_mem → dC, size_toArray → dD, replicate → dF, mem_cons_self → dH, mem_map → dL, mem_cons → dN, length_append → dO, mem_append → dQ, mem_of_getElem? → dS, mem_append_right → dU, lookup_cons → eh, getElem?_append_right → em, map_cons → eA, getElem?_append_left → eC, take_append_drop → eG, extract_eq_drop_take → eI, getElem?_set_self → eJ, length_take → eK, not_mem_nil → eO, mem_range → eS, length_range → eT, getElem?_map → eU, append_assoc → eV, mem_append_left → eW, getElem?_set_ne → fe, pairwise_iff_getElem → fi, mem_filter → fj, getElem?_eq_getElem → fw, filterMap_cons_some → fA, nodup_cons → fF, getElem_mem → fH, getElem_of_mem → fJ, filterMap_cons → fK, append_nil → fU, Perm → fW, Pairwise → fX, flatten_cons → fZ, map_congr_left → g9, getD → gc, all_eq_true → gg, map_map → gh, mem_iff_getElem → gq, filterMap_cons_none → gz, length_eq_zero_iff → gC, getElem?_replicate → gD, take_length → gE, length_drop → gF, reverse_singleton → gG, length_filter_le → gM, reverse_cons → gQ, getElem?_zip_eq_some → gU, filter_cons → gW, reverse_append → gY, zip_cons_cons → hW, range_succ → i8, pairwise_singleton → i9, map_append → ig, length_zip → ii
open Nat renaming le_refl → da, lt_of_lt_of_le → dM, ne_of_lt → dP, lt_or_ge → eM, le_trans → eN, zero_le → eY, lt_irrefl → fb, ne_of_gt → gB, eq_or_lt_of_le → gH, le_of_lt → gL, not_lt_zero → hV
open Array renaming length_toList → dg, toList_push → dR, toList_append → el, mem_toList_iff → eu, getElem_mem → eF, size_push → eQ, getElem?_toList → eZ, toList_extract → fg, getElem?_eq_some_iff → fI, getD → gA, size_extract → gI
open PyProof.Rows renaming wpS_bind → du, wpS_pure → dI, wpS_forRange → eX, wpS_mono → gp
open PySem.SetTable renaming below → dA, sizeAbove → dG, eraseAt → dJ, insertAt → dX, bits → e8, runEnd → et, insertAt_perm → fh, leap → fE, probe → fP, has → fT, fresh → gm, layClean → gx, turns → gT
open Int renaming toNat_natCast → gR
open PySem PySem.Spec PyProof.Rows
theorem Zq1(h:True:=by first | exact .inl rfl | exact .inr rfl | assumption):True:=h
theorem Zq2(h:True:=by decide):True:=h
theorem Zq3(h:True:=by intro u0;rfl):True:=h
theorem Zq4(h:True:=by rfl):True:=h
theorem Zq5(h:True:=by first | exact Or.inl rfl | exact Or.inr (Or.inl rfl) | exact Or.inr (Or.inr rfl)):True:=h
theorem Zq6(h:True:=by first | exact Or.inl rfl | exact Or.inr rfl):True:=h
theorem Zq7(h:True:=by intro u0 u0;rfl):True:=h
theorem Zq8(h:True:=by exact .refl _):True:=h
namespace K
open PySem
@[elab_as_elim] theorem us1{m:List Value->Prop}(us:List Value)(hl:us.length=1)(h:∀ a,m [a]):m us:=by
 rcases us with _|⟨a,_|⟨e,r⟩⟩
 ·cases hl
 ·exact h a
 ·cases hl
@[elab_as_elim] theorem us2{m:List Value->Prop}(us:List Value)(hl:us.length=2)(h:∀ a b,m [a,b]):m us:=by
 rcases us with _|⟨a,_|⟨b,_|⟨e,r⟩⟩⟩
 ·cases hl
 ·cases hl
 ·exact h a b
 ·cases hl
@[elab_as_elim] theorem us3{m:List Value->Prop}(us:List Value)(hl:us.length=3)(h:∀ a b c,m [a,b,c]):m us:=by
 rcases us with _|⟨a,_|⟨b,_|⟨c,_|⟨e,r⟩⟩⟩⟩
 ·cases hl
 ·cases hl
 ·cases hl
 ·exact h a b c
 ·cases hl
end K
namespace L2
noncomputable abbrev Key:=Sum Int Str
noncomputable def zMk:Key->Value->Bool
 | .inl k,v=>Value.isInt k v
 | .inr x,v=>Value.isStrOf x v
noncomputable def zPp(w:World):Key->Int
 | .inl k=>hashInt k
 | .inr x=>hashStr w x
theorem yL:∀ {k:Key} {v:Value},zMk k v=true->(∃ i t,k=Sum.inl i/\v=Value.int i t)\/(∃ x t,k=Sum.inr x/\v=Value.str x t)
 | .inl i,v,h=>by
  obtain⟨t,e⟩:=Value.isInt_shape (k:=i) (v:=v) h;exact .inl ⟨i,t,rfl,e⟩
 | .inr x,v,h=>by
  obtain⟨t,e⟩:=Value.isStrOf_shape (x:=x) (v:=v) h;exact .inr ⟨x,t,rfl,e⟩
theorem zNF(a b:Int):decide ((Sum.inl a:Key)=Sum.inl b)=(a==b):=by
 by_cases e:a=b
 ·subst e;simp
 ·have h:¬ (Sum.inl a:Key)=Sum.inl b:=fun q=>e (Sum.inl.inj q)
  rw[decide_eq_false h];exact(beq_eq_false_iff_ne.mpr e).symm
theorem zNG(a b:Str):decide ((Sum.inr a:Key)=Sum.inr b)=decide (a=b):=by
 by_cases e:a=b
 ·subst e;simp
 ·have h:¬ (Sum.inr a:Key)=Sum.inr b:=fun q=>e (Sum.inr.inj q)
  rw[decide_eq_false h,decide_eq_false e]
theorem zNH(a:Int)(b:Str):decide ((Sum.inl a:Key)=Sum.inr b)=false:=decide_eq_false (fun q=>nomatch q)
theorem zNI(a:Str)(b:Int):decide ((Sum.inr a:Key)=Sum.inl b)=false:=decide_eq_false (fun q=>nomatch q)
noncomputable def zEv(prog:Program)(w:World):PySem.KeyKind prog w Key where
 is:=zMk
 hash:=zPp w
 inj:=fun v a b ha hb=>by
  rcases yL ha with ⟨i,t,rfl,rfl⟩ | ⟨x,t,rfl,rfl⟩
  ·rcases yL hb with ⟨j,u,rfl,e⟩ | ⟨y,u,rfl,e⟩
   ·injection e with e1 _;rw[e1]
   ·exact nomatch e
  ·rcases yL hb with ⟨j,u,rfl,e⟩ | ⟨y,u,rfl,e⟩
   ·exact nomatch e
   ·injection e with e1 _;rw[e1]
 byValue:=fun k v h=>by
  rcases yL h with ⟨i,t,rfl,rfl⟩ | ⟨x,t,rfl,rfl⟩<;>rfl
 pyHash:=fun hv h=>by
  rcases yL hv with ⟨i,t,rfl,rfl⟩ | ⟨x,t,rfl,rfl⟩
  ·exact wpAny_pyHash_int h
  ·exact wpAny_pyHash_str h
 eqBool:=fun hu hv h=>by
  rcases yL hu with ⟨i,t,rfl,rfl⟩ | ⟨x,t,rfl,rfl⟩
  ·rcases yL hv with ⟨j,u,rfl,rfl⟩ | ⟨y,u,rfl,rfl⟩
   ·rw[zNF] at h;exact wpAny_eqBool_int h
   ·rw[zNH] at h;exact SeqAt.EqAt.int_str i t y u _ _ _ _ h
  ·rcases yL hv with ⟨j,u,rfl,rfl⟩ | ⟨y,u,rfl,rfl⟩
   ·rw[zNI] at h;exact SeqAt.EqAt.str_int x t j u _ _ _ _ h
   ·rw[zNG] at h;exact wpAny_eqBool_str h
 «strs»:=fun k x t v h=>by
  rcases yL h with ⟨i,u,rfl,e⟩ | ⟨y,u,rfl,e⟩
  ·exact nomatch e
  ·injection e with e1 _
   subst e1;cases v<;>rfl
set_option genInjectivity true in
inductive V where
 | non | bl (b:Bool) | int (i:Int) | str (x:Str) | byt (b:Array UInt8) | flt (b:UInt64) | ref (a:Addr) | ty (n:String)
 deriving DecidableEq
noncomputable def RelV:V->Value->Prop
 | .non,u=>u=Value.none
 | .bl b,u=>u=Value.bool b
 | .int i,u=>∃ t,u=Value.int i t
 | .str x,u=>∃ t,u=Value.str x t
 | .byt b,u=>∃ t,u=Value.bytes b t
 | .flt b,u=>∃ t,u=Value.float b t
 | .ref a,u=>u=Value.ref a
 | .ty n,u=>u=Value.type n
noncomputable abbrev zW:List V->List Value->Prop:=Paired RelV
theorem zW.length(r:zW xs us):xs.length=us.length:=Paired.length r
theorem zW.get:∀ {xs:List V} {us:List Value} {i:Nat} {x:V},zW xs us->xs[i]?=some x->∃ u,us[i]?=some u/\RelV x u
 | _,_,_,_,.nil,e=>by simp at e
 | _,_,0,_,.cons r _,e=>by simp at e;subst e;exact⟨_,rfl,r⟩
 | _,_,i+1,x,.cons _ t,e=>by
  obtain⟨u,h1,h2⟩:=zW.get (i:=i) (x:=x) t (by simpa using e);exact⟨u,by simpa using h1,h2⟩
theorem zW.set(r:RelV x u):∀ {xs:List V} {us:List Value} (i:Nat),zW xs us->zW (xs.set i x) (us.set i u)
 | _,_,_,.nil=>.nil
 | _,_,0,.cons _ t=>.cons r t
 | _,_,i+1,.cons q t=>.cons q (zW.set r i t)
theorem zW.append:∀ {xs ys:List V} {us ws:List Value},zW xs us->zW ys ws->zW (xs++ys) (us++ws)
 | _,_,_,_,.nil,s=>s
 | _,_,_,_,.cons r t,s=>.cons r (zW.append t s)
theorem zW.take:∀ {xs:List V} {us:List Value} (n:Nat),zW xs us->zW (xs.take n) (us.take n)
 | _,_,0,_=>.nil
 | _,_,_+1,.nil=>.nil
 | _,_,n+1,.cons r t=>.cons r (zW.take n t)
theorem zW.drop:∀ {xs:List V} {us:List Value} (n:Nat),zW xs us->zW (xs.drop n) (us.drop n)
 | _,_,0,r=>r
 | _,_,_+1,.nil=>.nil
 | _,_,n+1,.cons _ t=>zW.drop n t
noncomputable def zNJ:Option V->Option Value->Prop
 | some v,some u=>RelV v u
 | none,none=>True
 | _,_=>False
noncomputable def KV{κ:Type}:List (κ×V)->List (κ×Value)->Prop:=Paired fun(p:κ×V) (q:κ×Value)=>p.1=q.1/\RelV p.2 q.2
noncomputable def kV:Key->V
 | .inl i=>.int i
 | .inr x=>.str x
set_option genInjectivity true in
inductive HO where
 /-- a list -/
 | lst (xs:List V)
 /-- a tuple (never changes) -/
 | tup (xs:List V)
 /-- a dict whose keys are ints and texts;one whose keys are tuples of ints and texts (the empty one is both) -/
 | dK (kvs:List (Key×V)) | dT (kvs:List (List Key×V))
 /-- a set of ints: its members,its size -/
 | set (S:Int->Bool) (n:Nat)
 /-- an instance of the class at C,its dict at dx,its attributes -/
 | ins (C dx:Addr) (fs:List (Str×V))
 /-- the dict of the instance at x -/
 | own (x:Addr)
 /-- the dict of an exception -/
 | xd (fs:List (Str×V))
 /-- a bound method,f of x -/
 | met (f x:Addr)
 /-- a range object lo,lo+1,.. below hi -/
 | rng (lo hi:Int)
 /-- a thing that is known to the object (the script;a dict while a loop walks it): read,never written while it is so -/
 | frz (o:Obj) (u:HO)
 /-- a code object's table -/
 | tbl (ps:Array Value)
 /-- any other thing,by what is true of its one object (a def of one's own: SetO a S n:=HO.ext fun h=>..) -/
 | ext (φ:Heap->Prop)
noncomputable abbrev Hp:=Addr->Option HO
noncomputable def yT(H:Hp)(a:Addr)(o:HO):Hp:=fun b=>if b=a then some o else H b
theorem zb:yT H a o a=some o:=by unfold yT;rw[if_pos rfl]
theorem zc(h:b≠a):yT H a o b=H b:=by unfold yT;rw[if_neg h]
theorem zLO:yT (yT H a o) a u=yT H a u:=by
 funext b;unfold yT;split<;>rfl
theorem zEH{H:Hp}{a b:Addr}{o u:HO}(h:H a=some o)(h':H b=some u)(d:o≠u):a≠b:=by
 intro e;subst e;rw[h] at h';exact d (Option.some.inj h')
theorem yG{H:Hp}{a b:Addr}{o:HO}(h:H a=some o)(h':H b=none):a≠b:=by
 intro e;subst e;rw[h] at h';cases h'
noncomputable def zDI(h:Heap)(a:Addr)(items:Array Value):Prop:=∃ o,h.get? a=some o/\o.cls=.type "tuple"/\(∃ n,o.data=.seq items n)/\o.dict=none
theorem zDI.isTup(x:zDI h a items):IsTup h a items:=let ⟨o,h1,h2,h3,_⟩:=x;⟨o,h1,h2,h3⟩
theorem zDI.lt(x:zDI h a items):a<h.objs.size:=x.isTup.lt
theorem zDI.new(h:Heap)(items:Array Value):zDI (h.push { cls:=.type "tuple",data:=.seq items }) h.objs.size items:=⟨_,d9 _ rfl,rfl,⟨_,rfl⟩,rfl⟩
section
variable (P:Program) (w:World)
noncomputable def yY(H:Hp)(h:Heap)(a:Addr):HO->Prop
 | .lst xs=>xs.length<=sizeLine/\∃(its:List Value) (n:Nat),zW xs its/\h.get? a=some { cls:=.type "list",data:=.seq its.toArray n }
 | .tup xs=>xs.length<=sizeLine/\∃ its:List Value,zW xs its/\zDI h a its.toArray
 | .dK kvs=>kvs.length<=sizeLine/\(a==sysModules)=false/\∃ vs,KV kvs vs/\h.DictOf (zEv P w) a vs
 | .dT kvs=>kvs.length<=sizeLine/\(a==sysModules)=false/\∃ xs:List (List Key×Addr×Value),
   Paired (fun(p:List Key×V) (q:List Key×Addr×Value)=>p.1=q.1/\H q.2.1=some (.tup (p.1.map kV))/\RelV p.2 q.2.2) kvs xs /\
   ∃ o es ep,h.get? a=some o/\o.ExactDict/\o.data=.dict es ep/\es.toList=xs.map (entryOfKey (tupleKind (zEv P w)))/\(xs.map (·.1)).Nodup
 | .set S n=>h.SetOf (intKind P w) a S n
 | .ins C dx fs=>H dx=some (.own a)/\fs.length<=1000/\dx≠a/\h.get? a=some (PySem.W.instObj C dx) /\
   ∃ mA,h.Ns1 dx mA/\(∀ f,zNJ (fs.lookup f) (mA f))/\PySem.Within mA (fs.map (·.1))
 | .own _=>∃ o,h.get? a=some o
 | .xd fs=>∃ mA,h.Ns1 a mA/\∀ f,zNJ (fs.lookup f) (mA f)
 | .rng lo hi=>∃ t u v,h.get? a=some { cls:=.type "range",data:=.fields #[.int lo t,.int hi u,.int 1 v] }
 | .frz o u=>h.get? a=some o/\yY H h a u
 | .tbl ps=>∃(q:Str) (t:Tok) (vs:Array Value),ps=#[.str q t]/\h.get? a=some (PySem.W.tabObj vs)/\TriplesOk vs.toList/\∀(pos:Pos) (cv:Value),codeAmong pos vs.toList=some cv ->
   ∃(c:Addr) (o:Obj) (us:Array Value) (t':Tok),cv=.ref c/\H c=some (.frz o (.own 0))/\o.data=.fields us/\us[1]?=some (.str q t')
 | .met f x=>h.get? a=some (PySem.W.methodObj (.ref f) (.ref x))
 | .ext φ=>φ h/\(∃ o,h.get? a=some o)/\∀ h1 h2:Heap,φ h1->(∀ o,h1.get? a=some o->h2.get? a=some o)->φ h2
noncomputable def HOk(H:Hp)(h:Heap):Prop:=∀ a o,H a=some o->yY P w H h a o
end
section
variable {P:Program} {w:World} {H H':Hp} {h h':Heap} {a:Addr} {o:HO}
theorem yY.lt(x:yY P w H h a o):a<h.objs.size:=by
 cases o with
 | lst xs=>obtain⟨u0,u0,u0,u0,e⟩:=x;exact d7 e
 | tup xs=>obtain⟨u0,u0,u0,p⟩:=x;exact p.lt
 | dK kvs=>obtain⟨u0,u0,u0,u0,o,u0,u0,e,u0⟩:=x;exact d7 e
 | dT kvs=>obtain⟨u0,u0,u0,u0,o,u0,u0,e,u0⟩:=x;exact d7 e
 | set S n=>obtain⟨o,u0,u0,u0,e,u0⟩:=x;exact d7 e
 | ins C dx fs=>obtain⟨u0,u0,u0,e,u0⟩:=x;exact d7 e
 | own y=>obtain⟨u0,e⟩:=x;exact d7 e
 | xd fs=>obtain⟨u0,⟨u0,u0,u0,e,u0⟩,u0⟩:=x;exact d7 e
 | rng lo hi=>obtain⟨u0,u0,u0,e⟩:=x;exact d7 e
 | frz ob u=>obtain⟨e,u0⟩:=x;exact d7 e
 | tbl ps=>obtain⟨u0,u0,u0,u0,e,u0⟩:=x;exact d7 e
 | met f y=>exact d7 (show h.get? a=some _ from x)
 | ext φ=>obtain⟨u0,⟨u0,e⟩,u0⟩:=x;exact d7 e
theorem Paired.mapP:∀ {l₁:List α} {l₂:List β},Paired F l₁ l₂->(∀ a b,F a b->G a b)->Paired G l₁ l₂
 | _,_,.nil,_=>.nil
 | _,_,.cons r t,f=>.cons (f _ _ r) (Paired.mapP t f)
theorem yY.stay(x:yY P w H h a o)(k:∀ b u,(b=a\/H b=some (.own a))->h.get? b=some u->h'.get? b=some u)
  (ho:∀ b,H b=some (.own a)->H' b=some (.own a)) (ht:∀ b xs,H b=some (.tup xs)->H' b=some (.tup xs)) (hz:∀ b o u,H b=some (.frz o u)->H' b=some (.frz o u)):yY P w H' h' a o:=by
 induction o with
 | lst xs=>obtain⟨z,its,n,r,e⟩:=x;exact⟨z,its,n,r,k _ _ (.inl rfl) e⟩
 | tup xs=>obtain⟨z,its,r,ob,e,c⟩:=x;exact⟨z,its,r,ob,k _ _ (.inl rfl) e,c⟩
 | dK kvs=>obtain⟨z,y,vs,r,ob,es,ep,e,c⟩:=x;exact⟨z,y,vs,r,ob,es,ep,k _ _ (.inl rfl) e,c⟩
 | dT kvs =>
  obtain⟨z,y,xs,r,ob,es,ep,e,c⟩:=x;exact⟨z,y,xs,Paired.mapP r fun p q z=>⟨z.1,ht _ _ z.2.1,z.2.2⟩,ob,es,ep,k _ _ (.inl rfl) e,c⟩
 | set S n=>obtain⟨ob,es,ep,t,e,c⟩:=x;exact⟨ob,es,ep,t,k _ _ (.inl rfl) e,c⟩
 | ins C dx fs =>
  obtain⟨d,z,ne,e,mA,⟨od,es,ep,e2,c⟩,r⟩:=x;exact⟨ho _ d,z,ne,k _ _ (.inl rfl) e,mA,⟨od,es,ep,k _ _ (.inr d) e2,c⟩,r⟩
 | own y=>obtain⟨ob,e⟩:=x;exact⟨ob,k _ _ (.inl rfl) e⟩
 | xd fs=>obtain⟨mA,⟨od,es,ep,e,c⟩,r⟩:=x;exact⟨mA,⟨od,es,ep,k _ _ (.inl rfl) e,c⟩,r⟩
 | rng lo hi=>obtain⟨t,u,v,e⟩:=x;exact⟨t,u,v,k _ _ (.inl rfl) e⟩
 | frz ob u ih=>obtain⟨e,q⟩:=x;exact⟨k _ _ (.inl rfl) e,ih q⟩
 | tbl ps =>
  obtain⟨q,t,vs,e0,e,e1,e2⟩:=x;refine⟨q,t,vs,e0,k _ _ (.inl rfl) e,e1,fun pos cv z=>?_⟩;obtain⟨c,oc,us,t',z1,z2,z3⟩:=e2 pos cv z;exact⟨c,oc,us,t',z1,hz _ _ _ z2,z3⟩
 | met f y =>
  have e:h.get? a=some (PySem.W.methodObj (.ref f) (.ref y)):=x;show h'.get? a=some (PySem.W.methodObj (.ref f) (.ref y));exact k a _ (.inl rfl) e
 | ext φ=>obtain⟨p,⟨o,e⟩,st⟩:=x;exact⟨st _ _ p fun o q=>k _ _ (.inl rfl) q,⟨o,k _ _ (.inl rfl) e⟩,st⟩
theorem HOk.lt(x:HOk P w H h)(e:H a=some o):a<h.objs.size:=(x a o e).lt
theorem HOk.fresh(x:HOk P w H h)(e:h.objs.size<=a):H a=none:=by
 cases q:H a with
 | none=>rfl
 | some u=>exact absurd (dM (x.lt q) e) (fb _)
theorem HOk.kept(x:HOk P w H h)(k:∀ b u,h.get? b=some u->h'.get? b=some u):HOk P w H h':=fun a o e =>
 (x a o e).stay (fun b u u0 q=>k b u q) (fun u0 q=>q) (fun u0 u0 q=>q) fun u0 u0 u0 q=>q
theorem HOk.laid(x:HOk P w H h)(k:∀ b u,h.get? b=some u->h'.get? b=some u)(hp:h.objs.size<=a)(new:yY P w (yT H a o) h' a o):HOk P w (yT H a o) h':=fun b u e=>by
 have hn:=x.fresh hp;by_cases hb:b=a
 ·subst hb;rw[zb] at e;cases e;exact new
 ·rw[zc hb] at e
  exact(x b u e).stay (fun c v u0 q=>k c v q) (fun c q=>by rw[zc (yG q hn)];exact q) (fun c xs q=>by rw[zc (yG q hn)];exact q) fun c oo u q=>by rw[zc (yG q hn)];exact q
end
noncomputable def Rd(H:Hp)(a:Addr)(u:HO):Prop:=H a=some u\/∃ o,H a=some (.frz o u)
theorem Rd.of(h:H a=some u):Rd H a u:=.inl h
theorem Rd.ok(r:Rd H a u)(x:HOk P w H h):yY P w H h a u:=by
 rcases r with r | ⟨o,r⟩
 ·exact x a u r
 ·obtain⟨u0,q⟩:=x a _ r
  exact q
noncomputable def Mut:Option HO->Prop
 | some (.lst _)=>True
 | some (.dK _)=>True
 | some (.dT _)=>True
 | some (.set _ _)=>True
 | some (.ins _ _ _)=>True
 | some (.ext _)=>True
 | _=>False
section
variable {P:Program} {w:World} {H:Hp} {h h':Heap} {x e:Addr} {o':HO}
theorem HOk.write(ok:HOk P w H h)(mu:Mut (H x))(he:e=x\/H e=some (.own x))(k:∀ b u,b≠e->h.get? b=some u->h'.get? b=some u)(heo:∃ u,h'.get? e=some u)
  (new:yY P w (yT H x o') h' x o'):HOk P w (yT H x o') h':=fun b u q=>by
 have nown:∀ c y,H c=some (.own y)->c≠x:=fun c y r z=>by subst z;rw[r] at mu;exact mu
 have ntup:∀ c xs,H c=some (.tup xs)->c≠x:=fun c xs r z=>by subst z;rw[r] at mu;exact mu
 have nfrz:∀ c oo u,H c=some (.frz oo u)->c≠x:=fun c oo u r z=>by subst z;rw[r] at mu;exact mu
 by_cases hb:b=x
 ·subst hb;rw[zb] at q;cases q;exact new
 ·rw[zc hb] at q
  by_cases hbe:b=e
  ·have q':H b=some (.own x):=by
    rcases he with z | z
    ·exact absurd (hbe.trans z) hb
    ·rw[hbe];exact z
   rw[q] at q';cases q';obtain⟨v,hv⟩:=heo;exact⟨v,by rw[hbe];exact hv⟩
  ·refine(ok b u q).stay (fun c v hc r=>k c v ?_ r) (fun c r=>by rw[zc (nown c b r)];exact r) (fun c xs r=>by rw[zc (ntup c xs r)];exact r) fun c oo u r=>by rw[zc (nfrz c oo u r)];exact r
   rcases hc with rfl | hc
   ·exact hbe
   ·rintro rfl
    rcases he with z | z
    ·exact nown c b hc z
    ·rw[hc] at z;cases z;exact hb rfl
end
structure Un (fs ex:List Addr) (H H':Hp) (h h':Heap):Prop where
 keep:∀ b o,h.get? b=some o->H b=none->b∉fs->b∉ex->h'.get? b=some o
 slot:∀ b o,h.get? b=some o->H b=none->b∈fs->b∉ex->∃ sl,h'.get? b=some { o with slots:=sl }
 free:∀ b o,h.get? b=some o->H b=none->b∉ex->H' b=none
 there:∀ b o,h.get? b=some o->b∉ex->∃ o',h'.get? b=some o'
 tups:∀ b xs,H b=some (.tup xs)->H' b=some (.tup xs)
 frzs:∀ b o u,H b=some (.frz o u)->H' b=some (.frz o u)
 tbls:∀ b ps,H b=some (.tbl ps)->H' b=some (.tbl ps)
section
variable {fs fs' ex ex':List Addr} {H H1 H2:Hp} {h h1 h2 h':Heap} {a x e:Addr} {o:HO}
theorem Un.any(u:Un fs ex H H1 h h1)(q:h.get? b=some ob)(n:H b=none)(hx:b∉ex):∃ sl,h1.get? b=some { ob with slots:=sl }:=by
 by_cases hb:b∈fs
 ·exact u.slot b ob q n hb hx
 ·exact⟨ob.slots,u.keep b ob q n hb hx⟩
theorem Un.trans(a:Un fs ex H H1 h h1)(b:Un fs ex H1 H2 h1 h2):Un fs ex H H2 h h2 where
 keep:=fun c ob q n hc hx=>b.keep c ob (a.keep c ob q n hc hx) (a.free c ob q n hx) hc hx
 slot:=fun c ob q n hc hx=>by
  obtain⟨sl,e1⟩:=a.slot c ob q n hc hx;obtain⟨sl',e2⟩:=b.slot c _ e1 (a.free c ob q n hx) hc hx;exact⟨sl',e2⟩
 free:=fun c ob q n hx=>by
  obtain⟨o',e1⟩:=a.there c ob q hx;exact b.free c o' e1 (a.free c ob q n hx) hx
 there:=fun c ob q hx=>by
  obtain⟨o',e1⟩:=a.there c ob q hx;exact b.there c o' e1 hx
 tups:=fun c xs q=>b.tups c xs (a.tups c xs q)
 frzs:=fun c ob xs q=>b.frzs c ob xs (a.frzs c ob xs q)
 tbls:=fun c ps q=>b.tbls c ps (a.tbls c ps q)
theorem Un.kept(k:∀ b u,h.get? b=some u->h'.get? b=some u):Un fs ex H H h h' :=
 ⟨fun b ob q u0 u0 u0=>k b ob q,fun b ob q u0 u0 u0=>⟨ob.slots,k b ob q⟩,fun u0 u0 u0 n u0=>n,fun b ob q u0=>⟨ob,k b ob q⟩,fun u0 u0 q=>q,fun u0 u0 u0 q=>q,fun u0 u0 q=>q⟩
theorem Un.refl:Un fs ex H H h h:=Un.kept fun u0 u0 q=>q
theorem Un.laid(k:∀ b u,h.get? b=some u->h'.get? b=some u)(hp:h.objs.size<=a)(hn:H a=none):Un fs ex H (yT H a o) h h' where
 keep:=fun b u q u0 u0 u0=>k b u q
 slot:=fun b u q u0 u0 u0=>⟨u.slots,k b u q⟩
 free:=fun b u q n u0=>by rw[zc (dP (dM (d7 q) hp))];exact n
 there:=fun b u q u0=>⟨u,k b u q⟩
 tups:=fun b xs q=>by rw[zc (yG q hn)];exact q
 frzs:=fun b u xs q=>by rw[zc (yG q hn)];exact q
 tbls:=fun b ps q=>by rw[zc (yG q hn)];exact q
theorem Un.write(mu:Mut (H x))(he:e=x\/H e=some (.own x))(k:∀ b u,b≠e->h.get? b=some u->h'.get? b=some u)(heo:∃ u,h'.get? e=some u):Un fs ex H (yT H x o) h h':=by
 have hx:∀ b,H b=none->b≠x:=fun b n z=>by subst z;rw[n] at mu;exact mu
 have hb:∀ b,H b=none->b≠e:=fun b n z=>by
  subst z;rcases he with r | r
  ·exact hx b n r
  ·rw[n] at r;cases r
 have hm:∀ b u,H b=some u->¬ Mut (some u)->b≠x:=fun b u q nm z=>by subst z;rw[q] at mu;exact nm mu
 refine⟨fun b u q n u0 u0=>k b u (hb b n) q,fun b u q n u0 u0=>⟨u.slots,k b u (hb b n) q⟩,fun b u q n u0=>by rw[zc (hx b n)];exact n,fun b u q u0=>?_,
  fun b xs q=>by rw[zc (hm b _ q fun z=>z)];exact q,fun b u xs q=>by rw[zc (hm b _ q fun z=>z)];exact q,fun b ps q=>by rw[zc (hm b _ q fun z=>z)];exact q⟩
 by_cases hbe:b=e
 ·subst hbe;exact heo
 ·exact⟨u,k b u hbe q⟩
theorem Un.mono(u:Un fs ex H H1 h h1)(hs:∀ b∈fs,b∈fs')(hx:∀ b∈ex,b∈ex'):Un fs' ex' H H1 h h1 :=
 ⟨fun b ob q n hb he=>u.keep b ob q n (fun z=>hb (hs b z)) fun z=>he (hx b z),fun u0 u0 q n u0 he=>u.any q n fun z=>he (hx _ z),fun b ob q n he=>u.free b ob q n fun z=>he (hx b z),fun b ob q he=>u.there b ob q fun z=>he (hx b z),u.tups,u.frzs,u.tbls⟩
end
noncomputable def trk(h:Heap)(H:Hp):List Addr:=(dq h.objs.size).filter fun a=>(H a).isSome
noncomputable def zD7(h:Heap)(H:Hp):Heap:=PySem.W.hideAll h (trk h H)
theorem zH8(h:Heap)(H:Hp):(zD7 h H).objs.size=h.objs.size:=PySem.W.hideAll_size _ _
theorem zJP(e:h.get? b=some o)(n:H b=none):(zD7 h H).get? b=some o :=
 PySem.W.hideAll_get _ e fun hm=>by
  have q:(H b).isSome=true:=(fj.mp hm).2;rw[n] at q;simp at q
theorem zLP(e:(zD7 h H).get? b=some o):h.get? b=some o/\H b=none:=by
 have e':h.get? b=some o:=PySem.W.of_hideAll (trk h H) e;refine⟨e',?_⟩;cases q:H b with
 | none=>rfl
 | some x =>
  have hm:b∈trk h H:=fj.mpr ⟨eS.mpr (d7 e'),by simp[q]⟩;have z:(zD7 h H).get? b=none:=PySem.W.hideAll_none (trk h H) hm;rw[z] at e;cases e
noncomputable def zLQ(g h:Heap)(L:Addr):List (Addr×Obj):=(dq h.objs.size).filterMap fun a=>if a=L\/(g.get? a).isSome=true then none else (h.get? a).map fun o=>(a,o)
noncomputable def rest(g h:Heap)(L d:Addr):List (Addr×Obj):=(zLQ g h L).filter fun p=>decide (p.1≠d)
structure Mod (K:PySem.W.Frag) (mg:Str->Option Value) (base:Heap):Prop where
 kin:K.In base
 glob:base.Ns mainGlobals mg
 blt:∃ mb,base.Ns builtinsNs mb/\∀ x:Str,x≠"__name__"->mb x=bootBuiltins x
 nolimit:base.NoLimit
structure Cx where
 prog:Program
 w:World
 K:PySem.W.Frag
 mg:Str->Option Value
 base:Heap
 A:Around
 N:List Str
 s₀:Shared
 H₀:Hp
 env:Env
 outer:List Env
 stack:List Env
 ex:List Addr
 fn:Str->Bool
 calm:Bool
 pn:List (Addr×Obj)
 xe:Value->Shared->Prop
noncomputable def wf(l:List Env):List Addr:=l.filterMap (·.frame)
noncomputable abbrev Cx.fs(X:Cx):List Addr:=wf X.outer
noncomputable def Vis(sc:Scope)(x:Str):Prop:=sc.names.lookup x=some .local\/sc.names.lookup x=some .cell\/sc.names.lookup x=some .free
noncomputable def Loc(sc:Scope)(x:Str):Prop:=sc.names.lookup x=some .local\/sc.names.lookup x=some .cell
noncomputable def Look(env:Env)(h:Heap)(m:Str->Option Value)(x:Str)(u:Value):Prop :=
 (env.kindOf x=some .local/\m x=some u)\/((env.kindOf x=some .cell\/env.kindOf x=some .free)/\∃ c,env.cells.lookup x=some c/\h.IsCell c (some u))
noncomputable def zAm:List Str:=["law"]
noncomputable def TabsOk(K:PySem.W.Frag)(H:Hp):Prop:=∀ x∈zAm,∀ c b,PySem.W.tabIn K x=some (c,b)->∃ t,H b=some (.tbl #[.str (x++".<locals>.<lambda>") t])
structure Cx.Ok (X:Cx):Prop where
 mod:Mod X.K X.mg X.base
 kind:X.env.scope.kind=.function
 glob:X.env.globals=mainGlobals
 blt:X.env.builtins=builtinsNs
 above:X.s₀.heap.objs.size<=X.env.locals
 inj:∀ x y c,X.env.cells.lookup x=some c->X.env.cells.lookup y=some c->x=y
 has:∀ x,(X.env.kindOf x=some .cell\/X.env.kindOf x=some .free)->∃ c,X.env.cells.lookup x=some c
 cab:∀ x c,X.fn x=true->X.env.cells.lookup x=some c->X.s₀.heap.objs.size<=c
 hd:X.calm=true->X.A.handled=none
 frames:X.A.frames=some X.stack
 stk:X.stack=X.outer\/(X.stack=X.env::X.outer/\X.env.frame=some X.env.locals)
 exf:∀ b∈X.ex,b≠X.env.locals/\∀ x c,X.env.cells.lookup x=some c->c≠b
 bs:∀ b o,X.base.get? b=some o->X.s₀.heap.get? b=some o/\X.H₀ b=none
 bsz:X.base.objs.size<=X.s₀.heap.objs.size
 noex:∀ b o,X.base.get? b=some o->b∉X.ex
 exfs:∀ b∈X.ex,b∉X.fs
 funs:X.s₀.heap.FunFrames X.base X.outer
 frf:∀ b∈X.fs,X.H₀ b=none
 tb:TabsOk X.K X.H₀
structure zP (X:Cx) (pins:List (Addr×Obj)) (σ:List (Option V)) (H:Hp) (s:Shared):Prop where
 ok:X.Ok
 os:s.os=X.s₀.os
 bare:AllBare s.gens
 base:Un X.fs X.ex X.H₀ H X.s₀.heap s.heap
 loc:∃ m,s.heap.Ns X.env.locals m/\∀(i:Nat) (x:Str) (v:V),X.N[i]?=some x->σ[i]?=some (some v)->Vis X.env.scope x->∃ u,RelV v u/\Look X.env s.heap m x u
 cell:∀ x c,X.env.cells.lookup x=some c->∃ v,s.heap.IsCell c v
 free:H X.env.locals=none
 freeC:∀ x c,X.env.cells.lookup x=some c->H c=none
 pin:∀ p∈X.pn++pins,s.heap.get? p.1=some p.2/\H p.1=none/\p.1≠X.env.locals/\p.1∉X.fs/\∀ v,p.2.data≠.cell v
 hok:HOk X.prog X.w H s.heap
 len:σ.length=X.N.length
section
variable {X:Cx} {pins:List (Addr×Obj)} {σ:List (Option V)} {H H':Hp} {s:Shared} {h':Heap}
theorem Cx.Ok.nofr(ok:X.Ok)(e:X.base.get? b=some o):b∉X.fs:=fun hb=>by
 have:=(ok.funs.mem hb).1;rw[e] at this;cases this
theorem zP.bs(I:zP X pins σ H s):∀ b o,X.base.get? b=some o->s.heap.get? b=some o/\H b=none:=fun b o e =>
 ⟨I.base.keep b o (I.ok.bs b o e).1 (I.ok.bs b o e).2 (I.ok.nofr e) (I.ok.noex b o e),I.base.free b o (I.ok.bs b o e).1 (I.ok.bs b o e).2 (I.ok.noex b o e)⟩
theorem zP.bk(I:zP X pins σ H s):∀ b o,X.base.get? b=some o->s.heap.get? b=some o:=fun b o e=>(I.bs b o e).1
theorem zP.mod(I:zP X pins σ H s):Mod X.K X.mg X.base:=I.ok.mod
theorem zP.tabs(I:zP X pins σ H s):TabsOk X.K H:=fun x hx c b e=>by
 obtain⟨t,q⟩:=I.ok.tb x hx c b e;exact⟨t,I.base.tbls b _ q⟩
theorem zP.kIn(I:zP X pins σ H s):X.K.In s.heap:=I.ok.mod.kin.keeps I.bk
theorem zP.nolimit(I:zP X pins σ H s):s.heap.NoLimit:=I.ok.mod.nolimit.keeps I.bk
theorem zP.fr(I:zP X pins σ H s):∃ m,Fr X.base X.env.locals s.heap m :=
 let ⟨m,hn,_⟩:=I.loc
 ⟨m,hn,I.bk,eN I.ok.bsz I.ok.above⟩
theorem zP.lt(I:zP X pins σ H s):X.env.locals<s.heap.objs.size:=let ⟨_,hn,_⟩:=I.loc;hn.lt
theorem zP.sz(I:zP X pins σ H s):X.s₀.heap.objs.size<=s.heap.objs.size:=eN I.ok.above (gL I.lt)
theorem zP.nofs(I:zP X pins σ H s){a:Addr}(h:s.heap.objs.size<=a):a∉X.fs:=fun hb=>by
 obtain⟨u0,o,ho,u0⟩:=I.ok.funs.mem hb;exact absurd (dM (d7 ho) (eN I.sz h)) (fb _)
theorem zP.cne(I:zP X pins σ H s):∀ x c,X.env.cells.lookup x=some c->c≠X.env.locals:=fun x c e z=>by
 obtain⟨v,o,ho,hd⟩:=I.cell x c e;obtain⟨m,⟨o',es,ep,ho',hd',u0⟩,u0⟩:=I.loc;rw[z,ho'] at ho;cases ho;rw[hd'] at hd;cases hd
theorem zP.funs(I:zP X pins σ H s):s.heap.FunFrames X.base X.outer:=by
 have all:∀(l:List Env),(∀ b∈wf l,b∈X.fs)->X.s₀.heap.FunFrames X.base l->s.heap.FunFrames X.base l:=by
  intro l
  induction l with
  | nil=>intro u0 u0;trivial
  | cons env r ih =>
   intro hs hl;obtain⟨hk,⟨L,o,hf,hn,ho,hd⟩,hr⟩:=hl;have hL:L∈X.fs:=hs L (by unfold wf;rw[fK,hf];exact dH);obtain⟨sl,e⟩:=I.base.slot L o ho (I.ok.frf L hL) hL fun z=>I.ok.exfs L z hL;exact⟨hk,⟨L,_,hf,hn,e,hd⟩,ih (fun b hb=>hs b (by unfold wf;rw[fK,hf];exact dC _ hb)) hr⟩
 exact all X.outer (fun u0 hb=>hb) I.ok.funs
theorem zP.stack(I:zP X pins σ H s):s.heap.FunFrames X.base X.stack:=by
 rcases I.ok.stk with e | ⟨e,hf⟩
 ·rw[e];exact I.funs
 ·rw[e]
  obtain⟨m,hn,u0⟩:=I.loc;refine .cons (by rw[I.ok.kind];decide) hf hn ?_ I.funs;exact gS (eN I.ok.bsz I.ok.above)
theorem zP.stkSub(I:zP X pins σ H s):∀ b∈wf X.stack,b∈X.env.locals::X.fs:=fun b hb=>by
 rcases I.ok.stk with e | ⟨e,hf⟩
 ·rw[e] at hb;exact dC _ hb
 ·rw[e] at hb
  unfold wf at hb;rw[fK,hf] at hb;exact hb
theorem zP.stkFree(I:zP X pins σ H s):∀ b∈wf X.stack,H b=none:=fun b hb=>by
 rcases dN.mp (I.stkSub b hb) with e | hb
 ·rw[e];exact I.free
 ·obtain⟨u0,o,ho,u0⟩:=I.ok.funs.mem hb
  exact I.base.free b o ho (I.ok.frf b hb) fun z=>I.ok.exfs b z hb
theorem zP.step{g':Array GenState}{t':Nat}{d':Drawn}{ch:List Addr}(I:zP X pins σ H s)
  (hch:∀ b∈ch,(b∈X.ex\/X.s₀.heap.objs.size<=b)/\b≠X.env.locals/\(∀ x c,X.env.cells.lookup x=some c->c≠b)/\∀ p∈X.pn++pins,p.1≠b)
  (keep:∀ b o,b≠X.env.locals->b∉X.fs->b∉ch->s.heap.get? b=some o->H b=none->h'.get? b=some o)
  (slot:∀ b o,b≠X.env.locals->b∈X.fs->b∉ch->s.heap.get? b=some o->H b=none->∃ sl,h'.get? b=some { o with slots:=sl }) (free:∀ b o,b∉ch->s.heap.get? b=some o->H b=none->H' b=none)
  (there:∀ b o,b∉ch->s.heap.get? b=some o->∃ o',h'.get? b=some o')
  (tups:∀ b xs,H b=some (.tup xs)->H' b=some (.tup xs)) (frzs:∀ b o u,H b=some (.frz o u)->H' b=some (.frz o u)) (tbls:∀ b ps,H b=some (.tbl ps)->H' b=some (.tbl ps))
  (ns:∀ m,s.heap.Ns X.env.locals m->h'.Ns X.env.locals m) (hok:HOk X.prog X.w H' h') (hg:AllBare g') :
  zP X pins σ H' { s with heap:=h',gens:=g',drawn:=d',toks:=t' }:=by
 have neL:∀ b o,X.s₀.heap.get? b=some o->b≠X.env.locals:=fun b o e=>dP (dM (d7 e) I.ok.above);have neC:∀ b o,X.s₀.heap.get? b=some o->b∉X.ex->b∉ch:=fun b o e hx hb=>by
  rcases(hch b hb).1 with z | z
  ·exact hx z
  ·exact absurd (dM (d7 e) z) (fb _)
 have cellK:∀ x c,X.env.cells.lookup x=some c->∀ v,s.heap.IsCell c v->h'.IsCell c v:=fun x c e v ⟨o,ho,hd⟩=>by
  have nch:c∉ch:=fun z=>(hch c z).2.2.1 x c e rfl;by_cases hc:c∈X.fs
  ·obtain⟨sl,q⟩:=slot c o (I.cne x c e) hc nch ho (I.freeC x c e)
   exact⟨_,q,hd⟩
  ·exact⟨o,keep c o (I.cne x c e) hc nch ho (I.freeC x c e),hd⟩
 refine⟨I.ok,I.os,hg,⟨fun b o e n hb hx=>?_,fun b o e n hb hx=>?_,fun b o e n hx=>?_,fun b o e hx=>?_,fun b xs e=>tups b xs (I.base.tups b xs e),fun b o xs e=>frzs b o xs (I.base.frzs b o xs e),fun b ps e=>?_⟩,?_,fun x c e=>?_,?_,fun x c e=>?_,fun p hp=>?_,hok,I.len⟩
 ·exact keep b o (neL b o e) hb (neC b o e hx) (I.base.keep b o e n hb hx) (I.base.free b o e n hx)
 ·obtain⟨sl,e1⟩:=I.base.slot b o e n hb hx
  obtain⟨sl',e2⟩:=slot b _ (neL b o e) hb (neC b o e hx) e1 (I.base.free b o e n hx);exact⟨sl',e2⟩
 ·obtain⟨o',e1⟩:=I.base.there b o e hx
  exact free b o' (neC b o e hx) e1 (I.base.free b o e n hx)
 ·obtain⟨o',e1⟩:=I.base.there b o e hx
  exact there b o' (neC b o e hx) e1
 ·exact tbls b _ (I.base.tbls b ps e)
 ·obtain⟨m,hn,hl⟩:=I.loc
  refine⟨m,ns m hn,fun i x v e1 e2 e3=>?_⟩;obtain⟨u,r,l⟩:=hl i x v e1 e2 e3;refine⟨u,r,?_⟩;rcases l with l | ⟨k,c,e,z⟩
  ·exact .inl l
  ·exact .inr ⟨k,c,e,cellK x c e _ z⟩
 ·obtain⟨v,z⟩:=I.cell x c e
  exact⟨v,cellK x c e v z⟩
 ·obtain⟨m,⟨o,u0,u0,ho,u0⟩,u0⟩:=I.loc
  exact free _ o (fun z=>(hch _ z).2.1 rfl) ho I.free
 ·obtain⟨v,o,ho,hd⟩:=I.cell x c e
  exact free c o (fun z=>(hch c z).2.2.1 x c e rfl) ho (I.freeC x c e)
 ·obtain⟨e,n,ne,nf,d⟩:=I.pin p hp
  have nch:p.1∉ch:=fun z=>(hch p.1 z).2.2.2 p hp rfl;exact⟨keep p.1 p.2 ne nf nch e n,free p.1 p.2 nch e n,ne,nf,d⟩
theorem zP.un(I:zP X pins σ H s)(u:Un X.fs [] H H' s.heap h')(hok:HOk X.prog X.w H' h'):zP X pins σ H' { s with heap:=h',toks:=t' }:=by
 obtain⟨m,⟨o,es,ep,ho,r⟩,u0⟩:=id I.loc;obtain⟨sl,hL⟩:=u.any ho I.free (by simp);exact I.step (g':=s.gens) (d':=s.drawn) (ch:=[]) (fun u0 z=>nomatch z) (fun b o u0 hb u0 e n=>u.keep b o e n hb (by simp)) (fun b o u0 hb u0 e n=>u.slot b o e n hb (by simp)) (fun b o u0 e n=>u.free b o e n (by simp)) (fun b o u0 e=>u.there b o e (by simp)) u.tups u.frzs u.tbls (fun m' hm=>by
  obtain⟨o',es',ep',ho',r'⟩:=hm;rw[ho] at ho';cases ho';exact⟨_,es',ep',hL,r'⟩) hok I.bare
theorem zP.call(I:zP X pins σ H s)(u:Un (wf X.stack) ch H H' s.heap h')(hok:HOk X.prog X.w H' h')(hg:AllBare g')
  (hch:∀ b∈ch,(b∈X.ex\/X.s₀.heap.objs.size<=b)/\b≠X.env.locals/\(∀ x c,X.env.cells.lookup x=some c->c≠b)/\∀ p∈X.pn++pins,p.1≠b) :
  zP X pins σ H' { s with heap:=h',gens:=g',drawn:=d',toks:=t' }:=by
 obtain⟨m,⟨o,es,ep,ho,r⟩,u0⟩:=id I.loc;obtain⟨sl,hL⟩:=u.any ho I.free fun z=>(hch _ z).2.1 rfl;exact I.step (ch:=ch) hch (fun b o hL hb hc e n=>u.keep b o e n (fun z=>(dN.mp (I.stkSub b z)).elim hL hb) hc) (fun b o u0 u0 hc e n=>u.any e n hc) (fun b o hc e n=>u.free b o e n hc) (fun b o hc e=>u.there b o e hc) u.tups u.frzs u.tbls (fun m' hm=>by
  obtain⟨o',es',ep',ho',r'⟩:=hm;rw[ho] at ho';cases ho';exact⟨_,es',ep',hL,r'⟩) hok hg
theorem zP.turned(I:zP X pins σ H s)(k:∀ b o,b≠it->s.heap.get? b=some o->h'.get? b=some o)(hn:H it=none)(hL:it≠X.env.locals)
  (h1:it∈X.ex\/X.s₀.heap.objs.size<=it) (h2:∀ x c,X.env.cells.lookup x=some c->c≠it) (h3:∀ p∈X.pn++pins,p.1≠it):zP X pins σ H { s with heap:=h',toks:=t' }:=by
 have nit:∀ b u,H b=some u->b≠it:=fun b u e z=>by rw[z,hn] at e;cases e
 refine I.step (g':=s.gens) (d':=s.drawn) (ch:=[it]) (fun b hb=>?_) (fun b o u0 u0 hc e u0=>k b o (fun z=>hc (by simp[z])) e) (fun b o u0 u0 hc e u0=>⟨o.slots,k b o (fun z=>hc (by simp[z])) e⟩) (fun u0 u0 u0 u0 n=>n)
  (fun b o hc e=>⟨o,k b o (fun z=>hc (by simp[z])) e⟩) (fun u0 u0 e=>e) (fun u0 u0 u0 e=>e) (fun u0 u0 e=>e) (fun m hm=>?_) (fun b u e=>?_) I.bare
 ·have e:b=it:=by simpa using hb
  subst e;exact⟨h1,hL,h2,h3⟩
 ·obtain⟨o,es,ep,ho,r⟩:=hm
  exact⟨o,es,ep,k _ o (Ne.symm hL) ho,r⟩
 ·refine(I.hok b u e).stay (fun c v hc q=>k c v ?_ q) (fun u0 q=>q) (fun u0 u0 q=>q) fun u0 u0 u0 q=>q
  rcases hc with z | z
  ·rw[z];exact nit b u e
  ·exact nit c _ z
theorem zP.tok(I:zP X pins σ H s)(t:Nat):zP X pins σ H { s with toks:=t }:=I.un (h':=s.heap) (t':=t) Un.refl I.hok
theorem zP.kept(I:zP X pins σ H s)(k:∀ b u,s.heap.get? b=some u->h'.get? b=some u):zP X pins σ H { s with heap:=h',toks:=t' }:=I.un (Un.kept k) (I.hok.kept k)
theorem zP.laid{a:Addr}{o:HO}{t':Nat}(I:zP X pins σ H s)(k:∀ b u,s.heap.get? b=some u->h'.get? b=some u)(hp:s.heap.objs.size<=a)(new:yY X.prog X.w (yT H a o) h' a o) :
  zP X pins σ (yT H a o) { s with heap:=h',toks:=t' }:=I.un (Un.laid k hp (I.hok.fresh hp)) (I.hok.laid k hp new)
theorem zP.write(I:zP X pins σ H s)(mu:Mut (H x))(he:e=x\/H e=some (.own x))(k:∀ b u,b≠e->s.heap.get? b=some u->h'.get? b=some u)(heo:∃ u,h'.get? e=some u)
  (new:yY X.prog X.w (yT H x o) h' x o):zP X pins σ (yT H x o) { s with heap:=h',toks:=t' }:=I.un (Un.write mu he k heo) (I.hok.write mu he k heo new)
theorem zP.weak(I:zP X pins σ H s)(hl:σ'.length=σ.length)(w:∀(i:Nat) v,σ'[i]?=some (some v)->σ[i]?=some (some v)):zP X pins σ' H s :=
 ⟨I.ok,I.os,I.bare,I.base,let ⟨m,hn,hl'⟩:=I.loc;⟨m,hn,fun i x v e1 e2 e3=>hl' i x v e1 (w i v e2) e3⟩,I.cell,I.free,I.freeC,I.pin,I.hok,hl.trans I.len⟩
theorem zP.pins_of{pins':List (Addr×Obj)}(I:zP X pins σ H s)(h:∀ p∈pins',s.heap.get? p.1=some p.2/\H p.1=none/\p.1≠X.env.locals/\p.1∉X.fs/\∀ v,p.2.data≠.cell v):zP X pins' σ H s :=
 ⟨I.ok,I.os,I.bare,I.base,I.loc,I.cell,I.free,I.freeC,fun p hp=>(dQ.mp hp).elim (fun z=>I.pin p (eW _ z)) (h p),I.hok,I.len⟩
theorem zDJ{N:List Str}(hN:N.Nodup){i j:Nat}{x:Str}(a:N[i]?=some x)(b:N[j]?=some x):i=j:=by
 obtain⟨h1,e1⟩:=di.mp a;obtain⟨h2,e2⟩:=di.mp b;exact(List.getElem_inj hN).mp (e1.trans e2.symm)
theorem zEI{M:Model}{A:Around}{E:Value->Shared->Prop}{i:Nat}{x:Str}{v:V}{u:Value}{Q:Unit->Shared->Prop}(I:zP X pins σ H s)(hN:X.N.Nodup)(hi:X.N[i]?=some x)(hx:Loc X.env.scope x)(r:RelV v u)
  (h:∀ s',zP X pins (σ.set i (some v)) H s'->(∃ a,dW a s.heap s'.heap/\(a=X.env.locals\/X.env.cells.lookup x=some a))->Q () s') (hf:autoParam (X.fn x=true\/X.env.scope.names.lookup x=some .local) Zq1._auto_1):wpAny M A (storeName X.env x u) Q E s:=by
 obtain⟨m,hn,hl⟩:=id I.loc;have hcls:(X.env.scope.kind==.class||(X.env.scope.kind==.module&&X.env.locals != X.env.globals))=false:=by rw[I.ok.kind];rfl
 have hiσ:i<σ.length:=by rw[I.len];exact(di.mp hi).1
 have cne:=I.cne;have tracked:∀ {a:Addr} {h':Heap},(∃ o,s.heap.get? a=some o/\H a=none)->dW a s.heap h'->HOk X.prog X.w H h':=fun {a h'} ha hs b ob e=>by
  obtain⟨u0,u0,hfree⟩:=ha;refine(I.hok b ob e).stay (fun c w' hc q=>(hs.2 c ?_).trans q) (fun u0 q=>q) (fun u0 u0 q=>q) fun u0 u0 u0 q=>q;rintro rfl;rcases hc with rfl | hc
  ·rw[hfree] at e;cases e
  ·rw[hfree] at hc;cases hc
 rcases hx with hk | hk
 ·refine wpAny_storeName_local hk hn (fun h' hn' hs=>?_) hcls
  obtain⟨oL,u0,u0,hoL,u0⟩:=id hn;refine h _ ⟨I.ok,I.os,I.bare,⟨fun b o e n hb hx=>?_,fun b o e n hb hx=>?_,I.base.free,fun b o e hx=>?_,I.base.tups,I.base.frzs,I.base.tbls⟩,⟨_,hn',fun j y v' e1 e2 e3=>?_⟩,fun y c e=>?_,I.free,I.freeC,fun p hp=>?_,tracked ⟨oL,hoL,I.free⟩ hs,by simpa using I.len⟩ ⟨_,hs,.inl rfl⟩
  ·exact(hs.2 b (dP (dM (d7 e) I.ok.above))).trans (I.base.keep b o e n hb hx)
  ·obtain⟨sl,e1⟩:=I.base.slot b o e n hb hx
   exact⟨sl,(hs.2 b (dP (dM (d7 e) I.ok.above))).trans e1⟩
  ·obtain⟨o',e1⟩:=I.base.there b o e hx
   exact⟨o',(hs.2 b (dP (dM (d7 e) I.ok.above))).trans e1⟩
  ·by_cases hj:j=i
   ·subst hj
    rw[hi] at e1;cases e1;rw[eJ hiσ] at e2;cases e2;exact⟨u,r,.inl ⟨hk,by simp⟩⟩
   ·rw[fe (Ne.symm hj)] at e2
    obtain⟨u',r',q⟩:=hl j y v' e1 e2 e3;refine⟨u',r',?_⟩;rcases q with ⟨k,e⟩ | ⟨k,c,e,z⟩
    ·refine .inl ⟨k,?_⟩
     have:y≠x:=fun e=>hj (zDJ hN e1 (e▸hi));simp[this,e]
    ·exact .inr ⟨k,c,e,z.sameBut hs (cne y c e)⟩
  ·obtain⟨w',z⟩:=I.cell y c e
   exact⟨w',z.sameBut hs (cne y c e)⟩
  ·obtain⟨e,n,ne,nf,d⟩:=I.pin p hp
   exact⟨(hs.2 p.1 ne).trans e,n,ne,nf,d⟩
 ·have hfn:X.fn x=true:=by
   rcases hf with z | z
   ·exact z
   ·rw[z] at hk;cases hk
  obtain⟨c,hc⟩:=I.ok.has x (.inl hk);obtain⟨w',z⟩:=I.cell x c hc;refine wpAny_storeName_cell I.ok.kind hk hc z (fun h' hc' hs=>?_);obtain⟨oc,hoc,hocd⟩:=id z;refine h { s with heap:=h' } ⟨I.ok,I.os,I.bare,⟨fun b o e n hb hx=>?_,fun b o e n hb hx=>?_,I.base.free,fun b o e hx=>?_,I.base.tups,I.base.frzs,I.base.tbls⟩,⟨m,hn.sameBut hs (Ne.symm (cne x c hc)),fun j y v' e1 e2 e3=>?_⟩,fun y c' e=>?_,I.free,I.freeC,fun p hp=>?_,tracked ⟨oc,hoc,I.freeC x c hc⟩ hs,by simpa using I.len⟩ ⟨c,hs,.inr hc⟩
  ·exact(hs.2 b (dP (dM (d7 e) (I.ok.cab x c hfn hc)))).trans (I.base.keep b o e n hb hx)
  ·obtain⟨sl,e1⟩:=I.base.slot b o e n hb hx
   exact⟨sl,(hs.2 b (dP (dM (d7 e) (I.ok.cab x c hfn hc)))).trans e1⟩
  ·obtain⟨o',e1⟩:=I.base.there b o e hx
   exact⟨o',(hs.2 b (dP (dM (d7 e) (I.ok.cab x c hfn hc)))).trans e1⟩
  ·by_cases hj:j=i
   ·subst hj
    rw[hi] at e1;cases e1;rw[eJ hiσ] at e2;cases e2;exact⟨u,r,.inr ⟨.inl hk,c,hc,hc'⟩⟩
   ·rw[fe (Ne.symm hj)] at e2
    obtain⟨u',r',q⟩:=hl j y v' e1 e2 e3;refine⟨u',r',?_⟩;rcases q with q | ⟨k,c',e,z'⟩
    ·exact .inl q
    ·refine .inr ⟨k,c',e,z'.sameBut hs ?_⟩
     rintro rfl;exact hj (zDJ hN e1 (I.ok.inj _ _ _ e hc▸hi))
  ·by_cases hcc:c'=c
   ·subst hcc;exact⟨_,hc'⟩
   ·obtain⟨w2,z2⟩:=I.cell y c' e
    exact⟨w2,z2.sameBut hs hcc⟩
  ·obtain⟨e,n,ne,nf,d⟩:=I.pin p hp
   refine⟨(hs.2 p.1 ?_).trans e,n,ne,nf,d⟩;intro q;rw[q,hoc] at e;have q':oc=p.2:=Option.some.inj e;exact d w' (by rw[<-q'];exact hocd)
theorem zBA{M:Model}{A:Around}{E:Value->Shared->Prop}{i:Nat}{x:Str}{v:V}{u:Value}{Q:Unit->Shared->Prop}(I:zP X pins σ H s)(hN:X.N.Nodup)(hi:X.N[i]?=some x)(hx:Loc X.env.scope x)(r:RelV v u)
  (h:∀ s',zP X pins (σ.set i (some v)) H s'->Q () s') (hf:autoParam (X.fn x=true\/X.env.scope.names.lookup x=some .local) Zq1._auto_1):wpAny M A (storeName X.env x u) Q E s :=
 zEI I hN hi hx r (fun s' I' u0=>h s' I') hf
theorem zP.call'(I:zP X pins σ H s)(ho:s'.os=s.os)(u:Un (wf X.stack) ch H H' s.heap s'.heap)(hok:HOk X.prog X.w H' s'.heap)(hg:AllBare s'.gens)
  (hch:∀ b∈ch,(b∈X.ex\/X.s₀.heap.objs.size<=b)/\b≠X.env.locals/\(∀ x c,X.env.cells.lookup x=some c->c≠b)/\∀ p∈X.pn++pins,p.1≠b):zP X pins σ H' s':=by
 obtain⟨h',g',d',t',o'⟩:=s';have e:o'=s.os:=ho;subst e;exact I.call (g':=g') (t':=t') (d':=d') u hok hg hch
end
noncomputable abbrev XK:=Value->Option Addr->Hp->Prop
noncomputable abbrev St:=List (Option V)
noncomputable abbrev VK:=V->Hp->Prop
noncomputable abbrev TE:=St->Hp->VK->Prop
noncomputable abbrev TT:=St->Hp->(Bool->Hp->Prop)->Prop
noncomputable abbrev TA:=St->Hp->(List V->Hp->Prop)->Prop
structure Ends where
 nx:St->Hp->Prop
 rt:VK
 bk:St->Hp->Prop:=fun u0 u0=>False
 ct:St->Hp->Prop:=fun u0 u0=>False
noncomputable abbrev TS:=Ends->St->Hp->Prop
noncomputable def EP(X:Cx)(pins:List (Addr×Obj))(σ:St)(Q:VK)(u:Value)(s':Shared):Prop:=∃ v H',zP X pins σ H' s'/\RelV v u/\Q v H'
noncomputable def TP(X:Cx)(pins:List (Addr×Obj))(σ:St)(Q:Bool->Hp->Prop)(b:Bool)(s':Shared):Prop:=∃ H',zP X pins σ H' s'/\Q b H'
noncomputable def AP(X:Cx)(pins:List (Addr×Obj))(σ:St)(Q:List V->Hp->Prop)(us:List Value)(s':Shared):Prop:=∃ vs H',zP X pins σ H' s'/\zW vs us/\Q vs H'
noncomputable def SP(X:Cx)(pins:List (Addr×Obj))(D:Ends)(f:Flow)(s':Shared):Prop :=
 match f with
 | .next=>∃ σ' H',zP X pins σ' H' s'/\D.nx σ' H'
 | .brk=>∃ σ' H',zP X pins σ' H' s'/\D.bk σ' H'
 | .cont=>∃ σ' H',zP X pins σ' H' s'/\D.ct σ' H'
 | .ret u=>∃ v σ' H',zP X pins σ' H' s'/\RelV v u/\D.rt v H'
noncomputable def PE(X:Cx)(e:Expr)(t:TE):Prop :=
 ∀(pins:List (Addr×Obj)) (s:Shared) (σ:St) (H:Hp) (Q:VK),zP X pins σ H s->t σ H Q->wpAny (model X.prog X.w) X.A (eval e X.env) (EP X pins σ Q) X.xe s
noncomputable def PT(X:Cx)(e:Expr)(t:TT):Prop :=
 ∀(pins:List (Addr×Obj)) (s:Shared) (σ:St) (H:Hp) (Q:Bool->Hp->Prop),zP X pins σ H s->t σ H Q->wpAny (model X.prog X.w) X.A (isTrue e X.env (eval e X.env)) (TP X pins σ Q) X.xe s
noncomputable def PW(X:Cx)(e:Expr)(t:TT):Prop :=
 ∀(whole:Sem Value) (pins:List (Addr×Obj)) (s:Shared) (σ:St) (H:Hp) (Q:Bool->Hp->Prop),zP X pins σ H s->t σ H Q->wpAny (model X.prog X.w) X.A (isTrue e X.env whole) (TP X pins σ Q) X.xe s
theorem PW.pt(h:PW X e t):PT X e t:=h _
noncomputable def PA(X:Cx)(es:List Expr)(t:TA):Prop :=
 ∀(pos:Pos) (pins:List (Addr×Obj)) (s:Shared) (σ:St) (H:Hp) (Q:List V->Hp->Prop),zP X pins σ H s->t σ H Q->wpAny (model X.prog X.w) X.A (spliced (backTo pos (starEach es X.env))) (AP X pins σ Q) X.xe s
noncomputable def PS(X:Cx)(st:Stmt)(t:TS):Prop :=
 ∀(pins:List (Addr×Obj)) (s:Shared) (σ:St) (H:Hp) (D:Ends),zP X pins σ H s->t D σ H->wpAny (model X.prog X.w) X.A (exec st X.env) (SP X pins D) X.xe s
noncomputable def PSs(X:Cx)(st:List Stmt)(t:TS):Prop :=
 ∀(pins:List (Addr×Obj)) (s:Shared) (σ:St) (H:Hp) (D:Ends),zP X pins σ H s->t D σ H->wpAny (model X.prog X.w) X.A (execs st X.env) (SP X pins D) X.xe s
theorem yq{α:Type}{t:Sem α}{Q Q':α->Shared->Prop}{M:Model}{A:Around}{E:Value->Shared->Prop}{s:Shared}(h:wpAny M A t Q E s)(hQ:∀ a s,Q a s->Q' a s):wpAny M A t Q' E s:=ft h hQ fun u0 u0 x=>x
section
variable {X:Cx}
noncomputable def zOn(i:Nat):TE:=fun σ H Q=>∃ v,σ[i]?=some (some v)/\Q v H
noncomputable def tC(v:V):TE:=fun u0 H Q=>Q v H
theorem zEw(hN:X.N[i]?=some x)(hv:Vis X.env.scope x)(hd:autoParam ((x==("__debug__":Str))=false) Zq2._auto_1)(hcd:autoParam ((x==("__classdict__":Str))=false) Zq2._auto_1):PE X (.Name x pos) (zOn i):=by
 intro pins s σ H Q I h;obtain⟨v,e,h⟩:=h;obtain⟨m,hn,hl⟩:=I.loc;obtain⟨u,r,l⟩:=hl i x v hN e hv;have fin:EP X pins σ Q u s:=⟨v,H,I,r,h⟩
 rcases l with ⟨hk,hm⟩ | ⟨hk,c,hc,hcell⟩
 ·exact wpAny_Name (wpAny_loadName_local I.ok.kind hk hn hm fin) hd
 ·rcases hk with hk | hk
  ·exact wpAny_Name (wpAny_loadName_cell I.ok.kind hk hc hcell fin) hd
  ·exact wpAny_Name (wpAny_loadName_free I.ok.kind hk hc hcell fin hcd) hd
theorem zNK{i j pos}:PE X (.Constant (.int i) j pos) (tC (.int i)):=fun u0 u0 u0 H u0 I h=>wpAny_Constant_int ⟨.int i,H,I.tok _,⟨_,rfl⟩,h⟩
theorem zOo{b j pos}:PE X (.Constant (.bool b) j pos) (tC (.bl b)):=fun u0 u0 u0 H u0 I h=>Constant_bool ⟨.bl b,H,I,rfl,h⟩
theorem zJQ{j pos}:PE X (.Constant .none j pos) (tC .non):=fun u0 u0 u0 H u0 I h=>Constant_none ⟨.non,H,I,rfl,h⟩
noncomputable def Gl(X:Cx)(x:Str):Prop:=X.env.kindOf x=some .globalImplicit
theorem zB0{E:Value->Shared->Prop}{pins:List (Addr×Obj)}{s:Shared}{σ:St}{H:Hp}{x:Str}{u:Value}{pos:Pos}{Q:Value->Shared->Prop}(I:zP X pins σ H s)(hg:Gl X x)(hm:X.mg x=some u)(h:Q u s)
  (hd:autoParam ((x==("__debug__":Str))=false) Zq2._auto_1):wpAny (model X.prog X.w) X.A (eval (.Name x pos) X.env) Q E s :=
 Calls.Name_function_global I.ok.kind hg (Calls.loadGlobal_global (by rw[I.ok.glob];exact I.mod.glob.keeps I.bk) hm h) hd
theorem zAX{E:Value->Shared->Prop}{pins:List (Addr×Obj)}{s:Shared}{σ:St}{H:Hp}{x:Str}{u:Value}{pos:Pos}{Q:Value->Shared->Prop}(I:zP X pins σ H s)(hg:Gl X x)(hm:X.mg x=none)(hv:bootBuiltins x=some u)(h:Q u s)
  (hn:autoParam (x≠"__name__") Zq2._auto_1) (hd:autoParam ((x==("__debug__":Str))=false) Zq2._auto_1):wpAny (model X.prog X.w) X.A (eval (.Name x pos) X.env) Q E s:=by
 obtain⟨mb,h1,h2⟩:=I.mod.blt;exact Calls.Name_function_global I.ok.kind hg (Calls.loadGlobal_builtin (by rw[I.ok.glob];exact I.mod.glob.keeps I.bk) hm (by rw[I.ok.blt];exact h1.keeps I.bk) ((h2 x hn).trans hv) h) hd
theorem zHG(hg:Gl X x)(hm:X.mg x=some u)(r:RelV v u)(hd:autoParam ((x==("__debug__":Str))=false) Zq2._auto_1):PE X (.Name x pos) (tC v) :=
 fun u0 u0 u0 H u0 I h=>zB0 I hg hm ⟨v,H,I,r,h⟩ hd
theorem zC7(hg:Gl X x)(hm:X.mg x=none)(hv:bootBuiltins x=some u)(r:RelV v u)(hn:autoParam (x≠"__name__") Zq2._auto_1)(hd:autoParam ((x==("__debug__":Str))=false) Zq2._auto_1):PE X (.Name x pos) (tC v) :=
 fun u0 u0 u0 H u0 I h=>zAX I hg hm hv ⟨v,H,I,r,h⟩ hn hd
variable {a b:Expr} {ta tb:TE} {pos:Pos}
noncomputable def tB(t:TE):TT:=fun σ H Q=>t σ H fun x H1=>∃ c,x=.bl c/\Q c H1
theorem zNL(h:PE X e t)(he:autoParam (∀ whole,isTrue e X.env whole=(do let v <-whole;standAt e.pos;holding [v] (truthy v))) Zq3._auto_1):PT X e (tB t):=by
 intro pins s σ H Q I hw;refine isTrue_plain (yq (h pins s σ H _ I hw) fun v s1 ⟨x,H1,I1,r1,q1⟩=>?_) (he _);obtain⟨d,rfl,q⟩:=q1;cases r1;exact fq ⟨H1,I1,q⟩
variable {tA tB':TT} {rest:List Expr}
noncomputable def zPq(t u:TT):TT:=fun σ H Q=>t σ H fun c H1=>if c=true then u σ H1 Q else Q false H1
noncomputable def tOr(t u:TT):TT:=fun σ H Q=>t σ H fun c H1=>if c=true then Q true H1 else u σ H1 Q
noncomputable def zPr(t:TT):TT:=fun σ H Q=>t σ H fun c H1=>Q (!c) H1
theorem zLR(ha:PT X a tA):PW X (.BoolOp .And [a] pos) tA:=by
 intro wh pins s σ H Q I h;refine isTrue_and (yq (ha pins s σ H Q I h) fun c s1 e=>?_);cases c with
 | true=>exact isTrue_and_nil e
 | false=>exact e
theorem zNM(ha:PT X a tA):PW X (.BoolOp .Or [a] pos) tA:=by
 intro wh pins s σ H Q I h;refine isTrue_or (yq (ha pins s σ H Q I h) fun c s1 e=>?_);cases c with
 | false=>exact isTrue_or_nil e
 | true=>exact e
theorem zNN(ha:PT X a tA)(hb:PW X (.BoolOp .And (b::rest) pos) tB'):PW X (.BoolOp .And (a::b::rest) pos) (zPq tA tB'):=by
 intro wh pins s σ H Q I h;refine isTrue_and (yq (ha pins s σ H _ I h) fun c s1 u9=>?_);obtain⟨H1,I1,q1⟩:=u9;cases c with
 | true=>exact hb wh pins s1 σ H1 Q I1 q1
 | false=>exact⟨H1,I1,q1⟩
theorem zOp(ha:PT X a tA)(hb:PW X (.BoolOp .Or (b::rest) pos) tB'):PW X (.BoolOp .Or (a::b::rest) pos) (tOr tA tB'):=by
 intro wh pins s σ H Q I h;refine isTrue_or (yq (ha pins s σ H _ I h) fun c s1 u9=>?_);obtain⟨H1,I1,q1⟩:=u9;cases c with
 | true=>exact⟨H1,I1,q1⟩
 | false=>exact hb wh pins s1 σ H1 Q I1 q1
theorem zNO(ha:PT X a tA):PT X (.UnaryOp .Not a pos) (zPr tA):=by
 intro pins s σ H Q I h;exact isTrue_not (ha pins s σ H (fun c H1=>Q (!c) H1) I h)
noncomputable def zOq(ta tb:TE):TE:=fun σ H Q=>ta σ H fun x H1=>∃ c,x=.bl c/\if c=true then tb σ H1 Q else Q (.bl false) H1
theorem zNP{op}(h:PE X a t):PE X (.BoolOp op [a] pos) t:=fun pins s σ H Q I hw=>BoolOp_one (h pins s σ H Q I hw)
theorem zNQ(ha:PE X a ta)(hb:PE X (.BoolOp .And (b::rest) pos) tb):PE X (.BoolOp .And (a::b::rest) pos) (zOq ta tb):=by
 intro pins s σ H Q I h;refine BoolOp_and (yq (ha pins s σ H _ I h) fun v s1 u9=>?_);obtain⟨x,H1,I1,r1,q1⟩:=u9;obtain⟨c,rfl,q1⟩:=q1;cases r1;refine fq ?_;cases c with
 | true=>exact hb pins s1 σ H1 Q I1 q1
 | false=>exact⟨.bl false,H1,I1,rfl,q1⟩
end
noncomputable def SqL(K:PySem.W.Frag)(H:Hp)(a:Addr)(xs:List V):Prop :=
 Rd H a (.lst xs) \/
  ∃(o:Obj) (its:Array Value) (n:Nat),K.lookup a=some o/\o.cls=.type "list"/\o.dict=none/\o.data=.seq its n/\its.size<=sizeLine/\zW xs its.toList
noncomputable def SqT(K:PySem.W.Frag)(H:Hp)(a:Addr)(xs:List V):Prop :=
 Rd H a (.tup xs) \/
  ∃(o:Obj) (its:Array Value) (n:Nat),K.lookup a=some o/\o.cls=.type "tuple"/\o.data=.seq its n/\its.size<=sizeLine/\zW xs its.toList/\o.dict=none
noncomputable def zPs:Value->Option V
 | .none=>some .non
 | .bool b=>some (.bl b)
 | .int i _=>some (.int i)
 | .str x _=>some (.str x)
 | .bytes b _=>some (.byt b)
 | .float b _=>some (.flt b)
 | .ref a=>some (.ref a)
 | .type n=>some (.ty n)
 | _=>none
theorem RelV.abs(r:RelV x u):zPs u=some x:=by
 cases x with
 | non=>cases r;rfl
 | bl _=>cases r;rfl
 | int _=>obtain⟨t,rfl⟩:=r;rfl
 | str _=>obtain⟨t,rfl⟩:=r;rfl
 | byt _=>obtain⟨t,rfl⟩:=r;rfl
 | flt _=>obtain⟨t,rfl⟩:=r;rfl
 | ref _=>cases r;rfl
 | ty _=>cases r;rfl
theorem RelV.inj(r:RelV x u)(q:RelV y u):x=y:=Option.some.inj (r.abs.symm.trans q.abs)
theorem zW.inj:∀ {xs ys:List V} {us:List Value},zW xs us->zW ys us->xs=ys
 | _,_,_,.nil,.nil=>rfl
 | _,_,_,.cons r t,.cons r' t'=>by rw[r.inj r',zW.inj t t']
section
variable {X:Cx} {pins:List (Addr×Obj)} {σ:St} {H:Hp} {s:Shared} {a:Addr} {xs ys:List V}
theorem SqL.of{K:PySem.W.Frag}(h:H a=some (.lst xs)):SqL K H a xs:=.inl (.inl h)
theorem SqT.of{K:PySem.W.Frag}(h:H a=some (.tup xs)):SqT K H a xs:=.inl (.inl h)
theorem zP.list(I:zP X pins σ H s)(h:SqL X.K H a xs):∃ its:List Value,zW xs its/\PlainL s.heap a its.toArray/\xs.length<=sizeLine:=by
 rcases h with h | ⟨o,its,n,hk,hc,hd,hs,hz,r⟩
 ·obtain⟨z,its,n,r,e⟩:=h.ok I.hok
  exact⟨its,r,⟨_,n,e,rfl,rfl,rfl⟩,z⟩
 ·refine⟨its.toList,r,⟨o,n,I.kIn a o hk,hc,hd,by simpa using hs⟩,?_⟩
  have e:=r.length;simp only[dg] at e;omega
theorem zP.tuple(I:zP X pins σ H s)(h:SqT X.K H a xs):∃ its:List Value,zW xs its/\IsTup s.heap a its.toArray/\xs.length<=sizeLine:=by
 rcases h with h | ⟨o,its,n,hk,hc,hs,hz,r,u0⟩
 ·obtain⟨z,its,r,p⟩:=h.ok I.hok
  exact⟨its,r,p.isTup,z⟩
 ·refine⟨its.toList,r,⟨o,I.kIn a o hk,hc,n,by simpa using hs⟩,?_⟩
  have e:=r.length;simp only[dg] at e;omega
theorem zP.noDict(I:zP X pins σ H s)(h:SqT X.K H a xs):s.TypeIs (.ref a) "tuple"/\∃ ob,s.heap.get? a=some ob/\ob.dict=none:=by
 rcases h with h | ⟨o,its,n,hk,hc,hs,hz,r,hd⟩
 ·obtain⟨z,its,r,o,h1,h2,h3,h4⟩:=h.ok I.hok
  exact⟨⟨o,h1,h2⟩,o,h1,h4⟩
 ·exact⟨⟨o,I.kIn a o hk,hc⟩,o,I.kIn a o hk,hd⟩
theorem zP.list_inj(I:zP X pins σ H s)(h:SqL X.K H a xs)(h':SqL X.K H a ys):xs=ys:=by
 obtain⟨its,r,⟨o,n,e,u0,u0,d⟩,u0⟩:=I.list h;obtain⟨its',r',⟨o',n',e',u0,u0,d'⟩,u0⟩:=I.list h';rw[e] at e';cases e';rw[d] at d';injection d' with d1 _
 have:its=its':=by simpa using congrArg Array.toList d1
 subst this;exact r.inj r'
theorem zP.tuple_inj(I:zP X pins σ H s)(h:SqT X.K H a xs)(h':SqT X.K H a ys):xs=ys:=by
 obtain⟨its,r,⟨o,e,u0,n,d⟩,u0⟩:=I.tuple h;obtain⟨its',r',⟨o',e',u0,n',d'⟩,u0⟩:=I.tuple h';rw[e] at e';cases e';rw[d] at d';injection d' with d1 _
 have:its=its':=by simpa using congrArg Array.toList d1
 subst this;exact r.inj r'
end
noncomputable abbrev Cx.wish(X:Cx)(E:Value->Shared->Prop):Cx:={ X with xe:=E }
noncomputable abbrev Cx.nox(X:Cx):Cx:=X.wish fun u0 u0=>False
theorem Cx.Ok.wish{X:Cx}(ok:X.Ok)(E:Value->Shared->Prop):(X.wish E).Ok :=
 ⟨ok.mod,ok.kind,ok.glob,ok.blt,ok.above,ok.inj,ok.has,ok.cab,ok.hd,ok.frames,ok.stk,ok.exf,ok.bs,ok.bsz,ok.noex,ok.exfs,ok.funs,ok.frf,ok.tb⟩
theorem Cx.Ok.unwish{X:Cx}{E:Value->Shared->Prop}(ok:(X.wish E).Ok):X.Ok :=
 ⟨ok.mod,ok.kind,ok.glob,ok.blt,ok.above,ok.inj,ok.has,ok.cab,ok.hd,ok.frames,ok.stk,ok.exf,ok.bs,ok.bsz,ok.noex,ok.exfs,ok.funs,ok.frf,ok.tb⟩
section
variable {X:Cx} {pins:List (Addr×Obj)} {σ:St} {H:Hp} {s:Shared} {E:Value->Shared->Prop}
theorem zP.wish(I:zP X pins σ H s)(E:Value->Shared->Prop):zP (X.wish E) pins σ H s:=⟨I.ok.wish E,I.os,I.bare,I.base,I.loc,I.cell,I.free,I.freeC,I.pin,I.hok,I.len⟩
theorem zP.unwish(I:zP (X.wish E) pins σ H s):zP X pins σ H s:=⟨I.ok.unwish,I.os,I.bare,I.base,I.loc,I.cell,I.free,I.freeC,I.pin,I.hok,I.len⟩
theorem SP.unwish(h:SP (X.wish E) pins D f s'):SP X pins D f s':=by
 cases f with
 | next=>obtain⟨σ',H',I,q⟩:=h;exact⟨σ',H',I.unwish,q⟩
 | brk=>obtain⟨σ',H',I,q⟩:=h;exact⟨σ',H',I.unwish,q⟩
 | cont=>obtain⟨σ',H',I,q⟩:=h;exact⟨σ',H',I.unwish,q⟩
 | ret u=>obtain⟨v,σ',H',I,r,q⟩:=h;exact⟨v,σ',H',I.unwish,r,q⟩
theorem PSs.nox{st:List Stmt}{t:TS}(h:PSs X.nox st t):PSs X st t:=fun pins s σ H D I hw =>
 ft (h pins s σ H D (I.wish _) hw) (fun u0 u0 q=>q.unwish) fun u0 u0 z=>False.elim z
end
section
variable {X:Cx} {st:Stmt} {rest:List Stmt} {t u:TS} {e:Expr} {te:TE} {pos:Pos}
noncomputable def zOr:TS:=fun D σ H=>D.nx σ H
noncomputable def zPt(t u:TS):TS:=fun D σ H=>t { D with nx:=u D } σ H
theorem zLS:PSs X [] zOr:=fun u0 u0 σ H u0 I h=>wpAny_execs_nil ⟨σ,H,I,h⟩
theorem zJR(h1:PS X st t)(h2:PSs X rest u):PSs X (st::rest) (zPt t u):=by
 intro pins s σ H D I h;refine fG (yq (h1 pins s σ H { D with nx:=u D } I h) fun f s1 q=>?_);cases f with
 | next =>
  obtain⟨σ',H',I',q⟩:=q;exact h2 pins s1 σ' H' D I' q
 | ret v=>exact q
 | brk=>exact q
 | cont=>exact q
theorem zLT(h1:PS X st t):PSs X [st] t:=by
 intro pins s σ H D I h;refine fG (yq (h1 pins s σ H D I h) fun f s1 q=>?_);cases f with
 | next=>exact wpAny_execs_nil q
 | ret v=>exact q
 | brk=>exact q
 | cont=>exact q
theorem zP.quiet{pins:List (Addr×Obj)}{σ:St}{H:Hp}{s:Shared}(I:zP X pins σ H s):interactive X.env=false:=by simp[interactive,I.ok.kind]
noncomputable def zOs(te:TE):TS:=fun D σ H=>te σ H fun u0 H1=>D.nx σ H1
theorem zLU(he:PE X e te)(hs:autoParam (swapsWith e none pos.line X.env=pure false) Zq4._auto_1):PS X (.Expr e pos) (zOs te):=by
 intro pins s σ H D I h;exact wpAny_Expr_any (yq (he pins s σ H _ I h) fun v s1 ⟨x,H1,I1,r1,q1⟩=>⟨σ,H1,I1,q1⟩) I.quiet hs
noncomputable def zPu(te:TE):TS:=fun D σ H=>te σ H D.rt
theorem zNR(he:PE X e te):PS X (.Return (some e) pos) (zPu te):=by
 intro pins s σ H D I h;exact wpAny_Return_some (yq (he pins s σ H _ I h) fun v s1 ⟨x,H1,I1,r1,q1⟩=>⟨x,σ,H1,I1,r1,q1⟩)
noncomputable def zPv(c:TT)(t u:TS):TS:=fun D σ H=>c σ H fun b H1=>if b=true then t D σ H1 else u D σ H1
theorem zOt(hc:PT X c tc)(ha:PSs X a t)(hb:PSs X b u):PS X (.If c a b pos) (zPv tc t u):=by
 intro pins s σ H D I h;refine wpAny_If (yq (hc pins s σ H _ I h) fun d s1 u9=>?_);obtain⟨H1,I1,q1⟩:=u9;cases d with
 | true=>exact ha pins s1 σ H1 D I1 q1
 | false=>exact hb pins s1 σ H1 D I1 q1
end
noncomputable abbrev TG:=V->St->Hp->(St->Hp->Prop)->Prop
noncomputable abbrev TGs:=List V->St->Hp->(St->Hp->Prop)->Prop
noncomputable def PG(X:Cx)(target:Expr)(t:TG):Prop :=
 ∀(pins:List (Addr×Obj)) (s:Shared) (σ:St) (H:Hp) (v:V) (u:Value) (Q:St->Hp->Prop),zP X pins σ H s->RelV v u->t v σ H Q ->
  wpAny (model X.prog X.w) X.A (assign target X.env u) (fun u0 s'=>∃ σ' H',zP X pins σ' H' s'/\Q σ' H') X.xe s
noncomputable def PGs(X:Cx)(ts:List Expr)(t:TGs):Prop :=
 ∀(pins:List (Addr×Obj)) (s:Shared) (σ:St) (H:Hp) (vs:List V) (us:List Value) (Q:St->Hp->Prop),zP X pins σ H s->zW vs us->t vs σ H Q ->
  wpAny (model X.prog X.w) X.A (assignInOrder ((assignEach ts X.env).map (·.2)) us) (fun u0 s'=>∃ σ' H',zP X pins σ' H' s'/\Q σ' H') X.xe s
noncomputable abbrev zLV:=V->V->V->Hp->(Hp->Prop)->Prop
noncomputable def zNS(X:Cx)(t:zLV):Prop :=
 ∀(pins:List (Addr×Obj)) (s:Shared) (σ:St) (H:Hp) (o i v:V) (ov iv u:Value) (Q:Hp->Prop),zP X pins σ H s->RelV o ov->RelV i iv->RelV v u->t o i v H Q ->
  wpAny (model X.prog X.w) X.A (setItem ov iv u) (fun u0 s'=>∃ H',zP X pins σ H' s'/\Q H') X.xe s
section
variable {X:Cx} {pos:Pos}
noncomputable def zBB(i:Nat):TG:=fun v σ H Q=>Q (σ.set i (some v)) H
theorem wj(hN:X.N.Nodup)(hi:X.N[i]?=some x)(hx:Loc X.env.scope x)(hf:autoParam (X.fn x=true\/X.env.scope.names.lookup x=some .local) Zq1._auto_1):PG X (.Name x pos) (zBB i):=by
 intro pins s σ H v u Q I r h;exact wpAny_assign_Name (zBA I hN hi hx r (fun s' I'=>⟨_,H,I',h⟩) hf)
noncomputable def zLW:TGs:=fun vs σ H Q=>vs=[]/\Q σ H
noncomputable def zDK(t:TG)(u:TGs):TGs:=fun vs σ H Q=>∃ v r,vs=v::r/\t v σ H fun σ' H'=>u r σ' H' Q
theorem zEx:PGs X [] zLW:=by
 intro pins s σ H vs us Q I r h;obtain⟨e,h⟩:=h;subst e;cases r;exact assignInOrder_nil ⟨σ,H,I,h⟩
theorem zAZ{e:Expr}{es:List Expr}{t:TG}{u:TGs}(h1:PG X e t)(h2:PGs X es u)
  (hs:autoParam ((assignEach (e::es) X.env).map (·.2)=assign e X.env::(assignEach es X.env).map (·.2)) Zq4._auto_1):PGs X (e::es) (zDK t u):=by
 intro pins s σ H vs us Q I r h;obtain⟨v,vr,e1,h⟩:=h;subst e1;cases r with
 | cons r rr =>
  rw[hs];refine assignInOrder_cons (yq (h1 pins s σ H _ _ _ I r h) fun _ s1 u9=>?_);obtain⟨σ1,H1,I1,q1⟩:=u9;exact h2 pins s1 σ1 H1 _ _ Q I1 rr q1
noncomputable def zLX(K:PySem.W.Frag)(n:Nat)(t:TGs):TG:=fun v σ H Q=>∃ a xs,v=.ref a/\SqT K H a xs/\xs.length=n/\t xs σ H Q
theorem zGR(hc:X.calm=true)(h:PGs X es t)
  (hn:autoParam ((assignEach es X.env).length=n) Zq4._auto_1) (hst:autoParam ((assignEach es X.env).findIdx? (·.1)=none) Zq4._auto_1):PG X (.Tuple es k pos) (zLX X.K n t):=by
 intro pins s σ H v u Q I r hw;obtain⟨a,xs,e1,hq,hl,hw⟩:=hw;subst e1;cases r;obtain⟨its,rv,ht,hz⟩:=I.tuple hq;refine assign_Tuple_tuple (I.ok.hd hc) ht (by simp[hn,<-hl,rv.length]) hst fun h' hx=>?_;have I1:zP X pins σ H { s with heap:=h' }:=I.kept (t':=s.toks) fun b o e=>hx b o (dP (d7 e)) e;exact h pins _ σ H xs _ Q I1 (by simpa using rv) hw
noncomputable def zPw(to ti:TE)(t:zLV):TG:=fun v σ H Q=>to σ H fun o H1=>ti σ H1 fun i H2=>t o i v H2 fun H3=>Q σ H3
theorem zJS(ho:PE X o to)(hi:PE X i ti)(hs:zNS X t)
  (ha:autoParam (∀ v,assign (.Subscript o i pos) X.env v=(do
   let ov <-holding [v] (eval o X.env);let iv <-holding [v,ov] (eval i X.env)
   standAt pos
   holding [v,ov,iv] (setItem ov iv v)
   release [v,ov,iv] [])) Zq3._auto_1):PG X (.Subscript o i pos) (zPw to ti t):=by
 intro pins s σ H v u Q I r h;rw[ha];refine cN (dZ (yq (ho pins s σ H _ I h) fun ov s1 u9=>?_));obtain⟨x,H1,I1,r1,q1⟩:=u9;refine cN (dZ (yq (hi pins s1 σ H1 _ I1 q1) fun iv s2 u9=>?_));obtain⟨y,H2,I2,r2,q2⟩:=u9;refine cN (wpAny_standAt (cN (dZ (yq (hs pins s2 σ H2 x y v ov iv u _ I2 r1 r2 r q2) fun _ s3 u9=>?_))));obtain⟨H3,I3,q3⟩:=u9;exact wpAny_release ⟨σ,H3,I3,q3⟩
noncomputable def zNT(te:TE)(g:TG):TS:=fun D σ H=>te σ H fun x H1=>g x σ H1 D.nx
theorem zNU(he:PE X e te)(hg:PG X tg g)(hs:autoParam (swapsWithSole [tg] e pos.line X.env=pure false) Zq4._auto_1)(hw:autoParam (swappedStores [tg] e X.env=pure none) Zq4._auto_1)
  (h1:autoParam ((assignEach [tg] X.env).map (·.2)=[assign tg X.env]) Zq4._auto_1):PS X (.Assign [tg] e pos) (zNT te g):=by
 intro pins s σ H D I h;refine wpAny_Assign_stores (yq (he pins s σ H _ I h) fun v s1 ⟨x,H1,I1,r1,q1⟩=>?_) hs hw;rw[h1];exact yq (hg pins s1 σ H1 x v _ I1 r1 q1) fun u0 s2 q=>q
theorem zNV(hN:X.N.Nodup)(hi:X.N[i]?=some x)(hx:Loc X.env.scope x)(he:PE X e te)(hs:autoParam (swapsWith e (some (.Name x pos')) pos.line X.env=pure false) Zq4._auto_1)(hf:autoParam (X.fn x=true\/X.env.scope.names.lookup x=some .local) Zq1._auto_1) :
  PS X (.Assign [.Name x pos'] e pos) (zNT te (zBB i)):=by
 intro pins s σ H D I h;refine wpAny_Assign_Name (yq (he pins s σ H _ I h) fun v s1 ⟨y,H1,I1,r1,q1⟩=>?_) hs;exact zBA I1 hN hi hx r1 (fun s2 I2=>⟨_,H1,I2,q1⟩) hf
noncomputable def zNW(c:TT)(tb:TS):TS:=fun D σ H=>∃ W:Nat->St->Hp->Prop,(∃ m,W m σ H)/\∀ m σ H,W m σ H ->
 c σ H fun b H1=>if b=true then ∃ N:St->Hp->Prop,(∀ σ' H',N σ' H'->∃ m',m'<m/\W m' σ' H')/\tb { D with nx:=N,ct:=N,bk:=D.nx } σ H1 else D.nx σ H1
theorem zJT(hp:PassesOwn (model X.prog X.w) X.A X.env X.xe)(hc:PT X c tc)(hb:PSs X body tb):PS X (.While c body [] pos) (zNW tc tb):=by
 intro pins s σ H D I h;obtain⟨W,⟨m0,w0⟩,turn⟩:=h;refine wpAny_While (codeAny_whileLoop (fun n s'=>∃ σ' H',zP X pins σ' H' s'/\W n σ' H') ?_ m0 ⟨σ,H,I,w0⟩);rintro n s1 ⟨σ1,H1,I1,w1⟩;refine gJ hp (yq (hc pins s1 σ1 H1 _ I1 (turn n σ1 H1 w1)) fun b s2 u9=>?_);obtain⟨H2,I2,q2⟩:=u9;cases b with
 | true =>
  obtain⟨N,hN,q2⟩:=q2;rw[if_pos rfl];refine gJ hp (yq (hb pins s2 σ1 H2 _ I2 q2) fun f s3 q3=>?_);cases f with
  | next =>
   obtain⟨σ3,H3,I3,n3⟩:=q3;obtain⟨m',hm,w3⟩:=hN σ3 H3 n3;exact⟨m',hm,σ3,H3,I3,w3⟩
  | cont =>
   obtain⟨σ3,H3,I3,n3⟩:=q3;obtain⟨m',hm,w3⟩:=hN σ3 H3 n3;exact⟨m',hm,σ3,H3,I3,w3⟩
  | brk=>exact q3
  | ret v=>exact q3
 | false =>
  rw[if_neg eH];exact wpAny_execs_nil ⟨σ1,H2,I2,q2⟩
end
structure It where
 go:Nat->Hp->Prop
 yld:Nat->Hp->V->Hp->Prop
 stop:Nat->Hp->Prop
noncomputable def zBf(X:Cx)(pins:List (Addr×Obj))(H:Hp)(b:Addr):Prop :=
 H b=none/\b≠X.env.locals/\b∉X.fs/\(b∈X.ex\/X.s₀.heap.objs.size<=b)/\(∀ x c,X.env.cells.lookup x=some c->c≠b)/\∀ p∈X.pn++pins,p.1≠b
theorem zP.fpOk{X:Cx}{pins:List (Addr×Obj)}{σ:St}{H H':Hp}{s:Shared}{b:Addr}(I:zP X pins σ H s)(hb:s.heap.objs.size<=b)(hn:H' b=none):zBf X pins H' b:=by
 refine⟨hn,gB (dM I.lt hb),I.nofs hb,.inr (eN I.sz hb),fun x c e z=>?_,fun p hp z=>?_⟩
 ·obtain⟨v,q⟩:=I.cell x c e
  exact absurd (dM q.lt (by rw[z];exact hb)) (fb _)
 ·exact absurd (dM (d7 (I.pin p hp).1) (by rw[z];exact hb)) (fb _)
structure Turn (P:Program) (w:World) (K:PySem.W.Frag) (tg:Expr) (J:It) (fp:List Addr) (it:Addr) (tn:Nat->Heap->Prop):Prop where
 mem:it∈fp
 obj:∀ i h,tn i h->∀ b∈fp,∃ o,h.get? b=some o/\∀ v,o.data≠.cell v
 keep:∀ i h h',tn i h->(∀ b∈fp,∀ o,h.get? b=some o->h'.get? b=some o)->tn i h'
 item:∀(X:Cx),X.prog=P->X.w=w->X.K=K->X.calm=true->∀(i:Nat) (pins:List (Addr×Obj)) (s:Shared) (σ:St) (H:Hp) (E:Value->Shared->Prop),zP X pins σ H s->(∀ b∈fp,zBf X pins H b)->tn i s.heap->J.go i H ->
  wpAny (model P w) X.A (pyNext (.ref it)) (fun r s1=>∃ u,r=some u /\
   wpAny (model P w) X.A (letOwnedTupleGo tg (.ref it) u) (fun u0 s2=>∃ x H',zP X pins σ H' s2/\RelV x u/\J.yld i H x H'/\tn (i+1) s2.heap/\∀ b∈fp,H' b=none) E s1) E s
 done:∀(X:Cx),X.prog=P->X.w=w->X.K=K->X.calm=true->∀(i:Nat) (pins:List (Addr×Obj)) (s:Shared) (σ:St) (H:Hp) (E:Value->Shared->Prop),zP X pins σ H s->(∀ b∈fp,zBf X pins H b)->tn i s.heap->J.stop i H ->
  wpAny (model P w) X.A (pyNext (.ref it)) (fun r s1=>r=none/\zP X pins σ H s1) E s
 self:∀(A:Around) (i:Nat) (s:Shared) (Q:Value->Shared->Prop) (E:Value->Shared->Prop),tn i s.heap->Q (.ref it) s->wpAny (model P w) A (pyIter (.ref it)) Q E s
noncomputable abbrev TI:=St->Hp->(It->Hp->Prop)->Prop
noncomputable def PIE(X:Cx)(pins:List (Addr×Obj))(σ:St)(tg:Expr)(R:It->Hp->Prop)(itv:Value)(s2:Shared):Prop :=
 ∃(it:Addr) (fp:List Addr) (tn:Nat->Heap->Prop) (J:It) (H':Hp),itv=.ref it/\zP X pins σ H' s2/\Turn X.prog X.w X.K tg J fp it tn/\tn 0 s2.heap/\(∀ b∈fp,zBf X pins H' b)/\R J H'
noncomputable def PI(X:Cx)(tg iter:Expr)(wi:TI):Prop :=
 ∀(pins:List (Addr×Obj)) (s:Shared) (σ:St) (H:Hp) (R:It->Hp->Prop),zP X pins σ H s->wi σ H R ->
  wpAny (model X.prog X.w) X.A (eval iter X.env) (fun v s1=>wpAny (model X.prog X.w) X.A (pyIter v) (PIE X pins σ tg R) X.xe s1) X.xe s
theorem zJU(ho:s.heap.get? it=some o)(hc:o.cls=.type n)(hd:o.data=.fields vs)
    (hn:["enumerate","zip","dict_itemiterator","dict_reverseitemiterator","odict_iterator","itertools.zip_longest","itertools.pairwise"].contains n=false) (hQ:Q () s):wpAny M A (letOwnedTupleGo tg (.ref it) u) Q E s:=by
  unfold letOwnedTupleGo;cases tg<;>first
    | exact cS hQ
    | (cases u<;>first
        | exact cS hQ
        | (refine cN (wpAny_load ho ?_)
           rw[hc,hd];show wpAny M A (if (["enumerate","zip","dict_itemiterator","dict_reverseitemiterator","odict_iterator","itertools.zip_longest","itertools.pairwise"].contains n&&vs[0]?==some (rawInt _))=true then _ else _) Q E s;rw[if_neg (by intro h;rw[hn,Bool.false_and] at h;cases h)];exact cS hQ))
noncomputable def Itl(K:PySem.W.Frag)(a:Addr):It :=
 ⟨fun i H=>∃ xs x,SqL K H a xs/\xs[i]?=some x,fun i H x H'=>H'=H/\∀ xs,SqL K H a xs->xs[i]?=some x,fun i H=>∃ xs,SqL K H a xs/\xs.length<=i⟩
noncomputable def Itt(K:PySem.W.Frag)(a:Addr):It :=
 ⟨fun i H=>∃ xs x,SqT K H a xs/\xs[i]?=some x,fun i H x H'=>H'=H/\∀ xs,SqT K H a xs->xs[i]?=some x,fun i H=>∃ xs,SqT K H a xs/\xs.length<=i⟩
noncomputable def Itr(lo:Int)(n:Nat):It:=⟨fun i u0=>i<n,fun i H x H'=>H'=H/\x=.int (lo+i),fun i u0=>n<=i⟩
theorem zH9{P:Program}{w:World}{K:PySem.W.Frag}{tg:Expr}(a it:Addr):Turn P w K tg (Itl K a) [it] it (fun i h=>h.IsListIter it a i) where
 mem:=by simp
 obj:=fun i h st b hb=>by
  have e:b=it:=by simpa using hb
  subst e;obtain⟨o,e,c,d⟩:=st;exact⟨o,e,fun v z=>by rw[d] at z;cases z⟩
 keep:=fun i h h' st k=>st.at fun o e=>k it (by simp) o e
 item:=by
  intro X hP hw hK hc i pins s σ H E I hf st hg;subst hP hw hK;obtain⟨xs,x,hq,hx⟩:=hg;obtain⟨its,rv,p,hz⟩:=I.list hq;obtain⟨u,hu,ru⟩:=rv.get hx;obtain⟨f0,f1,f2,f3,f4,f5⟩:=hf it (by simp);refine wpAny_pyNext_list_item st p.isList (x:=u) (by simpa using hu) fun h' st' sb=>?_;have I1:zP X pins σ H { s with heap:=h' }:=I.turned (t':=s.toks) (fun b o hb e=>(sb.2 b hb).trans e) f0 f1 f3 f4 f5;obtain⟨o,e,c,d⟩:=id st';exact⟨u,rfl,zJU (s:={ s with heap:=h' }) e c d (by decide) ⟨x,H,I1,ru,⟨rfl,fun ys hy=>by rw[I.list_inj hy hq];exact hx⟩,st',fun b hb=>(hf b hb).1⟩⟩
 done:=by
  intro X hP hw hK hc i pins s σ H E I hf st hg;subst hP hw hK;obtain⟨xs,hq,hx⟩:=hg;obtain⟨its,rv,p,hz⟩:=I.list hq;obtain⟨f0,f1,f2,f3,f4,f5⟩:=hf it (by simp);have hl:=rv.length;exact wpAny_pyNext_list_end (I.ok.hd hc) st p.isList (by simp;omega) fun h' eb=>⟨rfl,I.turned (t':=s.toks) (fun b o hb e=>eb b o hb e) f0 f1 f3 f4 f5⟩
 self:=fun u0 u0 u0 u0 u0 st h=>wpAny_pyIter_listiter st h
theorem zGS{P:Program}{w:World}{K:PySem.W.Frag}{tg:Expr}(a it:Addr):Turn P w K tg (Itt K a) [it] it (fun i h=>h.IsTupleIter it a i) where
 mem:=by simp
 obj:=fun i h st b hb=>by
  have e:b=it:=by simpa using hb
  subst e;obtain⟨o,e,c,d⟩:=st;exact⟨o,e,fun v z=>by rw[d] at z;cases z⟩
 keep:=fun i h h' st k=>st.at fun o e=>k it (by simp) o e
 item:=by
  intro X hP hw hK hc i pins s σ H E I hf st hg;subst hP hw hK;obtain⟨xs,x,hq,hx⟩:=hg;obtain⟨its,rv,p,hz⟩:=I.tuple hq;obtain⟨u,hu,ru⟩:=rv.get hx;obtain⟨f0,f1,f2,f3,f4,f5⟩:=hf it (by simp);refine wpAny_pyNext_tuple_item st (show s.heap.IsTuple a its.toArray from p) (x:=u) (by simpa using hu) fun h' st' sb=>?_;have I1:zP X pins σ H { s with heap:=h' }:=I.turned (t':=s.toks) (fun b o hb e=>(sb.2 b hb).trans e) f0 f1 f3 f4 f5;obtain⟨o,e,c,d⟩:=id st';exact⟨u,rfl,zJU (s:={ s with heap:=h' }) e c d (by decide) ⟨x,H,I1,ru,⟨rfl,fun ys hy=>by rw[I.tuple_inj hy hq];exact hx⟩,st',fun b hb=>(hf b hb).1⟩⟩
 done:=by
  intro X hP hw hK hc i pins s σ H E I hf st hg;subst hP hw hK;obtain⟨xs,hq,hx⟩:=hg;obtain⟨its,rv,p,hz⟩:=I.tuple hq;obtain⟨f0,f1,f2,f3,f4,f5⟩:=hf it (by simp);have hl:=rv.length;exact wpAny_pyNext_tuple_end (I.ok.hd hc) st (show s.heap.IsTuple a its.toArray from p) (by simp;omega) fun h' eb=>⟨rfl,I.turned (t':=s.toks) (fun b o hb e=>eb b o hb e) f0 f1 f3 f4 f5⟩
 self:=fun u0 u0 u0 u0 u0 st h=>wpAny_pyIter_tupleiter st h
theorem zGT{P:Program}{w:World}{K:PySem.W.Frag}{tg:Expr}(it:Addr)(lo:Int)(n:Nat):Turn P w K tg (Itr lo n) [it] it (fun i h=>IsRangeIter h it (lo+(i:Nat)*1) ((n:Int)-(i:Nat)) 1) where
 mem:=by simp
 obj:=fun i h st b hb=>by
  have e:b=it:=by simpa using hb
  subst e;exact⟨_,st,fun v z=>by
   have z':Data.fields _=Data.cell v:=z;cases z'⟩
 keep:=fun i h h' st k=>k it (by simp) _ st
 item:=by
  intro X hP hw hK hc i pins s σ H E I hf st hg;subst hP hw hK;obtain⟨f0,f1,f2,f3,f4,f5⟩:=hf it (by simp);have W:=Walks.range (prog:=X.prog) (w:=X.w) (I.ok.hd hc) it lo 1 n;refine W.item i s _ _ hg st fun v h' tk hv st' kk=>?_;obtain⟨t,rfl⟩:=hv;have I1:zP X pins σ H { s with heap:=h',toks:=tk }:=I.turned (fun b o hb e=>kk b o (by simpa using hb) e) f0 f1 f3 f4 f5;refine⟨_,rfl,zJU (s:={ s with heap:=h',toks:=tk }) (n:="range_iterator") st' rfl rfl (by decide) ⟨.int (lo+i),H,I1,⟨t,?_⟩,⟨rfl,rfl⟩,st',fun b hb=>(hf b hb).1⟩⟩;rw[Int.mul_one]
 done:=by
  intro X hP hw hK hc i pins s σ H E I hf st hg;subst hP hw hK;obtain⟨f0,f1,f2,f3,f4,f5⟩:=hf it (by simp);exact wpAny_pyNext_range_end (I.ok.hd hc) st (by have:n<=i:=hg;omega) fun h' eb=>⟨rfl,I.turned (t':=s.toks) (fun b o hb e=>eb b o hb e) f0 f1 f3 f4 f5⟩
 self:=fun u0 u0 u0 u0 u0 st h=>wpAny_pyIter_rangeiter st h
section
variable {X:Cx} {tg:Expr}
theorem zFU{pins:List (Addr×Obj)}{σ:St}{H:Hp}{s:Shared}{R:It->Hp->Prop}{E:Value->Shared->Prop}{lo hi:Int}{t u v:Tok}{tk:Nat}(I:zP X pins σ H s)(h1:-(2 ^ 62)<=lo)(h2:lo<2 ^ 62)(h3:-(2 ^ 62)<=hi)(h4:hi<2 ^ 62)
  (q:R (Itr lo (hi-lo).toNat) H):wpAny (model X.prog X.w) X.A (pyIter (.ref s.heap.objs.size)) (PIE X pins σ tg R) E { s with heap:=s.heap.push { cls:=.type "range",data:=.fields #[.int lo t,.int hi u,.int 1 v] },toks:=tk }:=by
 refine wpAny_pyIter_range (IsRange.new ..) (small_one h1 h2 h3 h4) ?_;have I1:zP X pins σ H { s with heap:=s.heap.push { cls:=.type "range",data:=.fields #[.int lo t,.int hi u,.int 1 v] },toks:=tk }:=I.kept fun b o e=>cP _ e;refine⟨(s.heap.push { cls:=.type "range",data:=.fields #[.int lo t,.int hi u,.int 1 v] }).objs.size,[(s.heap.push { cls:=.type "range",data:=.fields #[.int lo t,.int hi u,.int 1 v] }).objs.size],_,_,H,rfl,
  I1.kept (t':=tk) fun b o e=>cP _ e,zGT _ lo (hi-lo).toNat,?_,fun b hb=>?_,q⟩
 ·have e1:lo+((0:Nat):Int)*1=lo:=by simp
  have e2:(((hi-lo).toNat:Nat):Int)-((0:Nat):Int)=Builtin.Range.rangeSize lo hi 1:=by rw[rangeSize_one];split<;>omega
  show IsRangeIter _ _ (lo+((0:Nat):Int)*1) ((((hi-lo).toNat:Nat):Int)-((0:Nat):Int)) 1;rw[e1,e2];exact d9 _ rfl
 ·have e:b=(s.heap.push { cls:=.type "range",data:=.fields #[.int lo t,.int hi u,.int 1 v] }).objs.size:=by simpa using hb
  subst e;exact I1.fpOk (da _) (I1.hok.fresh (da _))
noncomputable def zOu(ta:TA):TI:=fun σ H R=>ta σ H fun vs H1=>∃ j:Int,vs=[.int j]/\-(2 ^ 62)<=j/\j<2 ^ 62/\R (Itr 0 j.toNat) H1
noncomputable def zOv(ta:TA):TI:=fun σ H R=>ta σ H fun vs H1=>∃ i j:Int,vs=[.int i,.int j]/\(-(2 ^ 62)<=i/\i<2 ^ 62/\-(2 ^ 62)<=j/\j<2 ^ 62)/\R (Itr i (j-i).toNat) H1
theorem zIA(hg:Gl X "range")(hm:X.mg "range"=none)(ha:PA X [a] ta)(hs:autoParam (starEach [a] X.env=[(false,eval a X.env)]) Zq4._auto_1):PI X tg (.Call (.Name "range" p) [a] [] pos) (zOu ta):=by
 intro pins s σ H R I h;refine Call_ (zAX I hg hm boot_range (PyProof.Rows.callWith_type1 (yq (ha pos pins s σ H _ I h) fun us s1 ⟨vs,H1,I1,r1,q1⟩=>?_) hs rfl));obtain⟨j,e,q1,q2,q⟩:=q1;subst e;cases r1 with
 | cons r rr =>
  cases rr;obtain⟨t,rfl⟩:=r;exact call_range_1 (zFU I1 (by omega) (by omega) q1 q2 (by simpa using q))
theorem zIB(hg:Gl X "range")(hm:X.mg "range"=none)(ha:PA X [a,b] ta)(hs:autoParam (starEach [a,b] X.env=[(false,eval a X.env),(false,eval b X.env)]) Zq4._auto_1)(hs2:autoParam (starEach [b] X.env=[(false,eval b X.env)]) Zq4._auto_1) :
  PI X tg (.Call (.Name "range" p) [a,b] [] pos) (zOv ta):=by
 intro pins s σ H R I h;refine Call_ (zAX I hg hm boot_range (PyProof.Rows.callWith_type1 (yq (ha pos pins s σ H _ I h) fun us s1 ⟨vs,H1,I1,r1,q1⟩=>?_) (by rw[hs,hs2]) (by rw[hs2];rfl)));obtain⟨i,j,e,⟨q1,q2,q3,q4⟩,q⟩:=q1;subst e;cases r1 with
 | cons r rr =>
  cases rr with
  | cons r' rr =>
   cases rr;obtain⟨t,rfl⟩:=r;obtain⟨t',rfl⟩:=r';exact call_range_2 (zFU I1 q1 q2 q3 q4 q)
noncomputable def zPx(wi:TI)(g:TG)(tb:TS):TS:=fun D σ H=>wi σ H fun J H1=>∃ W:Nat->Nat->St->Hp->Prop,(∃ m,W 0 m σ H1)/\∀ i m σ H,W i m σ H ->
 (J.stop i H/\D.nx σ H)\/(J.go i H/\∃ N:St->Hp->Prop,(∀ σ' H',N σ' H'->∃ m',m'<m/\W (i+1) m' σ' H')/\∀ x H',J.yld i H x H'->g x σ H' fun σ2 H2=>tb { D with nx:=N,ct:=N,bk:=D.nx } σ2 H2)
noncomputable def zDL(fp:List Addr)(h:Heap):List (Addr×Obj):=fp.filterMap fun b=>(h.get? b).map fun o=>(b,o)
theorem zAn(hb:b∈fp)(e:h.get? b=some o):(b,o)∈zDL fp h:=List.mem_filterMap.mpr ⟨b,hb,by rw[e];rfl⟩
theorem zIC(hp:p∈zDL fp h):p.1∈fp/\h.get? p.1=some p.2:=by
 obtain⟨b,hb,e⟩:=List.mem_filterMap.mp hp;cases q:h.get? b with
 | none=>rw[q] at e;cases e
 | some o =>
  rw[q] at e;have e':(b,o)=p:=Option.some.inj e;subst e';exact⟨hb,q⟩
theorem zP.pinned{pins:List (Addr×Obj)}{σ:St}{H:Hp}{s:Shared}{fp:List Addr}(I:zP X pins σ H s)(hf:∀ b∈fp,zBf X pins H b)(ho:∀ b∈fp,∃ o,s.heap.get? b=some o/\∀ v,o.data≠.cell v):zP X (pins++zDL fp s.heap) σ H s :=
 I.pins_of fun p hp=>(dQ.mp hp).elim (fun z=>I.pin p (dU _ z)) fun z=>by
  obtain⟨hb,e⟩:=zIC z;obtain⟨f0,f1,f2,u0⟩:=hf p.1 hb;obtain⟨o,e',d⟩:=ho p.1 hb;rw[e] at e';cases e';exact⟨e,f0,f1,f2,d⟩
theorem zP.unpinned{pins pl:List (Addr×Obj)}{σ:St}{H:Hp}{s:Shared}(I:zP X (pins++pl) σ H s):zP X pins σ H s:=I.pins_of fun p hp=>I.pin p (dU _ (eW _ hp))
theorem zNX(hp:PassesOwn (model X.prog X.w) X.A X.env X.xe)(hc:X.calm=true)(hi:PI X tg iter wi)(hg:PG X tg g)(hb:PSs X body tb)
  (hs:autoParam (∀ x,foldedSetIterable iter X.env x=pure x) Zq3._auto_1):PS X (.For tg iter body [] pos) (zPx wi g tb):=by
 intro pins s σ H D I h;refine wpAny_For (yq (hi pins s σ H _ I h) fun v s1 h1=>yq h1 fun itv s2 h2=>?_) hs;obtain⟨it,fp,tn,J,H2,e,I2,T,st2,f2,W,⟨m0,w0⟩,turn⟩:=h2;subst e
 -- what stays true of the iterator's objects through the loop
 have stat:∀ {H':Hp},(∀ b∈fp,H' b=none)->∀ b∈fp,zBf X pins H' b:=fun hn b hb=>⟨hn b hb,(f2 b hb).2⟩
 refine codeAny_forLoop_any (fun n s'=>∃ i σ' H',zP X pins σ' H' s'/\tn i s'.heap/\(∀ b∈fp,H' b=none)/\W i n σ' H') ?_ m0 ⟨0,σ,H2,I2,st2,fun b hb=>(f2 b hb).1,w0⟩;rintro n s3 ⟨i,σ3,H3,I3,st3,fr3,w3⟩;rcases turn i n σ3 H3 w3 with ⟨stop,qn⟩ | ⟨go,N,hN,step⟩
 ·refine gJ hp (yq (T.done X rfl rfl rfl hc i pins s3 σ3 H3 X.xe I3 (stat fr3) st3 stop) fun r s4 u9=>?_);obtain⟨hr,I4⟩:=u9
  subst hr;exact wpAny_execs_nil ⟨σ3,H3,I4,qn⟩
 ·refine gJ hp (yq (T.item X rfl rfl rfl hc i pins s3 σ3 H3 X.xe I3 (stat fr3) st3 go) fun r s4 u9=>?_);obtain⟨u,hr,h4⟩:=u9
  subst hr;refine gJ hp (yq h4 fun _ s5 u9=>?_);obtain⟨x,H5,I5,r5,y5,st5,fr5⟩:=u9;have I5':=I5.pinned (stat fr5) (T.obj _ _ st5);refine gJ hp (yq (hg _ s5 σ3 H5 x u _ I5' r5 (step x H5 y5)) fun _ s6 u9=>?_);obtain⟨σ6,H6,I6,q6⟩:=u9;refine gJ hp (yq (hb _ s6 σ6 H6 _ I6 q6) fun f s7 q7=>?_);have again:∀ {σ7:St} {H7:Hp},zP X (pins++zDL fp s5.heap) σ7 H7 s7->N σ7 H7->∃ m,m<n/\∃ i σ' H',zP X pins σ' H' s7/\tn i s7.heap/\(∀ b∈fp,H' b=none)/\W i m σ' H':=fun {σ7 H7} I7 n7=>by
   obtain⟨m',hm,w7⟩:=hN σ7 H7 n7;refine⟨m',hm,i+1,σ7,H7,I7.unpinned,T.keep _ _ _ st5 fun b hb o e=>(I7.pin (b,o) (dU _ (dU _ (zAn hb e)))).1,fun b hb=>?_,w7⟩;obtain⟨o,e,d⟩:=T.obj _ _ st5 b hb;exact(I7.pin (b,o) (dU _ (dU _ (zAn hb e)))).2.1
  cases f with
  | next=>obtain⟨σ7,H7,I7,n7⟩:=q7;exact again I7 n7
  | cont=>obtain⟨σ7,H7,I7,n7⟩:=q7;exact again I7 n7
  | brk=>obtain⟨σ7,H7,I7,q7⟩:=q7;exact⟨σ7,H7,I7.unpinned,q7⟩
  | ret v=>obtain⟨x7,σ7,H7,I7,r7,q7⟩:=q7;exact⟨x7,σ7,H7,I7.unpinned,r7,q7⟩
end
noncomputable abbrev R2:=V->V->Hp->VK->Prop
noncomputable def OpR(X:Cx)(f:Value->Value->Sem Value)(r:R2):Prop :=
 ∀(pins:List (Addr×Obj)) (s:Shared) (σ:St) (H:Hp) (x y:V) (v u:Value) (Q:VK),zP X pins σ H s->RelV x v->RelV y u->r x y H Q ->
  wpAny (model X.prog X.w) X.A (f v u) (EP X pins σ Q) X.xe s
noncomputable def yt(X:Cx)(f:Value)(r:List V->Hp->VK->Prop):Prop :=
 ∀(pins:List (Addr×Obj)) (s:Shared) (σ:St) (H:Hp) (xs:List V) (us:List Value) (Q:VK),zP X pins σ H s->zW xs us->r xs H Q ->
  wpAny (model X.prog X.w) X.A (call f us) (EP X pins σ Q) X.xe s
noncomputable def zPy(X:Cx)(r:V->Hp->(Bool->Hp->Prop)->Prop):Prop :=
 ∀(pins:List (Addr×Obj)) (s:Shared) (σ:St) (H:Hp) (x:V) (v:Value) (Q:Bool->Hp->Prop),zP X pins σ H s->RelV x v->r x H Q ->
  wpAny (model X.prog X.w) X.A (truthy v) (TP X pins σ Q) X.xe s
noncomputable def tOp(r:R2)(ta tb:TE):TE:=fun σ H Q=>ta σ H fun x H1=>tb σ H1 fun y H2=>r x y H2 Q
noncomputable def rI(C:Int->Int->Prop)(g:Int->Int->V):R2:=fun x y H Q=>∃ i j,x=.int i/\y=.int j/\C i j/\Q (g i j) H
noncomputable def rI0(g:Int->Int->V):R2:=fun x y H Q=>∃ i j,x=.int i/\y=.int j/\Q (g i j) H
section
variable {X:Cx} {a b c:Expr} {ta tb tc:TE} {pos:Pos}
theorem zNY(ha:PE X a ta)(hb:PE X b tb){pins:List (Addr×Obj)}{s:Shared}{σ:St}{H:Hp}{R:V->V->Hp->Prop}(I:zP X pins σ H s)
  (h:ta σ H fun x H1=>tb σ H1 fun y H2=>R x y H2) {Q:Value->Shared->Prop} {f:Value->Value->Sem Value}
  (hf:∀ v u s2 x y H2,zP X pins σ H2 s2->RelV x v->RelV y u->R x y H2->wpAny (model X.prog X.w) X.A (f v u) Q X.xe s2) :
  wpAny (model X.prog X.w) X.A (eval a X.env) (fun v s₁=>wpAny (model X.prog X.w) X.A (eval b X.env) (fun u s₂=>wpAny (model X.prog X.w) X.A (f v u) Q X.xe s₂) X.xe s₁) X.xe s:=by
 refine yq (ha pins s σ H _ I h) fun v s1 u9=>?_;obtain⟨x,H1,I1,r1,q1⟩:=u9;refine yq (hb pins s1 σ H1 _ I1 q1) fun u s2 u9=>?_;obtain⟨y,H2,I2,r2,q2⟩:=u9;exact hf v u s2 x y H2 I2 r1 r2 q2
theorem zJV(ho:OpR X (binaryOp op) r)(ha:PE X a ta)(hb:PE X b tb):PE X (.BinOp a op b pos) (tOp r ta tb):=by
 intro pins s σ H Q I h;exact wpAny_BinOp (zNY ha hb I h fun v u s2 x y H2 I2 rx ry q=>ho pins s2 σ H2 x y v u Q I2 rx ry q)
theorem opI{f:Value->Value->Sem Value}{C:Int->Int->Prop}{g:Int->Int->Int}
  (rule:∀(i j:Int) (t u:Tok) (s:Shared) (Q:Value->Shared->Prop) (E:Value->Shared->Prop),C i j->Q (.int (g i j) s.toks) { s with toks:=s.toks+1 }->wpAny (model X.prog X.w) X.A (f (.int i t) (.int j u)) Q E s) :
  OpR X f (rI C fun i j=>.int (g i j)):=by
 intro pins s σ H x y v u Q I rx ry h;obtain⟨i,j,rfl,rfl,hc,q⟩:=h;obtain⟨t,rfl⟩:=rx;obtain⟨t',rfl⟩:=ry;exact rule i j t t' s _ _ hc ⟨.int (g i j),H,I.tok _,⟨_,rfl⟩,q⟩
theorem zNZ{f:Value->Value->Sem Value}{g:Int->Int->Int}
  (rule:∀(i j:Int) (t u:Tok) (s:Shared) (Q:Value->Shared->Prop) (E:Value->Shared->Prop),Q (.int (g i j) s.toks) { s with toks:=s.toks+1 }->wpAny (model X.prog X.w) X.A (f (.int i t) (.int j u)) Q E s) :
  OpR X f (rI0 fun i j=>.int (g i j)):=by
 intro pins s σ H x y v u Q I rx ry h;obtain⟨i,j,rfl,rfl,q⟩:=h;obtain⟨t,rfl⟩:=rx;obtain⟨t',rfl⟩:=ry;exact rule i j t t' s _ _ ⟨.int (g i j),H,I.tok _,⟨_,rfl⟩,q⟩
theorem zNa{f:Value->Value->Sem Value}{g:Int->Int->Bool}
  (rule:∀(i j:Int) (t u:Tok) (s:Shared) (Q:Value->Shared->Prop) (E:Value->Shared->Prop),Q (.bool (g i j)) s->wpAny (model X.prog X.w) X.A (f (.int i t) (.int j u)) Q E s) :
  OpR X f (rI0 fun i j=>.bl (g i j)):=by
 intro pins s σ H x y v u Q I rx ry h;obtain⟨i,j,rfl,rfl,q⟩:=h;obtain⟨t,rfl⟩:=rx;obtain⟨t',rfl⟩:=ry;exact rule i j t t' s _ _ ⟨.bl (g i j),H,I,rfl,q⟩
noncomputable def zJW(i j:Int):Prop:=0<j/\j<1073741824
noncomputable def zID(i j:Int):Prop:=0<=j/\j<=1000000/\i.natAbs<2 ^ 64
noncomputable def zD8(i j:Int):Prop:=(-(2 ^ 64)<i/\i<2 ^ 64)\/(-(2 ^ 64)<j/\j<2 ^ 64)
theorem zD8.ok(h:zD8 i j):IntMulOk i j:=by
 rcases h with ⟨h1,h2⟩ | ⟨h1,h2⟩
 ·exact .of_left (intBits_le_64 h1 h2)
 ·exact .of_right (intBits_le_64 h1 h2)
theorem zNb:OpR X (binaryOp .Add) (rI0 fun i j=>.int (i+j)):=zNZ fun u0 u0 u0 u0 u0 u0 u0 q=>add_int q
theorem zNc:OpR X (binaryOp .Sub) (rI0 fun i j=>.int (i-j)):=zNZ fun u0 u0 u0 u0 u0 u0 u0 q=>sub_int q
theorem zNd:OpR X (binaryOp .Mult) (rI zD8 fun i j=>.int (i*j)):=opI fun u0 u0 u0 u0 u0 u0 u0 hc q=>mul_int q hc.ok
theorem zLY:OpR X (binaryOp .FloorDiv) (rI zJW fun i j=>.int (i / j)):=opI fun i j u0 u0 u0 u0 u0 hc q=>by
 have h1:(0:Int)<j:=hc.1;have h2:j<1073741824:=hc.2;exact floordiv_int (by omega) (by rw[Int.fdiv_eq_ediv_of_nonneg i (by omega)];exact q) (.inl (PyProof.noPylong_small (by omega)))
theorem zNe:OpR X (binaryOp .Mod) (rI (fun u0 j=>0<j) fun i j=>.int (i%j)):=opI fun i j u0 u0 u0 u0 u0 hc q=>by
 have h1:(0:Int)<j:=hc;exact mod_int' (by omega) (by rw[Int.fmod_eq_emod_of_nonneg i (by omega)];exact q)
theorem zNf:OpR X (binaryOp .Pow) (rI zID fun i j=>.int (i ^ j.toNat)):=opI fun u0 u0 u0 u0 u0 u0 u0 hc q=>pow_int_small hc.1 hc.2.1 hc.2.2 q
theorem zNg:OpR X (binaryOp .BitXor) (rI0 fun i j=>.int (Builtin.bitXor i j)):=zNZ fun u0 u0 u0 u0 u0 u0 u0 q=>xor_int q
theorem zNh{pins:List (Addr×Obj)}{σ:St}{H:Hp}{s:Shared}{Q:VK}{k k':Bool}(I:zP X pins σ H s)(q:Q (.bl k) H)(e:k=k'):EP X pins σ Q (.bool k') s:=by
 subst e;exact⟨.bl k,H,I,rfl,q⟩
theorem zOw:OpR X (compareOp .Lt) (rI0 fun i j=>.bl (decide (i<j))):=zNa fun u0 u0 u0 u0 u0 u0 u0 q=>lt_int q
theorem zOx:OpR X (compareOp .Gt) (rI0 fun i j=>.bl (decide (j<i))):=zNa fun u0 u0 u0 u0 u0 u0 u0 q=>gt_int q
theorem zOy:OpR X (compareOp .GtE) (rI0 fun i j=>.bl (decide (j<=i))):=zNa fun u0 u0 u0 u0 u0 u0 u0 q=>ge_int q
theorem zJX:OpR X (compareOp .Is) (fun x y H Q=>y=.non/\Q (.bl (decide (x=.non))) H):=by
 intro pins s σ H x y v u Q I rx ry h;obtain⟨rfl,q⟩:=h;cases ry;refine is_none_gen (zNh I q ?_);cases x<;>first
  | (cases rx;rfl)
  | (obtain⟨t,rfl⟩:=rx;rfl)
theorem OpR.or(h:OpR X f r)(h':OpR X f r'):OpR X f (fun x y H Q=>r x y H Q\/r' x y H Q):=by
 intro pins s σ H x y v u Q I rx ry q;rcases q with q | q
 ·exact h pins s σ H x y v u Q I rx ry q
 ·exact h' pins s σ H x y v u Q I rx ry q
theorem zBC(b:Expr)(h:autoParam (op≠.In) Zq2._auto_1)(h2:autoParam (op≠.NotIn) Zq2._auto_1):behindInMarks op b=false:=by
 have e1:(op==CmpOp.In)=false:=by cases op<;>first | rfl | exact absurd rfl h
 have e2:(op==CmpOp.NotIn)=false:=by cases op<;>first | rfl | exact absurd rfl h2
 cases b<;>simp[behindInMarks,e1,e2]
theorem zLZ(ho:OpR X (compareOp op) r)(ha:PE X a ta)(hb:PE X b tb)(hm:behindInMarks op b=false):PE X (.Compare a [op] [b] pos) (tOp r ta tb):=by
 intro pins s σ H Q I h;exact wpAny_Compare1 (zNY ha hb I h fun v u s2 x y H2 I2 rx ry q=>ho pins s2 σ H2 x y v u Q I2 rx ry q) hm
noncomputable def zOz(t:TE):TT:=fun σ H Q=>t σ H fun x H'=>∃ k,x=.bl k/\Q k H'
theorem zLa(ho:OpR X (compareOp op) r)(ha:PE X a ta)(hb:PE X b tb)(hm:behindInMarks op b=false):PT X (.Compare a [op] [b] pos) (zOz (tOp r ta tb)):=by
 intro pins s σ H Q I h;refine wpAny_isTrue_Compare1 (yq (ha pins s σ H _ I h) fun v s1 ⟨x,H1,I1,r1,q1⟩=>yq (hb pins s1 σ H1 _ I1 q1) fun u s2 ⟨y,H2,I2,r2,q2⟩ =>
  yq (ho pins s2 σ H2 x y v u _ I2 r1 r2 q2) fun c s3 ⟨z,H3,I3,r3,k,e,q3⟩=>?_) hm
 subst e;cases r3;exact fq ⟨H3,I3,q3⟩
noncomputable def zO0(K:PySem.W.Frag)(x:V)(H:Hp)(k:Bool):Prop :=
 match x with
 | .non=>k=false
 | .bl b=>k=b
 | .int i=>k=(i != 0)
 | .str y=>y.length<=sizeLine/\k=((y.length:Int) != 0)
 | .byt y=>y.size<=sizeLine/\k=((y.size:Int) != 0)
 | .ref p=>(∃ xs,SqL K H p xs/\k=!xs.isEmpty)\/(∃ xs,SqT K H p xs/\k=!xs.isEmpty)\/∃ kvs,H p=some (.dK kvs)/\k=!kvs.isEmpty
 | _=>False
theorem zGU{κ:Type}{kvs:List (κ×V)}{vs:List (κ×Value)}(r:KV kvs vs):(!vs.isEmpty)=!kvs.isEmpty:=by
 cases r<;>rfl
theorem zDM(r:zW xs its):(!its.toArray.isEmpty)=!xs.isEmpty:=by
 cases r<;>simp
theorem zDN:(sizeLine:Nat)<2 ^ 63:=by rw[sizeLine_eq];decide
theorem zNi:zPy X (fun x H Q=>∃ k,zO0 X.K x H k/\Q k H):=by
 intro pins s σ H x v Q I rx h;obtain⟨k,e,q⟩:=h;have hl:=zDN;have hs:sizeLine=16777216:=sizeLine_eq;cases x with
 | non =>
  cases rx;have e':k=false:=e;subst e';exact truthy_none ⟨H,I,q⟩
 | bl b =>
  cases rx;have e':k=b:=e;subst e';exact fq ⟨H,I,q⟩
 | int i =>
  obtain⟨t,rfl⟩:=rx;have e':k=(i != 0):=e;subst e';exact PySem.P.truthy_int ⟨H,I,q⟩
 | str y =>
  obtain⟨t,rfl⟩:=rx;obtain⟨hy,e'⟩:y.length<=sizeLine/\k=((y.length:Int) != 0):=e;subst e';exact PySem.P.truthy_str (by omega) ⟨H,I.tok _,q⟩
 | byt y =>
  obtain⟨t,rfl⟩:=rx;obtain⟨hy,e'⟩:y.size<=sizeLine/\k=((y.size:Int) != 0):=e;subst e';exact PySem.W.truthy_bytes (by omega) ⟨H,I.tok _,q⟩
 | ref p =>
  cases rx;have e':(∃ xs,SqL X.K H p xs/\k=!xs.isEmpty)\/(∃ xs,SqT X.K H p xs/\k=!xs.isEmpty)\/∃ kvs,H p=some (.dK kvs)/\k=!kvs.isEmpty:=e;rcases e' with ⟨xs,hx,e'⟩ | ⟨xs,hx,e'⟩ | ⟨kvs,hx,e'⟩
  ·subst e'
   obtain⟨its,r,pl,hz⟩:=I.list hx;have hlen:=r.length;exact wpAny_truthy_list pl.isList (by simp only[dD];omega) ⟨H,I.tok _,by rw[zDM r];exact q⟩
  ·subst e'
   obtain⟨its,r,pl,hz⟩:=I.tuple hx;have hlen:=r.length;exact truthy_tuple pl (by simp only[dD];omega) ⟨H,I.tok _,by rw[zDM r];exact q⟩
  ·subst e'
   obtain⟨hz,hS,vs,r,m⟩:kvs.length<=sizeLine/\(p==sysModules)=false/\∃ vs,KV kvs vs/\s.heap.DictOf (zEv X.prog X.w) p vs:=I.hok p _ hx;have hlen:kvs.length=vs.length:=Paired.length r;exact wpAny_truthy_dict hS m (by omega) ⟨H,I.tok _,by rw[zGU r];exact q⟩
 | _=>exact(show False from e).elim
theorem zJY(ha:PE X a ta)(he:∀ whole,isTrue a X.env whole=(do let v <-whole;standAt a.pos;holding [v] (truthy v))) :
  PT X a (fun σ H Q=>ta σ H fun x H'=>∃ k,zO0 X.K x H' k/\Q k H'):=by
 intro pins s σ H Q I h;exact isTrue_plain (yq (ha pins s σ H _ I h) fun v s1 ⟨x,H1,I1,r1,q1⟩=>zNi pins s1 σ H1 x v Q I1 r1 q1) (he _)
theorem vals1(r:zW [x] us):∃ u,us=[u]/\RelV x u:=by
 cases r with
 | cons r1 r2=>cases r2;exact⟨_,rfl,r1⟩
theorem vals2(r:zW [x,y] us):∃ u w',us=[u,w']/\RelV x u/\RelV y w':=by
 cases r with
 | cons r1 r2 =>
  cases r2 with
  | cons r3 r4=>cases r4;exact⟨_,_,rfl,r1,r3⟩
theorem zIE(hc:X.calm=true):yt X (.builtin "max") (fun xs H Q=>∃ i j,xs=[.int i,.int j]/\Q (.int (if j>i then j else i)) H):=by
 intro pins s σ H xs us Q I r h;obtain⟨i,j,rfl,q⟩:=h;obtain⟨u,w',rfl,⟨t,rfl⟩,⟨t',rfl⟩⟩:=vals2 r;refine max_two_ints (I.ok.hd hc) fun h' tk k=>⟨_,H,I.kept k,?_,q⟩
 by_cases hj:j>i
 ·rw[if_pos hj,if_pos hj];exact⟨_,rfl⟩
 ·rw[if_neg hj,if_neg hj];exact⟨_,rfl⟩
theorem zIF(hc:X.calm=true):yt X (.builtin "min") (fun xs H Q=>∃ i j,xs=[.int i,.int j]/\Q (.int (if j<i then j else i)) H):=by
 intro pins s σ H xs us Q I r h;obtain⟨i,j,rfl,q⟩:=h;obtain⟨u,w',rfl,⟨t,rfl⟩,⟨t',rfl⟩⟩:=vals2 r;refine min_two_ints (I.ok.hd hc) fun h' tk k=>⟨_,H,I.kept k,?_,q⟩
 by_cases hj:j<i
 ·rw[if_pos hj,if_pos hj];exact⟨_,rfl⟩
 ·rw[if_neg hj,if_neg hj];exact⟨_,rfl⟩
end
structure zLb (h:Heap) (x dx C:Addr) (mA:Str->Option Value):Prop where
 obj:h.get? x=some (PySem.W.instObj C dx)
 ns:h.Ns1 dx mA
 ne:dx≠x
theorem zIG{h:Heap}{dx:Addr}{mA:Str->Option Value}(n:h.Ns1 dx mA):∃ od,h.get? dx=some od/\∀ name,PySem.W.lookIn name od=some (mA name):=by
 obtain⟨o,es,ep,ho,hd,hk,u0,hm⟩:=n;refine⟨o,ho,fun name=>?_⟩;have e:=hm name;unfold nsFind findBy at e;rw[<-Array.find?_toList] at e;unfold PySem.W.lookIn;rw[hd];dsimp only;split
 ·rename_i y q
  rw[q] at e;exact congrArg some e
 ·rename_i q
  rw[q] at e;have a:es.toList.any (·.refKey)=false:=by
   rw[List.any_eq_false];intro y hy;obtain⟨z,t,hkey⟩:=hk y (eu.mp hy);simp[DictEntry.refKey,hkey]
  have a':¬ es.toList.any (·.refKey)=true:=by rw[a];exact eH
  rw[if_neg a'];exact congrArg some e
theorem zLb.look(I:zLb h x dx C mA):∃ od,PySem.W.InstAt h x (PySem.W.instObj C dx) C (some od)/\∀ name,PySem.W.lookIn name od=some (mA name) :=
 let ⟨od,ho,hl⟩:=zIG I.ns
 ⟨od,⟨I.obj,rfl,rfl,ho⟩,hl⟩
section
variable {prog:Program} {w:World} {A:Around} {E:Value->Shared->Prop} {s:Shared} {K:PySem.W.Frag} {x dx C f:Addr} {mA:Str->Option Value} {name:Str} {v:Value}
theorem zBP(X:K.In s.heap)(I:zLb s.heap x dx C mA)(hg:PySem.W.plainGet K C name=true)(hh:PySem.W.hasDictIn K C=true)
  (ha:PySem.W.findIn K (.ref C) name=some none) (hv:mA name=some v) (hv':PySem.W.handedIn v=true) (h:Q v { s with toks:=s.toks+1 }) :
  wpAny (model prog w) A (getAttr (.ref x) name expr) Q E s:=by
 obtain⟨od,J,hl⟩:=I.look;exact PySem.W.get_value X J (PySem.W.plainGet_of hg).1 (PySem.W.findObj_own hh ha rfl (by rw[hl,hv])) hv' h
end
section
variable {P:Program} {w:World} {H H':Hp} {h h':Heap} {a C dx:Addr} {fs fs':List (Str×V)}
theorem zLc(hok:HOk P w H h)(e:H a=some (.ins C dx fs)):∃ mA,zLb h a dx C mA/\(∀ f,zNJ (fs.lookup f) (mA f))/\PySem.Within mA (fs.map (·.1))/\fs.length<=1000/\H dx=some (.own a):=by
 obtain⟨d,z,ne,ob,mA,n,r,q⟩:=(show yY P w H h a (.ins C dx fs) from hok a _ e)
 exact⟨mA,⟨ob,n,ne⟩,r,q,z,d⟩
end
structure Cls (K:PySem.W.Frag) (C:Addr):Prop where
 pg:PySem.W.plainGet K C Str.empty=true
 hd:PySem.W.hasDictIn K C=true
 po:PySem.W.plainOver K C=true
 sa:PySem.W.findIn K (.ref C) "__setattr__"=some (some (.builtin "object.__setattr__"))
theorem Cls.get{K:PySem.W.Frag}{C:Addr}(c:Cls K C)(f:Str):PySem.W.plainGet K C f=true:=c.pg
section
variable {X:Cx} {pins:List (Addr×Obj)} {σ:St} {H:Hp} {s:Shared} {a C dx:Addr} {fs:List (Str×V)} {f:Str} {v:V} {A:Around} {E:Value->Shared->Prop}
end
section
variable {X:Cx} {o e value:Expr} {f:Str} {pos pos' tpos:Pos} {ta tv:TE}
end
section
variable {X:Cx} {pins:List (Addr×Obj)} {σ:St} {H:Hp} {s:Shared} {A:Around} {E:Value->Shared->Prop} {Q:Value->Shared->Prop} {c:Value} {b:Bool}
set_option genInjectivity true in
inductive zC3 (K:PySem.W.Frag) (H:Hp):V->Value->Prop where
 | non:zC3 K H .non (.type "NoneType")
 | bl (x:Bool):zC3 K H (.bl x) (.type "bool")
 | int (i:Int):zC3 K H (.int i) (.type "int")
 | str (x:Str):zC3 K H (.str x) (.type "str")
 | flt (x:UInt64):zC3 K H (.flt x) (.type "float")
 | lst {a:Addr} {xs:List V} (e:H a=some (.lst xs)):zC3 K H (.ref a) (.type "list")
 | frz {a:Addr} {o:Obj} {xs:List V} (e:H a=some (.frz o (.lst xs))):zC3 K H (.ref a) (.type "list")
 | tup {a:Addr} {xs:List V} (e:H a=some (.tup xs)):zC3 K H (.ref a) (.type "tuple")
 | dK {a:Addr} {kvs:List (Key×V)} (e:H a=some (.dK kvs)):zC3 K H (.ref a) (.type "dict")
 | dT {a:Addr} {kvs:List (List Key×V)} (e:H a=some (.dT kvs)):zC3 K H (.ref a) (.type "dict")
 | ins {a C dx:Addr} {fs:List (Str×V)} (e:H a=some (.ins C dx fs)) (cl:Cls K C) (ha:PySem.W.findIn K (.ref C) "__class__"=some (some (.builtin "object.__class__")))
   (hn:PySem.W.specialIn K (.builtin "object.__class__") "__get__"=some (some (.builtin "getset_descriptor.__get__"))) (htk:PySem.W.takesIn K (.builtin "object.__class__")=some true)
   (hm:PySem.W.mroIn K C (.type "object")=some true):zC3 K H (.ref a) (.ref C)
theorem zBQ(I:zP X pins σ H s)(rx:RelV x u)(ty:zC3 X.K H x t)(e:PySem.W.kitOne X.K t c=some b)(h:∀ tk,Q (.bool b) { s with toks:=tk }) :
  wpAny (model X.prog X.w) A (call (.builtin "isinstance") [u,c]) Q E s:=by
 cases ty with
 | non=>cases (show u=Value.none from rx);exact PySem.W.kia_one PySem.W.kitx_none I.kIn True.intro e (fun z=>nomatch z) h
 | bl y=>cases (show u=Value.bool y from rx);exact PySem.W.kia_one PySem.W.kitx_bool I.kIn True.intro e (fun z=>nomatch z) h
 | int i=>obtain⟨t,q⟩:=(show ∃ t,u=Value.int i t from rx);cases q;exact PySem.W.kia_one PySem.W.kitx_int I.kIn True.intro e (fun z=>nomatch z) h
 | str y=>obtain⟨t,q⟩:=(show ∃ t,u=Value.str y t from rx);cases q;exact PySem.W.kia_one PySem.W.kitx_str I.kIn True.intro e (fun z=>nomatch z) h
 | flt y=>obtain⟨t,q⟩:=(show ∃ t,u=Value.float y t from rx);cases q;exact PySem.W.kia_one PySem.W.kitx_float I.kIn True.intro e (fun z=>nomatch z) h
 | @lst a xs ea =>
  cases (show u=Value.ref a from rx);obtain⟨u0,u0,n,u0,h1⟩:=(show yY X.prog X.w H s.heap a (.lst xs) from I.hok a _ ea)
  exact PySem.W.kia_one PySem.W.kitx_list I.kIn ⟨_,h1,rfl⟩ e (fun z=>nomatch z) h
 | @frz a ob xs ea =>
  cases (show u=Value.ref a from rx);obtain⟨u0,u0,u0,n,u0,h1⟩:=(show yY X.prog X.w H s.heap a (.frz ob (.lst xs)) from I.hok a _ ea)
  exact PySem.W.kia_one PySem.W.kitx_list I.kIn ⟨_,h1,rfl⟩ e (fun z=>nomatch z) h
 | @tup a xs ea =>
  cases (show u=Value.ref a from rx);obtain⟨u0,u0,u0,p⟩:=(show yY X.prog X.w H s.heap a (.tup xs) from I.hok a _ ea)
  obtain⟨o,h1,h2,u0⟩:=p;exact PySem.W.kia_one PySem.W.kitx_tuple I.kIn ⟨o,h1,h2⟩ e (fun z=>nomatch z) h
 | @dK a kvs ea =>
  cases (show u=Value.ref a from rx);obtain⟨u0,u0,vs,u0,p⟩:=(show yY X.prog X.w H s.heap a (.dK kvs) from I.hok a _ ea)
  obtain⟨o,es,ep,h1,h2,u0⟩:=p;exact PySem.W.kia_one PySem.W.kitx_dict I.kIn ⟨o,h1,h2.1⟩ e (fun z=>nomatch z) h
 | @dT a kvs ea =>
  cases (show u=Value.ref a from rx);obtain⟨u0,u0,xs,u0,o,es,ep,h1,h2,u0⟩:=(show yY X.prog X.w H s.heap a (.dT kvs) from I.hok a _ ea)
  exact PySem.W.kia_one PySem.W.kitx_dict I.kIn ⟨o,h1,h2.1⟩ e (fun z=>nomatch z) h
 | @ins a C dx fs ea cl ha hn htk hm =>
  cases (show u=Value.ref a from rx);obtain⟨mA,O,u0⟩:=zLc I.hok ea;obtain⟨od,J,u0⟩:=O.look;exact PySem.W.kia_one (PySem.W.kitx_own (cl.get _) cl.hd ha hn htk hm) I.kIn J e (fun z=>nomatch z) h
end
structure yE (k:Nat) (A:Around):Prop where
 hd:A.handled=none
 dp:A.depth+3*k+5<recursionLimit
 un:A.units+16*k+200<cLine
theorem yE.mono(r:yE k A)(h:j<=k):yE j A:=⟨r.hd,by have:=r.dp;omega,by have:=r.un;omega⟩
theorem yE.deeper(r:yE (k+1) A)(env:Env):yE k (A.deeper env) :=
 ⟨r.hd,by have:=r.dp;show A.depth+1+3*k+5<_;omega,by have:=r.un;show A.units+3+16*k+200<_;omega⟩
theorem yE.depth(r:yE k A):A.depth<recursionLimit:=by have:=r.dp;omega
theorem yE.units(r:yE k A):A.units+64<cLine:=by have:=r.un;omega
noncomputable def zNj:TA:=fun u0 H Q=>Q [] H
noncomputable def zJZ(ta:TE)(tr:TA):TA:=fun σ H Q=>ta σ H fun x H1=>tr σ H1 fun xs H2=>Q (x::xs) H2
section
variable {X:Cx} {e:Expr} {es:List Expr} {te:TE} {t:TA} {pos:Pos}
theorem wz:PA X [] zNj:=fun u0 u0 u0 u0 H Q I h=>Calls.spliced_nil ⟨[],H,I,.nil,h⟩
theorem yP(ha:PE X e te)(hr:PA X es t)(hs:autoParam (starEach (e::es) X.env=(false,eval e X.env)::starEach es X.env) Zq4._auto_1):PA X (e::es) (zJZ te t):=by
 intro pos pins s σ H Q I h;rw[hs];show wpAny _ _ (spliced ((false,eval e X.env)::backTo pos (starEach es X.env))) _ _ s;refine Calls.spliced_cons (yq (ha pins s σ H _ I h) fun u s1 u9=>?_);obtain⟨x,H1,I1,r1,q1⟩:=u9;exact yq (hr pos pins s1 σ H1 _ I1 q1) fun us s2 ⟨xs,H2,I2,r2,q2⟩=>⟨x::xs,H2,I2,.cons r1 r2,q2⟩
noncomputable def zPz(t:TA):TE:=fun σ H Q=>t σ H fun xs H1=>xs.length<=sizeLine/\∀ p,H1 p=none->Q (.ref p) (yT H1 p (.tup xs))
noncomputable def zP0(t:TA):TE:=fun σ H Q=>t σ H fun xs H1=>xs.length<=sizeLine/\∀ p,H1 p=none->Q (.ref p) (yT H1 p (.lst xs))
theorem zJa{x1}(h:PA X es t):PE X (.Tuple es x1 pos) (zPz t):=by
 intro pins s σ H Q I hq;refine wpAny_Tuple_spliced (yq (h pos pins s σ H _ I hq) fun us s1 ⟨xs,H1,I1,r,z,q⟩=>⟨by rw[<-r.length];exact z,?_⟩);have hf:H1 s1.heap.objs.size=none:=I1.hok.fresh (da _);refine⟨.ref s1.heap.objs.size,yT H1 s1.heap.objs.size (.tup xs),I1.laid (t':=s1.toks) (fun b u e=>cP _ e) (da _) ?_,rfl,q _ hf⟩;exact⟨z,us,r,⟨_,d9 _ rfl,rfl,⟨_,rfl⟩,rfl⟩⟩
theorem zNk(h:PA X es t):PE X (.List es pos) (zP0 t):=by
 intro pins s σ H Q I hq;refine wpAny_List_spliced (yq (h pos pins s σ H _ I hq) fun us s1 ⟨xs,H1,I1,r,z,q⟩=>⟨by rw[<-r.length];exact z,?_⟩);have hf:H1 s1.heap.objs.size=none:=I1.hok.fresh (da _);refine⟨.ref s1.heap.objs.size,yT H1 s1.heap.objs.size (.lst xs),I1.laid (t':=s1.toks) (fun b u e=>cP _ e) (da _) ?_,rfl,q _ hf⟩;exact⟨z,us,0,r,d9 _ rfl⟩
end
noncomputable abbrev Sp:=List V->Hp->VK->XK->Prop
noncomputable abbrev CXT:=List Env->Hp->Shared->XK->Value->Shared->Prop
structure zGV (P:Program) (w:World) (K:PySem.W.Frag) (mg:Str->Option Value) (base:Heap) (A:Around) (outer:List Env) (s:Shared) (H:Hp):Prop where
 frames:A.frames=some outer
 mod:Mod K mg base
 bs:∀ b o,base.get? b=some o->s.heap.get? b=some o/\H b=none
 bsz:base.objs.size<=s.heap.objs.size
 funs:s.heap.FunFrames base outer
 frf:∀ b∈wf outer,H b=none
 hok:HOk P w H s.heap
 bare:AllBare s.gens
 tb:TabsOk K H
noncomputable def CE(outer:List Env)(P:Program)(w:World)(H:Hp)(s:Shared)(Q:VK)(u:Value)(s':Shared):Prop :=
 ∃ v H',s'.os=s.os/\AllBare s'.gens/\Un (wf outer) [] H H' s.heap s'.heap/\HOk P w H' s'.heap/\RelV v u/\Q v H'
noncomputable def CR(CX:CXT)(outer:List Env)(P:Program)(w:World)(H:Hp)(s:Shared)(Q:VK)(E:XK)(r:Result)(s':Shared):Prop :=
 match r with
 | .ok (.ret u)=>CE outer P w H s Q u s'
 | .ok _=>False
 | .error e=>CX outer H s E e s'
structure zB1 (P:Program) (w:World) (K:PySem.W.Frag) (mg:Str->Option Value) (base:Heap) (CX:CXT) (k:Nat) (f:Addr) (fd:FuncData) (ps:List Str) (sp:Sp):Prop where
 len:∀ vs H Q E,sp vs H Q E->vs.length=ps.length
 run:∀(A:Around) (outer:List Env) (s:Shared) (H:Hp) (args:Args) (us:List Value) (vs:List V) (Q:VK) (E:XK),yE k A->zGV P w K mg base A outer s H->BindsTo s fd args (ps.zip us)->zW vs us->sp vs H Q E ->
  codeAny (model P w) A (.call (.ref f) args) (CR CX outer P w H s Q E) s
theorem zB1.mono{P:Program}{w:World}{K:PySem.W.Frag}{mg:Str->Option Value}{base:Heap}{CX:CXT}{j k:Nat}{f:Addr}{fd:FuncData}{ps:List Str}{sp:Sp}(F:zB1 P w K mg base CX j f fd ps sp)(h:j<=k) :
  zB1 P w K mg base CX k f fd ps sp:=⟨F.len,fun A outer s H args us vs Q E hr=>F.run A outer s H args us vs Q E (hr.mono h)⟩
section
variable {X:Cx} {pins:List (Addr×Obj)} {σ:St} {H:Hp} {s s':Shared}
theorem zP.env0(I:zP X pins σ H s):zGV X.prog X.w X.K X.mg X.base X.A X.stack s H :=
 ⟨I.ok.frames,I.ok.mod,I.bs,eN I.ok.bsz I.sz,I.stack,I.stkFree,I.hok,I.bare,I.tabs⟩
theorem zP.after(I:zP X pins σ H s)(h:CE X.stack X.prog X.w H s Q u s'):EP X pins σ Q u s':=by
 obtain⟨v,H',os,bare,un,hok,r,q⟩:=h;obtain⟨hh,g,d,t,os'⟩:=s';obtain rfl:os'=s.os:=os;exact⟨v,H',I.call (h':=hh) (g':=g) (d':=d) (t':=t) (ch:=[]) un hok bare (fun b z=>absurd z (by simp)),r,q⟩
end
noncomputable def zO1(sp:Sp)(dvs:List V)(E:XK)(t:TA):TE:=fun σ H Q=>t σ H fun vs H1=>sp (vs++dvs) H1 Q E
noncomputable def Binds(K:PySem.W.Frag)(fd:FuncData)(ps:List Str)(ds:List Value):Prop :=
 ∀(s:Shared) (us:List Value),K.In s.heap->(us++ds).length=ps.length->BindsTo s fd ⟨us,[]⟩ (ps.zip (us++ds))
theorem Binds.all{K:PySem.W.Frag}{fd:FuncData}{ps:List Str}(h:∀ us:List Value,us.length=ps.length->bindArgs fd ⟨us,[]⟩=pure (ps.zip us)):Binds K fd ps []:=fun s us u0 hl=>by
 rw[fU] at hl ⊢;exact .of_eq (h us hl)
noncomputable def zGW(CX:CXT)(X:Cx)(E:XK):Prop:=∀(pins:List (Addr×Obj)) (σ:St) (H:Hp) (s:Shared) (e:Value) (s':Shared),zP X pins σ H s->CX X.stack H s E e s'->X.xe e s'
section
variable {X:Cx} {CX:CXT} {k:Nat} {f C:Addr} {fd:FuncData} {ps:List Str} {sp:Sp} {dvs:List V} {ds:List Value} {E:XK} {x m:Str} {p pos apos:Pos} {e o:Expr} {es:List Expr} {ta:TE} {t:TA}
theorem zNl{pins:List (Addr×Obj)}{σ:St}{H:Hp}{s:Shared}{Q:VK}{us:List Value}{vs:List V}(F:zB1 X.prog X.w X.K X.mg X.base CX k f fd ps sp)(hr:yE k X.A)(hb:Binds X.K fd ps ds)(hd:zW dvs ds)(hx:zGW CX X E)
  (I:zP X pins σ H s) (r:zW vs us) (h:sp (vs++dvs) H Q E):wpAny (model X.prog X.w) X.A (call (.ref f) us) (EP X pins σ Q) X.xe s:=by
 have r2:zW (vs++dvs) (us++ds):=r.append hd;have hl:(us++ds).length=ps.length:=by rw[<-r2.length];exact F.len _ _ _ _ h
 refine wpAny_call (fu (F.run X.A X.stack s H ⟨us,[]⟩ (us++ds) (vs++dvs) Q E hr I.env0 (hb s us I.kIn hl) r2 h) fun r s' hq=>?_);cases r with
 | error e=>exact hx pins σ H s e s' I hq
 | ok fl =>
  cases fl with
  | ret u=>exact I.after hq
  | next=>exact False.elim hq
  | brk=>exact False.elim hq
  | cont=>exact False.elim hq
theorem zHH(F:zB1 X.prog X.w X.K X.mg X.base CX k f fd ps sp)(hr:yE k X.A)(hg:Gl X x)(hm:X.mg x=some (.ref f))(hk:PySem.W.keepIn X.K (.ref f)=true)(hb:Binds X.K fd ps ds)(hd:zW dvs ds)(hx:zGW CX X E)
  (ha:PA X (e::es) t) (hdb:autoParam ((x==("__debug__":Str))=false) Zq2._auto_1) (he:autoParam (starEach (e::es) X.env=(false,eval e X.env)::starEach es X.env) Zq4._auto_1) (hpl:autoParam ((backTo pos (starEach es X.env)).any (·.1)=false) Zq4._auto_1) :
  PE X (.Call (.Name x p) (e::es) [] pos) (zO1 sp dvs E t):=by
 intro pins s σ H Q I h;refine fC (zB0 I hg hm ?_ hdb);refine PySem.W.callWith_K (h₀:=X.base) I.ok.mod.kin hk (yq (ha pos pins s σ H _ I h) fun us s1 ⟨vs,H1,I1,r,q⟩=>⟨I1.kIn,?_⟩) he hpl;exact zNl F hr hb hd hx I1 r q
end
section
variable {X:Cx} {CX:CXT} {k:Nat} {f C:Addr} {fd:FuncData} {ps ks:List Str} {sp:Sp} {E:XK} {x m:Str} {p pos apos kpos:Pos} {e o:Expr} {es:List Expr} {kws:List Keyword} {te ta:TE} {t tk:TA} {nm:Option Str}
variable {g:List Value->List Value->List Value} {gV:List V->List V->List V}
end
structure za (N P:List Str) (sc:Scope):Prop where
 kind:sc.kind=.function
 co:sc.isCoroutine=false
 gen:sc.isGenerator=false
 nd:N.Nodup
 pre:N.take P.length=P
 par:∀ x∈P,sc.names.lookup x=some .local\/sc.names.lookup x=some .cell
 nofree:∀ y∈sc.names,y.2≠.free
theorem zEJ{kindOf:Str->Option NameKind}{x:Str}:∀ {binds:List (Str×Value)} {m:Str->Option Value},(∀ v,(x,v)∉binds)->bindL kindOf binds m x=m x
 | [],_,_=>rfl
 | (n,v)::r,m,h=>by
  unfold bindL;rw[zEJ fun w hw=>h w (dC _ hw)];split
  ·have:x≠n:=by rintro rfl;exact h v dH
   simp[this]
  ·rfl
theorem zEK{kindOf:Str->Option NameKind}{x:Str}:∀ {binds:List (Str×Value)} {m:Str->Option Value},(∀ v,(x,v)∉binds)->bindC kindOf binds m x=m x
 | [],_,_=>rfl
 | (n,v)::r,m,h=>by
  unfold bindC;rw[zEK fun w hw=>h w (dC _ hw)];split
  ·rfl
  ·have:x≠n:=by rintro rfl;exact h v dH
   simp[this]
theorem zEL{kindOf:Str->Option NameKind}{x:Str}{v:Value}:∀ {P:List Str} {vs:List Value} {i:Nat} {m:Str->Option Value},P.Nodup->P[i]?=some x->vs[i]?=some v->kindOf x=some .local ->
  bindL kindOf (P.zip vs) m x=some v
 | [],_,_,_,_,h,_,_=>by simp at h
 | _::_,[],_,_,_,_,h,_=>by simp at h
 | p::P,w::vs,0,m,nd,h1,h2,hk=>by
  simp at h1 h2;subst h1;subst h2;show bindL kindOf ((p,w)::P.zip vs) m p=_;unfold bindL;rw[zEJ fun v hv=>(fF.mp nd).1 (List.of_mem_zip hv).1,if_pos hk];simp
 | p::P,w::vs,i+1,m,nd,h1,h2,hk=>by
  show bindL kindOf ((p,w)::P.zip vs) m x=_;unfold bindL;exact zEL (i:=i) (fF.mp nd).2 (by simpa using h1) (by simpa using h2) hk
theorem zEM{kindOf:Str->Option NameKind}{x:Str}{v:Value}:∀ {P:List Str} {vs:List Value} {i:Nat} {m:Str->Option Value},P.Nodup->P[i]?=some x->vs[i]?=some v->kindOf x≠some .local ->
  bindC kindOf (P.zip vs) m x=some v
 | [],_,_,_,_,h,_,_=>by simp at h
 | _::_,[],_,_,_,_,h,_=>by simp at h
 | p::P,w::vs,0,m,nd,h1,h2,hk=>by
  simp at h1 h2;subst h1;subst h2;show bindC kindOf ((p,w)::P.zip vs) m p=_;unfold bindC;rw[zEK fun v hv=>(fF.mp nd).1 (List.of_mem_zip hv).1,if_neg hk];simp
 | p::P,w::vs,i+1,m,nd,h1,h2,hk=>by
  show bindC kindOf ((p,w)::P.zip vs) m x=_;unfold bindC;exact zEM (i:=i) (fF.mp nd).2 (by simpa using h1) (by simpa using h2) hk
noncomputable def start(N:List Str)(vs:List V):St:=vs.map some++dF (N.length-vs.length) none
noncomputable def zBD(CX:CXT)(P:Program)(w:World)(K:PySem.W.Frag)(mg:Str->Option Value)(base:Heap)(N:List Str)(qual:Str)(scope:Scope)(f:Addr)(cd:Value)(A:Around)(outer:List Env)(s:Shared)(H:Hp)(E:XK):Cx where
 prog:=P
 w:=w
 K:=K
 mg:=mg
 base:=base
 A:=A.deeper (envOfC qual scope s.heap.objs.size f cd)
 N:=N
 s₀:=s
 H₀:=H
 env:=envOfC qual scope s.heap.objs.size f cd
 outer:=outer
 stack:=envOfC qual scope s.heap.objs.size f cd::outer
 ex:=[]
 calm:=true
 fn:=fun u0=>true
 pn:=[]
 xe:=fun e s'=>wpAny (model P w) (A.deeper (envOfC qual scope s.heap.objs.size f cd)) (leaving (envOfC qual scope s.heap.objs.size f cd) e) (fun u0 s''=>CX outer H s E e s'') (fun e' s''=>CX outer H s E e' s'') s'
theorem zFV{sc:Scope}{n:Nat}{x:Str}(h:sc.names.lookup x=some .cell):∃ c,(cellsFrom n sc.names []).lookup x=some c:=by
 have q:=PySem.W.cellsFrom_some sc.names n [] (.inl h);exact Option.isSome_iff_exists.mp q
theorem zCd{CX:CXT}{P:Program}{w:World}{K:PySem.W.Frag}{mg:Str->Option Value}{base:Heap}{N ps:List Str}{qual:Str}{scope:Scope}{f:Addr}{cd:Value}{A:Around}{outer:List Env}{s s1:Shared}{H:Hp}{E:XK}{us:List Value}{vs:List V}
  (S:za N ps scope) (hd:A.handled=none) (e0:zGV P w K mg base A outer s H) (hl:vs.length=ps.length) (r:zW vs us)
  (x:InCallC s s.heap.objs.size (bindL (envOfC qual scope s.heap.objs.size f cd).kindOf (ps.zip us) fun u0=>none) (cellsFrom (s.heap.objs.size+1) scope.names []) (bindC (envOfC qual scope s.heap.objs.size f cd).kindOf (ps.zip us) fun u0=>none) s1) :
  zP (zBD CX P w K mg base N qual scope f cd A outer s H E) [] (start N vs) H s1:=by
 have hpl:ps.length<=N.length:=by have:=congrArg List.length S.pre;rw[eK] at this;omega
 obtain⟨h1,tk,rfl,hk⟩:=x.done;have noA:∀ b:Addr,b∉(zBD CX P w K mg base N qual scope f cd A outer s H E).ex:=fun b z=>absurd (show b∈([]:List Addr) from z) (by simp);refine⟨⟨e0.mod,S.kind,rfl,rfl,da _,fun y z c h1 h2=>?_,fun y hy=>?_,fun y c u0 h=>?_,fun u0=>hd,Around.frames_deeper e0.frames,.inr ⟨rfl,rfl⟩,fun b z=>absurd z (noA b),e0.bs,e0.bsz,fun b u0 u0=>noA b,fun b z=>absurd z (noA b),e0.funs,e0.frf,e0.tb⟩,
  rfl,e0.bare,Un.kept hk,⟨_,x.toInCall.ns,fun i y v h1 h2 h3=>?_⟩,fun y c h=>⟨_,x.cell y c h⟩,e0.hok.fresh (da _),fun y c h=>?_,fun p hp=>absurd (show p∈([]:List (Addr×Obj)) from hp) (by simp),e0.hok.kept hk,?_⟩
 ·exact name_of_addr x.apart (PySem.mem_of_lookup h1) (PySem.mem_of_lookup h2)
 ·have hy:scope.names.lookup y=some .cell\/scope.names.lookup y=some .free:=hy
  rcases hy with hy | hy
  ·exact zFV hy
  ·exact absurd rfl (S.nofree _ (PySem.mem_of_lookup hy))
 ·exact gL (x.above y c (PySem.mem_of_lookup h))
 ·have hi:i<vs.length:=by
   unfold start at h2;by_cases hi:i<vs.length
   ·exact hi
   ·rw[em (by simpa using hi)] at h2
    rw[gD] at h2;split at h2<;>cases h2
  have ha:vs[i]?=some v:=by
   unfold start at h2;rw[eC (by simpa using hi),eU] at h2;cases e:vs[i]? with
   | none=>rw[e] at h2;cases h2
   | some a=>rw[e] at h2;cases h2;rfl
  obtain⟨u,hu,rv⟩:=r.get ha;have hp:ps[i]?=some y:=by
   rw[<-S.pre,List.getElem?_take_of_lt (by omega)];exact h1
  have ndP:ps.Nodup:=by rw[<-S.pre];exact S.nd.sublist (List.take_sublist _ _)
  refine⟨u,rv,?_⟩;rcases S.par y (dS hp) with k | k
  ·exact .inl ⟨k,zEL ndP hp hu k⟩
  ·obtain⟨c,e⟩:=zFV (n:=s.heap.objs.size+1) k
   refine .inr ⟨.inl k,c,e,?_⟩;have q:=x.cell y c e;rw[zEM ndP hp hu (by show scope.names.lookup y≠_;rw[k];decide)] at q;exact q
 ·exact e0.hok.fresh (gL (x.above y c (PySem.mem_of_lookup h)))
 ·unfold start
  show _=N.length;rw[dO,db,List.length_replicate];omega
theorem zMl{CX:CXT}{P:Program}{w:World}{K:PySem.W.Frag}{mg:Str->Option Value}{base:Heap}{k:Nat}{f:Addr}{name qual:Str}{params:Arguments}{body:List Stmt}{scope:Scope}{dV kV doc pm cdv ct oc:Value}{an od:Option Addr}
  {osl:Array (Option Value)} {N ps:List Str} {sp:Sp} (lk:K.lookup f=some ⟨oc,od,.func (PySem.W.fnOf name qual params body scope dV kV doc pm an cdv ct),osl⟩) (hcd:PySem.W.codeIn K cdv qual=true) (S:za N ps scope)
  (len:∀ vs H Q E,sp vs H Q E->vs.length=ps.length)
  (hbody:∀(A:Around) (outer:List Env) (s:Shared) (H:Hp) (vs:List V) (Q:VK) (E:XK),yE k (A.deeper (envOfC qual scope s.heap.objs.size f cdv))->sp vs H Q E ->
   ∃ t,PSs (zBD CX P w K mg base N qual scope f cdv A outer s H E) body t/\t { nx:=fun u0 H'=>Q .non H',rt:=Q } (start N vs) H) :
  zB1 P w K mg base CX (k+1) f (PySem.W.fnOf name qual params body scope dV kV doc pm an cdv ct) ps sp:=by
 refine⟨len,fun A outer s H args us vs Q E hr e0 hb r hsp=>?_⟩;have hl:=len _ _ _ _ hsp;have KX:K.In s.heap:=e0.mod.kin.keeps fun b o e=>(e0.bs b o e).1;have lim:s.heap.NoLimit:=e0.mod.nolimit.keeps fun b o e=>(e0.bs b o e).1;have hkind:∀ y∈ps.zip us,scope.names.lookup y.1=some .local\/(scope.names.lookup y.1=some .cell/\((cellsFrom (s.heap.objs.size+1) scope.names []).lookup y.1).isSome=true):=fun⟨n,v⟩ hy=>by
  rcases S.par n (List.of_mem_zip hy).1 with q | q
  ·exact .inl q
  ·exact .inr ⟨q,PySem.W.cellsFrom_some _ _ _ (.inl q)⟩
 refine codeAny_call_function hr.depth (KX _ _ lk) rfl S.co S.gen rfl (PySem.W.codeRec_of KX hcd) (hb _ _ _ _ ?_);refine wpAny_newFunctionEnv_cells S.kind hkind fun env he s1 x=>?_;subst he;refine⟨lim.keeps x.toInCall.keep,codeAny_func ?_⟩;obtain⟨t,ht,hq⟩:=hbody A outer s H vs Q E (hr.deeper _) hsp;have I:zP (zBD CX P w K mg base N qual scope f cdv A outer s H E) [] (start N vs) H s1:=zCd S hr.hd e0 hl r x;refine ft (ht [] s1 (start N vs) H _ I hq) (fun fl s' hs=>?_) fun e s' hs=>hs;have fin:∀ {σ':St} {H':Hp} {v:V} {u:Value},zP (zBD CX P w K mg base N qual scope f cdv A outer s H E) [] σ' H' s'->RelV v u->Q v H'->CE outer P w H s Q u s' :=
  fun {σ' H' v u} J rv q=>⟨v,H',J.os,J.bare,J.base,J.hok,rv,q⟩
 cases fl with
 | ret u =>
  obtain⟨v,σ',H',J,rv,q⟩:=hs;exact fin J rv q
 | next =>
  obtain⟨σ',H',J,q⟩:=hs;exact fin (v:=V.non) (u:=Value.none) J rfl q
 | brk =>
  obtain⟨u0,u0,u0,q⟩:=hs;exact False.elim q
 | cont =>
  obtain⟨u0,u0,u0,q⟩:=hs;exact False.elim q
section
variable {X:Cx} {x:Str} {p pos:Pos} {e:Expr} {es:List Expr} {t:TA} {id T:String} {r:List V->Hp->VK->Prop}
noncomputable def tCB(r:List V->Hp->VK->Prop)(t:TA):TE:=fun σ H Q=>t σ H fun vs H1=>r vs H1 Q
theorem zAA(hc:yt X (.builtin id) r)(hg:Gl X x)(hm:X.mg x=none)(hv:bootBuiltins x=some (.builtin id))(ha:PA X (e::es) t)(hn:autoParam (x≠"__name__") Zq2._auto_1)(hdb:autoParam ((x==("__debug__":Str))=false) Zq2._auto_1)
  (he:autoParam (starEach (e::es) X.env=(false,eval e X.env)::starEach es X.env) Zq4._auto_1) (hpl:autoParam ((backTo pos (starEach es X.env)).any (·.1)=false) Zq4._auto_1):PE X (.Call (.Name x p) (e::es) [] pos) (tCB r t):=by
 intro pins s σ H Q I h;refine fC (zAX I hg hm hv ?_ hn hdb);exact PyProof.Rows.callWith_builtin1 (yq (ha pos pins s σ H _ I h) fun us s1 ⟨vs,H1,I1,r1,q1⟩=>hc pins s1 σ H1 vs us Q I1 r1 q1) he hpl
theorem zCe(hc:yt X (.type T) r)(hg:Gl X x)(hm:X.mg x=none)(hv:bootBuiltins x=some (.type T))(ha:PA X (e::es) t)(hn:autoParam (x≠"__name__") Zq2._auto_1)(hdb:autoParam ((x==("__debug__":Str))=false) Zq2._auto_1)
  (he:autoParam (starEach (e::es) X.env=(false,eval e X.env)::starEach es X.env) Zq4._auto_1) (hpl:autoParam ((backTo pos (starEach es X.env)).any (·.1)=false) Zq4._auto_1):PE X (.Call (.Name x p) (e::es) [] pos) (tCB r t):=by
 intro pins s σ H Q I h;refine fC (zAX I hg hm hv ?_ hn hdb);exact PyProof.Rows.callWith_type1 (yq (ha pos pins s σ H _ I h) fun us s1 ⟨vs,H1,I1,r1,q1⟩=>hc pins s1 σ H1 vs us Q I1 r1 q1) he hpl
end
end L2
namespace HT
open PySem PyProof.Rows
section
open PySem.SeqAt
open PySem.MeetsSeq PySem.MeetsSeq2 PySem.MeetsSeq3
end
section
variable {prog:Program} {w:World} {A:Around} {E:Value->Shared->Prop} {s:Shared}
theorem zLd(ht:IsTup s.heap t vs.toArray)(hb:IsTup s.heap b ws.toArray)(hv:vs≠[])
  (h1:ws=[]->Q (.ref t) s) (h2:ws≠[]->Q (.ref s.heap.objs.size) { s with heap:=s.heap.push { cls:=.type "tuple",data:=.seq (vs++ws).toArray } })
  (hsz:vs.length+ws.length<=sizeLine):wpAny (model prog w) A (binaryOp .Add (.ref t) (.ref b)) Q E s:=by
 obtain⟨⟨cls,dd,data,sl⟩,ho,hc,n,hd⟩:=id ht;obtain⟨⟨cls2,dd2,data2,sl2⟩,ho2,hc2,n2,hd2⟩:=id hb;simp only at hc hd hc2 hd2;subst hc hd hc2 hd2;have e:vs.toArray++ws.toArray=(vs++ws).toArray:=by simp
 by_cases hw:ws=[]
 ·exact concat_meets ⟨_,ho,rfl⟩ ⟨_,ho2,rfl⟩ noFill_tuple_add seq_tuple_add PySem.F.slot_tuple_add PySem.F.entry_tuple_add (PySem.F.args_tuple_add_2 _ _)
   (tuple_addW1 t b vs.toArray ws.toArray n n2 dd dd2 sl sl2 (by simpa using hv) (by simp[hw])) ⟨ho,ho2,h1 hw⟩
 ·refine concat_meets ⟨_,ho,rfl⟩ ⟨_,ho2,rfl⟩ noFill_tuple_add seq_tuple_add PySem.F.slot_tuple_add PySem.F.entry_tuple_add (PySem.F.args_tuple_add_2 _ _)
   (tuple_addW2 t b vs.toArray ws.toArray n n2 dd dd2 sl sl2 (by simpa using hv) (by simpa using hw) (by rw[dD,dD];exact hsz)) ⟨ho,ho2,?_⟩
  rw[e];exact h2 hw
end
end HT
namespace L2
noncomputable abbrev TO:=St->Hp->(Option Int->Hp->Prop)->Prop
theorem intsAre_of:∀ {us:List Value},zW (ns.map V.int) us->IntsAre us ns:=by
 induction ns with
 | nil=>intro us r;rw[List.map_nil] at r;cases r;exact .nil
 | cons n ns ih =>
  intro us r;rw[eA] at r;cases r with
  | cons r1 r2 =>
   obtain⟨t,e⟩:=r1;subst e;exact .cons n t (ih r2)
section
variable {X:Cx} {e:Expr} {te:TE} {lo hi:Option Expr} {tl th:TO} {pos p2:Pos}
noncomputable def zMm(K:PySem.W.Frag):R2:=fun x y H Q=>∃ a b xs ys,x=.ref a/\y=.ref b/\SqT K H a xs/\SqT K H b ys/\xs≠[]/\xs.length+ys.length<=sizeLine /\
 (ys=[]->Q (.ref a) H)/\(ys≠[]->∀ p,H p=none->Q (.ref p) (yT H p (.tup (xs++ys))))
theorem zW.nil_iff(r:zW xs us):us=[]↔xs=[]:=by
 cases r with
 | nil=>simp
 | cons _ _=>simp
theorem zLe:OpR X (binaryOp .Add) (zMm X.K):=by
 intro pins s σ H x y v u Q I rx ry h;obtain⟨a,b,xs,ys,rfl,rfl,ha,hb,hx,hz,q1,q2⟩:=h;cases rx;cases ry;obtain⟨its,r1,p1,u0⟩:=I.tuple ha;obtain⟨its2,r2,p2,u0⟩:=I.tuple hb;refine HT.zLd p1 p2 (fun z=>hx (r1.nil_iff.mp z)) (fun z=>⟨.ref a,H,I,rfl,q1 (r2.nil_iff.mp z)⟩) (fun z=>?_) (by rw[<-r1.length,<-r2.length];exact hz);refine⟨.ref s.heap.objs.size,_,I.laid (t':=s.toks) (o:=.tup (xs++ys)) (fun b ob q=>cP _ q) (da _) ?_,rfl,q2 (fun w=>z (r2.nil_iff.mpr w)) _ (I.hok.fresh (da _))⟩;exact⟨by rw[dO];exact hz,_,r1.append r2,zDI.new _ _⟩
end
noncomputable def ixN(n:Nat)(i:Int):Option Nat:=if 0<=i then (if i<n then some i.toNat else none) else if -(n:Int)<=i then some (i+n).toNat else none
noncomputable def atI{α:Type}(xs:List α)(i:Int):Option α:=(ixN xs.length i).bind fun j=>xs[j]?
theorem zHI(h:ixN n i=some j):seqIndex? i n=some j/\j<n/\-(n:Int)<=i/\i<n:=by
 unfold ixN at h;by_cases h0:0<=i
 ·rw[if_pos h0] at h
  by_cases h1:i<n
  ·rw[if_pos h1] at h
   have e:i.toNat=j:=Option.some.inj h;exact⟨by rw[seqIndex_of h0 h1,e],by omega,by omega,h1⟩
  ·rw[if_neg h1] at h;cases h
 ·rw[if_neg h0] at h
  by_cases h1:-(n:Int)<=i
  ·rw[if_pos h1] at h
   have e:(i+n).toNat=j:=Option.some.inj h;exact⟨by rw[seqIndex_neg (by omega) h1,e],by omega,h1,by omega⟩
  ·rw[if_neg h1] at h;cases h
theorem zHJ{α:Type}{xs:List α}{i:Int}{v:α}(h:atI xs i=some v):∃ j,seqIndex? i xs.length=some j/\xs[j]?=some v/\j<xs.length/\-(xs.length:Int)<=i/\i<xs.length:=by
 unfold atI at h;cases e:ixN xs.length i with
 | none=>rw[e] at h;cases h
 | some j =>
  rw[e] at h;obtain⟨h1,h2,h3,h4⟩:=zHI e;exact⟨j,h1,h,h2,h3,h4⟩
theorem zBR{α:Type}{xs:List α}{j:Nat}{v:α}(h:xs[j]?=some v):atI xs (j:Int)=some v:=by
 have hj:j<xs.length:=(di.mp h).1;have e:ixN xs.length (j:Int)=some j:=by
  unfold ixN;rw[if_pos (by omega),if_pos (by omega)];simp
 unfold atI;rw[e];exact h
noncomputable def zEy(b:Expr):Prop:=∀ o i,subscripted b false o i=operate [o,i] (getItem o i)
noncomputable def IxR(X:Cx)(r:R2):Prop :=
 ∀(value slice:Expr) (pins:List (Addr×Obj)) (s:Shared) (σ:St) (H:Hp) (x y:V) (v u:Value) (Q:VK),zP X pins σ H s->RelV x v->RelV y u->r x y H Q ->
  subscripted slice false v u=operate [v,u] (getItem v u)->wpAny (model X.prog X.w) X.A (subscriptTail value slice v u) (EP X pins σ Q) X.xe s
noncomputable def MtR(X:Cx)(id:String)(r:V->List V->Hp->VK->Prop):Prop :=
 ∀(pins:List (Addr×Obj)) (s:Shared) (σ:St) (H:Hp) (x:V) (xs:List V) (v:Value) (us:List Value) (Q:VK),zP X pins σ H s->RelV x v->zW xs us->r x xs H Q ->
  wpAny (model X.prog X.w) X.A (call (.builtin id) (v::us)) (EP X pins σ Q) X.xe s
section
variable {X:Cx} {a b:Expr} {ta tb:TE} {pos:Pos}
theorem IxR.or(h:IxR X r)(h':IxR X r'):IxR X (fun x y H Q=>r x y H Q\/r' x y H Q):=by
 intro value slice pins s σ H x y v u Q I rx ry q hs;rcases q with q | q
 ·exact h value slice pins s σ H x y v u Q I rx ry q hs
 ·exact h' value slice pins s σ H x y v u Q I rx ry q hs
theorem MtR.or{id:String}{r r':V->List V->Hp->VK->Prop}(h:MtR X id r)(h':MtR X id r'):MtR X id (fun x xs H Q=>r x xs H Q\/r' x xs H Q):=by
 intro pins s σ H x xs v us Q I rx rs q;rcases q with q | q
 ·exact h pins s σ H x xs v us Q I rx rs q
 ·exact h' pins s σ H x xs v us Q I rx rs q
theorem zMn(hr:IxR X r)(ha:PE X a ta)(hb:PE X b tb)(hs:zEy b):PE X (.Subscript a b pos) (tOp r ta tb):=by
 intro pins s σ H Q I h;exact Subscript_ (zNY ha hb I h fun v u s2 x y H2 I2 rx ry q=>hr a b pins s2 σ H2 x y v u Q I2 rx ry q (hs _ _))
noncomputable def zO2(K:PySem.W.Frag):R2:=fun x y H Q=>∃ p xs i v,x=.ref p/\y=.int i/\SqL K H p xs/\atI xs i=some v/\Q v H
noncomputable def zO3(K:PySem.W.Frag):R2:=fun x y H Q=>∃ p xs i v,x=.ref p/\y=.int i/\SqT K H p xs/\atI xs i=some v/\Q v H
theorem zLf:IxR X (zO2 X.K):=by
 intro value slice pins s σ H x y v u Q I rx ry h hs;obtain⟨p,xs,i,z,rfl,rfl,hq,he,q⟩:=h;cases rx;obtain⟨t,rfl⟩:=ry;obtain⟨its,r,pl,hz⟩:=I.list hq;obtain⟨j,h1,h2,h3,h4,h5⟩:=zHJ he;obtain⟨w,ew,rw'⟩:=r.get h2;have hl:=r.length;have hn:=zDN;have fin:EP X pins σ Q w s:=⟨z,H,I,rw',q⟩
 by_cases h0:0<=i
 ·have hj:i.toNat=j:=by
   rw[seqIndex_of h0 h5] at h1;exact Option.some.inj h1
  exact item_listR pl.isList h0 (by omega) (by rw[hj];simpa using ew) fin hs
 ·have hj:(i+(its.toArray.size:Int)).toNat=j:=by
   rw[seqIndex_neg (by omega) h4] at h1;rw[dD,<-hl];exact Option.some.inj h1
  exact subscriptTail_builtinR (x:=w) pl.isList.typeIs slot_list_getitem.lookup
   (wpAny_getItem_list_neg (Q:=fun r s'=>r=w/\EP X pins σ Q r s') pl.isList (by omega) (by rw[dD]<;>omega) (by omega) (by rw[hj];simpa using ew) ⟨rfl,fin⟩) hs
theorem zNm:IxR X (zO3 X.K):=by
 intro value slice pins s σ H x y v u Q I rx ry h hs;obtain⟨p,xs,i,z,rfl,rfl,hq,he,q⟩:=h;cases rx;obtain⟨t,rfl⟩:=ry;obtain⟨its,r,pl,hz⟩:=I.tuple hq;obtain⟨j,h1,h2,h3,h4,h5⟩:=zHJ he;obtain⟨w,ew,rw'⟩:=r.get h2;have hl:=r.length;have hn:=zDN;have fin:EP X pins σ Q w s:=⟨z,H,I,rw',q⟩
 exact subscriptTail_builtinR (x:=w) pl.typeIs slot_tuple_getitem.lookup
  (getItem_tuple (j:=j) (Q:=fun r s'=>r=w/\EP X pins σ Q r s') pl (by omega) (by omega) (by rw[dD,<-hl];exact h1) (by simpa using ew) ⟨rfl,fin⟩) hs
theorem zGX(its:List Value)(n j:Nat)(u:Value):Obj.mapSeq (·.setIfInBounds j u) { cls:=.type "list",data:=.seq its.toArray n }={ cls:=.type "list",data:=.seq (its.set j u).toArray n }:=by
 simp[Obj.mapSeq]
theorem zP.lst{pins:List (Addr×Obj)}{σ:St}{H:Hp}{s:Shared}{p:Addr}{xs:List V}(I:zP X pins σ H s)(h:H p=some (.lst xs)) :
  ∃(its:List Value) (n:Nat),zW xs its/\s.heap.get? p=some { cls:=.type "list",data:=.seq its.toArray n }/\xs.length<=sizeLine:=by
 obtain⟨z,its,n,r,e⟩:=I.hok p _ h;exact⟨its,n,r,e,z⟩
theorem zP.lstUpd{pins:List (Addr×Obj)}{σ:St}{H:Hp}{s:Shared}{p:Addr}{xs ys:List V}{its its':List Value}{n n':Nat}{f:Obj->Obj}(I:zP X pins σ H s)(h:H p=some (.lst xs))
  (ho:s.heap.get? p=some { cls:=.type "list",data:=.seq its.toArray n }) (hf:f { cls:=.type "list",data:=.seq its.toArray n }={ cls:=.type "list",data:=.seq its'.toArray n' }) (r:zW ys its') (hz:ys.length<=sizeLine) (t:Nat) :
  zP X pins σ (yT H p (.lst ys)) { s with heap:=s.heap.update p f,toks:=t }:=by
 have e:(s.heap.update p f).get? p=some { cls:=.type "list",data:=.seq its'.toArray n' }:=by
  rw[gi f ho (by rw[hf]<;>rfl),hf]
 refine I.write (x:=p) (e:=p) (by rw[h];trivial) (.inl rfl) (fun b u hb q=>(Heap.get?_update_other _ _ (Ne.symm hb)).trans q) ⟨_,e⟩ ?_;exact⟨hz,its',n',r,e⟩
noncomputable def zO4:V->V->V->Hp->(Hp->Prop)->Prop:=fun o i v H Q=>∃ p xs k j,o=.ref p/\i=.int k/\H p=some (.lst xs)/\ixN xs.length k=some j/\Q (yT H p (.lst (xs.set j v)))
theorem set_list:zNS X zO4:=by
 intro pins s σ H o i v ov iv u Q I ro ri rv h;obtain⟨p,xs,k,j,rfl,rfl,hp,hj,q⟩:=h;cases ro;obtain⟨t,rfl⟩:=ri;obtain⟨its,n,r,ho,hz⟩:=I.lst hp;obtain⟨h1,h2,h3,h4⟩:=zHI hj;have hl:=r.length;have hn:=zDN;have I':zP X pins σ (yT H p (.lst (xs.set j v))) { s with heap:=s.heap.update p (Obj.mapSeq (·.setIfInBounds j u)) } :=
  I.lstUpd hp ho (zGX its n j u) (r.set rv j) (by rw[List.length_set];exact hz) s.toks
 by_cases h0:0<=k
 ·have hk:k.toNat=j:=by
   rw[seqIndex_of h0 h4] at h1;exact Option.some.inj h1
  exact PySem.W.ki_setAt ho h0 (by omega) (by rw[dD,<-hl];exact h4) (by rw[hk];exact⟨_,I',q⟩)
 ·have hk:(k+(its.toArray.size:Int)).toNat=j:=by
   rw[seqIndex_neg (by omega) h3] at h1;rw[dD,<-hl];exact Option.some.inj h1
  exact PySem.W.ki_setBack ho (by omega) (by rw[dD,<-hl];exact h3) (by omega) (by rw[hk];exact⟨_,I',q⟩)
noncomputable def zHK:V->Bool
 | .non=>true
 | .bl _=>true
 | .int _=>true
 | .str _=>true
 | _=>false
noncomputable def eqV:V->V->Bool
 | .non,.non=>true
 | .bl a,.bl b=>a==b
 | .bl a,.int b=>(if a then 1 else 0)==b
 | .int a,.bl b=>a==(if b then 1 else 0)
 | .int a,.int b=>a==b
 | .str a,.str b=>a==b
 | _,_=>false
theorem zJb(ry:RelV y u)(rx:RelV x v)(fy:zHK y=true)(fx:zHK x=true):SeqAt.EqAt A s u v (eqV y x):=by
 cases y with
 | non =>
  cases ry;cases x with
  | non=>cases rx;exact SeqAt.EqAt.same _
  | bl b=>cases rx;exact SeqAt.EqAt.none_bool b
  | int b=>obtain⟨t,rfl⟩:=rx;exact SeqAt.EqAt.none_int b t
  | str b=>obtain⟨t,rfl⟩:=rx;exact SeqAt.EqAt.none_str b t
  | _=>exact absurd (show false=true from fx) eH
 | bl a =>
  cases ry;cases x with
  | non=>cases rx;exact SeqAt.EqAt.bool_none a
  | bl b=>cases rx;exact SeqAt.EqAt.bool_bool a b
  | int b=>obtain⟨t,rfl⟩:=rx;exact SeqAt.EqAt.bool_int a b t
  | str b=>obtain⟨t,rfl⟩:=rx;exact SeqAt.EqAt.bool_str a b t
  | _=>exact absurd (show false=true from fx) eH
 | int a =>
  obtain⟨t',rfl⟩:=ry;cases x with
  | non=>cases rx;exact SeqAt.EqAt.int_none a t'
  | bl b=>cases rx;exact SeqAt.EqAt.int_bool a t' b
  | int b=>obtain⟨t,rfl⟩:=rx;exact SeqAt.EqAt.int_int a t' b t
  | str b=>obtain⟨t,rfl⟩:=rx;exact SeqAt.EqAt.int_str a t' b t
  | _=>exact absurd (show false=true from fx) eH
 | str a =>
  obtain⟨t',rfl⟩:=ry;cases x with
  | non=>cases rx;exact SeqAt.EqAt.str_none a t'
  | bl b=>cases rx;exact SeqAt.EqAt.str_bool a t' b
  | int b=>obtain⟨t,rfl⟩:=rx;exact SeqAt.EqAt.str_int a t' b t
  | str b=>obtain⟨t,rfl⟩:=rx;exact SeqAt.EqAt.str_str a t' b t
  | _=>exact absurd (show false=true from fx) eH
 | _=>exact absurd (show false=true from fy) eH
theorem zEz:yt X (.builtin "len") (fun xs H Q=>∃ p ys,xs=[.ref p]/\(SqL X.K H p ys\/SqT X.K H p ys)/\Q (.int ys.length) H):=by
 intro pins s σ H xs us Q I r h;obtain⟨p,ys,rfl,hq,q⟩:=h;obtain⟨u,rfl,rx⟩:=vals1 r;cases rx;have hn:=zDN;rcases hq with hq | hq
 ·obtain⟨its,r',pl,hz⟩:=I.list hq
  have hlen:=r'.length;exact Calls.call_len_list pl.isList (by simp only[dD]<;>omega) ⟨.int ys.length,H,I.tok _,⟨s.toks+1,by rw[dD,hlen]⟩,q⟩
 ·obtain⟨its,r',pl,hz⟩:=I.tuple hq
  have hlen:=r'.length;exact len_tuple pl (by simp only[dD]<;>omega) ⟨.int ys.length,H,I.tok _,⟨s.toks+1,by rw[dD,hlen]⟩,q⟩
theorem yt.or(h:yt X f r)(h':yt X f r'):yt X f (fun xs H Q=>r xs H Q\/r' xs H Q):=by
 intro pins s σ H xs us Q I rs q;rcases q with q | q
 ·exact h pins s σ H xs us Q I rs q
 ·exact h' pins s σ H xs us Q I rs q
theorem zBg:yt X (.type "tuple") (fun xs H Q=>∃ p ys,xs=[.ref p]/\((SqL X.K H p ys/\∀ l,H l=none->Q (.ref l) (yT H l (.tup ys)))\/(SqT X.K H p ys/\Q (.ref p) H))):=by
 intro pins s σ H xs us Q I r h;obtain⟨p,ys,rfl,h⟩:=h;obtain⟨u,rfl,rx⟩:=vals1 r;cases rx;rcases h with ⟨hq,q⟩ | ⟨hq,q⟩
 ·obtain⟨its,r',pl,hz⟩:=I.list hq
  have hlen:=r'.length;refine call_tuple_list pl.isList (fun h' kp=>?_) (by simp only[dD]<;>omega);have I1:zP X pins σ H { s with heap:=h' }:=I.kept (t':=s.toks) kp;have I2:zP X pins σ (yT H h'.objs.size (.tup ys)) { s with heap:=h'.push { cls:=.type "tuple",data:=.seq its.toArray } } :=
   I1.laid (t':=s.toks) (fun b o e=>cP _ e) (da _) (show yY X.prog X.w _ _ _ (.tup ys) from⟨hz,its,r',zDI.new _ _⟩)
  exact⟨.ref h'.objs.size,_,I2,rfl,q _ (I1.hok.fresh (da _))⟩
 ·obtain⟨its,r',pl,hz⟩:=I.tuple hq
  exact call_tuple_same pl ⟨.ref p,H,I,rfl,q⟩
noncomputable def tyV(K:PySem.W.Frag)(T:String)(x:V)(H:Hp):Prop:=match x with
 | .str _=>T="str"
 | .int _=>T="int"
 | .ref p=>(T="list"/\∃ xs,SqL K H p xs)\/(T="tuple"/\∃ xs,SqT K H p xs) \/
   (T="dict"/\((∃ kvs,H p=some (.dK kvs))\/∃ kvs,H p=some (.dT kvs)))\/(T="set"/\∃ S n,H p=some (.set S n))
 | _=>False
theorem zNn{pins:List (Addr×Obj)}{σ:St}{H:Hp}{s:Shared}{T:String}{x:V}{v:Value}(I:zP X pins σ H s)(r:RelV x v)(ty:tyV X.K T x H) :
  s.TypeIs v T/\∀ a,v=.ref a->∃ ob,s.heap.get? a=some ob/\ob.dict=none:=by
 cases x with
 | str z =>
  obtain⟨t,rfl⟩:=r;cases (show T="str" from ty);exact⟨typeIs_str s z t,fun u0 e=>nomatch e⟩
 | int i =>
  obtain⟨t,rfl⟩:=r;cases (show T="int" from ty);exact⟨typeIs_int s i t,fun u0 e=>nomatch e⟩
 | ref p =>
  cases r;rcases ty with ⟨rfl,xs,hq⟩ | ⟨rfl,xs,hq⟩ | ⟨rfl,hk⟩ | ⟨rfl,S,n,hk⟩
  ·obtain⟨its,u0,pl,u0⟩:=I.list hq
   refine⟨pl.isList.typeIs,fun a e=>?_⟩;cases e;obtain⟨o,n,e,c,hd,u0⟩:=pl;exact⟨o,e,hd⟩
  ·obtain⟨h1,o,h2,h3⟩:=I.noDict hq
   refine⟨h1,fun a e=>?_⟩;cases e;exact⟨o,h2,h3⟩
  ·have z:∃ o,s.heap.get? p=some o/\o.ExactDict:=by
    rcases hk with ⟨kvs,hk⟩ | ⟨kvs,hk⟩
    ·obtain⟨u0,u0,u0,u0,o,u0,u0,e,ex,u0⟩:=I.hok p _ hk
     exact⟨o,e,ex⟩
    ·obtain⟨u0,u0,u0,u0,o,u0,u0,e,ex,u0⟩:=I.hok p _ hk
     exact⟨o,e,ex⟩
   obtain⟨o,e,ex⟩:=z;refine⟨⟨o,e,ex.1⟩,fun a e2=>?_⟩;cases e2;exact⟨o,e,ex.2.1⟩
  ·obtain⟨o,u0,u0,u0,e,ex,u0⟩:=I.hok p _ hk
   refine⟨⟨o,e,ex.1⟩,fun a e2=>?_⟩;cases e2;exact⟨o,e,ex.2.1⟩
 | _=>exact False.elim ty
noncomputable def tBM(K:PySem.W.Frag)(T:String)(r:V->List V->Hp->VK->Prop)(to:TE)(t:TA):TE:=fun σ H Q=>to σ H fun x H1=>tyV K T x H1/\t σ H1 fun xs H2=>r x xs H2 Q
variable {o e:Expr} {es:List Expr} {to:TE} {t:TA} {name:Str} {apos cpos:Pos} {T id:String} {r:V->List V->Hp->VK->Prop}
theorem zJc(pa:PlainAttrs T)(slot:Slot T name id)(hty:typeOf (.builtin id)=pure (.type "method_descriptor"))(hm:MtR X id r)(ho:PE X o to)(ha:PA X (e::es) t)
  (hbase:autoParam (attributeBase o name X.env (eval o X.env)=eval o X.env) Zq4._auto_1)
  (hfew:autoParam (((backTo cpos (starEach (e::es) X.env)).all (fun x=>!x.1)&&(backToKw cpos (keywordEach [] X.env)).all (fun x=>x.1.isSome)
   && decide ((e::es).length+([]:List Keyword).length+(if ([]:List Keyword).isEmpty then 0 else 1)<30))=true) Zq4._auto_1)
  (hline:autoParam ((apos.endLine==cpos.line)=true) Zq4._auto_1) (hs:autoParam (starEach (e::es) X.env=(false,eval e X.env)::starEach es X.env) Zq4._auto_1) (hplain:autoParam ((backTo cpos (starEach es X.env)).any (·.1)=false) Zq4._auto_1) :
  PE X (.Call (.Attribute o name apos) (e::es) [] cpos) (tBM X.K T r to t):=by
 intro pins s σ H Q I h;refine wpAny_Call_method_late hbase hfew hline rfl (yq (ho pins s σ H _ I h) fun v s1 u9=>?_);obtain⟨x,H1,I1,r1,ty,q1⟩:=u9;obtain⟨h1,h2⟩:=zNn I1 r1 ty;refine⟨T,id,pa,slot,hty,h1,h2,?_⟩;have hA:=ha cpos pins s1 σ H1 _ I1 q1;rw[hs] at hA ⊢;refine Calls.callWith_builtin (by show(false||(backTo cpos (starEach es X.env)).any (·.1))=false;rw[hplain]<;>rfl) (Calls.evalArgs_plain ?_);exact yq hA fun us s2 ⟨vs,H2,I2,r2,q2⟩=>hm pins s2 σ H2 x vs v us Q I2 r1 r2 q2
end
noncomputable def MtM(X:Cx)(id:String)(r:V->List V->Hp->VK->Prop):Prop :=
 ∀(pins:List (Addr×Obj)) (s:Shared) (σ:St) (H:Hp) (x:V) (xs:List V) (v:Value) (us:List Value) (Q:VK),zP X pins σ H s->RelV x v->zW xs us->r x xs H Q ->
  wpAny (model X.prog X.w) X.A (call (.builtin id) (v::us)) (EP X pins σ Q) X.xe s
theorem zW.one:∀ {x:V} {us:List Value},zW [x] us->∃ u,us=[u]/\RelV x u
 | _,_,.cons r .nil=>⟨_,rfl,r⟩
theorem zW.zero:∀ {us:List Value},zW [] us->us=[]
 | _,.nil=>rfl
theorem zW.eraseIdx:∀ {xs:List V} {us:List Value} (i:Nat),zW xs us->zW (xs.eraseIdx i) (us.eraseIdx i)
 | _,_,_,.nil=>.nil
 | _,_,0,.cons _ t=>t
 | _,_,i+1,.cons r t=>.cons r (zW.eraseIdx i t)
theorem zW.reverse(h:zW xs us):zW xs.reverse us.reverse:=by
 induction h with
 | nil=>exact .nil
 | cons r t ih=>rw[gQ,gQ];exact zW.append ih (.cons r .nil)
theorem zW.rep(h:zW xs us):∀ k:Nat,zW (dF k xs).flatten (dF k us).flatten
 | 0=>.nil
 | k+1=>by
  rw[cU,cU,fZ,fZ];exact zW.append h (zW.rep h k)
theorem zEN{α:Type}:∀(l:List α) (i:Nat),(l.eraseIdx i).length<=l.length
 | [],_=>da _
 | _::_,0=>Nat.le_succ _
 | _::r,i+1=>Nat.succ_le_succ (zEN r i)
theorem foldl_rep(its:List Value):∀(k:Nat) (acc:List Value),
  List.foldl (fun x1 x2=>x1++x2) acc.toArray (dF k its.toArray)=(acc++(dF k its).flatten).toArray
 | 0,acc=>by simp
 | k+1,acc=>by
  have e:acc.toArray++its.toArray=(acc++its).toArray:=by simp
  have e2:(acc++its)++(dF k its).flatten=acc++(dF (k+1) its).flatten:=by
   rw[cU,fZ,eV]
  rw[<-e2,<-foldl_rep its k (acc++its),<-e,cU,List.foldl_cons]
section
variable {X:Cx} {pins:List (Addr×Obj)} {σ:St} {H:Hp} {s:Shared} {l b:Addr} {xs ys zs:List V}
theorem zP.lset{its its':List Value}{n:Nat}{f:Array Value->Array Value}{t':Nat}(I:zP X pins σ H s)(hH:H l=some (.lst xs))
  (e:s.heap.get? l=some { cls:=.type "list",data:=.seq its.toArray n }) (hf:f its.toArray=its'.toArray) (hv:zW ys its') (hz:ys.length<=sizeLine) :
  zP X pins σ (yT H l (.lst ys)) { s with heap:=s.heap.update l (Obj.mapSeq f),toks:=t' }:=by
 have q:=PySem.IsL.update e f;rw[hf] at q;refine I.write (x:=l) (e:=l) (by rw[hH];exact trivial) (.inl rfl) (fun b' u hb hu=>(Heap.get?_update_other s.heap (Obj.mapSeq f) (Ne.symm hb)).trans hu) ⟨_,q⟩ ?_;exact⟨hz,its',_,hv,q⟩
theorem zP.lnew(I:zP X pins σ H s)(hv:zW ys its)(hz:ys.length<=sizeLine) :
  zP X pins σ (yT H s.heap.objs.size (.lst ys)) { s with heap:=s.heap.push { cls:=.type "list",data:=.seq its.toArray },toks:=t' } :=
 I.laid (fun u0 u0 q=>cP _ q) (da _) ⟨hz,its,0,hv,d9 _ rfl⟩
theorem zP.fresh(I:zP X pins σ H s):H s.heap.objs.size=none:=I.hok.fresh (da _)
theorem zP.lstM(I:zP X pins σ H s)(hH:H l=some (.lst xs)):xs.length<=sizeLine/\∃(its:List Value) (n:Nat),zW xs its/\xs.length=its.length/\s.heap.get? l=some { cls:=.type "list",data:=.seq its.toArray n }:=by
 obtain⟨z,its,n,r,e⟩:=I.hok l _ hH;exact⟨z,its,n,r,r.length,e⟩
theorem zFW(h:n<=sizeLine):Builtin.List.listTooLong n=false:=by
 unfold Builtin.List.listTooLong;exact decide_eq_false (by omega)
end
section
variable {X:Cx}
noncomputable def zLg:V->List V->Hp->VK->Prop:=fun x vs H Q=>∃ l xs y,x=.ref l/\vs=[y]/\H l=some (.lst xs)/\xs.length<sizeLine/\Q .non (yT H l (.lst (xs++[y])))
theorem zEO:MtM X "list.append" zLg:=by
 intro pins s σ H x vs v us Q I rx rv h;obtain⟨l,xs,y,rfl,rfl,hH,hz,q⟩:=h;cases rx;obtain⟨u,rfl,ru⟩:=rv.one;obtain⟨z,its,n,r,hl,e⟩:=I.lstM hH;refine call_meets F.slot_list_append ⟨_,e,rfl⟩ F.entry_list_append (F.args_list_append_2 _ _) (PySem.list_append l its.toArray n u (by rw[dD];omega)) ⟨e,?_⟩;refine⟨.non,_,I.lset (its':=its++[u]) hH e (by simp) (r.append (.cons ru .nil)) ?_,rfl,q⟩;rw[dO,List.length_singleton];omega
noncomputable def zLh:V->List V->Hp->VK->Prop:=fun x vs H Q=>∃ l b xs zs,x=.ref l/\vs=[.ref b]/\H l=some (.lst xs)/\H b=some (.lst zs)/\xs.length+zs.length<=sizeLine/\Q .non (yT H l (.lst (xs++zs)))
theorem zIH:MtM X "list.extend" zLh:=by
 intro pins s σ H x vs v us Q I rx rv h;obtain⟨l,b,xs,zs,rfl,rfl,hH,hB,hz,q⟩:=h;cases rx;obtain⟨u,rfl,ru⟩:=rv.one;cases ru;obtain⟨z,its,n,r,hl,e⟩:=I.lstM hH;obtain⟨z2,its2,n2,r2,hl2,e2⟩:=I.lstM hB;have hsz:its.toArray.size+its2.toArray.size<=sizeLine:=by rw[dD,dD];omega
 have hlong:¬ (!its.toArray.isEmpty&&Builtin.List.listTooLong (its.toArray.size+its2.toArray.size))=true:=by
  rw[zFW hsz,Bool.and_false];exact eH
 refine call_meets F.slot_list_extend ⟨_,e,rfl⟩ F.entry_list_extend (F.args_list_extend_2 _ _)
  (AutoSeq1.list_extend_list_list_0 l its.toArray n b its2.toArray n2 hlong (by rw[dD];omega) (by omega)) ⟨e,e2,?_⟩
 refine⟨.non,_,I.lset (its':=its++its2) hH e (by simp) (r.append r2) ?_,rfl,q⟩;rw[dO];omega
noncomputable def zNo:V->List V->Hp->VK->Prop:=fun x vs H Q=>∃ l xs i k y,x=.ref l/\vs=[.int i]/\H l=some (.lst xs)/\-(2 ^ 63)<=i/\i<2 ^ 63/\seqIndex? i xs.length=some k/\xs[k]?=some y/\Q y (yT H l (.lst (xs.eraseIdx k)))
theorem zJd:MtM X "list.pop" zNo:=by
 intro pins s σ H x vs v us Q I rx rv h;obtain⟨l,xs,i,k,y,rfl,rfl,hH,h1,h2,hk,hy,q⟩:=h;cases rx;obtain⟨u,rfl,ru⟩:=rv.one;obtain⟨t,rfl⟩:=ru;obtain⟨z,its,n,r,hl,e⟩:=I.lstM hH;obtain⟨w,hw,rw'⟩:=r.get hy;refine call_meets F.slot_list_pop ⟨_,e,rfl⟩ F.entry_list_pop (F.args_list_pop_2 _ _)
  (MeetsSeq.list_pop_at l its.toArray n i t k w (fitsIndex_both h1 h2) (by rw[dD,<-hl];exact hk) (by rw[<-eZ];exact hw) (by rw[dD];omega)) ⟨e,?_⟩
 refine⟨y,_,I.lset (its':=its.eraseIdx k) hH e ?_ (r.eraseIdx k) ?_,rw',q⟩
 ·show its.toArray.eraseIdxIfInBounds k=(its.eraseIdx k).toArray
  rw[List.eraseIdxIfInBounds_toArray]
 ·have:=zEN xs k
  omega
noncomputable def zP1:R2:=fun x y H Q=>∃ l b xs zs,x=.ref l/\y=.ref b/\H l=some (.lst xs)/\H b=some (.lst zs)/\xs.length+zs.length<=sizeLine/\∀ p,H p=none->Q (.ref p) (yT H p (.lst (xs++zs)))
theorem zNp:OpR X (binaryOp .Add) zP1:=by
 intro pins s σ H x y v u Q I rx ry h;obtain⟨l,b,xs,zs,rfl,rfl,hH,hB,hz,q⟩:=h;cases rx;cases ry;obtain⟨z,its,n,r,hl,e⟩:=I.lstM hH;obtain⟨z2,its2,n2,r2,hl2,e2⟩:=I.lstM hB;refine PySem.P.add_list e e2 ?_ (by rw[dD,dD];omega);have ea:its.toArray++its2.toArray=(its++its2).toArray:=by simp
 rw[ea];exact⟨.ref _,_,I.lnew (t':=s.toks) (r.append r2) (by rw[dO];omega),rfl,q _ I.fresh⟩
noncomputable def zP2:R2:=fun x y H Q=>∃ l k xs,x=.ref l/\y=.int k/\H l=some (.lst xs)/\-(2 ^ 63)<=k/\k<2 ^ 63/\xs.length*k.toNat<=sizeLine /\
 ∀ p,H p=none->Q (.ref p) (yT H p (.lst (dF k.toNat xs).flatten))
theorem len_rep{α:Type}(xs:List α)(k:Nat):(dF k xs).flatten.length=k*xs.length:=by
 induction k with
 | zero=>simp
 | succ k ih=>rw[cU,fZ,dO,ih,Nat.succ_mul,Nat.add_comm]
theorem zNq:OpR X (binaryOp .Mult) zP2:=by
 intro pins s σ H x y v u Q I rx ry h;obtain⟨l,k,xs,rfl,rfl,hH,h1,h2,hz,q⟩:=h;cases rx;obtain⟨t,rfl⟩:=ry;obtain⟨z,its,n,r,hl,e⟩:=I.lstM hH;have hlen:its.toArray.size*k.toNat<=sizeLine:=by rw[dD,<-hl];exact hz
 have hcap:¬ its.toArray.size*k.toNat>(2 ^ 63-1) / 8:=by
  have:(sizeLine:Nat)<=(2 ^ 63-1) / 8:=by decide
  omega
 have hfit:¬ (!Builtin.List.listFitsIndex k)=true:=by
  rw[fitsIndex_both h1 h2];exact eH
 have hlong:¬ Builtin.List.listTooLong (its.toArray.size*k.toNat)=true:=by
  rw[zFW hlen];exact eH
 have hnew:List.foldl (fun x1 x2=>x1++x2) #[] (dF (if its.toArray.isEmpty=true then 0 else k.toNat) its.toArray)=(dF k.toNat its).flatten.toArray:=by
  have f0:∀ m:Nat,List.foldl (fun x1 x2=>x1++x2) #[] (dF m its.toArray)=(dF m its).flatten.toArray:=fun m=>by
   have:=foldl_rep its m [];rw[cY] at this;exact this
  rw[f0];cases its with
  | nil=>simp
  | cons a r'=>rw[if_neg (by simp)]
 refine wpAny_binaryOp_repeat_ref (T:="list") (U:="int") (by decide) ⟨_,e,rfl⟩ (fun s'=>typeIs_int s' k t) noFill_list_mul F.fills_int_mul F.slot_int_rmul repeat_list F.slot_int_index.lookup
  (call_meets F.slot_int_rmul (typeIs_int s k t) F.entry_int_rmul (F.args_int_rmul_2 _ _) (int___rmul___int_list k t l its.toArray n)
   ⟨e,rfl,⟨_,e,rfl⟩,call_meets F.slot_list_mul ⟨_,e,rfl⟩ F.entry_list_mul (F.args_list_mul_2 _ _) (AutoListH.list___mul___list_int_3 l its.toArray n k t hfit hcap hlong) ⟨e,?_⟩⟩)
 rw[hnew];exact⟨.ref _,_,I.lnew (t':=s.toks) (r.rep k.toNat) (by rw[len_rep,Nat.mul_comm];exact hz),rfl,q _ I.fresh⟩
end
section
variable {prog:Program} {w:World} {A:Around} {E:Value->Shared->Prop} {s:Shared}
end
section
variable {X:Cx}
end
end L2
namespace Att
open PySem PySem.W PySem.Calls PyProof.Rows
theorem zC4:∀(ns:List Int) (vs:List Value),WellAll P h vs (ns.map WData.int)->IntsAre vs ns:=by
 intro ns
 induction ns with
 | nil =>
  intro vs w;rw[List.map_nil] at w;cases w;exact .nil
 | cons n ns ih =>
  intro vs w;rw[eA] at w;cases w with
  | cons a b =>
   cases a;exact .cons _ _ (ih _ b)
theorem zII{l:OpenLaw}{n:Nat}(hn:l.most=some n){P:Params}{h:Heap}{args:List WData}{vals:List Value}
  (hpre:l.row.toRowW.claim.pre args=true) (hwl:WellAll P h vals args) :
  ∃ a vs ns,vals=[Value.ref a]/\args=[WData.list (ns.map WData.int)]/\h.get? a=some { cls:=.type "list",data:=.seq vs.toArray }/\IntsAre vs ns/\ns.length<=n:=by
 have hsh:WShape.hasAll [] args [.list .int]=true:=(pre_splitW hpre).1;have hc:l.pre.holds [] { args:=args }=true:=(pre_splitW hpre).2;obtain⟨d,r,rfl,h1,h2⟩:=hasAllW_cons hsh;obtain rfl:=hasAllW_nil h2;obtain⟨xs,rfl,h3⟩:=hasW_list h1;obtain⟨ns,rfl⟩:=items_int h3;have hlen:ns.length<=n:=by
  unfold OpenLaw.pre at hc;have h4:(WTm.not (.lt (.lit (.int (n:Int))) (.len (.arg 0)))).holds [] { args:=[.list (ns.map .int)] }=true:=by
   have h4:=(holds_andW hc).1;rw[hn] at h4;exact h4
  have h5:=condW_of h4 (w_not (w_lt w_lit (w_len_list (w_arg rfl))));rw[db] at h5;refine Nat.le_of_not_lt fun q=>?_;have q':(n:Int)<((ns.length:Nat):Int):=by omega
  first
   | (rw[decide_eq_true q'] at h5;exact absurd h5 (by decide))
   | (simp at h5;omega)
 cases hwl with
 | cons w1 w2 =>
  cases w2;cases w1 with
  | list ho hall=>exact⟨_,_,ns,rfl,rfl,ho,zC4 ns _ hall,hlen⟩
theorem zIJ(l:OpenLaw)(args:List WData):l.row.toRowW.claim.post args (.bool true) args=true :=
 postW_of (r:=l.row.toRowW) (X:=(true==true))
  (show WShape.has [] (.bool true) .bool=true by first | rfl | decide | simp[WShape.has,WShape.arms,WShape.armsAll])
  (show(WTm.eq .res (.lit (.bool true))).value [] { args:=args,res:=some (.bool true),after:=args }=some (.bool (true==true)) from w_eq_bool (w_res rfl) w_lit) rfl
theorem zFX{l:OpenLaw}{n:Nat}{q:Program}{loose:List Str}{XP:(Str->Option Value)->Heap->Prop}{YP:World->Heap->Prop}{d:DefRec}
  (hn:l.most=some n) (hdf:d.params.defaults=[])
  (call:∀(w:World) (s₀ s₁:Shared) (mg mb:Str->Option Value) (fa:Addr) (o:Obj) (pm cd doc:Value) (a:Addr) (vs:List Value) (ns:List Int),
   Ground q loose [] XP w s₀ mg mb s₁.heap->YP w s₁.heap ->
   s₁.heap.get? fa=some o->o.data=.func (docDef d.name d.params d.body d.scope pm cd doc)->s₁.heap.CodeRec cd d.name->mg d.name=some (.ref fa) ->
   s₁.heap.get? a=some { cls:=.type "list",data:=.seq vs.toArray }->IntsAre vs ns->ns.length<=n->s₁.gens=#[] ->
   codeAny (model l.prog w) callerA (.call (.ref fa) ⟨[.ref a],[]⟩) (fun r s'=>r=.ok (.ret (.bool true))/\OldK s₁.heap s'.heap/\s'.os=s₁.os/\AllBare s'.gens) s₁) :
  WalkO q loose XP YP l.row.toRowW d [] (fun f vs=>PySem.call f vs):=by
 intro w s₀ s₁ mg mb G Y fa o pm cd doc dV kV ho hd hcd hD hmg hg args vals as hpre hlay hrd hwl hlo;obtain rfl:dV=.none:=Dflts.none hD hdf;obtain rfl:kV=.none:=Dflts.noKw hD;obtain⟨a,vs,ns,rfl,rfl,hobj,hints,hlen⟩:=zII hn hpre hwl;refine enter_call (fu (call w s₀ s₁ mg mb fa o pm cd doc a vs ns G Y ho (fd_plain hd) hcd hmg hobj hints hlen hg) fun r s' hq=>?_);obtain⟨rfl,h2,h3,h4⟩:=hq;exact⟨.inl ⟨.bool true,.bool true,[],rfl,fun u0=>rfl,.bool true,zIJ l _,fun u0=>⟨fX.nil,fun u0 hm=>(nomatch hm)⟩⟩,h2,h3,h4⟩
section
variable {prog:Program} {w:World} {A:Around} {E:Value->Shared->Prop} {s:Shared} {K:Frag}
end
end Att
namespace L2
theorem zEP:∀ {vs:List Value} {ns:List Int},IntsAre vs ns->zW (ns.map V.int) vs
 | _,_,.nil=>.nil
 | _,_,.cons n t h=>.cons ⟨t,rfl⟩ (zEP h)
noncomputable def zLi(H:Hp):Prop:=∀ b,H b=none\/(∃ o xs,H b=some (.frz o (.lst xs)))\/∃ ps,H b=some (.tbl ps)
structure TabsAt (K:PySem.W.Frag) (h:Heap) (ts:List Addr) (qn:Addr->Str):Prop where
 obj:∀ P∈ts,h.get? P=some (PySem.W.tabObj #[])
 out:∀ P∈ts,K.lookup P=none
 code:∀ P∈ts,isCodeTable h P
 name:∀ x∈zAm,∀ c b,PySem.W.tabIn K x=some (c,b)->b∈ts/\qn b=x++".<locals>.<lambda>"
noncomputable def ze(s:Stmt):Arguments:=match s with
 | .FunctionDef _ a _ _ _ _ _ _ _ _=>a
 | _=>{ posonlyargs:=[],args:=[],vararg:=none,kwonlyargs:=[],kw_defaults:=[],kwarg:=none,defaults:=[] }
noncomputable def zX(s:Stmt):List Stmt:=match s with
 | .FunctionDef _ _ b _ _ _ _ _ _ _=>b
 | _=>[]
noncomputable def zE(s:Stmt):Scope:=match s with
 | .FunctionDef _ _ _ _ _ _ sc _ _ _=>sc
 | _=>{ kind:=.function,names:=[],isGenerator:=false,isCoroutine:=false }
noncomputable abbrev CX0:CXT:=fun u0 u0 u0 u0 u0 u0=>False
noncomputable abbrev E0:XK:=fun u0 u0 u0=>False
theorem zMo:zGW CX0 X E0:=fun u0 u0 u0 u0 u0 u0 u0 h=>h.elim
structure Fun (K:PySem.W.Frag) (x qual:Str) (st:Stmt) (f:Addr) (fd:FuncData):Prop where
 ex:∃(oc:Value) (od:Option Addr) (kV doc pm:Value) (an:Option Addr) (cdv ct:Value) (osl:Array (Option Value)),
  fd=PySem.W.fnOf x qual (ze st) (zX st) (zE st) .none kV doc pm an cdv ct/\K.lookup f=some ⟨oc,od,.func fd,osl⟩/\PySem.W.codeIn K cdv qual=true
 kp:PySem.W.keepIn K (.ref f)=true
section
variable {P:Program} {w:World} {K:PySem.W.Frag} {mg:Str->Option Value} {base:Heap}
theorem Fun.ok{x qual:Str}{st:Stmt}{f:Addr}{fd:FuncData}{N ps:List Str}{k:Nat}{sp:Sp}(F:Fun K x qual st f fd)(S:za N ps (zE st))(len:∀ vs H Q E,sp vs H Q E->vs.length=ps.length)
  (hbody:∀(cdv:Value) (A:Around) (outer:List Env) (s:Shared) (H:Hp) (vs:List V) (Q:VK) (E:XK),yE k (A.deeper (envOfC qual (zE st) s.heap.objs.size f cdv))->sp vs H Q E ->
   ∃ t,PSs (zBD CX0 P w K mg base N qual (zE st) f cdv A outer s H E).nox (zX st) t/\t { nx:=fun u0 H'=>Q .non H',rt:=Q } (start N vs) H):zB1 P w K mg base CX0 (k+1) f fd ps sp:=by
 obtain⟨oc,od,kV,doc,pm,an,cdv,ct,osl,rfl,lk,hcd⟩:=F.ex;refine zMl lk hcd S len fun A outer s H vs Q E hr hsp=>?_;obtain⟨t,h,q⟩:=hbody cdv A outer s H vs Q E hr hsp;exact⟨t,h.nox,q⟩
theorem Fun.binds{x qual:Str}{st:Stmt}{f:Addr}{fd:FuncData}{ps:List Str}(F:Fun K x qual st f fd)
  (h:∀(kV doc pm:Value) (an:Option Addr) (cdv ct:Value) (us:List Value),us.length=ps.length->bindArgs (PySem.W.fnOf x qual (ze st) (zX st) (zE st) .none kV doc pm an cdv ct) ⟨us,[]⟩=pure (ps.zip us)):Binds K fd ps []:=by
 obtain⟨oc,od,kV,doc,pm,an,cdv,ct,osl,rfl,lk,hcd⟩:=F.ex;exact .all (h kV doc pm an cdv ct)
theorem zt{x qual:Str}{st:Stmt}{f:Addr}{oc:Value}{od an:Option Addr}{osl:Array (Option Value)}{kV doc pm cdv ct:Value}(l:K.lookup f=some ⟨oc,od,.func (PySem.W.fnOf x qual (ze st) (zX st) (zE st) .none kV doc pm an cdv ct),osl⟩)
  (c:PySem.W.codeIn K cdv qual=true) (k:PySem.W.keepIn K (.ref f)=true):Fun K x qual st f (PySem.W.fnOf x qual (ze st) (zX st) (zE st) .none kV doc pm an cdv ct):=⟨⟨oc,od,kV,doc,pm,an,cdv,ct,osl,rfl,l,c⟩,k⟩
end
section
variable {X:Cx}
end
noncomputable def zBq(H H':Hp):Prop:=∀ b o,H b=some o->H' b=some o
theorem zBq.refl(H:Hp):zBq H H:=fun u0 u0 h=>h
theorem zBq.trans(a:zBq H H1)(b:zBq H1 H2):zBq H H2:=fun c o h=>b c o (a c o h)
theorem zBq.free(e:zBq H H')(h:H' l=Option.none):H l=Option.none:=by
 cases q:H l with
 | none=>rfl
 | some o =>
  rw[e l o q] at h;cases h
theorem zBq.seq{K:PySem.W.Frag}{H H':Hp}{a:Addr}{xs:List V}(e:zBq H H')(h:SqL K H a xs):SqL K H' a xs:=by
 rcases h with (h | ⟨o,h⟩) | h
 ·exact .inl (.inl (e _ _ h))
 ·exact .inl (.inr ⟨o,e _ _ h⟩)
 ·exact .inr h
end L2
set_option maxHeartbeats 4000000
namespace K
open PySem PySem.W PyProof.Rows L2
noncomputable def top(i:Nat):Stmt:=PySem.Challenge.pw_chordwebs_k35_turns_to_a_web.main.body.getD i (.Pass ⟨0,0,0,0⟩)
noncomputable def kq:Program:={ PySem.Challenge.pw_chordwebs_k35_turns_to_a_web with main:={ PySem.Challenge.pw_chordwebs_k35_turns_to_a_web.main with body:=[top 1,top 2,top 3,top 4,top 5,top 6,top 8,top 9,top 11,top 12,top 14,top 15,top 16,top 17,top 18,top 20,top 21,top 22,top 23,top 24,top 25,top 26,top 27,top 28,top 29,top 30,top 31,top 32] } }
noncomputable def cO(n:Str)(t u l m g a:Nat)(b:Bool):Obj:=⟨.type "code",none,.fields #[.str n t,.str n (t+1),.str "/claim/cut.py" (t+2),.int l 0,.int m 0,.int 0 0,.int 0 0,.int g 0,.ref a,.bool true,.int 181 0,.ref (a+1),.none,if b then .ref (a+2) else .none,if b then .ref (a+3) else .none,.ref (if b then a+4 else a+2),.int u 0,.int l 0,.str "/claim/cut.py" (u+1)],#[]⟩
noncomputable def fO(n:Str)(i c:Nat)(m:Str)(t:Nat):Obj:=⟨.type "function",none,.func (fnOf n n (ze (top i)) (zX (top i)) (zE (top i)) .none .none .none (.str m t) none (.ref c) .none),#[]⟩
noncomputable def dE(P:Params)(n:Str)(t:Nat)(v:Value):DictEntry:=⟨PyData.keyHash P n,.str n t,v⟩
noncomputable def cC(n:Str)(b m:List Value)(d:Nat)(s:List Value)(r t u:Nat):Obj:=⟨.type "type",none,.cls ⟨n,b,m,d,n,true,[],s,false,none,false⟩,#[some (.ref r),none,some (.str n t),some (.str n u),some (.builtin "ValueError.__new__"),some (.bool true)]⟩
noncomputable def kf(P:Params):Frag:=(nat_lit 3,⟨.type "dict",none,.dict #[dE P "__name__" 165 (.str "law_chordwebs_k35_turns_to_a_web" 366),dE P "__doc__" 166 .none,dE P "__package__" 167 .none,dE P "__loader__" 168 (.builtin "__main__.__loader__#opaque"),dE P "__spec__" 169 .none,dE P "__annotations__" 170 (.ref 6),dE P "__builtins__" 171 (.ref 4),dE P "__file__" 173 (.str "/claim/cut.py" 172),dE P "__cached__" 174 .none,dE P "ChordError" 206 (.ref 24),dE P "TooMany" 222 (.ref 37),dE P "NoTie" 238 (.ref 49),dE P "NoSplit" 254 (.ref 61),dE P "NoName" 270 (.ref 73),dE P "BadNote" 286 (.ref 85),dE P "pairs_of" 298 (.ref 94),dE P "refuse_more" 306 (.ref 101),dE P "tied" 317 (.ref 108),dE P "around" 323 (.ref 113),dE P "MOST_TURNED" 327 (.int 5 326),dE P "web_turned" 336 (.ref 120),dE P "turns_to" 344 (.ref 127),dE P "turn_lists" 353 (.ref 134),dE P "spread" 365 (.ref 141),dE P "_law_cell_at" 375 (.ref 148),dE P "_law_state" 384 (.ref 155),dE P "_law_take" 394 (.ref 162),dE P "_law_pairs" 400 (.ref 167),dE P "_law_web" 406 (.ref 172),dE P "_law_ring" 412 (.ref 177),dE P "_law_web_of" 418 (.ref 182),dE P "_law_same" 424 (.ref 187),dE P "_law_refused" 430 (.ref 192),dE P "_law_turned" 436 (.ref 197),dE P "_law_orbit" 449 (.ref 204),dE P "_law_right" 461 (.ref 211),dE P "law" 467 (.ref 216)] 37,#[]⟩)::(nat_lit 23,⟨.type "dict",none,.dict #[dE P "__module__" 196 (.str "chordwebs.errors" 187),dE P "__firstlineno__" 200 (.int 2 199),dE P "__static_attributes__" 201 (.ref 22),dE P "__weakref__" 203 (.ref 25),dE P "__doc__" 204 .none] 3,#[]⟩)::(nat_lit 24,cC "ChordError" [.type "ValueError"] [.ref 24,.type "ValueError",.type "Exception",.type "BaseException",.type "object"] 23 [.ref 37,.ref 49,.ref 61,.ref 73,.ref 85] 15 189 197)::(nat_lit 36,⟨.type "dict",none,.dict #[dE P "__module__" 214 (.str "chordwebs.errors" 187),dE P "__firstlineno__" 218 (.int 4 217),dE P "__static_attributes__" 219 (.ref 35),dE P "__doc__" 220 .none] 2,#[]⟩)::(nat_lit 37,cC "TooMany" [.ref 24] [.ref 37,.ref 24,.type "ValueError",.type "Exception",.type "BaseException",.type "object"] 36 [] 28 207 215)::(nat_lit 48,⟨.type "dict",none,.dict #[dE P "__module__" 230 (.str "chordwebs.errors" 187),dE P "__firstlineno__" 234 (.int 6 233),dE P "__static_attributes__" 235 (.ref 47),dE P "__doc__" 236 .none] 2,#[]⟩)::(nat_lit 49,cC "NoTie" [.ref 24] [.ref 49,.ref 24,.type "ValueError",.type "Exception",.type "BaseException",.type "object"] 48 [] 40 223 231)::(nat_lit 60,⟨.type "dict",none,.dict #[dE P "__module__" 246 (.str "chordwebs.errors" 187),dE P "__firstlineno__" 250 (.int 8 249),dE P "__static_attributes__" 251 (.ref 59),dE P "__doc__" 252 .none] 2,#[]⟩)::(nat_lit 61,cC "NoSplit" [.ref 24] [.ref 61,.ref 24,.type "ValueError",.type "Exception",.type "BaseException",.type "object"] 60 [] 52 239 247)::(nat_lit 72,⟨.type "dict",none,.dict #[dE P "__module__" 262 (.str "chordwebs.errors" 187),dE P "__firstlineno__" 266 (.int 10 265),dE P "__static_attributes__" 267 (.ref 71),dE P "__doc__" 268 .none] 2,#[]⟩)::(nat_lit 73,cC "NoName" [.ref 24] [.ref 73,.ref 24,.type "ValueError",.type "Exception",.type "BaseException",.type "object"] 72 [] 64 255 263)::(nat_lit 84,⟨.type "dict",none,.dict #[dE P "__module__" 278 (.str "chordwebs.errors" 187),dE P "__firstlineno__" 282 (.int 12 281),dE P "__static_attributes__" 283 (.ref 83),dE P "__doc__" 284 .none] 2,#[]⟩)::(nat_lit 85,cC "BadNote" [.ref 24] [.ref 85,.ref 24,.type "ValueError",.type "Exception",.type "BaseException",.type "object"] 84 [] 76 271 279)::(nat_lit 93,cO "pairs_of" 289 296 15 1 3 88 true)::(nat_lit 94,fO "pairs_of" 8 93 "chordwebs.basics" 287)::(nat_lit 100,cO "refuse_more" 299 304 21 2 3 95 true)::(nat_lit 101,fO "refuse_more" 9 100 "chordwebs.basics" 287)::(nat_lit 107,cO "tied" 309 315 25 3 3 102 true)::(nat_lit 108,fO "tied" 11 107 "chordwebs.webs" 307)::(nat_lit 112,cO "around" 318 321 27 2 3 109 false)::(nat_lit 113,fO "around" 12 112 "chordwebs.webs" 307)::(nat_lit 119,cO "web_turned" 328 334 31 2 3 114 true)::(nat_lit 120,fO "web_turned" 15 119 "chordwebs.turns" 324)::(nat_lit 126,cO "turns_to" 337 342 34 2 3 121 true)::(nat_lit 127,fO "turns_to" 16 126 "chordwebs.turns" 324)::(nat_lit 133,cO "turn_lists" 345 351 39 1 3 128 true)::(nat_lit 134,fO "turn_lists" 17 133 "chordwebs.turns" 324)::(nat_lit 140,cO "spread" 354 363 45 2 3 135 true)::(nat_lit 141,fO "spread" 18 140 "chordwebs.turns" 324)::(nat_lit 147,cO "_law_cell_at" 368 373 55 2 3 142 true)::(nat_lit 148,fO "_law_cell_at" 20 147 "law_chordwebs_k35_turns_to_a_web" 366)::(nat_lit 154,cO "_law_state" 376 382 59 2 3 149 true)::(nat_lit 155,fO "_law_state" 21 154 "law_chordwebs_k35_turns_to_a_web" 366)::(nat_lit 161,cO "_law_take" 385 392 64 2 3 156 true)::(nat_lit 162,fO "_law_take" 22 161 "law_chordwebs_k35_turns_to_a_web" 366)::(nat_lit 166,cO "_law_pairs" 395 398 73 1 3 163 false)::(nat_lit 167,fO "_law_pairs" 23 166 "law_chordwebs_k35_turns_to_a_web" 366)::(nat_lit 171,cO "_law_web" 401 404 78 2 3 168 false)::(nat_lit 172,fO "_law_web" 24 171 "law_chordwebs_k35_turns_to_a_web" 366)::(nat_lit 176,cO "_law_ring" 407 410 88 2 3 173 false)::(nat_lit 177,fO "_law_ring" 25 176 "law_chordwebs_k35_turns_to_a_web" 366)::(nat_lit 181,cO "_law_web_of" 413 416 91 1 3 178 false)::(nat_lit 182,fO "_law_web_of" 26 181 "law_chordwebs_k35_turns_to_a_web" 366)::(nat_lit 186,cO "_law_same" 419 422 99 2 3 183 false)::(nat_lit 187,fO "_law_same" 27 186 "law_chordwebs_k35_turns_to_a_web" 366)::(nat_lit 191,cO "_law_refused" 425 428 107 1 3 188 false)::(nat_lit 192,fO "_law_refused" 28 191 "law_chordwebs_k35_turns_to_a_web" 366)::(nat_lit 196,cO "_law_turned" 431 434 118 2 3 193 false)::(nat_lit 197,fO "_law_turned" 29 196 "law_chordwebs_k35_turns_to_a_web" 366)::(nat_lit 203,cO "_law_orbit" 437 447 126 1 3 198 true)::(nat_lit 204,fO "_law_orbit" 30 203 "law_chordwebs_k35_turns_to_a_web" 366)::(nat_lit 210,cO "_law_right" 450 459 139 3 3 205 true)::(nat_lit 211,fO "_law_right" 31 210 "law_chordwebs_k35_turns_to_a_web" 366)::(nat_lit 215,cO "law" 462 465 151 1 3 212 false)::(nat_lit 216,fO "law" 32 215 "law_chordwebs_k35_turns_to_a_web" 366)::[]
noncomputable def ka:List Addr:=3::23::24::36::37::48::49::60::61::72::73::84::85::93::94::100::101::107::108::112::113::119::120::126::127::133::134::140::141::147::148::154::155::161::162::166::167::171::172::176::177::181::182::186::187::191::192::196::197::203::204::210::211::215::216::[]
theorem ke(P:Params):ka=(kf P).map (·.1):=by kernel_rfl
set_option maxHeartbeats 0 in
theorem hl:LeftO PySem.Challenge.rw_chordwebs_k35_turns_to_a_web.row.prog kq [] (fun s=>xlAt kq [] s&&recOk (RowW.records PySem.Challenge.rw_chordwebs_k35_turns_to_a_web.row.toRowW) s) (Hook.obs (kmHook kf ka ke [213])) (Hook.val (kmHook kf ka ke [213])) 3966:=fun w=>by kernel_rfl
end K
namespace L2
noncomputable def zCf(env:Env):List (Str×NameKind)->List (Str×Addr)->List (Str×Addr)
 | [],cs=>cs
 | (n,k)::r,cs=>zCf env r (if k==.free then match env.cells.lookup n with | some a=>(n,a)::cs | none=>cs else cs)
noncomputable def zAo(sc:Scope)(env:Env):List (Str×Addr):=zCf env sc.names []
theorem zEQ:∀ {ns:List (Str×NameKind)} {cs:List (Str×Addr)} {x:Str} {c:Addr},(∀ y a,cs.lookup y=some a->env.cells.lookup y=some a)->(zCf env ns cs).lookup x=some c->env.cells.lookup x=some c
 | [],_,_,_,h,e=>h _ _ e
 | (n,k)::r,cs,x,c,h,e=>by
  unfold zCf at e;refine zEQ (ns:=r) (fun y a q=>?_) e;by_cases hk:(k==NameKind.free)=true
  ·rw[if_pos hk] at q
   cases hc:env.cells.lookup n with
   | none=>rw[hc] at q;exact h y a q
   | some d =>
    rw[hc] at q;cases hy:y==n with
    | true =>
     simp only[eh,hy] at q;have:y=n:=by simpa using hy
     rw[this,hc];exact q
    | false =>
     simp only[eh,hy] at q;exact h y a q
  ·rw[if_neg hk] at q;exact h y a q
theorem wt(e:(zAo sc env).lookup x=some c):env.cells.lookup x=some c :=
 zEQ (fun u0 u0 q=>by simp at q) e
theorem zB2:∀ {ns:List (Str×NameKind)} {cs:List (Str×Addr)} {x:Str},(∀ y∈ns,y.2=.free->∃ c,env.cells.lookup y.1=some c)->((∃ c,cs.lookup x=some c)\/(x,NameKind.free)∈ns)->∃ c,(zCf env ns cs).lookup x=some c
 | [],cs,x,_,h=>by
  rcases h with h | h
  ·exact h
  ·cases h
 | (n,k)::r,cs,x,hh,h=>by
  unfold zCf;refine zB2 (ns:=r) (fun y hy=>hh y (dC _ hy)) ?_;by_cases hk:k=.free
  ·subst hk
   obtain⟨c,hc⟩:=hh (n,.free) dH rfl;have hc':env.cells.lookup n=some c:=hc;simp only[beq_self_eq_true,if_true,hc'];cases hx:x==n with
   | true=>exact .inl ⟨c,by simp[eh,hx]⟩
   | false =>
    rcases h with ⟨d,h⟩ | h
    ·exact .inl ⟨d,by simp[eh,hx,h]⟩
    ·rcases dN.mp h with e | h
     ·injection e with e1 _
      subst e1;simp at hx
     ·exact .inr h
  ·have hb:(k==NameKind.free)=false:=by simpa using hk
   simp only[hb,cQ,if_false];rcases h with h | h
   ·exact .inl h
   ·rcases dN.mp h with e | h
    ·injection e with _ e2
     exact absurd e2.symm hk
    ·exact .inr h
theorem zFY:∀ {ns:List (Str×NameKind)} {cs:List (Str×Addr)},(∀ y∈ns,y.2=.free->∃ c,env.cells.lookup y.1=some c) ->
  (forIn ns cs fun(x:Str×NameKind) (r:List (Str×Addr))=>if (x.2==NameKind.free)=true then (do let a <-cellOf env x.1;pure (ForInStep.yield ((x.1,a)::r)):Sem _) else pure (ForInStep.yield r))=(pure (zCf env ns cs):Sem _)
 | [],_,_=>rfl
 | (n,k)::r,cs,hh=>by
  rw[List.forIn_cons];have ih:=fun cs'=>zFY (env:=env) (ns:=r) (cs:=cs') fun y hy=>hh y (dC _ hy);by_cases hk:k=.free
  ·subst hk
   obtain⟨c,hc⟩:=hh (n,.free) dH rfl;have hc':env.cells.lookup n=some c:=hc;have e:cellOf env n=pure c:=by unfold cellOf;rw[hc']
   simp only[beq_self_eq_true,if_true,e,pure_bind];rw[ih];have q:zCf env ((n,NameKind.free)::r) cs=zCf env r ((n,c)::cs):=by simp only[zCf,beq_self_eq_true,if_true,hc']
   rw[q]
  ·have hb:(k==NameKind.free)=false:=by simpa using hk
   simp only[hb,cQ,if_false,pure_bind];rw[ih];have q:zCf env ((n,k)::r) cs=zCf env r cs:=by simp only[zCf,hb,cQ,if_false]
   rw[q]
theorem wX(hh:∀ y∈sc.names,y.2=.free->∃ c,env.cells.lookup y.1=some c):closureFor sc env=pure (zAo sc env):=by
 have e:=zFY (env:=env) (ns:=sc.names) (cs:=[]) hh;unfold closureFor;show(forIn sc.names [] (fun(x:Str×NameKind) (r:List (Str×Addr))=>(match x with | (name,kind)=>if (kind==NameKind.free)=true then (do let a <-cellOf env name;pure (ForInStep.yield ((name,a)::r))) else pure (ForInStep.yield r):Sem (ForInStep (List (Str×Addr)))))>>=fun s=>pure s)=_;have hb:(fun(x:Str×NameKind) (r:List (Str×Addr))=>(match x with | (name,kind)=>if (kind==NameKind.free)=true then (do let a <-cellOf env name;pure (ForInStep.yield ((name,a)::r))) else pure (ForInStep.yield r):Sem (ForInStep (List (Str×Addr))))) =
   fun(x:Str×NameKind) (r:List (Str×Addr))=>if (x.2==NameKind.free)=true then (do let a <-cellOf env x.1;pure (ForInStep.yield ((x.1,a)::r)):Sem _) else pure (ForInStep.yield r):=by
  funext x r;obtain⟨n,k⟩:=x;rfl
 rw[hb,e];rfl
noncomputable def Cx.comp(X:Cx)(N':List Str)(sc:Scope)(C:Addr)(s:Shared)(H:Hp)(fp:List Addr)(pins:List (Addr×Obj)):Cx :=
 { X with N:=N',s₀:=s,H₀:=H,env:=compEnvC sc (zAo sc X.env) C X.env,outer:=X.stack,ex:=fp,fn:=fun u0=>false,pn:=X.pn++pins,xe:=fun u0 u0=>False }
noncomputable def PTs(X:Cx)(ifs:List Expr)(t:TT):Prop :=
 ∀(pins:List (Addr×Obj)) (s:Shared) (σ:St) (H:Hp) (Q:Bool->Hp->Prop),zP X pins σ H s->t σ H Q ->
  wpAny (model X.prog X.w) X.A (forIn ifs true fun c r=>if r=true then do let ok <-isTrue c X.env (eval c X.env);pure (ForInStep.yield ok) else pure (ForInStep.yield r)) (TP X pins σ Q) X.xe s
noncomputable def zP3:TT:=fun u0 H Q=>Q true H
theorem zLj:PTs X [] zP3:=fun u0 u0 u0 H u0 I h=>wpAny_tests_nil ⟨H,I,h⟩
theorem zLk(h:PT X c t):PTs X [c] t:=fun pins s σ H Q I hq=>wpAny_tests_one (h pins s σ H Q I hq)
noncomputable def zJe(n0:Nat)(wi:TI)(g:TG)(tc:TT)(te:TE):TE:=fun σ H Q=>wi σ H fun J H1=>∀ D,H1 D=none->∃ W:Nat->Nat->Hp->Prop,(∃ m,W 0 m (yT H1 D (.lst []))) /\
 ∀ i m H2,W i m H2->(J.stop i H2/\Q (.ref D) H2) \/
  (J.go i H2/\∀ x H3,J.yld i H2 x H3->g x (σ++dF n0 none) H3 fun σ4 H4=>σ4.take σ.length=σ/\σ4.length=σ.length+n0/\tc σ4 H4 fun b H5 =>
   if b=true then te σ4 H5 fun v H6=>∃ acc,H6 D=some (.lst acc)/\acc.length<sizeLine/\∃ m',m'<m/\W (i+1) m' (yT H6 D (.lst (acc++[v]))) else ∃ m',m'<m/\W (i+1) m' H5)
theorem PE.mono(h:PE X e t)(hm:∀ σ H Q,t' σ H Q->t σ H Q):PE X e t':=fun pins s σ H Q I q=>h pins s σ H Q I (hm σ H Q q)
theorem PT.mono(h:PT X e t)(hm:∀ σ H Q,t' σ H Q->t σ H Q):PT X e t':=fun pins s σ H Q I q=>h pins s σ H Q I (hm σ H Q q)
theorem PS.mono(h:PS X e t)(hm:∀ D σ H,t' D σ H->t D σ H):PS X e t':=fun pins s σ H D I q=>h pins s σ H D I (hm D σ H q)
section
variable {X:Cx} {tg elt iter:Expr} {ifs:List Expr} {sc:Scope} {pos:Pos} {N0 own:List Str} {wi:TI} {g:TG} {tc:TT} {te:TE}
structure zBr (X:Cx) (sc:Scope) (N0:List Str):Prop where
 kind:sc.kind=.function
 cell:∀ y∈sc.names,y.2≠.cell
 names:∀ y∈sc.names,y.2=.local->sc.names.lookup y.1=some .local
 cap:∀ y∈sc.names,y.2=.free->X.env.kindOf y.1=some .cell\/X.env.kindOf y.1=some .free
 len:N0.length=X.N.length
 vis:∀(i:Nat) (x:Str),N0[i]?=some x->Vis (relabel sc X.env) x->X.N[i]?=some x/\sc.names.lookup x=some .free
theorem zAO{env:Env}:∀ {names:List (Str×NameKind)} {x:Str},(∀ y∈names,y.2≠.cell) ->
    ((names.map fun(n,k)=>if (k==NameKind.free&&env.scope.kind==.function&&env.kindOf n==some .cell) then (n,NameKind.cell) else (n,k)).lookup x=some .cell \/
     (names.map fun(n,k)=>if (k==NameKind.free&&env.scope.kind==.function&&env.kindOf n==some .cell) then (n,NameKind.cell) else (n,k)).lookup x=some .free)->names.lookup x=some .free
  | [],_,_,h=>by rcases h with h | h<;>simp at h
  | (n,k)::r,x,hc,h=>by
    have ih:=@zAO env r x fun y hy=>hc y (dC _ hy);have hk:k≠.cell:=hc (n,k) dH;have hd:∀(z:NameKind),(((n,k)::r).map fun(n,k)=>if (k==NameKind.free&&env.scope.kind==.function&&env.kindOf n==some .cell) then (n,NameKind.cell) else (n,k)).lookup x=some z ->
        if (x==n)=true then (if (k==NameKind.free&&env.scope.kind==.function&&env.kindOf n==some .cell)=true then z=.cell else z=k) else (r.map fun(n,k)=>if (k==NameKind.free&&env.scope.kind==.function&&env.kindOf n==some .cell) then (n,NameKind.cell) else (n,k)).lookup x=some z:=by
      intro z e;have e':List.lookup x ((if (k==NameKind.free&&env.scope.kind==.function&&env.kindOf n==some .cell)=true then (n,NameKind.cell) else (n,k))::(r.map fun(n,k)=>if (k==NameKind.free&&env.scope.kind==.function&&env.kindOf n==some .cell) then (n,NameKind.cell) else (n,k)))=some z:=e;cases hx:x==n with
      | true =>
        rw[if_pos rfl];by_cases hq:(k==NameKind.free&&env.scope.kind==.function&&env.kindOf n==some .cell)=true
        · rw[if_pos hq] at e' ⊢
          simp only[eh,hx] at e';exact(Option.some.inj e').symm
        · rw[if_neg hq] at e' ⊢
          simp only[eh,hx] at e';exact(Option.some.inj e').symm
      | false =>
        rw[if_neg (by simp)];by_cases hq:(k==NameKind.free&&env.scope.kind==.function&&env.kindOf n==some .cell)=true
        · rw[if_pos hq] at e';simpa only[eh,hx] using e'
        · rw[if_neg hq] at e';simpa only[eh,hx] using e'
    cases hx:x==n with
    | true =>
      simp only[eh,hx];rcases h with h | h
      · have q:=hd _ h
        rw[if_pos hx] at q;by_cases hq:(k==NameKind.free&&env.scope.kind==.function&&env.kindOf n==some .cell)=true
        · have:(k==NameKind.free)=true:=by
            cases hk':k==NameKind.free with
            | true=>rfl
            | false=>simp[hk'] at hq
          have:k=.free:=by simpa using this
          rw[this]
        · rw[if_neg hq] at q;exact absurd q.symm hk
      · have q:=hd _ h
        rw[if_pos hx] at q;by_cases hq:(k==NameKind.free&&env.scope.kind==.function&&env.kindOf n==some .cell)=true
        · rw[if_pos hq] at q;cases q
        · rw[if_neg hq] at q;rw[<-q]
    | false =>
      simp only[eh,hx];refine ih ?_;rcases h with h | h
      · have q:=hd _ h
        rw[if_neg (by simp[hx])] at q;exact .inl q
      · have q:=hd _ h
        rw[if_neg (by simp[hx])] at q;exact .inr q
theorem zIK{X':Cx}{σ:St}{it D:Addr}{fp:List Addr}{tn:Nat->Heap->Prop}{J:It}{Q:VK}{W:Nat->Nat->Hp->Prop}{Z:Hp->Shared->Prop}{H0:Hp}{s₅:Shared}{m0:Nat}(hc:X'.calm=true)(hx:∀ v s,X'.xe v s->False)(Tn:Turn X'.prog X'.w X'.K tg J fp it tn)
  (hg:PG X' tg g) (ht:PTs X' ifs tc) (he:PE X' elt te)
  (turn:∀ i m H2,W i m H2->(J.stop i H2/\Q (.ref D) H2) \/
    (J.go i H2/\∀ x H3,J.yld i H2 x H3->g x (σ++dF own.length none) H3 fun σ4 H4=>σ4.take σ.length=σ/\σ4.length=σ.length+own.length/\tc σ4 H4 fun b H5 =>
     if b=true then te σ4 H5 fun v H6=>∃ acc,H6 D=some (.lst acc)/\acc.length<sizeLine/\∃ m',m'<m/\W (i+1) m' (yT H6 D (.lst (acc++[v]))) else ∃ m',m'<m/\W (i+1) m' H5))
  (fpX:∀ {H:Hp},(∀ b∈fp,H b=none)->∀ b∈fp,zBf X' [] H b) (back:∀ {σ':St} {H':Hp} {s':Shared},zP X' [] σ' H' s'->Z H' s')
  (I4:zP X' [] (σ++dF own.length none) H0 s₅) (st4:tn 0 s₅.heap) (fpD:∀ b∈fp,H0 b=none) (w0:W 0 m0 H0) :
  codeAny (model X'.prog X'.w) X'.A (.compLoop (.ListComp elt [⟨tg,iter,ifs,0⟩] sc pos) 0 (.ref it) (.ref D) X'.env) (fun r s'=>∃ H',r=.ok .next/\Z H' s'/\Q (.ref D) H') s₅:=by
  refine codeAny_loop rfl (fun n s'=>∃ i H',zP X' [] (σ++dF own.length none) H' s'/\tn i s'.heap/\(∀ b∈fp,H' b=none)/\W i n H') (fun n s6=>?_) m0 ⟨0,_,I4,st4,fpD,w0⟩;rintro⟨i,H6,I6,st6,fr6,w6⟩;show wpAny _ X'.A ((compTurn (.ListComp elt [⟨tg,iter,ifs,0⟩] sc pos) 0 (.ref it) (.ref D) X'.env).onRaise (fun x=>do noteFrame x X'.env;theTreesLotGoes x)) _ _ s6;refine wpAny_noted ?_;rw[compTurn_list];have nox:∀ {α:Type} {t:Sem α} {Q:α->Shared->Prop} {E':Value->Shared->Prop} {s:Shared},wpAny (model X'.prog X'.w) X'.A t Q X'.xe s->wpAny (model X'.prog X'.w) X'.A t Q E' s:=fun h=>ft h (fun u0 u0 q=>q) fun v s z=>(hx v s z).elim;refine cN (wpAny_standAt (cN ?_));rcases turn i n H6 w6 with ⟨stop,qn⟩ | ⟨go,step⟩
  ·refine nox (yq (Tn.done X' rfl rfl rfl hc i [] s6 _ H6 _ I6 (fpX fr6) st6 stop) fun r s7 u9=>?_);obtain⟨hr,I7⟩:=u9
   subst hr;exact cS ⟨H6,rfl,back I7,qn⟩
  ·refine nox (yq (Tn.item X' rfl rfl rfl hc i [] s6 _ H6 _ I6 (fpX fr6) st6 go) fun r s7 u9=>?_);obtain⟨u,hr,h7⟩:=u9
   subst hr;refine cN (nox (yq h7 fun _ s8 u9=>?_));obtain⟨x,H8,I8,r8,y8,st8,fr8⟩:=u9;have I8':=I8.pinned (fpX fr8) (Tn.obj _ _ st8);refine cN (nox (yq (hg _ s8 _ H8 x u _ I8' r8 (step x H8 y8)) fun _ s9 u9=>?_));obtain⟨σ9,H9,I9,q1,q2,q9⟩:=u9;have again:∀ {s':Shared} {H':Hp},zP X' ([]++zDL fp s8.heap) σ9 H' s'->(∃ m',m'<n/\W (i+1) m' H')->∃ m,m<n/\∃ i H',zP X' [] (σ++dF own.length none) H' s'/\tn i s'.heap/\(∀ b∈fp,H' b=none)/\W i m H':=by
    intro s' H' J ⟨m',hm,w'⟩;refine⟨m',hm,i+1,H',?_,Tn.keep _ _ _ st8 fun b hb o e=>(J.pin (b,o) (dU _ (dU _ (zAn hb e)))).1,fun b hb=>?_,w'⟩
    ·refine(J.unpinned).weak ?_ fun j v e=>?_
     ·rw[q2,dO,List.length_replicate]
     ·have hj:j<σ.length:=by
       by_cases hj:j<σ.length
       ·exact hj
       ·rw[em (by omega),gD] at e
        split at e<;>cases e
      rw[eC hj] at e;rw[<-q1,List.getElem?_take_of_lt hj] at e;exact e
    ·obtain⟨o,e,d⟩:=Tn.obj _ _ st8 b hb
     exact(J.pin (b,o) (dU _ (dU _ (zAn hb e)))).2.1
   refine cN (nox (yq (ht _ s9 σ9 H9 _ I9 q9) fun ok s10 u9=>?_));obtain⟨H10,I10,q10⟩:=u9;cases ok with
   | false=>exact cS ⟨rfl,again I10 q10⟩
   | true =>
    refine cN (cN (nox (yq (he _ s10 σ9 H10 _ I10 q10) fun uv s11 u9=>?_)));obtain⟨v,H11,I11,r11,acc,hD11,hz,q11⟩:=u9;refine cN (nox (yq (zEO _ s11 σ9 H11 (.ref D) [v] (.ref D) [uv] (fun u0 H12=>H12=yT H11 D (.lst (acc++[v]))) I11 rfl (.cons r11 .nil) ⟨_,acc,v,rfl,rfl,hD11,hz,rfl⟩) fun _ s12 u9=>?_));obtain⟨_,H12,I12,_,q12⟩:=u9;subst q12;exact cS (cS ⟨rfl,again I12 q11⟩)
theorem zDO{pins:List (Addr×Obj)}{σ:St}{s₂:Shared}{itv:Value}{Q:VK}{E:Value->Shared->Prop}(hc:X.calm=true)(T:zBr X sc N0)
  (hg:∀ C s H fp pins,PG (X.comp (N0++own) sc C s H fp pins) tg g) (ht:∀ C s H fp pins,PTs (X.comp (N0++own) sc C s H fp pins) ifs tc) (he:∀ C s H fp pins,PE (X.comp (N0++own) sc C s H fp pins) elt te)
  (h:PIE X pins σ tg (fun J H1=>∀ D,H1 D=none->∃ W:Nat->Nat->Hp->Prop,(∃ m,W 0 m (yT H1 D (.lst []))) /\
   ∀ i m H2,W i m H2->(J.stop i H2/\Q (.ref D) H2) \/
    (J.go i H2/\∀ x H3,J.yld i H2 x H3->g x (σ++dF own.length none) H3 fun σ4 H4=>σ4.take σ.length=σ/\σ4.length=σ.length+own.length/\tc σ4 H4 fun b H5 =>
     if b=true then te σ4 H5 fun v H6=>∃ acc,H6 D=some (.lst acc)/\acc.length<sizeLine/\∃ m',m'<m/\W (i+1) m' (yT H6 D (.lst (acc++[v]))) else ∃ m',m'<m/\W (i+1) m' H5)) itv s₂) :
  wpAny (model X.prog X.w) X.A (newList []) (fun acc s₃=>wpAny (model X.prog X.w) X.A (newFunctionEnv sc X.env.globals (zAo sc X.env) [] X.env.qual none .none (some X.env)) (fun cenv s₄ =>
   codeAny (model X.prog X.w) X.A (.compStart (.ListComp elt [⟨tg,iter,ifs,0⟩] sc pos) 0 itv acc { cenv with scope:=relabel sc X.env })
    (fun r s'=>∃ D H' m,r=.ok .next/\acc=.ref D/\zP X pins σ H' s'/\zBf X pins H' cenv.locals/\s'.heap.Ns cenv.locals m/\Q (.ref D) H') s₄) E s₃) E s₂:=by
 obtain⟨it,fp,tn,J,H1,rfl,I2,Tn,st2,f2,hR⟩:=h;refine eR (wpAny_newFunctionEnv T.cell (by intro y hy;simp at hy) (fun h₁ hns₁ hsb₁=>?_) T.kind);dsimp only at hns₁ hsb₁ ⊢;generalize hH2:s₂.heap.push { cls:=.type "list",dict:=none,data:=.seq ([]:List Value).toArray }=h3 at hns₁ hsb₁ ⊢;have hC:h3.objs.size=s₂.heap.objs.size+1:=by rw[<-hH2,eE]
 -- the list
 have I3:zP X pins σ (yT H1 s₂.heap.objs.size (.lst [])) { s₂ with heap:=h3 }:=by
  rw[<-hH2];exact I2.laid (t':=s₂.toks) (fun b u e=>cP _ e) (da _) ⟨by simp,[],0,.nil,d9 _ rfl⟩
 have fD:H1 s₂.heap.objs.size=none:=I2.hok.fresh (da _);obtain⟨W,⟨m0,w0⟩,turn⟩:=hR _ fD;have kp:∀ b o,h3.get? b=some o->h₁.get? b=some o:=fun b o e=>hsb₁.extBut b o (dP (d7 e)) (cP _ e);have fp2:∀ b∈fp,b<s₂.heap.objs.size:=fun b hb=>by
  obtain⟨o,e,u0⟩:=Tn.obj _ _ st2 b hb;exact d7 e
 -- the block's context
 have CK:∀ x c,(zAo sc X.env).lookup x=some c->X.env.cells.lookup x=some c:=fun x c e=>wt e;have nofs:∀ {b:Addr},h3.objs.size<=b->b∉wf X.stack:=fun {b} hb z=>by
  rcases dN.mp (I3.stkSub b z) with e | z
  ·exact absurd (dM I3.lt (show h3.objs.size<=X.env.locals by rw[<-e];exact hb)) (fb _)
  ·exact I3.nofs (a:=b) hb z
 have fpS:∀ b∈fp,b∉wf X.stack:=fun b hb z=>by
  rcases dN.mp (I3.stkSub b z) with e | z
  ·exact(f2 b hb).2.1 e
  ·exact(f2 b hb).2.2.1 z
 have fpD:∀ b∈fp,yT H1 s₂.heap.objs.size (.lst []) b=none:=fun b hb=>by rw[zc (dP (fp2 b hb))];exact(f2 b hb).1
 have pinS:∀ p∈X.pn++pins,p.1∉wf X.stack:=fun p hp z=>by
  obtain⟨u0,u0,n1,n2,u0⟩:=I3.pin p hp;rcases dN.mp (I3.stkSub p.1 z) with e | z
  ·exact n1 e
  ·exact n2 z
 let X':=X.comp (N0++own) sc h3.objs.size { s₂ with heap:=h3 } (yT H1 s₂.heap.objs.size (.lst [])) fp pins;have cells':∀ x,(X'.env.kindOf x=some .cell\/X'.env.kindOf x=some .free)->sc.names.lookup x=some .free:=fun x hx=>zAO T.cell hx;have hfree:∀ y∈sc.names,y.2=.free->∃ c,X.env.cells.lookup y.1=some c:=fun y hy hf=>I2.ok.has _ (T.cap y hy hf);have ok':X'.Ok:=by
  refine⟨I3.ok.mod,?_,I3.ok.glob,I3.ok.blt,da _,fun x y c e1 e2=>I3.ok.inj x y c (CK _ _ e1) (CK _ _ e2),fun x hx=>?_,fun x c z=>(by cases z),I3.ok.hd,I3.ok.frames,.inl rfl,fun b hb=>⟨?_,fun x c e=>?_⟩,I3.bs,eN I3.ok.bsz I3.sz,fun b o e hb=>?_,fpS,I3.stack,I3.stkFree,I3.tabs⟩
  ·exact T.kind
  ·have hx':=cells' x hx
   exact zB2 hfree (.inr (PySem.mem_of_lookup hx'))
  ·exact dP (dM (fp2 b hb) (by show s₂.heap.objs.size<=h3.objs.size;rw[hC];exact Nat.le_succ _))
  ·exact(f2 b hb).2.2.2.2.1 x c (CK x c e)
  ·have:=(I3.bs b o e).1
   rcases(f2 b hb).2.2.2.1 with z | z
   ·exact I3.ok.noex b o e z
   ·have:=dM (d7 e) I3.ok.bsz
    exact absurd (dM this z) (fb _)
 have hlook:∀(i:Nat) (x:Str) (v:V),(N0++own)[i]?=some x->(σ++dF own.length none)[i]?=some (some v)->Vis (relabel sc X.env) x->∃ c u,RelV v u/\X'.env.cells.lookup x=some c/\(X'.env.kindOf x=some .cell\/X'.env.kindOf x=some .free)/\h3.IsCell c (some u):=by
  intro i x v e1 e2 e3;have hi:i<σ.length:=by
   by_cases hi:i<σ.length
   ·exact hi
   ·rw[em (by omega),gD] at e2
    split at e2<;>cases e2
  have e2':σ[i]?=some (some v):=by rw[eC hi] at e2;exact e2
  have hi0:i<N0.length:=by rw[T.len,<-I3.len];exact hi
  have e1':N0[i]?=some x:=by rw[eC hi0] at e1;exact e1
  obtain⟨n1,n2⟩:=T.vis i x e1' e3;have cp:=T.cap _ (PySem.mem_of_lookup n2) rfl;obtain⟨m,hn,hl⟩:=I3.loc;have vis:Vis X.env.scope x:=by
   rcases cp with z | z
   ·exact .inr (.inl z)
   ·exact .inr (.inr z)
  obtain⟨u,r,l⟩:=hl i x v n1 e2' vis;obtain⟨c',hc'⟩:=zB2 (env:=X.env) (ns:=sc.names) (cs:=[]) (x:=x) hfree (.inr (PySem.mem_of_lookup n2));have hc2:(zAo sc X.env).lookup x=some c':=hc';rcases l with ⟨z,u0⟩ | ⟨u0,c,e,q⟩
  ·rcases cp with z' | z'<;>(rw[z] at z';cases z')
  ·have:c=c':=by
    have:=CK _ _ hc2;rw[e] at this;exact Option.some.inj this
   subst this;refine⟨c,u,r,hc2,?_,q⟩;rcases e3 with z | z | z
   ·exfalso
    have:=lookup_relabel_local (env:=X.env) (names:=sc.names) (x:=x)
    -- a free name is not relabelled local
    have nl:∀ {names:List (Str×NameKind)},names.lookup x=some .free->(names.map fun(n,k)=>if (k==NameKind.free&&X.env.scope.kind==.function&&X.env.kindOf n==some .cell) then (n,NameKind.cell) else (n,k)).lookup x≠some .local:=by
     intro names
     induction names with
     | nil=>intro h;simp at h
     | cons p r ih =>
      obtain⟨n,k⟩:=p;intro h;show List.lookup x ((if (k==NameKind.free&&X.env.scope.kind==.function&&X.env.kindOf n==some .cell)=true then (n,NameKind.cell) else (n,k))::_)≠_;cases hx:x==n with
      | true =>
       simp only[eh,hx] at h;cases h;by_cases hq:(NameKind.free==NameKind.free&&X.env.scope.kind==.function&&X.env.kindOf n==some .cell)=true
       ·rw[if_pos hq];simp[eh,hx]
       ·rw[if_neg hq];simp[eh,hx]
      | false =>
       simp only[eh,hx] at h;by_cases hq:(k==NameKind.free&&X.env.scope.kind==.function&&X.env.kindOf n==some .cell)=true
       ·rw[if_pos hq];simp only[eh,hx];exact ih h
       ·rw[if_neg hq];simp only[eh,hx];exact ih h
    exact nl n2 z
   ·exact .inl z
   ·exact .inr z
 have σl:(σ++dF own.length none).length=(N0++own).length:=by
  rw[dO,dO,List.length_replicate,T.len,<-I3.len]
 have I4:zP X' [] (σ++dF own.length none) (yT H1 s₂.heap.objs.size (.lst [])) { s₂ with heap:=h₁,toks:=s₂.toks+([]:List (Str×Value)).length }:=by
  refine⟨ok',rfl,I3.bare,Un.kept kp,⟨_,hns₁,fun i x v e1 e2 e3=>?_⟩,fun x c e=>?_,I3.hok.fresh (da _),fun x c e=>I3.freeC x c (CK x c e),fun p hp=>?_,I3.hok.kept kp,σl⟩
  ·obtain⟨c,u,r,q1,q2,q3⟩:=hlook i x v e1 e2 e3
   obtain⟨o,ho,hd⟩:=q3;exact⟨u,r,.inr ⟨q2,c,q1,o,kp c o ho,hd⟩⟩
  ·obtain⟨v,o,ho,hd⟩:=I3.cell x c (CK x c e)
   exact⟨v,o,kp c o ho,hd⟩
  ·have hp':p∈X.pn++pins:=by
    have:p∈(X.pn++pins)++[]:=hp;simpa using this
   obtain⟨e,n,ne,nf,d⟩:=I3.pin p hp';exact⟨kp _ _ e,n,dP (d7 e),pinS p hp',d⟩
 have fpX:∀ {H:Hp},(∀ b∈fp,H b=none)->∀ b∈fp,zBf X' [] H b:=fun {H} hn b hb=>by
  refine⟨hn b hb,(ok'.exf b hb).1,fpS b hb,.inl hb,(ok'.exf b hb).2,fun p hp=>?_⟩;have hp':p∈X.pn++pins:=by
   have:p∈(X.pn++pins)++[]:=hp;simpa using this
  exact(f2 b hb).2.2.2.2.2 p hp'
 have st4:tn 0 h₁:=Tn.keep 0 s₂.heap h₁ st2 fun b hb o e=>kp b o (hH2▸cP _ e)
 -- back to the context around
 have back:∀ {σ':St} {H':Hp} {s':Shared},zP X' [] σ' H' s'->zP X pins σ H' s'/\zBf X pins H' h3.objs.size/\∃ m,s'.heap.Ns h3.objs.size m:=fun {σ' H' s'} J=>by
  have u:Un (wf X.stack) fp (yT H1 s₂.heap.objs.size (.lst [])) H' h3 s'.heap:=J.base;have J3:zP X pins σ H' s':=I3.call' J.os u J.hok J.bare fun b hb=>⟨(f2 b hb).2.2.2.1,(f2 b hb).2.1,(f2 b hb).2.2.2.2.1,(f2 b hb).2.2.2.2.2⟩
  obtain⟨m,hn,u0⟩:=J.loc;refine⟨J3,?_,m,hn⟩;refine⟨J.free,gB I3.lt,I3.nofs (da _),.inr I3.sz,fun x c e z=>?_,fun p hp z=>?_⟩
  ·obtain⟨v,q⟩:=I3.cell x c e
   exact absurd (dM q.lt (by rw[z];exact da _)) (fb _)
  ·exact absurd (dM (d7 (I3.pin p hp).1) (by rw[z];exact da _)) (fb _)
 have loop:∀ s₅:Shared,s₅={ s₂ with heap:=h₁,toks:=s₂.toks+([]:List (Str×Value)).length } ->
   codeAny (model X.prog X.w) X.A (.compLoop (.ListComp elt [⟨tg,iter,ifs,0⟩] sc pos) 0 (.ref it) (.ref s₂.heap.objs.size) X'.env)
    (fun r s'=>∃ D H' m,r=.ok .next/\Value.ref s₂.heap.objs.size=.ref D/\zP X pins σ H' s'/\zBf X pins H' h3.objs.size/\s'.heap.Ns h3.objs.size m/\Q (.ref D) H') s₅:=by
  rintro s₅ rfl;exact fu (zIK (X':=X') (Z:=fun H' s'=>zP X pins σ H' s'/\zBf X pins H' h3.objs.size/\∃ m,s'.heap.Ns h3.objs.size m) hc (fun u0 u0 z=>z) Tn (hg _ _ _ _ _) (ht _ _ _ _ _) (he _ _ _ _ _) turn fpX back I4 st4 fpD w0) fun r s' ⟨H',e,⟨b1,b2,m,b3⟩,q⟩=>⟨_,H',m,e,rfl,b1,b2,b3,q⟩
 exact codeAny_compStart_list (loop _ rfl) (Tn.self _ 0 _ _ _ st4 (loop _ rfl))
theorem zHL(hc:X.calm=true)(T:zBr X sc N0)(hi:PI X tg iter wi)
  (hg:∀ C s H fp pins,PG (X.comp (N0++own) sc C s H fp pins) tg g) (ht:∀ C s H fp pins,PTs (X.comp (N0++own) sc C s H fp pins) ifs tc) (he:∀ C s H fp pins,PE (X.comp (N0++own) sc C s H fp pins) elt te)
  (hs:autoParam (∀ x,foldedSetIterable iter X.env x=pure x) Zq3._auto_1):PE X (.ListComp elt [⟨tg,iter,ifs,0⟩] sc pos) (zJe own.length wi g tc te):=by
 intro pins s σ H Q I h;rw[eval_ListComp];refine wpAny_comprehension_free (use:=none) rfl hs (wX fun y hy hf=>I.ok.has _ (T.cap y hy hf)) T.kind T.names ?_;refine yq (hi pins s σ H _ I h) fun xv s₁ h₁=>yq h₁ fun it s₂ h₂=>?_;refine yq (zDO (iter:=iter) (pos:=pos) (E:=X.xe) (Q:=Q) hc T hg ht he h₂) fun acc s₃ h₃=>yq h₃ fun cenv s₄ h₄=>fu h₄ fun r s' hr=>?_;obtain⟨D,H',m,rfl,rfl,J,f,hn,q⟩:=hr;refine⟨m,hn,fun h' hs'=>⟨.ref D,H',?_,rfl,q⟩⟩;exact J.turned (t':=s'.toks) (fun b o hb e=>(hs'.2 b hb).trans e) f.1 f.2.1 f.2.2.2.1 f.2.2.2.2.1 f.2.2.2.2.2
theorem zDP(hc:X.calm=true)(T:zBr X sc N0)(hi:PI X tg iter wi)
  (hg:∀ C s H fp pins,PG (X.comp (N0++own) sc C s H fp pins) tg g) (ht:∀ C s H fp pins,PTs (X.comp (N0++own) sc C s H fp pins) ifs tc) (he:∀ C s H fp pins,PE (X.comp (N0++own) sc C s H fp pins) elt te)
  (hN:X.N.Nodup) (hy:X.N[i]?=some y) (hl:X.env.scope.names.lookup y=some .local)
  (hsw:swapsWith (.ListComp elt [⟨tg,iter,ifs,0⟩] sc pos) (some (.Name y py)) spos.line X.env=pure true)
  (hs:autoParam (∀ x,foldedSetIterable iter X.env x=pure x) Zq3._auto_1):PS X (.Assign [.Name y py] (.ListComp elt [⟨tg,iter,ifs,0⟩] sc pos) spos) (fun D σ H=>zJe own.length wi g tc te σ H fun v H1=>D.nx (σ.set i (some v)) H1):=by
 intro pins s σ H D I h;rw[exec_Assign_Name_used _ _ _ _ hsw];refine cN (wpAny_standAt (cN ?_));show wpAny _ X.A (do let _ <-comprehension (.ListComp elt [⟨tg,iter,ifs,0⟩] sc pos) sc X.env _ (newList []) false (eval iter X.env) (some (assign (.Name y py) X.env))) _ _ s;refine cN (ft (wpAny_comprehension_free (use:=some (assign (.Name y py) X.env)) (Q:=fun u0 s'=>SP X pins D .next s') rfl hs (wX fun y hy hf=>I.ok.has _ (T.cap y hy hf)) T.kind T.names
  (yq (hi pins s σ H _ I h) fun xv s₁ h₁=>yq h₁ fun it s₂ h₂=>?_)) (fun u0 s' hq=>cS (cS hq)) fun u0 u0 e=>e)
 refine yq (zDO (iter:=iter) (pos:=pos) (E:=X.xe) (Q:=fun v H1=>D.nx (σ.set i (some v)) H1) hc T hg ht he h₂) fun acc s₃ h₃=>yq h₃ fun cenv s₄ h₄=>fu h₄ fun r s' hr=>?_;obtain⟨A,H',m,rfl,rfl,J,f,hn,q⟩:=hr;show wpAny _ X.A (assign (.Name y py) X.env (.ref A)) _ _ _;refine wpAny_assign_Name (zEI J hN hy (.inl hl) (v:=.ref A) rfl (fun s'' J' ⟨a,sb,ha⟩=>?_) (.inr hl));have hCa:cenv.locals≠a:=by
  rcases ha with z | z
  ·rw[z];exact f.2.1
  ·exact fun e=>f.2.2.2.2.1 y a z e.symm
 refine⟨m,hn.sameBut sb hCa,fun h' hs'=>⟨_,H',?_,q⟩⟩;exact J'.turned (t':=s''.toks) (fun b o hb e=>(hs'.2 b hb).trans e) f.1 f.2.1 f.2.2.2.1 f.2.2.2.2.1 f.2.2.2.2.2
end
end L2
namespace HW
open PySem
structure EK (prog:Program) (w:World) (κ:Type) [DecidableEq κ] where
 is:Heap->κ->Value->Prop
 hash:κ->Int
 draws:κ->Nat
 lv:Nat
 inj:∀ {h:Heap} {x y:κ} {v:Value},is h x v->is h y v->x=y
 keeps:∀ {h h':Heap} {x:κ} {v:Value} {d:Addr} {o:Obj} {es ep},is h x v->h.get? d=some o->o.data=.dict es ep->dW d h h'->is h' x v
 mono:∀ {h h':Heap} {x:κ} {v:Value},is h x v->(∀ c o,h.get? c=some o->o.cls=.type "tuple"->h'.get? c=some o)->is h' x v
 hs:∀ {A:Around} {E:Value->Shared->Prop} {s:Shared} {x:κ} {v:Value} {Q:Int->Shared->Prop},A.units+lv<cLine->is s.heap x v->Q (hash x) { s with toks:=s.toks+draws x }->wpAny (model prog w) A (PySem.pyHash v) Q E s
 eq:∀ {A:Around} {E:Value->Shared->Prop} {s:Shared} {x y:κ} {u v:Value} {Q:Bool->Shared->Prop},A.units+lv<cLine->is s.heap x u->is s.heap y v->Q (decide (x=y)) s->wpAny (model prog w) A (PySem.eqBool u v) Q E s
 qt:∀ {A:Around} {E:Value->Shared->Prop} {s:Shared} {x:κ} {v:Value} {n:Nat} {Q:Bool->Shared->Prop},lv<=n->is s.heap x v->Q true s->wpAny (model prog w) A (eqIsQuiet n v) Q E s
section
variable {prog:Program} {w:World} {κ:Type} [DecidableEq κ]
noncomputable def zP4(k:PySem.KeyKind prog w κ):EK prog w κ where
 is:=fun u0 x v=>k.is x v=true
 hash:=k.hash
 draws:=fun u0=>1
 lv:=0
 inj:=fun a b=>k.inj _ _ _ a b
 keeps:=fun a u0 u0 u0=>a
 mono:=fun a u0=>a
 hs:=fun u0 a q=>k.pyHash a q
 eq:=fun u0 a b q=>k.eqBool a b q
 qt:=fun u0 a q=>by rw[eqIsQuiet_byValue _ (k.byValue _ _ a)];exact cS q
noncomputable def zO5[DecidableEq κ'](a:EK prog w κ)(b:EK prog w κ')(ap:∀ {h x y v},a.is h x v->b.is h y v->False)
  (ne:∀ {A:Around} {E:Value->Shared->Prop} {s:Shared} {x:κ} {y:κ'} {u v:Value} {Q:Bool->Shared->Prop},A.units+(a.lv+b.lv)<cLine->a.is s.heap x u->b.is s.heap y v->Q false s->wpAny (model prog w) A (PySem.eqBool u v) Q E s/\wpAny (model prog w) A (PySem.eqBool v u) Q E s):EK prog w (κ ⊕ κ') where
 is:=fun h x v=>match x with | .inl x=>a.is h x v | .inr x=>b.is h x v
 hash:=fun x=>match x with | .inl x=>a.hash x | .inr x=>b.hash x
 draws:=fun x=>match x with | .inl x=>a.draws x | .inr x=>b.draws x
 lv:=a.lv+b.lv
 inj:=fun {h x y v} p q=>by
  cases x<;>cases y
  ·exact congrArg _ (a.inj p q)
  ·exact(ap p q).elim
  ·exact(ap q p).elim
  ·exact congrArg _ (b.inj p q)
 keeps:=fun {h h' x v d o es ep} p=>by
  cases x
  ·exact a.keeps p
  ·exact b.keeps p
 mono:=fun {h h' x v} p=>by
  cases x
  ·exact a.mono p
  ·exact b.mono p
 hs:=fun {A E s x v Q} r p q=>by
  cases x
  ·exact a.hs (by omega) p q
  ·exact b.hs (by omega) p q
 eq:=fun {A E s x y u v Q} r p q z=>by
  cases x<;>cases y
  ·refine a.eq (by omega) p q ?_;simpa using z
  ·exact(ne r p q (by simpa using z)).1
  ·exact(ne r q p (by simpa using z)).2
  ·refine b.eq (by omega) p q ?_;simpa using z
 qt:=fun {A E s x v n Q} r p q=>by
  cases x
  ·exact a.qt (by omega) p q
  ·exact b.qt (by omega) p q
set_option genInjectivity true in
inductive Its (p:κ->Value->Prop):List κ->List Value->Prop
 | nil:Its p [] []
 | cons {x:κ} {v:Value} {xs:List κ} {vs:List Value}:p x v->Its p xs vs->Its p (x::xs) (v::vs)
theorem Its.imp{p q:κ->Value->Prop}(f:∀ x v,p x v->q x v){xs:List κ}{vs:List Value}(h:Its p xs vs):Its q xs vs:=by
 induction h with
 | nil=>exact .nil
 | cons a _ ih=>exact .cons (f _ _ a) ih
theorem Its.inj{p:κ->Value->Prop}(f:∀ {x y v},p x v->p y v->x=y){xs ys:List κ}{vs:List Value}(h:Its p xs vs)(h':Its p ys vs):xs=ys:=by
 induction h generalizing ys with
 | nil=>cases h';rfl
 | cons a _ ih =>
  cases h' with
  | cons b t=>rw[f a b,ih t]
variable (e:EK prog w κ)
noncomputable def zAa(h:Heap)(xs:List κ)(a:Addr):Prop:=∃ o its n,h.get? a=some o/\o.cls=.type "tuple"/\o.data=.seq its n/\Its (e.is h) xs its.toList
variable {e} {A:Around} {E:Value->Shared->Prop} {s:Shared}
theorem zAa.typ(t:zAa e s.heap xs a):s.TypeIs (.ref a) "tuple":=let ⟨o,_,_,h1,h2,_⟩:=t;⟨o,h1,h2⟩
theorem zAa.inj(t:zAa e h xs a)(t':zAa e h ys a):xs=ys:=by
 obtain⟨o,i,n,h1,u0,h2,h3⟩:=t;obtain⟨o',i',n',g1,u0,g2,g3⟩:=t';rw[h1] at g1;cases g1;rw[h2] at g2;cases g2;exact Its.inj (p:=e.is h) (fun a b=>e.inj a b) h3 g3
theorem zAa.keeps{es ep}(t:zAa e h xs a)(ho:h.get? d=some o)(hd:o.data=.dict es ep)(hs:dW d h h'):zAa e h' xs a:=by
 obtain⟨o',i,n,h1,h2,h3,h4⟩:=t;have ne:a≠d:=fun z=>by
  subst z;rw[h1] at ho;cases ho;rw[h3] at hd;cases hd
 exact⟨o',i,n,(hs.2 a ne).trans h1,h2,h3,h4.imp fun u0 u0 q=>e.keeps q ho hd hs⟩
theorem zAa.mono{h h':Heap}{xs:List κ}{a:Addr}(t:zAa e h xs a)(k:∀ c o,h.get? c=some o->o.cls=.type "tuple"->h'.get? c=some o):zAa e h' xs a:=by
 obtain⟨o,i,n,h1,h2,h3,h4⟩:=t;exact⟨o,i,n,k _ _ h1 h2,h2,h3,h4.imp fun u0 u0 q=>e.mono q k⟩
noncomputable def dr(e:EK prog w κ)(xs:List κ):Nat:=(xs.map e.draws).sum
noncomputable def hsT(e:EK prog w κ)(xs:List κ):Int:=reduceHash (Builtin.Tuple.tupleHashOf (xs.map e.hash))
theorem zJf(hu:A.units+(e.lv+1)<cLine)(t:zAa e s.heap xs a)(h:Q (hsT e xs) { s with toks:=s.toks+(dr e xs+1) }):wpAny (model prog w) A (pyHash (.ref a)) Q E s:=by
 have ty:=t.typ;obtain⟨o,its,n,h1,u0,h2,h3⟩:=t;unfold pyHash
 first | unfold pyHashByItsType | skip
 first | refine cN (wpAny_cRoomFor_or (.inr (by omega)) ?_) | skip
 refine cN (hJ ty F.slot_tuple_hash.lookup ?_);show wpAny _ _ (if (some (Value.builtin "tuple.__hash__")==some Value.none)=true then _ else _) Q E s;rw[if_neg (fun z=>by rw[beq_builtin_none] at z;cases z)];refine cN (hJ ty F.slot_tuple_hash.lookup ?_);show wpAny _ _ (callSpecialIfBoundUnlessNone? (.ref a) "__hash__" _>>=_) Q E s;refine cN (wpAny_callSpecialIfBoundUnlessNone?_slot ty F.slot_tuple_hash (dY F.slot_tuple_hash ty F.entry_tuple_hash ?_ (F.args_tuple_hash_1 _)));show wpAny _ _ (Builtin.Tuple.tupleItemsOf (.ref a)>>=_) _ _ s;refine cN (gZ h1 h2 (cN ?_));rw[<-Array.forIn_toList];refine gf _ (fun rest (b:Array Int) s'=>∃ l r,xs=l++r/\Its (e.is s.heap) r rest/\b.toList=l.map e.hash/\s'={ s with toks:=s.toks+dr e l }) _ ?_ ?_ _ _ ⟨[],xs,rfl,h3,rfl,rfl⟩
 ·rintro x rest b s' ⟨l,r,rfl,g1,g2,rfl⟩
  cases g1 with
  | @cons y _ r' _ p1 p2 =>
   refine cN (e.hs (by rw[Around.in1_units];omega) p1 ?_);have fin:∃ l' r1,l++y::r'=l'++r1/\Its (e.is s.heap) r1 rest/\(b.push (e.hash y)).toList=l'.map e.hash/\({ s with toks:=s.toks+dr e l+e.draws y }:Shared)={ s with toks:=s.toks+dr e l' } :=
    ⟨l++[y],r',by simp,p2,by simp[g2],by simp[dr,Nat.add_assoc]⟩
   first
    | exact cS fin
    | exact cN (cS (cS fin))
 ·rintro b s' ⟨l,r,rfl,g1,g2,rfl⟩
  cases g1;rw[fU] at h;show wpAny _ _ (retInt (Builtin.Tuple.tupleHashOf b.toList)) _ _ _;rw[g2];refine wpAny_ret_mkInt ?_;unfold hsT reduceHash at h;show wpAny _ _ (if (decide (-(2:Int) ^ 63<=Builtin.Tuple.tupleHashOf (l.map e.hash))&&decide (Builtin.Tuple.tupleHashOf (l.map e.hash)<2 ^ 63))=true then _ else _) Q E _;split at h
  next c =>
   rw[if_pos c];exact cS (by simpa[Nat.add_assoc] using h)
  next c =>
   rw[if_neg c];exact cN (fY (cS (by simpa[Nat.add_assoc] using h)))
theorem zLl(hu:A.units+e.lv<cLine)(ta:zAa e s.heap xs a)(tb:zAa e s.heap ys b)(h:P (.done (.ret (.bool (decide (xs=ys))))) s) :
  wpAny (model prog w) A (Builtin.«tuple.__eq__» ⟨[.ref a,.ref b],[]⟩) P E s:=by
 have ty:=tb.typ;obtain⟨oa,ia,na,a1,u0,a2,a3⟩:=ta;obtain⟨ob,ib,nb,b1,u0,b2,b3⟩:=tb;show wpAny _ _ (isInstance (.ref b) (.type "tuple")>>=_) _ _ s;refine cN (fV ty isSubtype_tuple_tuple ?_);simp only[fQ,cQ,if_false];refine cN (gZ a1 a2 (cN (gZ b1 b2 (cN ?_))));refine gf _ (fun rest r s'=>r.1=none/\s'=s/\∃ p q ps qs,rest=List.zip ps qs/\Its (e.is s.heap) p ps/\Its (e.is s.heap) q qs/\decide (p=q)=decide (xs=ys)/\(ps.length==qs.length)=(ia.size==ib.size)) _ ?_ ?_ _ _ ⟨rfl,rfl,xs,ys,ia.toList,ib.toList,rfl,a3,b3,rfl,by simp⟩
 ·rintro⟨u,v⟩ rest r s' ⟨hr,rfl,p,q,ps,qs,z,hp,hq,hd,hl⟩
  cases hp with
  | nil=>simp at z
  | @cons k1 _ p' ps' m1 m2 =>
   cases hq with
   | nil=>simp at z
   | @cons k2 _ q' qs' n1 n2 =>
    simp only[hW,List.cons.injEq,Prod.mk.injEq] at z;obtain⟨⟨rfl,rfl⟩,rfl⟩:=z;refine cN (e.eq hu m1 n1 ?_);by_cases c:k1=k2
    ·subst c
     rw[decide_eq_true rfl];simp only[fQ,cQ,if_false];exact cS ⟨rfl,rfl,p',q',ps',qs',rfl,m2,n2,by rw[<-hd];simp,by simpa using hl⟩
    ·rw[decide_eq_false c]
     simp only[Bool.not_false,if_true];have hf:decide (xs=ys)=false:=by rw[<-hd];simp[c]
     rw[hf] at h;exact cN (cS (cS (cS h)))
 ·rintro⟨r1,r2⟩ s' ⟨hr,rfl,p,q,ps,qs,z,hp,hq,hd,hl⟩
  cases (show r1=none from hr);refine cS ?_;show P (.done (.ret (.bool (ia.size==ib.size)))) s';rw[<-hl];have hz:(ps.length==qs.length)=decide (p=q):=by cases hp<;>cases hq<;>simp at z ⊢
  rw[hz,hd];exact h
theorem zNr(hu:A.units+(e.lv+1)<cLine)(ta:zAa e s.heap xs a)(tb:zAa e s.heap ys b)(h:Q (decide (xs=ys)) s):wpAny (model prog w) A (eqBool (.ref a) (.ref b)) Q E s:=by
 unfold eqBool
 try with_reducible refine dZ ?_
 show wpAny _ _ (if (Value.ref a==Value.ref b)=true then _ else _) Q E s;by_cases c:(Value.ref a==Value.ref b)=true
 ·rw[if_pos c]
  cases eq_of_beq c;cases ta.inj tb;exact cN (fY (cS (by simpa using h)))
 ·rw[if_neg c]
  exact cN (wpAny_richCompare_same_room (op:=.Eq) ta.typ tb.typ F.slot_tuple_eq (dY F.slot_tuple_eq ta.typ F.entry_tuple_eq (zLl (by rw[Around.in1_units];omega) ta tb ⟨_,rfl,(fun z=>by cases z),fq h⟩) (F.args_tuple_eq_2 _ _)) (by omega))
theorem zIL(hn:e.lv<=n)(t:zAa e s.heap xs a)(h:Q true s):wpAny (model prog w) A (eqIsQuiet (n+1) (.ref a)) Q E s:=by
 have ty:=t.typ;obtain⟨o,its,m,h1,u0,h2,h3⟩:=t;unfold eqIsQuiet;refine cN (hJ ty F.slot_tuple_eq.lookup ?_);show wpAny _ _ (isInstance (.ref a) (.type "tuple")>>=_) _ _ s;refine cN (fV ty isSubtype_tuple_tuple ?_);simp only[fQ,cQ,if_false];refine cN (fN h1 h2 (cN ?_));show wpAny _ _ (forIn its _ _) _ _ s;rw[<-Array.forIn_toList];refine gf _ (fun rest r s'=>r.1=none/\s'=s/\∃ ys,Its (e.is s.heap) ys rest) _ ?_ ?_ _ _ ⟨rfl,rfl,xs,h3⟩
 ·rintro v rest r s' ⟨hr,rfl,ys,g⟩
  cases g with
  | cons p1 p2 =>
   refine cN (e.qt hn p1 ?_);simp only[fQ,cQ,if_false];exact cS ⟨rfl,rfl,_,p2⟩
 ·rintro⟨r1,r2⟩ s' ⟨hr,rfl,u0⟩
  cases (show r1=none from hr);exact cS h
noncomputable def zAb(e:EK prog w κ):EK prog w (List κ) where
 is:=fun h xs v=>∃ a,v=.ref a/\zAa e h xs a
 hash:=hsT e
 draws:=fun xs=>dr e xs+1
 lv:=e.lv+1
 inj:=fun⟨a,z,t⟩ ⟨b,z',t'⟩=>by subst z;cases z';exact t.inj t'
 keeps:=fun⟨a,z,t⟩ ho hd hs=>⟨a,z,t.keeps ho hd hs⟩
 mono:=fun⟨a,z,t⟩ k=>⟨a,z,t.mono k⟩
 hs:=fun hu ⟨a,z,t⟩ q=>by subst z;exact zJf hu t q
 eq:=fun hu ⟨a,z,t⟩ ⟨b,z',t'⟩ q=>by subst z z';exact zNr hu t t' q
 qt:=fun {A E s x v n Q} hn ⟨a,z,t⟩ q=>by
  subst z;obtain⟨m,rfl⟩:∃ m,n=m+1:=⟨n-1,by omega⟩
  exact zIL (by omega) t q
noncomputable def zP5(e:EK prog w κ)(h8:e.lv<=8):HeapKind prog w κ where
 is:=fun h x a=>e.is h x (.ref a)
 hash:=e.hash
 draws:=e.draws
 room:=fun A=>A.units+e.lv<cLine
 inj:=fun p q=>e.inj p q
 keeps:=fun p ho hd hs=>e.keeps p ho hd hs
 pyHash:=fun hu p q=>e.hs hu p q
 eqBool:=fun hu p q z=>e.eq hu p q z
 quiet:=fun p q=>e.qt h8 p q
end
section
variable {prog:Program} {w:World}
noncomputable abbrev Wb:=List (Int ⊕ List (List Int))
noncomputable def ekI(prog:Program)(w:World):EK prog w Int:=zP4 (intKind prog w)
theorem isI:(ekI prog w).is h i v↔∃ t,v=.int i t:=by
 refine⟨fun p=>?_,fun⟨t,p⟩=>by subst p;exact intKind_is _ _ _ _⟩;exact Value.isInt_shape p
noncomputable def ekX(prog:Program)(w:World):EK prog w (Int ⊕ List (List Int)):=zO5 (ekI prog w) (zAb (zAb (ekI prog w))) (fun p ⟨a,z,_⟩=>by obtain⟨t,rfl⟩:=isI.mp p;cases z)
 (fun {A E s x y u v Q} hu p q z=>by
  obtain⟨t,rfl⟩:=isI.mp p;obtain⟨a,rfl,o,its,n,h1,h2,h3,u0⟩:=q;have tp:s.heap.IsTuple a its:=⟨o,h1,h2,n,h3⟩
  exact⟨SeqAt.EqAt.int_tuple _ _ tp (by omega) _ _ _ _ z,SeqAt.EqAt.tuple_int _ _ tp (by omega) _ _ _ _ z⟩)
noncomputable def ekW(prog:Program)(w:World):EK prog w Wb:=zAb (ekX prog w)
noncomputable def zBs(prog:Program)(w:World):HeapKind prog w Wb:=zP5 (ekW prog w) (show 3<=8 by decide)
theorem zAc:(zBs prog w).room A↔A.units+3<cLine:=Iff.rfl
end
end HW
namespace L3
open L2
set_option genInjectivity true in
inductive D where
 | non | bl (b:Bool) | int (i:Int) | str (x:Str) | tup (ds:List D) | adr (a:Addr) | dic (a:Addr)
mutual
noncomputable def zM(K:PySem.W.Frag)(H:Hp):D->V->Prop
 | .non,v=>v=V.non
 | .bl b,v=>v=V.bl b
 | .int i,v=>v=V.int i
 | .str x,v=>v=V.str x
 | .adr a,v=>v=V.ref a
 | .dic a,v=>v=V.ref a/\∃ o x,H a=some (.frz o (.own x))/\o.cls=.type "dict"
 | .tup ds,v=>∃ a xs,v=V.ref a/\SqT K H a xs/\Dens K H ds xs
noncomputable def Dens(K:PySem.W.Frag)(H:Hp):List D->List V->Prop
 | [],xs=>xs=[]
 | d::ds,xs=>∃ x r,xs=x::r/\zM K H d x/\Dens K H ds r
end
noncomputable def wbI:Int ⊕ List (List Int)->D
 | .inl i=>.int i
 | .inr l=>.tup (l.map fun p=>.tup (p.map D.int))
noncomputable def wbD(k:HW.Wb):D:=.tup (k.map wbI)
noncomputable def wbH(k:HW.Wb):Int:=reduceHash (Builtin.Tuple.tupleHashOf (k.map fun x=>match x with | .inl i=>hashInt i | .inr l=>reduceHash (Builtin.Tuple.tupleHashOf (l.map fun p=>reduceHash (Builtin.Tuple.tupleHashOf (p.map hashInt))))))
noncomputable def DW(a:Addr)(xs:List (HW.Wb×Addr×V)):Heap->Prop:=fun h=>(a==sysModules)=false/\xs.length<=sizeLine/\∃ ys:List (HW.Wb×Addr×Value),Paired (fun x y=>x.1=y.1/\x.2.1=y.2.1/\RelV x.2.2 y.2.2) xs ys/\(ys.map (·.1)).Nodup /\
 ∃ o es ep,h.get? a=some o/\o.ExactDict/\o.data=.dict es ep/\es.toList=ys.map fun y=>(⟨wbH y.1,.ref y.2.1,y.2.2⟩:DictEntry)
structure Gp where
 m:Addr->Option (List D)
 ro:Addr->Option (List D)
 dc:Addr->Option (List (HW.Wb×D))
noncomputable def zC5(G:Gp)(a:Addr)(o:List (HW.Wb×D)):Gp:={ G with dc:=fun b=>if b=a then some o else G.dc b }
theorem zBS:(zC5 G a o).dc a=some o:=if_pos rfl
theorem zC8(h:b≠a):(zC5 G a o).dc b=G.dc b:=if_neg h
noncomputable def zS(G:Gp)(a:Addr)(o:List D):Gp:={ G with m:=fun b=>if b=a then some o else G.m b }
theorem zG:(zS G a o).m a=some o:=if_pos rfl
theorem zT(h:b≠a):(zS G a o).m b=G.m b:=if_neg h
theorem zAd:zS (zS G a o) a u=zS G a u:=by
 unfold zS;congr 1;funext b;by_cases h:b=a
 ·simp only[if_pos h]
 ·simp only[if_neg h]
theorem gne{G:Gp}{a b:Addr}{o:List D}(h:G.m a=some o)(h':G.m b=none):a≠b:=fun e=>by rw[e,h'] at h;cases h
structure Sub (G G':Gp):Prop where
 m:∀ a o,G.m a=some o->G'.m a=some o
 ro:∀ a o,G.ro a=some o->G'.ro a=some o
 dc:∀ a o,G.dc a=some o->G'.dc a=some o
theorem Sub.refl(G:Gp):Sub G G:=⟨fun u0 u0 h=>h,fun u0 u0 h=>h,fun u0 u0 h=>h⟩
theorem Sub.trans{G G1 G2:Gp}(h:Sub G G1)(h':Sub G1 G2):Sub G G2:=⟨fun a o e=>h'.m a o (h.m a o e),fun a o e=>h'.ro a o (h.ro a o e),fun a o e=>h'.dc a o (h.dc a o e)⟩
theorem Sub.new(h:G.m p=none):Sub G (zS G p o):=⟨fun a u e=>by rw[zT (gne e h)];exact e,fun u0 u0 e=>e,fun u0 u0 e=>e⟩
noncomputable def Ls(G:Gp)(a:Addr)(ds:List D):Prop:=G.m a=some ds\/G.ro a=some ds
theorem Ls.sub(h:Ls G a ds)(s:Sub G G'):Ls G' a ds:=by
 rcases h with h | h
 ·exact .inl (s.m a ds h)
 ·exact .inr (s.ro a ds h)
theorem Ls.own:Ls (zS G a ds) a ds:=.inl zG
noncomputable def RoL(K:PySem.W.Frag)(H:Hp)(a:Addr)(xs:List V):Prop :=
 (∃ o,H a=some (.frz o (.lst xs)))\/∃(o:Obj) (its:Array Value) (n:Nat),K.lookup a=some o/\o.cls=.type "list"/\o.dict=none/\o.data=.seq its n/\its.size<=sizeLine/\zW xs its.toList
theorem RoL.sq{K:PySem.W.Frag}{H:Hp}{a:Addr}{xs:List V}(h:RoL K H a xs):SqL K H a xs:=by
 rcases h with h | h
 ·exact .inl (.inr h)
 ·exact .inr h
structure zf (K:PySem.W.Frag) (G:Gp) (H:Hp):Prop where
 m:∀ a ds,G.m a=some ds->∃ xs,H a=some (.lst xs)/\Dens K H ds xs
 ro:∀ a ds,G.ro a=some ds->∃ xs,RoL K H a xs/\Dens K H ds xs
 dc:∀ a kvs,G.dc a=some kvs->∃ xs,H a=some (.ext (DW a xs))/\Paired (fun kv x=>kv.1=x.1/\zM K H (wbD x.1) (.ref x.2.1)/\zM K H kv.2 x.2.2) kvs xs
structure zd (H H':Hp):Prop where
 tups:∀ a xs,H a=some (.tup xs)->H' a=some (.tup xs)
 frzs:∀ a o u,H a=some (.frz o u)->H' a=some (.frz o u)
section
variable {K:PySem.W.Frag} {H H' H'':Hp} {G G':Gp}
theorem zd.refl(H:Hp):zd H H:=⟨fun u0 u0 h=>h,fun u0 u0 u0 h=>h⟩
theorem zd.trans(a:zd H H')(b:zd H' H''):zd H H'':=⟨fun c xs h=>b.tups c xs (a.tups c xs h),fun c o u h=>b.frzs c o u (a.frzs c o u h)⟩
theorem zd.fresh(h:H p=none):zd H (yT H p o):=⟨fun a xs e=>by rw[zc (yG e h)];exact e,fun a o u e=>by rw[zc (yG e h)];exact e⟩
theorem zd.lst{p:Addr}{xs:List V}{o:HO}(h:H p=some (.lst xs)):zd H (yT H p o) :=
 ⟨fun a ys e=>by rw[zc (zEH e h (by intro z;cases z))];exact e,fun a o u e=>by rw[zc (zEH e h (by intro z;cases z))];exact e⟩
theorem zd.sqT(g:zd H H')(h:SqT K H a xs):SqT K H' a xs:=by
 rcases h with (h | ⟨o,h⟩) | h
 ·exact .inl (.inl (g.tups _ _ h))
 ·exact .inl (.inr ⟨o,g.frzs _ _ _ h⟩)
 ·exact .inr h
theorem zd.roL(g:zd H H')(h:RoL K H a xs):RoL K H' a xs:=by
 rcases h with ⟨o,h⟩ | h
 ·exact .inl ⟨o,g.frzs _ _ _ h⟩
 ·exact .inr h
mutual
theorem zM.grow(g:zd H H'):∀ {d:D} {v:V},zM K H d v->zM K H' d v
 | .non,_,h=>by unfold zM at h ⊢;exact h
 | .bl _,_,h=>by unfold zM at h ⊢;exact h
 | .int _,_,h=>by unfold zM at h ⊢;exact h
 | .str _,_,h=>by unfold zM at h ⊢;exact h
 | .adr _,_,h=>by unfold zM at h ⊢;exact h
 | .dic _,_,h=>by unfold zM at h ⊢;obtain⟨e,o,x,q,c⟩:=h;exact⟨e,o,x,g.frzs _ _ _ q,c⟩
 | .tup ds,v,h=>by
  unfold zM at h ⊢;obtain⟨a,xs,e,s,r⟩:=h;exact⟨a,xs,e,g.sqT s,Dens.grow g r⟩
theorem Dens.grow(g:zd H H'):∀ {ds:List D} {xs:List V},Dens K H ds xs->Dens K H' ds xs
 | [],_,h=>by unfold Dens at h ⊢;exact h
 | d::ds,xs,h=>by
  unfold Dens at h ⊢;obtain⟨x,r,e,h1,h2⟩:=h;exact⟨x,r,e,zM.grow g h1,Dens.grow g h2⟩
end
theorem Dens.length:∀ {ds:List D} {xs:List V},Dens K H ds xs->ds.length=xs.length
 | [],xs,h=>by unfold Dens at h;rw[h];rfl
 | d::ds,xs,h=>by
  unfold Dens at h;obtain⟨x,r,rfl,u0,h2⟩:=h;simp[Dens.length h2]
theorem Dens.get:∀ {ds:List D} {xs:List V} {i:Nat} {d:D},Dens K H ds xs->ds[i]?=some d->∃ x,xs[i]?=some x/\zM K H d x
 | [],_,_,_,_,e=>by simp at e
 | d::ds,xs,0,d',h,e=>by
  unfold Dens at h;obtain⟨x,r,rfl,h1,u0⟩:=h;simp at e;subst e;exact⟨x,rfl,h1⟩
 | d::ds,xs,i+1,d',h,e=>by
  unfold Dens at h;obtain⟨x,r,rfl,u0,h2⟩:=h;obtain⟨y,e1,e2⟩:=Dens.get (i:=i) (d:=d') h2 (by simpa using e);exact⟨y,by simpa using e1,e2⟩
theorem Dens.got:∀ {ds:List D} {xs:List V} {i:Nat} {x:V},Dens K H ds xs->xs[i]?=some x->∃ d,ds[i]?=some d/\zM K H d x
 | ds,xs,i,x,h,e=>by
  have hl:=h.length;have hi:i<ds.length:=by rw[hl];exact(di.mp e).1
  obtain⟨y,e1,e2⟩:=h.get (i:=i) (d:=ds[i]) (by simp[hi]);rw[e] at e1;cases e1;exact⟨ds[i],by simp[hi],e2⟩
theorem Dens.nil:Dens K H [] []:=by unfold Dens;rfl
theorem Dens.cons{d:D}{ds:List D}{x:V}{xs:List V}(h:zM K H d x)(h':Dens K H ds xs):Dens K H (d::ds) (x::xs):=by unfold Dens;exact⟨x,xs,rfl,h,h'⟩
theorem Dens.append:∀ {ds es:List D} {xs ys:List V},Dens K H ds xs->Dens K H es ys->Dens K H (ds++es) (xs++ys)
 | [],_,xs,_,h,h'=>by unfold Dens at h;rw[h];exact h'
 | d::ds,_,xs,_,h,h'=>by
  unfold Dens at h;obtain⟨x,r,rfl,h1,h2⟩:=h;exact Dens.cons h1 (Dens.append h2 h')
theorem Dens.of_get:∀ {ds:List D} {xs:List V},ds.length=xs.length->(∀(i:Nat) d x,ds[i]?=some d->xs[i]?=some x->zM K H d x)->Dens K H ds xs
 | [],[],_,_=>.nil
 | [],_::_,h,_=>by simp at h
 | _::_,[],h,_=>by simp at h
 | d::ds,x::xs,h,g=>.cons (g 0 d x rfl rfl) (Dens.of_get (by simpa using h) fun i d' x' e1 e2=>g (i+1) d' x' (by simpa using e1) (by simpa using e2))
theorem Dens.take{n:Nat}{ds:List D}{xs:List V}(h:Dens K H ds xs):Dens K H (ds.take n) (xs.take n) :=
 .of_get (by simp[h.length]) fun i d x e1 e2=>by
  rw[List.getElem?_take] at e1 e2;split at e1
  ·rename_i hi
   rw[if_pos hi] at e2;obtain⟨y,e,r⟩:=h.get e1;rw[e2] at e;cases e;exact r
  ·cases e1
theorem Dens.drop{n:Nat}{ds:List D}{xs:List V}(h:Dens K H ds xs):Dens K H (ds.drop n) (xs.drop n) :=
 .of_get (by simp[h.length]) fun i d x e1 e2=>by
  rw[List.getElem?_drop] at e1 e2;obtain⟨y,e,r⟩:=h.get e1;rw[e2] at e;cases e;exact r
theorem Dens.set{ds:List D}{xs:List V}{d:D}{x:V}(i:Nat)(h:Dens K H ds xs)(hd:zM K H d x):Dens K H (ds.set i d) (xs.set i x) :=
 .of_get (by simp[h.length]) fun j d' x' e1 e2=>by
  by_cases hj:i=j
  ·subst hj
   have hi:i<ds.length:=by
    have:=(di.mp e1).1;simpa using this
   rw[eJ hi] at e1;rw[eJ (by rw[<-h.length];exact hi)] at e2;cases e1;cases e2;exact hd
  ·rw[fe hj] at e1 e2
   obtain⟨y,e,r⟩:=h.get e1;rw[e2] at e;cases e;exact r
theorem Dens.eraseIdx:∀ {ds:List D} {xs:List V} (i:Nat),Dens K H ds xs->Dens K H (ds.eraseIdx i) (xs.eraseIdx i)
 | [],xs,i,h=>by unfold Dens at h;subst h;exact .nil
 | d::ds,xs,0,h=>by
  unfold Dens at h;obtain⟨x,r,rfl,h1,h2⟩:=h;exact h2
 | d::ds,xs,i+1,h=>by
  unfold Dens at h;obtain⟨x,r,rfl,h1,h2⟩:=h;exact .cons h1 (Dens.eraseIdx i h2)
theorem Dens.reverse:∀ {ds:List D} {xs:List V},Dens K H ds xs->Dens K H ds.reverse xs.reverse
 | [],xs,h=>by unfold Dens at h;subst h;exact .nil
 | d::ds,xs,h=>by
  unfold Dens at h;obtain⟨x,r,rfl,h1,h2⟩:=h;rw[gQ,gQ];exact(Dens.reverse h2).append (.cons h1 .nil)
theorem Dens.ints(ns:List Int):Dens K H (ns.map D.int) (ns.map V.int):=by
 induction ns with
 | nil=>exact .nil
 | cons n r ih=>exact .cons (by unfold zM;rfl) ih
theorem zf.fresh{p:Addr}{o:HO}(h:H p=none)(r:zf K G H):zf K G (yT H p o) :=
  ⟨fun a ds e=>by
    obtain⟨xs,e1,e2⟩:=r.m a ds e;exact⟨xs,by rw[zc (yG e1 h)];exact e1,e2.grow (.fresh h)⟩,
   fun a ds e=>by
    obtain⟨xs,e1,e2⟩:=r.ro a ds e;exact⟨xs,(zd.fresh h).roL e1,e2.grow (.fresh h)⟩,
   fun a ds e=>by
    obtain⟨xs,e1,e2⟩:=r.dc a ds e;exact⟨xs,by rw[zc (yG e1 h)];exact e1,L2.Paired.mapP e2 fun u0 u0 z=>⟨z.1,z.2.1.grow (.fresh h),z.2.2.grow (.fresh h)⟩⟩⟩
theorem zf.free{p:Addr}(r:zf K G H)(h:H p=none):G.m p=none:=by
 cases q:G.m p with
 | none=>rfl
 | some ds=>obtain⟨xs,e1,u0⟩:=r.m p _ q;rw[h] at e1;cases e1
theorem zf.own{l:Addr}{ds:List D}{xs:List V}(r:zf K G H)(e:H l=some (.lst xs))(d:Dens K H ds xs):zf K (zS G l ds) H :=
  ⟨fun b u q=>by
    by_cases hb:b=l
    · subst hb;rw[zG] at q;cases q;exact⟨xs,e,d⟩
    · rw[zT hb] at q;exact r.m b u q,
   r.ro,r.dc⟩
theorem zf.new{p:Addr}{ds:List D}{xs:List V}(h:H p=none)(r:zf K G H)(d:Dens K H ds xs):zf K (zS G p ds) (yT H p (.lst xs)) :=
 (r.fresh h).own zb (d.grow (.fresh h))
theorem zf.put{p:Addr}{ds':List D}{xs xs':List V}(h:H p=some (.lst xs))(r:zf K G H)(d:Dens K H ds' xs'):zf K (zS G p ds') (yT H p (.lst xs')) :=
  ⟨fun a u e=>by
    by_cases ha:a=p
    · subst ha
      rw[zG] at e;cases e;exact⟨xs',zb,d.grow (.lst h)⟩
    · rw[zT ha] at e
      obtain⟨ys,e1,e2⟩:=r.m a u e;exact⟨ys,by rw[zc ha];exact e1,e2.grow (.lst h)⟩,
   fun a u e=>by
    obtain⟨ys,e1,e2⟩:=r.ro a u e;exact⟨ys,(zd.lst h).roL e1,e2.grow (.lst h)⟩,
   fun a u e=>by
    obtain⟨ys,e1,e2⟩:=r.dc a u e;exact⟨ys,by rw[zc (zEH e1 h (by intro z;cases z))];exact e1,L2.Paired.mapP e2 fun u0 u0 z=>⟨z.1,z.2.1.grow (.lst h),z.2.2.grow (.lst h)⟩⟩⟩
theorem zf.sub(s:Sub G G')(r:zf K G' H):zf K G H:=⟨fun a u e=>r.m a u (s.m a u e),fun a u e=>r.ro a u (s.ro a u e),fun a u e=>r.dc a u (s.dc a u e)⟩
theorem zf.sq{a:Addr}{ds:List D}(r:zf K G H)(e:Ls G a ds):∃ xs,SqL K H a xs/\Dens K H ds xs:=by
 rcases e with e | e
 ·obtain⟨xs,e1,e2⟩:=r.m a _ e
  exact⟨xs,.of e1,e2⟩
 ·obtain⟨xs,e1,e2⟩:=r.ro a _ e
  exact⟨xs,e1.sq,e2⟩
end
noncomputable abbrev S2:=List (Option D)
noncomputable abbrev zi:=S2->Gp->(D->Gp->Prop)->Prop
noncomputable abbrev TT2:=S2->Gp->(Bool->Gp->Prop)->Prop
noncomputable abbrev yj:=S2->Gp->(List D->Gp->Prop)->Prop
structure zz where
 nx:S2->Gp->Prop
 rt:D->Gp->Prop
 bk:S2->Gp->Prop:=fun u0 u0=>False
 ct:S2->Gp->Prop:=fun u0 u0=>False
noncomputable abbrev yd:=zz->S2->Gp->Prop
noncomputable def look:S2->Nat->Option D
 | [],_=>none
 | o::_,0=>o
 | _::r,i+1=>look r i
theorem zBE:∀ {σ:S2} {i:Nat} {d:D},look σ i=some d->σ[i]?=some (some d)
 | [],_,_,e=>by cases e
 | o::_,0,d,e=>by simp[look] at e;simp[e]
 | _::r,i+1,d,e=>by simpa using zBE (σ:=r) (i:=i) (d:=d) e
structure Rel (K:PySem.W.Frag) (σ:S2) (G:Gp) (σ1:L2.St) (H:Hp):Prop where
 g:zf K G H
 len:σ.length=σ1.length
 val:∀(i:Nat) d,σ[i]?=some (some d)->∃ v,σ1[i]?=some (some v)/\zM K H d v
theorem Rel.to{K:PySem.W.Frag}{σ:S2}{G G':Gp}{σ1:L2.St}{H H':Hp}(r:Rel K σ G σ1 H)(g:zd H H')(r':zf K G' H'):Rel K σ G' σ1 H' :=
 ⟨r',r.len,fun i d e=>by obtain⟨v,e1,e2⟩:=r.val i d e;exact⟨v,e1,e2.grow g⟩⟩
theorem Rel.set{K:PySem.W.Frag}{σ:S2}{G:Gp}{σ1:L2.St}{H:Hp}(r:Rel K σ G σ1 H)(i:Nat){d:D}{v:V}(h:zM K H d v):Rel K (σ.set i (some d)) G (σ1.set i (some v)) H :=
 ⟨r.g,by simp[r.len],fun j d' e=>by
  by_cases hj:i=j
  ·subst hj
   have hi:i<σ.length:=by
    have:=(di.mp e).1;simpa using this
   rw[eJ hi] at e;cases e;exact⟨v,by rw[eJ (by rw[<-r.len];exact hi)],h⟩
  ·rw[fe hj] at e
   obtain⟨u,e1,e2⟩:=r.val j d' e;exact⟨u,by rw[fe hj];exact e1,e2⟩⟩
noncomputable def lE(K:PySem.W.Frag)(t:zi):TE:=fun σ1 H Q=>∃ σ G R,Rel K σ G σ1 H/\t σ G R/\∀ d G',R d G'->∀ v H',zd H H'->zf K G' H'->zM K H' d v->Q v H'
noncomputable def lT(K:PySem.W.Frag)(t:TT2):TT:=fun σ1 H Q=>∃ σ G R,Rel K σ G σ1 H/\t σ G R/\∀ b G',R b G'->∀ H',zd H H'->zf K G' H'->Q b H'
noncomputable def lA(K:PySem.W.Frag)(t:yj):TA:=fun σ1 H Q=>∃ σ G R,Rel K σ G σ1 H/\t σ G R/\∀ ds G',R ds G'->∀ vs H',zd H H'->zf K G' H'->Dens K H' ds vs->Q vs H'
structure ER (K:PySem.W.Frag) (H:Hp) (D2:zz) (E:Ends):Prop where
 nx:∀ σ G,D2.nx σ G->∀ σ1 H',zd H H'->Rel K σ G σ1 H'->E.nx σ1 H'
 bk:∀ σ G,D2.bk σ G->∀ σ1 H',zd H H'->Rel K σ G σ1 H'->E.bk σ1 H'
 ct:∀ σ G,D2.ct σ G->∀ σ1 H',zd H H'->Rel K σ G σ1 H'->E.ct σ1 H'
 rt:∀ d G,D2.rt d G->∀ v H',zd H H'->zf K G H'->zM K H' d v->E.rt v H'
theorem ER.to{K:PySem.W.Frag}{H H':Hp}{D2:zz}{E:Ends}(e:ER K H D2 E)(g:zd H H'):ER K H' D2 E :=
 ⟨fun σ G h σ1 H1 g1=>e.nx σ G h σ1 H1 (g.trans g1),fun σ G h σ1 H1 g1=>e.bk σ G h σ1 H1 (g.trans g1),fun σ G h σ1 H1 g1=>e.ct σ G h σ1 H1 (g.trans g1),fun d G h v H1 g1=>e.rt d G h v H1 (g.trans g1)⟩
noncomputable def lS(K:PySem.W.Frag)(t:yd):TS:=fun E σ1 H=>∃ σ G D2,Rel K σ G σ1 H/\t D2 σ G/\ER K H D2 E
noncomputable def E2(X:Cx)(e:Expr)(t:zi):Prop:=PE X e (lE X.K t)
noncomputable def T2(X:Cx)(e:Expr)(t:TT2):Prop:=PT X e (lT X.K t)
noncomputable def A2(X:Cx)(es:List Expr)(t:yj):Prop:=PA X es (lA X.K t)
noncomputable def P2(X:Cx)(st:Stmt)(t:yd):Prop:=PS X st (lS X.K t)
noncomputable def Ps2(X:Cx)(st:List Stmt)(t:yd):Prop:=PSs X st (lS X.K t)
section
variable {X:Cx} {a b c e o:Expr} {es:List Expr} {pos p:Pos} {ta tb tc te:zi}
noncomputable def zB(i:Nat):zi:=fun σ G R=>match look σ i with | some d=>R d G | none=>False
noncomputable def xC(d:D):zi:=fun u0 G R=>R d G
theorem zC(i:Nat)(hN:autoParam (X.N[i]?=some x) Zq4._auto_1)(hv:autoParam (Vis X.env.scope x) Zq5._auto_1)(hd:autoParam ((x==("__debug__":Str))=false) Zq2._auto_1)
  (hcd:autoParam ((x==("__classdict__":Str))=false) Zq2._auto_1):E2 X (.Name x pos) (zB i):=by
 refine PE.mono (zEw hN hv hd hcd) ?_;rintro σ1 H Q ⟨σ,G,R,r,t,k⟩;unfold zB at t;cases q:look σ i with
 | none=>rw[q] at t;exact t.elim
 | some d =>
  rw[q] at t;obtain⟨v,e1,e2⟩:=r.val i d (zBE q);exact⟨v,e1,k d G t v H (.refl H) r.g e2⟩
theorem zN{i j}:E2 X (.Constant (.int i) j pos) (xC (.int i)):=by
 refine PE.mono zNK ?_;rintro σ1 H Q ⟨σ,G,R,r,t,k⟩;exact k _ G t _ H (.refl H) r.g (by unfold zM;rfl)
theorem zDQ{i j}:E2 X (.Constant (.bool i) j pos) (xC (.bl i)):=by
 refine PE.mono zOo ?_;rintro σ1 H Q ⟨σ,G,R,r,t,k⟩;exact k _ G t _ H (.refl H) r.g (by unfold zM;rfl)
theorem zDR{j}:E2 X (.Constant .none j pos) (xC .non):=by
 refine PE.mono zJQ ?_;rintro σ1 H Q ⟨σ,G,R,r,t,k⟩;exact k _ G t _ H (.refl H) r.g (by unfold zM;rfl)
noncomputable abbrev Q2:=D->Gp->Prop
noncomputable def Fit(K:PySem.W.Frag)(r:R2)(f:D->D->Gp->Q2->Prop):Prop :=
 ∀ dx dy G R x y H Q,f dx dy G R->zf K G H->zM K H dx x->zM K H dy y->(∀ d G',R d G'->∀ v H',zd H H'->zf K G' H'->zM K H' d v->Q v H')->r x y H Q
noncomputable def zY(f:D->D->Gp->Q2->Prop)(ta tb:zi):zi:=fun σ G R=>ta σ G fun x G1=>tb σ G1 fun y G2=>f x y G2 R
theorem zFZ{K:PySem.W.Frag}{r:R2}{f:D->D->Gp->Q2->Prop}(hf:Fit K r f){σ1:L2.St}{H:Hp}{Q:VK}(h:lE K (zY f ta tb) σ1 H Q):tOp r (lE K ta) (lE K tb) σ1 H Q:=by
 obtain⟨σ,G,R,rl,t,k⟩:=h;refine⟨σ,G,_,rl,t,fun dx G1 t1 x H1 g1 r1 d1=>?_⟩;refine⟨σ,G1,_,rl.to g1 r1,t1,fun dy G2 t2 y H2 g2 r2 d2=>?_⟩;exact hf dx dy G2 R x y H2 Q t2 r2 (d1.grow g2) d2 fun d G' q v H' g' r' d'=>k d G' q v H' ((g1.trans g2).trans g') r' d'
theorem zGY(ho:OpR X (binaryOp op) r)(hf:Fit X.K r f)(ha:E2 X a ta)(hb:E2 X b tb):E2 X (.BinOp a op b pos) (zY f ta tb) :=
 PE.mono (zJV ho ha hb) fun σ1 H Q h=>zFZ hf h
theorem zMp(ho:OpR X (compareOp op) r)(hf:Fit X.K r f)(ha:E2 X a ta)(hb:E2 X b tb)(hm:behindInMarks op b=false):E2 X (.Compare a [op] [b] pos) (zY f ta tb) :=
 PE.mono (zLZ ho ha hb hm) fun σ1 H Q h=>zFZ hf h
noncomputable def xB(t:zi):TT2:=fun σ G R=>t σ G fun d G1=>match d with | .bl b=>R b G1 | _=>False
theorem zB3(ho:OpR X (compareOp op) r)(hf:Fit X.K r f)(ha:E2 X a ta)(hb:E2 X b tb)(hm:behindInMarks op b=false):T2 X (.Compare a [op] [b] pos) (xB (zY f ta tb)):=by
 refine PT.mono (zLa ho ha hb hm) ?_;rintro σ1 H Q ⟨σ,G,R,rl,t,k⟩;refine zFZ hf ⟨σ,G,_,rl,t,fun d G' q v H' g' r' d'=>?_⟩;cases d with
 | bl b =>
  unfold zM at d';exact⟨b,d',k b G' q H' g' r'⟩
 | _=>exact q.elim
noncomputable def fII(g:Int->Int->D):D->D->Gp->Q2->Prop:=fun x y G R=>match x,y with | .int i,.int j=>R (g i j) G | _,_=>False
noncomputable def zJg:D->Bool
 | .tup _=>false
 | .adr _=>false
 | .dic _=>false
 | _=>true
noncomputable def vOf:D->V
 | .non=>.non | .bl b=>.bl b | .int i=>.int i | .str x=>.str x | .tup _=>.non | .adr a=>.ref a | .dic a=>.ref a
theorem zHM{K:PySem.W.Frag}{H:Hp}{d:D}(h:zJg d=true):zM K H d (vOf d):=by
 cases d<;>first | (cases h;done) | (unfold zM;rfl)
theorem zDS{K:PySem.W.Frag}{gv:Int->Int->V}{g:Int->Int->D}(hg:∀ i j,zJg (g i j)=true/\gv i j=vOf (g i j)):Fit K (rI0 gv) (fII g):=by
 intro dx dy G R x y H Q h r d1 d2 k;unfold fII at h;cases dx with
 | int i =>
  cases dy with
  | int j =>
   unfold zM at d1 d2;subst d1 d2;exact⟨i,j,rfl,rfl,k _ G h _ H (.refl H) r (by rw[(hg i j).2];exact zHM (hg i j).1)⟩
  | _=>exact h.elim
 | _=>exact h.elim
noncomputable def wF(C:Int->Int->Prop)(g:Int->Int->D):D->D->Gp->Q2->Prop:=fun x y G R=>match x,y with | .int i,.int j=>C i j/\R (g i j) G | _,_=>False
theorem zC9{K:PySem.W.Frag}{C:Int->Int->Prop}{gv:Int->Int->V}{g:Int->Int->D}(hg:∀ i j,zJg (g i j)=true/\gv i j=vOf (g i j)):Fit K (rI C gv) (wF C g):=by
 intro dx dy G R x y H Q h r d1 d2 k;unfold wF at h;cases dx with
 | int i =>
  cases dy with
  | int j =>
   unfold zM at d1 d2;subst d1 d2;exact⟨i,j,rfl,rfl,h.1,k _ G h.2 _ H (.refl H) r (by rw[(hg i j).2];exact zHM (hg i j).1)⟩
  | _=>exact h.elim
 | _=>exact h.elim
noncomputable abbrev TL2:=S2->Gp->(List D->Gp->Prop)->Prop
noncomputable def lL(K:PySem.W.Frag)(t:TL2):TE:=fun σ1 H Q=>∃ σ G R,Rel K σ G σ1 H/\t σ G R/\∀ ds G',R ds G'->∀ l xs H',zd H H'->zf K G' H'->G'.m l=none->H' l=some (.lst xs)->Dens K H' ds xs->Q (.ref l) H'
noncomputable def F2(X:Cx)(e:Expr)(t:TL2):Prop:=PE X e (lL X.K t)
noncomputable def zj(t:TL2):zi:=fun σ G R=>t σ G fun ds G'=>∀ l,G'.m l=none->R (.adr l) (zS G' l ds)
theorem yA(h:F2 X e t):E2 X e (zj t):=by
 refine PE.mono h ?_;rintro σ1 H Q ⟨σ,G,R,r,q,k⟩;exact⟨σ,G,_,r,q,fun ds G' q' l xs H' g r' n e' d=>k _ _ (q' l n) _ H' g (r'.own e' d) (by unfold zM;rfl)⟩
noncomputable def zI:yj:=fun u0 G R=>R [] G
noncomputable def zA(ta:zi)(tr:yj):yj:=fun σ G R=>ta σ G fun x G1=>tr σ G1 fun xs G2=>R (x::xs) G2
theorem zJ:A2 X [] zI:=by
 intro pos pins s σ1 H Q I h;refine wz pos pins s σ1 H Q I ?_;obtain⟨σ,G,R,r,q,k⟩:=h;exact k [] G q [] H (.refl H) r.g .nil
theorem zD(ha:E2 X e ta)(hr:A2 X es tr)(hs:autoParam (starEach (e::es) X.env=(false,eval e X.env)::starEach es X.env) Zq4._auto_1):A2 X (e::es) (zA ta tr):=by
 intro pos pins s σ1 H Q I h;refine yP ha hr hs pos pins s σ1 H Q I ?_;obtain⟨σ,G,R,r,q,k⟩:=h;refine⟨σ,G,_,r,q,fun d G1 q1 v H1 g1 r1 d1=>?_⟩;refine⟨σ,G1,_,r.to g1 r1,q1,fun ds G2 q2 vs H2 g2 r2 d2=>?_⟩;exact k _ G2 q2 _ H2 (g1.trans g2) r2 (.cons (d1.grow g2) d2)
noncomputable def yx(t:yj):zi:=fun σ G R=>t σ G fun ds G1=>ds.length<=sizeLine/\R (.tup ds) G1
theorem zAB{x1}(h:A2 X es t):E2 X (.Tuple es x1 pos) (yx t):=by
 refine PE.mono (zJa h) ?_;rintro σ1 H Q ⟨σ,G,R,r,q,k⟩;refine⟨σ,G,_,r,q,fun ds G1 q1 vs H1 g1 r1 d1=>⟨by rw[<-d1.length];exact q1.1,fun p hp=>?_⟩⟩;refine k _ G1 q1.2 _ _ (g1.trans (.fresh hp)) (r1.fresh hp) ?_;unfold zM;exact⟨p,vs,rfl,.of zb,d1.grow (.fresh hp)⟩
noncomputable def yk(t:yj):TL2:=fun σ G R=>t σ G fun ds G1=>ds.length<=sizeLine/\R ds G1
theorem yu(h:A2 X es t):F2 X (.List es pos) (yk t):=by
 refine PE.mono (zNk h) ?_;rintro σ1 H Q ⟨σ,G,R,r,q,k⟩;refine⟨σ,G,_,r,q,fun ds G1 q1 vs H1 g1 r1 d1=>⟨by rw[<-d1.length];exact q1.1,fun p hp=>?_⟩⟩;exact k ds G1 q1.2 p vs _ (g1.trans (.fresh hp)) (r1.fresh hp) (r1.free hp) zb (d1.grow (.fresh hp))
noncomputable abbrev Sp2:=List D->Gp->Q2->Prop
noncomputable def lSp(K:PySem.W.Frag)(sp:Sp2):Sp:=fun vs H Q u0=>∃ ds G R,Dens K H ds vs/\zf K G H/\sp ds G R/\∀ d G',R d G'->∀ v H',zd H H'->zf K G' H'->zM K H' d v->Q v H'
noncomputable def Df(P:Program)(w:World)(K:PySem.W.Frag)(mg:Str->Option Value)(base:Heap)(k:Nat)(x:Str)(ps:List Str)(sp:Sp2):Prop :=
 ∃ f fd,zB1 P w K mg base CX0 k f fd ps (lSp K sp)/\mg x=some (.ref f)/\PySem.W.keepIn K (.ref f)=true/\Binds K fd ps []
noncomputable def zO(sp:Sp2)(t:yj):zi:=fun σ G R=>t σ G fun ds G1=>sp ds G1 R
theorem zw(F:Df X.prog X.w X.K X.mg X.base k x ps sp)(hr:yE k' X.A)(hk:k<=k')(hg:Gl X x)(ha:A2 X (e::es) t)
  (hdb:autoParam ((x==("__debug__":Str))=false) Zq2._auto_1) (he:autoParam (starEach (e::es) X.env=(false,eval e X.env)::starEach es X.env) Zq4._auto_1) (hpl:autoParam ((backTo pos (starEach es X.env)).any (·.1)=false) Zq4._auto_1) :
  E2 X (.Call (.Name x p) (e::es) [] pos) (zO sp t):=by
 obtain⟨f,fd,F,hm,hkp,hb⟩:=F;refine PE.mono (zHH (dvs:=[]) F (hr.mono hk) hg hm hkp hb .nil zMo ha hdb he hpl) ?_;rintro σ1 H Q ⟨σ,G,R,r,q,kk⟩;refine⟨σ,G,_,r,q,fun ds G1 q1 vs H1 g1 r1 d1=>?_⟩;show lSp X.K _ (vs++[]) H1 Q E0;rw[fU];exact⟨ds,G1,R,d1,r1,q1,fun d G' q' v H' g'=>kk d G' q' v H' (g1.trans g')⟩
noncomputable def spL(sp:List D->Gp->(List D->Gp->Prop)->Prop):Sp2:=fun ds G R=>sp ds G fun ls G'=>∀ l,G'.m l=none->R (.adr l) (zS G' l ls)
noncomputable def yQ(sp:List D->Gp->(List D->Gp->Prop)->Prop)(t:yj):TL2:=fun σ G R=>t σ G fun ds G1=>sp ds G1 R
theorem zBt{sp:List D->Gp->(List D->Gp->Prop)->Prop}{t:yj}{k k':Nat}{x:Str}{ps:List Str}(F:Df X.prog X.w X.K X.mg X.base k x ps (spL sp))(hmono:∀ ds G R R',(∀ ls G',R ls G'->R' ls G')->sp ds G R->sp ds G R')(hr:yE k' X.A)(hk:k<=k')(hg:Gl X x)(ha:A2 X (e::es) t)
  (hdb:autoParam ((x==("__debug__":Str))=false) Zq2._auto_1) (he:autoParam (starEach (e::es) X.env=(false,eval e X.env)::starEach es X.env) Zq4._auto_1) (hpl:autoParam ((backTo pos (starEach es X.env)).any (·.1)=false) Zq4._auto_1) :
  F2 X (.Call (.Name x p) (e::es) [] pos) (yQ sp t):=by
 obtain⟨f,fd,F,hm,hkp,hb⟩:=F;refine PE.mono (zHH (dvs:=[]) F (hr.mono hk) hg hm hkp hb .nil zMo ha hdb he hpl) ?_;rintro σ1 H Q ⟨σ,G,R,r,q,kk⟩;refine⟨σ,G,_,r,q,fun ds G1 q1 vs H1 g1 r1 d1=>?_⟩;show lSp X.K _ (vs++[]) H1 Q E0;rw[fU];refine⟨ds,G1,fun d G'=>∃ l ls G0,d=.adr l/\G0.m l=none/\G'=zS G0 l ls/\R ls G0,d1,r1,hmono _ _ _ _ (fun ls G' q l n=>⟨l,ls,G',rfl,n,rfl,q⟩) q1,?_⟩;rintro d G' ⟨l,ls,G0,rfl,n,rfl,q'⟩ v H' g' r' dv;unfold zM at dv;subst dv;obtain⟨xs,e1,e2⟩:=r'.m l ls zG;exact kk ls G0 q' l xs H' (g1.trans g') (r'.sub (.new n)) n e1 e2
section
variable {st:Stmt} {rest:List Stmt} {t u:yd}
noncomputable def yH:yd:=fun E σ G=>E.nx σ G
noncomputable def zU(t u:yd):yd:=fun E σ G=>t { E with nx:=u E } σ G
theorem yR:Ps2 X [] yH:=by
 intro pins s σ1 H E I h;refine zLS pins s σ1 H E I ?_;obtain⟨σ,G,D2,r,q,k⟩:=h;exact k.nx σ G q σ1 H (.refl H) r
theorem zL(h1:P2 X st t)(h2:Ps2 X rest u):Ps2 X (st::rest) (zU t u):=by
 intro pins s σ1 H E I h;refine zJR h1 h2 pins s σ1 H E I ?_;obtain⟨σ,G,D2,r,q,k⟩:=h;refine⟨σ,G,_,r,q,⟨fun σ' G' q' σ1' H' g' r'=>⟨σ',G',D2,r',q',k.to g'⟩,k.bk,k.ct,k.rt⟩⟩
theorem zQ(h1:P2 X st t):Ps2 X [st] t:=zLT h1
noncomputable def zy(te:zi):yd:=fun E σ G=>te σ G E.rt
theorem zv(he:E2 X e te):P2 X (.Return (some e) pos) (zy te):=by
 refine PS.mono (L2.zNR he) ?_;rintro E σ1 H ⟨σ,G,D2,r,q,k⟩;exact⟨σ,G,_,r,q,fun d G' q' v H' g' r' d'=>k.rt d G' q' v H' g' r' d'⟩
noncomputable def ye(te:zi):yd:=fun E σ G=>te σ G fun u0 G1=>E.nx σ G1
theorem zAp(he:E2 X e te)(hs:autoParam (swapsWith e none pos.line X.env=pure false) Zq4._auto_1):P2 X (.Expr e pos) (ye te):=by
 refine PS.mono (L2.zLU he hs) ?_;rintro E σ1 H ⟨σ,G,D2,r,q,k⟩;exact⟨σ,G,_,r,q,fun d G' q' v H' g' r' d'=>k.nx σ G' q' σ1 H' g' (r.to g' r')⟩
noncomputable def xIf(c:TT2)(t u:yd):yd:=fun E σ G=>c σ G fun b G1=>if b=true then t E σ G1 else u E σ G1
theorem zAL{x y:List Stmt}{tc:TT2}(hc:T2 X c tc)(ha:Ps2 X x t)(hb:Ps2 X y u):P2 X (.If c x y pos) (xIf tc t u):=by
 refine PS.mono (L2.zOt hc ha hb) ?_;rintro E σ1 H ⟨σ,G,D2,r,q,k⟩;refine⟨σ,G,_,r,q,fun b G' q' H' g' r'=>?_⟩;cases b with
 | true=>exact⟨σ,G',D2,r.to g' r',q',k.to g'⟩
 | false=>exact⟨σ,G',D2,r.to g' r',q',k.to g'⟩
noncomputable abbrev TG2:=D->S2->Gp->(S2->Gp->Prop)->Prop
noncomputable def lG(K:PySem.W.Frag)(g:TG2):TG:=fun v σ1 H Q=>∃ σ G d R,Rel K σ G σ1 H/\zM K H d v/\g d σ G R/\∀ σ' G',R σ' G'->∀ σ1' H',zd H H'->Rel K σ' G' σ1' H'->Q σ1' H'
noncomputable def G2(X:Cx)(tg:Expr)(g:TG2):Prop:=PG X tg (lG X.K g)
theorem PG.mono{tg:Expr}{t t':TG}(h:PG X tg t)(hm:∀ v σ H Q,t' v σ H Q->t v σ H Q):PG X tg t':=fun pins s σ H v u Q I r q=>h pins s σ H v u Q I r (hm v σ H Q q)
noncomputable def gN(i:Nat):TG2:=fun d σ G R=>R (σ.set i (some d)) G
theorem zAC(i:Nat)(hN:X.N.Nodup)(hi:autoParam (X.N[i]?=some x) Zq4._auto_1)(hx:autoParam (Loc X.env.scope x) Zq6._auto_1)(hf:autoParam (X.fn x=true\/X.env.scope.names.lookup x=some .local) Zq1._auto_1):G2 X (.Name x pos) (gN i):=by
 refine PG.mono (wj hN hi hx hf) ?_;rintro v σ1 H Q ⟨σ,G,d,R,r,dv,q,k⟩;exact k _ G q _ H (.refl H) (r.set i dv)
noncomputable def gNN(i j:Nat):TG2:=fun d σ G R=>match d with | .tup [a,b]=>R ((σ.set i (some a)).set j (some b)) G | _=>False
theorem zO6(i j:Nat)(hc:X.calm=true)(hN:X.N.Nodup)(hi:autoParam (X.N[i]?=some x) Zq4._auto_1)(hj:autoParam (X.N[j]?=some y) Zq4._auto_1)(hx:autoParam (Loc X.env.scope x) Zq6._auto_1)(hy:autoParam (Loc X.env.scope y) Zq6._auto_1)
  (hf:autoParam (X.fn x=true\/X.env.scope.names.lookup x=some .local) Zq1._auto_1) (hf':autoParam (X.fn y=true\/X.env.scope.names.lookup y=some .local) Zq1._auto_1) :
  G2 X (.Tuple [.Name x px,.Name y py] kk pos) (gNN i j):=by
 refine PG.mono (zGR (n:=2) hc (zAZ (wj hN hi hx hf) (zAZ (wj hN hj hy hf') zEx))) ?_;rintro v σ1 H Q ⟨σ,G,d,R,r,dv,q,k⟩;unfold gNN at q;split at q
 ·rename_i d1 d2
  unfold zM at dv;obtain⟨a,xs,rfl,hs,hd⟩:=dv;unfold Dens at hd;obtain⟨x1,r1,rfl,h1,hd⟩:=hd;unfold Dens at hd;obtain⟨x2,r2,rfl,h2,hd⟩:=hd;unfold Dens at hd;subst hd;exact⟨a,[x1,x2],rfl,hs,rfl,x1,[x2],rfl,x2,[],rfl,rfl,k _ G q _ H (.refl H) ((r.set i h1).set j h2)⟩
 ·exact q.elim
noncomputable def zk(te:zi)(g:TG2):yd:=fun E σ G=>te σ G fun d G1=>g d σ G1 E.nx
theorem zJh{g:TG2}{E:Ends}{σ1:L2.St}{H:Hp}{K:PySem.W.Frag}(h:lS K (zk te g) E σ1 H):zNT (lE K te) (lG K g) E σ1 H:=by
 obtain⟨σ,G,D2,r,q,k⟩:=h;refine⟨σ,G,_,r,q,fun d G' q' v H' g' r' d'=>⟨σ,G',d,_,r.to g' r',d',q',fun σ' G'' q'' σ1' H'' g'' r''=>k.nx σ' G'' q'' σ1' H'' (g'.trans g'') r''⟩⟩
theorem zr(i:Nat)(hN:X.N.Nodup)(he:E2 X e te)(hi:autoParam (X.N[i]?=some x) Zq4._auto_1)(hx:autoParam (Loc X.env.scope x) Zq6._auto_1)(hs:autoParam (swapsWith e (some (.Name x pos')) pos.line X.env=pure false) Zq4._auto_1)(hf:autoParam (X.fn x=true\/X.env.scope.names.lookup x=some .local) Zq1._auto_1) :
  P2 X (.Assign [.Name x pos'] e pos) (zk te (gN i)):=by
 refine PS.mono (L2.zNV hN hi hx he hs hf) fun E σ1 H h=>?_;obtain⟨σ,G,D2,r,q,k⟩:=h;refine⟨σ,G,_,r,q,fun d G' q' v H' g' r' d'=>?_⟩;exact k.nx _ G' q' _ H' g' ((r.to g' r').set i d')
theorem zHN{tg:Expr}{g:TG2}(he:E2 X e te)(hg:G2 X tg g)(hs:autoParam (swapsWithSole [tg] e pos.line X.env=pure false) Zq4._auto_1)(hw:autoParam (swappedStores [tg] e X.env=pure none) Zq4._auto_1)
  (h1:autoParam ((assignEach [tg] X.env).map (·.2)=[assign tg X.env]) Zq4._auto_1):P2 X (.Assign [tg] e pos) (zk te g) :=
 PS.mono (L2.zNU he hg hs hw h1) fun u0 u0 u0 h=>zJh h
noncomputable def gIx(to ti:zi):TG2:=fun d σ G R=>to σ G fun o G1=>ti σ G1 fun i G2=>match o,i with
 | .adr l,.int k=>match G2.m l with
  | some ds=>match ixN ds.length k with | some j=>R σ (zS G2 l (ds.set j d)) | none=>False
  | none=>False
 | _,_=>False
theorem zO7(ho:E2 X o to)(hi:E2 X i ti)
  (ha:autoParam (∀ v,assign (.Subscript o i pos) X.env v=(do
   let ov <-holding [v] (eval o X.env);let iv <-holding [v,ov] (eval i X.env)
   standAt pos
   holding [v,ov,iv] (setItem ov iv v)
   release [v,ov,iv] [])) Zq3._auto_1):G2 X (.Subscript o i pos) (gIx to ti):=by
 refine PG.mono (zJS ho hi set_list ha) ?_;rintro v σ1 H Q ⟨σ,G,d,R,r,dv,q,k⟩;refine⟨σ,G,_,r,q,fun dx G1 q1 x H1 g1 r1 d1=>⟨σ,G1,_,r.to g1 r1,q1,fun dy G2' q2 y H2 g2 r2 d2=>?_⟩⟩;cases dx with
 | adr l =>
  cases dy with
  | int j =>
   dsimp only at q2;cases e1:G2'.m l with
   | none=>rw[e1] at q2;exact q2.elim
   | some ds =>
    rw[e1] at q2;dsimp only at q2;cases e2:ixN ds.length j with
    | none=>rw[e2] at q2;exact q2.elim
    | some jj =>
     rw[e2] at q2;dsimp only at q2;have d1':=d1.grow g2;unfold zM at d1' d2;subst d1' d2;obtain⟨xs,h1,h2⟩:=r2.m l ds e1;refine⟨l,xs,j,jj,rfl,rfl,h1,by rw[<-h2.length];exact e2,?_⟩;have g3:zd H2 (yT H2 l (.lst (xs.set jj v))):=.lst h1;exact k _ _ q2 _ _ ((g1.trans g2).trans g3) ((r.to (g1.trans g2) r2).to g3 (r2.put h1 (h2.set jj (dv.grow (g1.trans g2)))))
  | _=>exact q2.elim
 | _=>exact q2.elim
end
end
noncomputable abbrev TI2:=S2->Gp->(List D->(Gp->Prop)->Gp->Prop)->Prop
structure Walk (K:PySem.W.Frag) (H0:Hp) (ds:List D) (gd:Gp->Prop) (J:It):Prop where
 go:∀ i G H,gd G->zf K G H->zd H0 H->i<ds.length->J.go i H
 stop:∀ G H,gd G->zf K G H->zd H0 H->J.stop ds.length H
 yld:∀ i G H x H',gd G->zf K G H->zd H0 H->i<ds.length->J.yld i H x H'->zd H H'/\zf K G H'/\∃ d,ds[i]?=some d/\zM K H' d x
noncomputable def lI(K:PySem.W.Frag)(wi:TI2):TI:=fun σ1 H R=>∃ σ G R2,Rel K σ G σ1 H/\wi σ G R2/\∀ ds gd G',R2 ds gd G'->∀ J H',zd H H'->zf K G' H'->Walk K H' ds gd J->ds.length<=sizeLine->R J H'
noncomputable def I2(X:Cx)(tg iter:Expr)(wi:TI2):Prop:=PI X tg iter (lI X.K wi)
theorem PI.mono(h:PI X tg iter t)(hm:∀ σ H R,t' σ H R->t σ H R):PI X tg iter t':=fun pins s σ H R I q=>h pins s σ H R I (hm σ H R q)
section
variable {X:Cx} {tg:Expr} {a b c e o l iter elt:Expr} {es:List Expr} {pos p:Pos} {ta tb te:zi}
theorem zJi(hl:PE X l tl):PI X tg l (fun σ H R=>tl σ H fun x H1=>∃ a xs,x=.ref a/\((SqL X.K H1 a xs/\(xs.length<=sizeLine->R (Itl X.K a) H1))\/(SqT X.K H1 a xs/\(xs.length<=sizeLine->R (Itt X.K a) H1)))):=by
 intro pins s σ H R I h;refine yq (hl pins s σ H _ I h) fun v s1 u9=>?_;obtain⟨x,H1,I1,r1,q1⟩:=u9;obtain⟨a,xs,e,q⟩:=q1;subst e;cases r1;have fpk:∀ b∈[s1.heap.objs.size],zBf X pins H1 b:=fun b hb=>by
  have e:b=s1.heap.objs.size:=by simpa using hb
  subst e;exact I1.fpOk (da _) (I1.hok.fresh (da _))
 rcases q with ⟨hq,q⟩ | ⟨hq,q⟩
 ·obtain⟨its,rv,p,hz⟩:=I1.list hq
  refine wpAny_pyIter_list p.isList ?_;exact⟨s1.heap.objs.size,[s1.heap.objs.size],_,_,H1,rfl,I1.kept (t':=s1.toks) fun b o e=>cP _ e,zH9 a _,⟨_,d9 _ rfl,rfl,rfl⟩,fpk,q hz⟩
 ·obtain⟨its,rv,p,hz⟩:=I1.tuple hq
  refine wpAny_pyIter_tuple (show s1.heap.IsTuple a its.toArray from p) ?_;exact⟨s1.heap.objs.size,[s1.heap.objs.size],_,_,H1,rfl,I1.kept (t':=s1.toks) fun b o e=>cP _ e,zGS a _,⟨_,d9 _ rfl,rfl,rfl⟩,fpk,q hz⟩
theorem zER{K:PySem.W.Frag}{H0:Hp}{a:Addr}{ds:List D}:Walk K H0 ds (fun G=>Ls G a ds) (Itl K a) where
 go:=fun i G H g r u0 hi=>by
  obtain⟨xs,h1,h2⟩:=r.sq g;exact⟨xs,xs[i]'(by rw[<-h2.length];exact hi),h1,by simp⟩
 stop:=fun G H g r u0=>by
  obtain⟨xs,h1,h2⟩:=r.sq g;exact⟨xs,h1,Nat.le_of_eq h2.length.symm⟩
 yld:=fun i G H x H' g r u0 hi y=>by
  obtain⟨xs,h1,h2⟩:=r.sq g;obtain⟨e,y⟩:=y;subst e;obtain⟨d,e1,e2⟩:=h2.got (y xs h1);exact⟨.refl _,r,d,e1,e2⟩
theorem zJj{K:PySem.W.Frag}{H0:Hp}{a:Addr}{xs:List V}{ds:List D}(h:SqT K H0 a xs)(hd:Dens K H0 ds xs):Walk K H0 ds (fun u0=>True) (Itt K a) where
 go:=fun i G H u0 r g hi=>⟨xs,xs[i]'(by rw[<-hd.length];exact hi),g.sqT h,by simp⟩
 stop:=fun G H u0 r g=>⟨xs,g.sqT h,Nat.le_of_eq hd.length.symm⟩
 yld:=fun i G H x H' u0 r g hi y=>by
  obtain⟨e,y⟩:=y;subst e;obtain⟨d,e1,e2⟩:=(hd.grow g).got (y xs (g.sqT h));exact⟨.refl _,r,d,e1,e2⟩
noncomputable def yM(lo:Int)(n:Nat):List D:=(dq n).map fun(k:Nat)=>D.int (lo+(k:Int))
theorem yy(lo:Int)(n:Nat):(yM lo n).length=n:=by simp[yM]
theorem zDT{lo:Int}{n i:Nat}(h:i<n):(yM lo n)[i]?=some (.int (lo+i)):=by simp[yM,h]
theorem zDU{K:PySem.W.Frag}{H0:Hp}{lo:Int}{n:Nat}:Walk K H0 (yM lo n) (fun u0=>True) (Itr lo n) where
 go:=fun i G H u0 u0 u0 hi=>by rw[yy] at hi;exact hi
 stop:=fun G H u0 u0 u0=>by rw[yy];exact da _
 yld:=fun i G H x H' u0 r u0 hi y=>by
  rw[yy] at hi;obtain⟨e,rfl⟩:=y;subst e;exact⟨.refl _,r,_,zDT hi,by unfold zM;rfl⟩
noncomputable def iV(t:zi):TI2:=fun σ G R=>t σ G fun d G1=>match d with
 | .tup ds=>R ds (fun u0=>True) G1
 | .adr a=>∃ ds,Ls G1 a ds/\R ds (fun G=>Ls G a ds) G1
 | _=>False
theorem zCu(h:E2 X l ta):I2 X tg l (iV ta):=by
 refine PI.mono (zJi h) ?_;rintro σ1 H R ⟨σ,G,R2,r,q,k⟩;refine⟨σ,G,_,r,q,fun d G1 q1 v H1 g1 r1 d1=>?_⟩;cases d with
 | tup ds =>
  unfold zM at d1;obtain⟨a,xs,rfl,h1,h2⟩:=d1;exact⟨a,xs,rfl,.inr ⟨h1,fun hz=>k ds _ G1 q1 _ H1 g1 r1 (zJj h1 h2) (by rw[h2.length];exact hz)⟩⟩
 | adr a =>
  unfold zM at d1;subst d1;obtain⟨ds,e,q1⟩:=q1;obtain⟨xs,h1,h2⟩:=r1.sq e;exact⟨a,xs,rfl,.inl ⟨h1,fun hz=>k ds _ G1 q1 _ H1 g1 r1 zER (by rw[h2.length];exact hz)⟩⟩
 | _=>exact q1.elim
noncomputable def iF(t:TL2):TI2:=fun σ G R=>t σ G fun ds G1=>∀ a,G1.m a=none->R ds (fun G=>Ls G a ds) (zS G1 a ds)
theorem zMq(h:F2 X l t):I2 X tg l (iF t):=by
 refine PI.mono (zJi h) ?_;rintro σ1 H R ⟨σ,G,R2,r,q,k⟩;refine⟨σ,G,_,r,q,fun ds G1 q1 a xs H1 g1 r1 n e1 d1=>?_⟩;exact⟨a,xs,rfl,.inl ⟨.of e1,fun hz=>k ds _ _ (q1 a n) _ H1 g1 (r1.own e1 d1) zER (by rw[d1.length];exact hz)⟩⟩
noncomputable def iR1(t:yj):TI2:=fun σ G R=>t σ G fun ds G1=>match ds with | [.int j]=>(-1000000<=j/\j<=1000000)/\R (yM 0 j.toNat) (fun u0=>True) G1 | _=>False
noncomputable def iR2(t:yj):TI2:=fun σ G R=>t σ G fun ds G1=>match ds with | [.int i,.int j]=>((-1000000<=i/\i<=1000000)/\-1000000<=j/\j<=1000000)/\R (yM i (j-i).toNat) (fun u0=>True) G1 | _=>False
theorem wH(hg:Gl X "range")(hm:X.mg "range"=none)(ha:A2 X [a] t)(hs:autoParam (starEach [a] X.env=[(false,eval a X.env)]) Zq4._auto_1):I2 X tg (.Call (.Name "range" p) [a] [] pos) (iR1 t):=by
 refine PI.mono (zIA hg hm ha hs) ?_;rintro σ1 H R ⟨σ,G,R2,r,q,k⟩;refine⟨σ,G,_,r,q,fun ds G1 q1 vs H1 g1 r1 d1=>?_⟩;split at q1
 ·rename_i j
  unfold Dens at d1;obtain⟨x,r',rfl,d1,d2⟩:=d1;unfold zM at d1;unfold Dens at d2;subst d1 d2;refine⟨j,rfl,by omega,by omega,k _ _ G1 q1.2 _ H1 g1 r1 zDU ?_⟩;rw[yy,sizeLine_eq];omega
 ·exact q1.elim
theorem zFa(hg:Gl X "range")(hm:X.mg "range"=none)(ha:A2 X [a,b] t)(hs:autoParam (starEach [a,b] X.env=[(false,eval a X.env),(false,eval b X.env)]) Zq4._auto_1)(hs2:autoParam (starEach [b] X.env=[(false,eval b X.env)]) Zq4._auto_1):I2 X tg (.Call (.Name "range" p) [a,b] [] pos) (iR2 t):=by
 refine PI.mono (zIB hg hm ha hs hs2) ?_;rintro σ1 H R ⟨σ,G,R2,r,q,k⟩;refine⟨σ,G,_,r,q,fun ds G1 q1 vs H1 g1 r1 d1=>?_⟩;split at q1
 ·rename_i i j
  unfold Dens at d1;obtain⟨x,r',rfl,d1,d2⟩:=d1;unfold Dens at d2;obtain⟨y,r',rfl,d2,d3⟩:=d2;unfold zM at d1 d2;unfold Dens at d3;subst d1 d2 d3;refine⟨i,j,rfl,⟨by omega,by omega,by omega,by omega⟩,k _ _ G1 q1.2 _ H1 g1 r1 zDU ?_⟩;rw[yy,sizeLine_eq];omega
 ·exact q1.elim
structure wk (σ σ':S2):Prop where
 len:σ.length=σ'.length
 val:∀(i:Nat) d,σ[i]?=some (some d)->σ'[i]?=some (some d)
theorem wk.refl(σ:S2):wk σ σ:=⟨rfl,fun u0 u0 h=>h⟩
noncomputable def Fg(P:S2->Gp->Prop):S2->Gp->Prop:=fun σ G=>∃ σ' G',wk σ' σ/\Sub G' G/\P σ' G'
theorem Fg.of(h:P σ G):Fg P σ G:=⟨σ,G,.refl σ,.refl G,h⟩
theorem Rel.sub{K:PySem.W.Frag}{σ σ':S2}{G G':Gp}{σ1:L2.St}{H:Hp}(r:Rel K σ G σ1 H)(s:wk σ' σ)(g:Sub G' G):Rel K σ' G' σ1 H :=
 ⟨r.g.sub g,s.len.trans r.len,fun i d e=>r.val i d (s.val i d e)⟩
noncomputable def zO8(wi:TI2)(g:TG2)(tb:yd):yd:=fun E σ G=>wi σ G fun ds gd G1=>∃ Pv:Nat->S2->Gp->Prop,Pv 0 σ G1/\(∀ i σ G,i<=ds.length->Pv i σ G->gd G) /\
 (∀ i x σ G,ds[i]?=some x->Pv i σ G->g x σ G fun σ2 G2=>tb { E with nx:=Fg (Pv (i+1)),ct:=Fg (Pv (i+1)),bk:=E.nx } σ2 G2)/\∀ σ G,Pv ds.length σ G->E.nx σ G
theorem zO9{wi:TI2}{g:TG2}{tb:yd}{body:List Stmt}(hp:PassesOwn (model X.prog X.w) X.A X.env X.xe)(hc:X.calm=true)(hi:I2 X tg iter wi)(hg:G2 X tg g)(hb:Ps2 X body tb)
  (hs:autoParam (∀ x,foldedSetIterable iter X.env x=pure x) Zq3._auto_1):P2 X (.For tg iter body [] pos) (zO8 wi g tb):=by
 refine PS.mono (L2.zNX hp hc hi hg hb hs) ?_;rintro E σ1 H ⟨σ,G,D2,r,q,k⟩;refine⟨σ,G,_,r,q,fun ds gd G1 q1 J H1 g1 r1 W hz=>?_⟩;obtain⟨Pv,p0,pg,pt,pd⟩:=q1;refine⟨fun i m σ1' H'=>m=ds.length-i/\i<=ds.length/\zd H1 H'/\∃ σ' G',Rel X.K σ' G' σ1' H'/\Pv i σ' G',⟨ds.length,by simp,eY _,.refl _,σ,G1,r.to g1 r1,p0⟩,?_⟩;rintro i m σ1' H' ⟨rfl,hi',g',σ',G',r',p'⟩;have gd':=pg i σ' G' hi' p';by_cases hlt:i<ds.length
 ·refine .inr ⟨W.go i G' H' gd' r'.g g' hlt,fun σ1'' H''=>zd H1 H''/\∃ σ'' G'',Rel X.K σ'' G'' σ1'' H''/\Pv (i+1) σ'' G'',fun σ1'' H'' ⟨a1,σ'',G'',a2,a3⟩=>⟨ds.length-(i+1),by omega,rfl,hlt,a1,σ'',G'',a2,a3⟩,fun x H'' y=>?_⟩
  obtain⟨gy,ry,d,e1,e2⟩:=W.yld i G' H' x H'' gd' r'.g g' hlt y
  replace g':=g'.trans gy
  refine⟨σ',G',d,_,r'.to gy ry,e2,pt i d σ' G' e1 p',fun σ2 G2 q2 σ12 H2 g2 r2=>⟨σ2,G2,_,r2,q2,?_⟩⟩;have back:∀ σ3 G3,Fg (Pv (i+1)) σ3 G3->∀ σ13 H3,zd H2 H3->Rel X.K σ3 G3 σ13 H3->zd H1 H3/\∃ σ'' G'',Rel X.K σ'' G'' σ13 H3/\Pv (i+1) σ'' G'':=by
   rintro σ3 G3 ⟨σ4,G4,a1,a2,a3⟩ σ13 H3 g3 r3;exact⟨(g'.trans g2).trans g3,σ4,G4,r3.sub a1 a2,a3⟩
  exact⟨back,fun σ3 G3 q3 σ13 H3 g3 r3=>k.nx σ3 G3 q3 σ13 H3 (((g1.trans g').trans g2).trans g3) r3,back,fun d3 G3 q3 v3 H3 g3 r3 dv=>k.rt d3 G3 q3 v3 H3 (((g1.trans g').trans g2).trans g3) r3 dv⟩
 ·have e:i=ds.length:=by omega
  subst e;exact .inl ⟨W.stop G' H' gd' r'.g g',k.nx σ' G' (pd σ' G' p') σ1' H' (g1.trans g') r'⟩
noncomputable def FgG(P:Gp->Prop):Gp->Prop:=fun G=>∃ G',Sub G' G/\P G'
theorem FgG.of(h:P G):FgG P G:=⟨G,.refl G,h⟩
noncomputable def yV(wi:TI2)(bd:D->Option (List D))(tc:TT2)(te:zi):TL2:=fun σ G R=>wi σ G fun ds gd G1=>∀ A,G1.m A=none->∃ Pv:Nat->List D->Gp->Prop,Pv 0 [] (zS G1 A [])/\(∀ i acc G,i<=ds.length->Pv i acc G->gd G/\G.m A=some acc/\acc.length<=i) /\
 (∀ i x acc G,ds[i]?=some x->Pv i acc G->match bd x with
  | some us=>tc (σ++us.map some) G fun b G3=>if b=true then te (σ++us.map some) G3 fun d G4=>G4.m A=some acc/\FgG (Pv (i+1) (acc++[d])) (zS G4 A (acc++[d])) else FgG (Pv (i+1) acc) G3
  | none=>False)/\∀ acc G,Pv ds.length acc G->∃ G',G'.m A=none/\Sub G' G/\R acc G'
noncomputable def Ts2(X:Cx)(ifs:List Expr)(t:TT2):Prop:=PTs X ifs (lT X.K t)
noncomputable def zD9:TT2:=fun u0 G R=>R true G
theorem zGZ:Ts2 X [] zD9:=by
 intro pins s σ1 H Q I h;refine zLj pins s σ1 H Q I ?_;obtain⟨σ,G,R,r,q,k⟩:=h;exact k true G q H (.refl H) r.g
theorem zBu(h:T2 X c t):Ts2 X [c] t:=zLk h
theorem Rel.app{K:PySem.W.Frag}{σ:S2}{G:Gp}{σ1:L2.St}{H:Hp}(r:Rel K σ G σ1 H){ds:List D}{vs:List V}(h:Dens K H ds vs):Rel K (σ++ds.map some) G (σ1++vs.map some) H :=
 ⟨r.g,by simp[r.len,h.length],fun i d e=>by
  by_cases hi:i<σ.length
  ·rw[eC hi] at e
   obtain⟨v,e1,e2⟩:=r.val i d e;exact⟨v,by rw[eC (by rw[<-r.len];exact hi)];exact e1,e2⟩
  ·rw[em (by omega),eU] at e
   cases q:ds[i-σ.length]? with
   | none=>rw[q] at e;cases e
   | some d' =>
    rw[q] at e;cases e;obtain⟨v,e1,e2⟩:=h.get q;exact⟨v,by rw[em (by rw[<-r.len];omega),eU,<-r.len,e1];rfl,e2⟩⟩
theorem zBT{K:PySem.W.Frag}{wi:TI2}{bd:D->Option (List D)}{tc:TT2}{te:zi}{n:Nat}{g:TG}{N:Nat}
  (hb:∀(σ1:L2.St) (H:Hp) (d:D) (v:V) (us:List D) (Q:L2.St->Hp->Prop),σ1.length=N->zM K H d v->bd d=some us->us.length=n->(∀ vs,Dens K H us vs->Q (σ1++vs.map some) H)->g v (σ1++dF n none) H Q)
  (hn:∀ d us,bd d=some us->us.length=n)
  {σ1:L2.St} {H:Hp} {Q:VK} (hl:σ1.length=N) (h:lL K (yV wi bd tc te) σ1 H Q):zJe n (lI K wi) g (lT K tc) (lE K te) σ1 H Q:=by
 obtain⟨σ,G,R,r,q,k⟩:=h;refine⟨σ,G,_,r,q,fun ds gd G1 q1 J H1 g1 r1 W hz A hA=>?_⟩;obtain⟨Pv,p0,pg,pt,pd⟩:=q1 A (r1.free hA);refine⟨fun i m H2=>m=ds.length-i/\i<=ds.length/\zd H1 H2/\∃ as G2,zf K G2 H2/\Pv i as G2,⟨ds.length,by simp,eY _,.fresh hA,[],zS G1 A [],r1.new hA .nil,p0⟩,?_⟩;rintro i m H2 ⟨rfl,hi',g2,as,G2,r2,p2⟩;obtain⟨gd2,al,hlen⟩:=pg i as G2 hi' p2;by_cases hlt:i<ds.length
 ·refine .inr ⟨W.go i G2 H2 gd2 r2 g2 hlt,fun x H3 y=>?_⟩
  obtain⟨gy,ry,d,e3,dv⟩:=W.yld i G2 H2 x H3 gd2 r2 g2 hlt y
  replace g2:=g2.trans gy
  replace r2:=ry
  have q3:=pt i d as G2 e3 p2;cases eb:bd d with
  | none=>rw[eb] at q3;exact q3.elim
  | some us =>
   rw[eb] at q3;dsimp only at q3;have hus:=hn d us eb;refine hb σ1 H3 d x us _ hl dv eb hus fun vs hv=>⟨?_,?_,?_⟩
   ·rw[List.take_append_of_le_length (da _),gE]
   ·rw[dO,db,<-hv.length,hus]
   ·have rr:Rel K (σ++us.map some) G2 (σ1++vs.map some) H3:=(r.to (g1.trans g2) r2).app hv
    refine⟨σ++us.map some,G2,_,rr,q3,fun b G4 q4 H4 g4 r4=>?_⟩;cases b with
    | false =>
     obtain⟨G5,s5,p5⟩:=q4;exact⟨ds.length-(i+1),by omega,rfl,hlt,g2.trans g4,as,G5,r4.sub s5,p5⟩
    | true =>
     refine⟨σ++us.map some,G4,_,rr.to g4 r4,q4,fun d5 G5 q5 v H5 g5 r5 d5v=>?_⟩;obtain⟨a5,G6,s6,p6⟩:=q5;obtain⟨acc,e6,d6⟩:=r5.m A as a5;refine⟨acc,e6,by rw[<-d6.length];omega,ds.length-(i+1),by omega,rfl,hlt,((g2.trans g4).trans g5).trans (.lst e6),as++[d5],G6,?_,p6⟩;exact(r5.put e6 (d6.append (.cons d5v .nil))).sub s6
 ·have e:i=ds.length:=by omega
  subst e;obtain⟨G',n',s',q'⟩:=pd as G2 p2;obtain⟨acc,e6,d6⟩:=r2.m A as al;exact .inl ⟨W.stop G2 H2 gd2 r2 g2,k as G' q' A acc H2 (g1.trans g2) (r2.sub s') n' e6 d6⟩
noncomputable def bd1:D->Option (List D):=fun d=>some [d]
noncomputable def bd2:D->Option (List D):=fun d=>match d with | .tup [a,b]=>some [a,b] | _=>none
section
variable {ifs:List Expr} {sc:Scope} {N0:List Str} {wi:TI2} {tc:TT2}
theorem PE.at{t t':TE}(h:PE X e t)(hm:∀ σ H Q,σ.length=X.N.length->t' σ H Q->t σ H Q):PE X e t':=fun pins s σ H Q I q=>h pins s σ H Q I (hm σ H Q I.len q)
theorem PS.at{st:Stmt}{t t':TS}(h:PS X st t)(hm:∀ E σ H,σ.length=X.N.length->t' E σ H->t E σ H):PS X st t':=fun pins s σ H E I q=>h pins s σ H E I (hm E σ H I.len q)
theorem zFb(s t:List (Option V))(x:Option V):List.set (s++t) (List.length s) x=s++t.set 0 x:=by
 rw[List.set_append_right _ _ (da _),Nat.sub_self]
theorem zJk(s t:List (Option V))(x:Option V):List.set (s++t) (List.length s+1) x=s++t.set 1 x:=by
 rw[List.set_append_right _ _ (show s.length<=s.length+1 by omega),Nat.add_sub_cancel_left]
theorem bind1{K:PySem.W.Frag}{N:Nat}(σ1:L2.St)(H:Hp)(d:D)(v:V)(us:List D)(Q:L2.St->Hp->Prop)(hl:σ1.length=N)(dv:zM K H d v)(eb:bd1 d=some us)(hus:us.length=1)(h:∀ vs,Dens K H us vs->Q (σ1++vs.map some) H):zBB N v (σ1++dF 1 none) H Q:=by
 cases eb;have:=h [v] (.cons dv .nil);show Q (List.set (σ1++[none]) N (some v)) H;rw[<-hl,zFb];exact this
theorem zMr{K:PySem.W.Frag}{N:Nat}(σ1:L2.St)(H:Hp)(d:D)(v:V)(us:List D)(Q:L2.St->Hp->Prop)(hl:σ1.length=N)(dv:zM K H d v)(eb:bd2 d=some us)(hus:us.length=2)(h:∀ vs,Dens K H us vs->Q (σ1++vs.map some) H):zLX K 2 (zDK (zBB N) (zDK (zBB (N+1)) zLW)) v (σ1++dF 2 none) H Q:=by
 unfold bd2 at eb;split at eb
 ·rename_i d1 d2
  cases eb;unfold zM at dv;obtain⟨a,xs,rfl,hs,hd⟩:=dv;have hd0:=hd;unfold Dens at hd;obtain⟨x1,r1,rfl,h1,hd⟩:=hd;unfold Dens at hd;obtain⟨x2,r2,rfl,h2,hd⟩:=hd;unfold Dens at hd;subst hd;refine⟨a,[x1,x2],rfl,hs,rfl,x1,[x2],rfl,x2,[],rfl,rfl,?_⟩;have:=h [x1,x2] hd0;rw[<-hl];have e1:List.set (σ1++dF 2 none) (List.length σ1) (some x1)=σ1++[some x1,none]:=zFb σ1 _ _;rw[e1,zJk];exact this
 ·cases eb
theorem zLm(x:Str)(hc:X.calm=true)(T:zBr X sc N0)(hi:I2 X (.Name x px) iter wi)
  (hnd:(N0++[x]).Nodup) (hx:(relabel sc X.env).names.lookup x=some .local)
  (ht:∀ C s H fp pins,Ts2 (X.comp (N0++[x]) sc C s H fp pins) ifs tc) (he:∀ C s H fp pins,E2 (X.comp (N0++[x]) sc C s H fp pins) elt te)
  (hs:autoParam (∀ x,foldedSetIterable iter X.env x=pure x) Zq3._auto_1):F2 X (.ListComp elt [⟨.Name x px,iter,ifs,0⟩] sc pos) (yV wi bd1 tc te):=by
 refine PE.at (zHL (own:=[x]) (g:=zBB X.N.length) (tc:=lT X.K tc) (te:=lE X.K te) hc T hi (fun C s H fp pins=>wj (X:=X.comp (N0++[x]) sc C s H fp pins) hnd (by
  show(N0++[x])[X.N.length]?=some x;rw[<-T.len];simp) (.inl hx) (.inr hx)) ht he hs) fun σ H Q hl h=>?_
 exact zBT (n:=1) (N:=X.N.length) bind1 (fun d us e=>by cases e;rfl) hl h
theorem zLn(x y:Str)(hc:X.calm=true)(T:zBr X sc N0)(hi:I2 X (.Tuple [.Name x px,.Name y py] kk pt) iter wi)
  (hnd:(N0++[x,y]).Nodup) (hx:(relabel sc X.env).names.lookup x=some .local) (hy:(relabel sc X.env).names.lookup y=some .local)
  (ht:∀ C s H fp pins,Ts2 (X.comp (N0++[x,y]) sc C s H fp pins) ifs tc) (he:∀ C s H fp pins,E2 (X.comp (N0++[x,y]) sc C s H fp pins) elt te)
  (hs:autoParam (∀ x,foldedSetIterable iter X.env x=pure x) Zq3._auto_1):F2 X (.ListComp elt [⟨.Tuple [.Name x px,.Name y py] kk pt,iter,ifs,0⟩] sc pos) (yV wi bd2 tc te):=by
 refine PE.at (zHL (own:=[x,y]) (g:=zLX X.K 2 (zDK (zBB X.N.length) (zDK (zBB (X.N.length+1)) zLW))) (tc:=lT X.K tc) (te:=lE X.K te) hc T hi (fun C s H fp pins=>?_) ht he hs) fun σ H Q hl h=>?_
 ·have e1:(X.comp (N0++[x,y]) sc C s H fp pins).N[X.N.length]?=some x:=by
   show(N0++[x,y])[X.N.length]?=some x;rw[<-T.len];simp
  have e2:(X.comp (N0++[x,y]) sc C s H fp pins).N[X.N.length+1]?=some y:=by
   show(N0++[x,y])[X.N.length+1]?=some y;rw[<-T.len];simp
  exact zGR (X:=X.comp (N0++[x,y]) sc C s H fp pins) (n:=2) hc (zAZ (wj hnd e1 (.inl hx) (.inr hx)) (zAZ (wj hnd e2 (.inl hy) (.inr hy)) zEx))
 ·refine zBT (n:=2) (N:=X.N.length) zMr (fun d us e=>?_) hl h
  unfold bd2 at e;split at e<;>first | (cases e;rfl) | (cases e;done)
noncomputable def zBF(i:Nat)(t:TL2):yd:=fun E σ G=>t σ G fun ds G'=>∀ l,G'.m l=none->E.nx (σ.set i (some (.adr l))) (zS G' l ds)
theorem zGa(i:Nat)(x:Str)(hc:X.calm=true)(T:zBr X sc N0)(hi:I2 X (.Name x px) iter wi)
  (hnd:(N0++[x]).Nodup) (hx:(relabel sc X.env).names.lookup x=some .local)
  (ht:∀ C s H fp pins,Ts2 (X.comp (N0++[x]) sc C s H fp pins) ifs tc) (he:∀ C s H fp pins,E2 (X.comp (N0++[x]) sc C s H fp pins) elt te)
  (hN:X.N.Nodup) (hy:X.N[i]?=some y) (hl:X.env.scope.names.lookup y=some .local)
  (hsw:swapsWith (.ListComp elt [⟨.Name x px,iter,ifs,0⟩] sc pos) (some (.Name y py)) spos.line X.env=pure true)
  (hs:autoParam (∀ x,foldedSetIterable iter X.env x=pure x) Zq3._auto_1):P2 X (.Assign [.Name y py] (.ListComp elt [⟨.Name x px,iter,ifs,0⟩] sc pos) spos) (zBF i (yV wi bd1 tc te)):=by
 refine PS.at (zDP (own:=[x]) (g:=zBB X.N.length) (tc:=lT X.K tc) (te:=lE X.K te) hc T hi (fun C s H fp pins=>wj (X:=X.comp (N0++[x]) sc C s H fp pins) hnd (by
  show(N0++[x])[X.N.length]?=some x;rw[<-T.len];simp) (.inl hx) (.inr hx)) ht he hN hy hl hsw hs) fun E σ1 H hl h=>?_
 obtain⟨σ,G,D2,r,q,k⟩:=h;refine zBT (n:=1) (N:=X.N.length) bind1 (fun d us e=>by cases e;rfl) hl ⟨σ,G,_,r,q,fun ds G' q' l xs H' g' r' n e d=>?_⟩;exact k.nx _ _ (q' l n) _ H' g' ((r.to g' (r'.own e d)).set i (by unfold zM;rfl))
end
end
section
variable {X:Cx} {a b c e o:Expr} {es:List Expr} {pos p:Pos} {ta tb te:zi}
noncomputable def zJl(ta tb:zi):zi:=fun σ G R=>ta σ G fun x G1=>match x with | .bl c=>if c=true then tb σ G1 R else R (.bl false) G1 | _=>False
theorem zMs{op}(h:E2 X a ta):E2 X (.BoolOp op [a] pos) ta:=zNP h
theorem zMt{rest:List Expr}(ha:E2 X a ta)(hb:E2 X (.BoolOp .And (b::rest) pos) tb):E2 X (.BoolOp .And (a::b::rest) pos) (zJl ta tb):=by
 refine PE.mono (zNQ ha hb) ?_;rintro σ1 H Q ⟨σ,G,R,r,q,k⟩;refine⟨σ,G,_,r,q,fun d G1 q1 v H1 g1 r1 d1=>?_⟩;cases d with
 | bl c =>
  unfold zM at d1;refine⟨c,d1,?_⟩;cases c with
  | true=>exact⟨σ,G1,R,r.to g1 r1,q1,fun d G' q' v H' g'=>k d G' q' v H' (g1.trans g')⟩
  | false=>exact k _ G1 q1 _ H1 g1 r1 (by unfold zM;rfl)
 | _=>exact q1.elim
theorem zDV(h:E2 X e te)(he:autoParam (∀ whole,isTrue e X.env whole=(do let v <-whole;standAt e.pos;holding [v] (truthy v))) Zq3._auto_1):T2 X e (xB te):=by
 refine PT.mono (zNL h he) ?_;rintro σ1 H Q ⟨σ,G,R,r,q,k⟩;refine⟨σ,G,_,r,q,fun d G1 q1 v H1 g1 r1 d1=>?_⟩;cases d with
 | bl c =>
  unfold zM at d1;exact⟨c,d1,k _ G1 q1 H1 g1 r1⟩
 | _=>exact q1.elim
section
variable {t u:TT2} {rest:List Expr}
noncomputable def W2(X:Cx)(e:Expr)(t:TT2):Prop:=PW X e (lT X.K t)
theorem W2.test(h:W2 X e t):T2 X e t:=PW.pt h
noncomputable def zB4(t u:TT2):TT2:=fun σ G R=>t σ G fun c G1=>if c=true then u σ G1 R else R false G1
noncomputable def zB5(t u:TT2):TT2:=fun σ G R=>t σ G fun c G1=>if c=true then R true G1 else u σ G1 R
noncomputable def zA7(t:TT2):TT2:=fun σ G R=>t σ G fun c G1=>R (!c) G1
theorem PW.mono{t t':TT}(h:PW X e t)(hm:∀ σ H Q,t' σ H Q->t σ H Q):PW X e t':=fun w pins s σ H Q I q=>h w pins s σ H Q I (hm σ H Q q)
theorem zNs(ha:T2 X a t):W2 X (.BoolOp .And [a] pos) t:=zLR ha
theorem zJm(ha:T2 X a t):W2 X (.BoolOp .Or [a] pos) t:=zNM ha
theorem w_and(ha:T2 X a t)(hb:W2 X (.BoolOp .And (b::rest) pos) u):W2 X (.BoolOp .And (a::b::rest) pos) (zB4 t u):=by
 refine PW.mono (zNN ha hb) ?_;rintro σ1 H Q ⟨σ,G,R,r,q,k⟩;refine⟨σ,G,_,r,q,fun c G1 q1 H1 g1 r1=>?_⟩;cases c with
 | true=>exact⟨σ,G1,R,r.to g1 r1,q1,fun b G' q' H' g'=>k b G' q' H' (g1.trans g')⟩
 | false=>exact k _ G1 q1 H1 g1 r1
theorem w_or(ha:T2 X a t)(hb:W2 X (.BoolOp .Or (b::rest) pos) u):W2 X (.BoolOp .Or (a::b::rest) pos) (zB5 t u):=by
 refine PW.mono (zOp ha hb) ?_;rintro σ1 H Q ⟨σ,G,R,r,q,k⟩;refine⟨σ,G,_,r,q,fun c G1 q1 H1 g1 r1=>?_⟩;cases c with
 | true=>exact k _ G1 q1 H1 g1 r1
 | false=>exact⟨σ,G1,R,r.to g1 r1,q1,fun b G' q' H' g'=>k b G' q' H' (g1.trans g')⟩
theorem zJn(ha:T2 X a t):T2 X (.UnaryOp .Not a pos) (zA7 t):=by
 refine PT.mono (zNO ha) ?_;rintro σ1 H Q ⟨σ,G,R,r,q,k⟩;exact⟨σ,G,_,r,q,fun c G1 q1 H1 g1 r1=>k _ G1 q1 H1 g1 r1⟩
end
theorem zJo(ha:E2 X a ta)(hb:E2 X b tb):E2 X (.BinOp a .Sub b pos) (zY (fII fun i j=>.int (i-j)) ta tb):=zGY zNc (zDS fun u0 u0=>⟨rfl,rfl⟩) ha hb
theorem zCg(ha:E2 X a ta)(hb:E2 X b tb):E2 X (.BinOp a .Mult b pos) (zY (wF zD8 fun i j=>.int (i*j)) ta tb):=zGY zNd (zC9 fun u0 u0=>⟨rfl,rfl⟩) ha hb
theorem zGb(ha:E2 X a ta)(hb:E2 X b tb):E2 X (.BinOp a .FloorDiv b pos) (zY (wF zJW fun i j=>.int (i / j)) ta tb):=zGY zLY (zC9 fun u0 u0=>⟨rfl,rfl⟩) ha hb
theorem zES(ha:E2 X a ta)(hb:E2 X b tb):E2 X (.BinOp a .Mod b pos) (zY (wF (fun u0 j=>0<j) fun i j=>.int (i%j)) ta tb):=zGY zNe (zC9 fun u0 u0=>⟨rfl,rfl⟩) ha hb
theorem zMu(ha:E2 X a ta)(hb:E2 X b tb):E2 X (.BinOp a .Pow b pos) (zY (wF zID fun i j=>.int (i ^ j.toNat)) ta tb):=zGY zNf (zC9 fun u0 u0=>⟨rfl,rfl⟩) ha hb
theorem zP6(ha:E2 X a ta)(hb:E2 X b tb):T2 X (.Compare a [.Lt] [b] pos) (xB (zY (fII fun i j=>.bl (decide (i<j))) ta tb)):=zB3 zOw (zDS fun u0 u0=>⟨rfl,rfl⟩) ha hb (zBC _)
theorem zPA(ha:E2 X a ta)(hb:E2 X b tb):T2 X (.Compare a [.Gt] [b] pos) (xB (zY (fII fun i j=>.bl (decide (j<i))) ta tb)):=zB3 zOx (zDS fun u0 u0=>⟨rfl,rfl⟩) ha hb (zBC _)
theorem zP7(ha:E2 X a ta)(hb:E2 X b tb):T2 X (.Compare a [.GtE] [b] pos) (xB (zY (fII fun i j=>.bl (decide (j<=i))) ta tb)):=zB3 zOy (zDS fun u0 u0=>⟨rfl,rfl⟩) ha hb (zBC _)
mutual
noncomputable def wN:D->D->Bool
 | .non,.non=>true
 | .bl a,.bl b=>a==b
 | .int a,.int b=>a==b
 | .bl a,.int b=>(if a then 1 else 0)==b
 | .int a,.bl b=>a==(if b then 1 else 0)
 | .str a,.str b=>a==b
 | .tup a,.tup b=>eqDs a b
 | _,_=>false
noncomputable def eqDs:List D->List D->Bool
 | [],[]=>true
 | x::xs,y::ys=>wN x y&&eqDs xs ys
 | _,_=>false
end
noncomputable def flat:Nat->D->Bool
 | _,.non=>true
 | _,.bl _=>true
 | _,.int _=>true
 | _,.str _=>true
 | _,.adr _=>false
 | _,.dic _=>false
 | 0,.tup _=>false
 | n+1,.tup ds=>ds.all (flat n)
theorem zDW:∀(xs ys:List D),eqDs xs ys=((dq (min xs.length ys.length)).all (fun j=>wN (xs.getD j .non) (ys.getD j .non))&&xs.length==ys.length)
 | [],[]=>by simp[eqDs]
 | [],y::ys=>by simp[eqDs]
 | x::xs,[]=>by simp[eqDs]
 | x::xs,y::ys=>by
  unfold eqDs;rw[zDW xs ys];have e1:min (x::xs).length (y::ys).length=min xs.length ys.length+1:=by simp only[cW];omega
  rw[e1,List.range_succ_eq_map,List.all_cons,List.all_map];have e2:((x::xs).length==(y::ys).length)=(xs.length==ys.length):=by
   rw[eD];simp
  rw[e2,Bool.and_assoc];rfl
mutual
theorem zDX:∀ d:D,(∀ n,flat n d=true->wN d d=true)
 | .non,_,_=>rfl
 | .bl b,_,_=>by show(b==b)=true;simp
 | .int b,_,_=>by show(b==b)=true;simp
 | .str b,_,_=>by show(b==b)=true;simp
 | .adr _,n,h=>by cases n<;>simp[flat] at h
 | .dic _,n,h=>by cases n<;>simp[flat] at h
 | .tup ds,0,h=>by simp[flat] at h
 | .tup ds,n+1,h=>by
  show eqDs ds ds=true;exact eqDs_refl ds n (by simpa[flat] using h)
theorem eqDs_refl:∀ ds:List D,(∀ n,(∀ d∈ds,flat n d=true)->eqDs ds ds=true)
 | [],_,_=>rfl
 | d::ds,n,h=>by
  show(wN d d&&eqDs ds ds)=true;rw[zDX d n (h d dH),eqDs_refl ds n fun x hx=>h x (dC _ hx)];rfl
end
section
variable {pins:List (Addr×Obj)} {σ1:L2.St} {H:Hp} {s:Shared}
mutual
theorem zM.inj(I:zP X pins σ1 H s):∀ {d d':D} {v:V} {n n':Nat},zM X.K H d v->zM X.K H d' v->flat n d=true->flat n' d'=true->d=d' 
 | .non,d',v,n,n',h,h',f,f'=>by
  unfold zM at h;subst h;cases d' with
  | tup _=>unfold zM at h';obtain⟨u0,u0,e,u0⟩:=h';cases e
  | dic _=>unfold zM at h';cases h'.1
  | _=>unfold zM at h';first | rfl | cases h'
 | .bl b,d',v,n,n',h,h',f,f'=>by
  unfold zM at h;subst h;cases d' with
  | tup _=>unfold zM at h';obtain⟨u0,u0,e,u0⟩:=h';cases e
  | dic _=>unfold zM at h';cases h'.1
  | _=>unfold zM at h';first | cases h';rfl | cases h'
 | .int b,d',v,n,n',h,h',f,f'=>by
  unfold zM at h;subst h;cases d' with
  | tup _=>unfold zM at h';obtain⟨u0,u0,e,u0⟩:=h';cases e
  | dic _=>unfold zM at h';cases h'.1
  | _=>unfold zM at h';first | cases h';rfl | cases h'
 | .str b,d',v,n,n',h,h',f,f'=>by
  unfold zM at h;subst h;cases d' with
  | tup _=>unfold zM at h';obtain⟨u0,u0,e,u0⟩:=h';cases e
  | dic _=>unfold zM at h';cases h'.1
  | _=>unfold zM at h';first | cases h';rfl | cases h'
 | .adr _,d',v,n,n',h,h',f,f'=>by cases n<;>simp[flat] at f
 | .dic _,d',v,n,n',h,h',f,f'=>by cases n<;>simp[flat] at f
 | .tup ds,d',v,n,n',h,h',f,f'=>by
  unfold zM at h;obtain⟨a,xs,rfl,hs,hd⟩:=h;cases d' with
  | tup ds' =>
   unfold zM at h';obtain⟨a',xs',e,hs',hd'⟩:=h';cases e;have:=I.tuple_inj hs hs';subst this;cases n with
   | zero=>simp[flat] at f
   | succ n =>
    cases n' with
    | zero=>simp[flat] at f'
    | succ n'=>rw[Dens.inj I hd hd' (by simpa[flat] using f) (by simpa[flat] using f')]
  | adr _=>cases n'<;>simp[flat] at f'
  | dic _=>cases n'<;>simp[flat] at f'
  | _=>unfold zM at h';cases h'
theorem Dens.inj(I:zP X pins σ1 H s):∀ {ds ds':List D} {xs:List V} {n n':Nat},Dens X.K H ds xs->Dens X.K H ds' xs->(∀ d∈ds,flat n d=true)->(∀ d∈ds',flat n' d=true)->ds=ds'
 | [],ds',xs,n,n',h,h',f,f'=>by
  unfold Dens at h;subst h;cases ds' with
  | nil=>rfl
  | cons _ _=>unfold Dens at h';obtain⟨u0,u0,e,u0⟩:=h';cases e
 | d::ds,ds',xs,n,n',h,h',f,f'=>by
  unfold Dens at h;obtain⟨x,r,rfl,h1,h2⟩:=h;cases ds' with
  | nil=>unfold Dens at h';cases h'
  | cons d' ds' =>
   unfold Dens at h';obtain⟨x',r',e,h1',h2'⟩:=h';cases e;rw[zM.inj I h1 h1' (f d dH) (f' d' dH),Dens.inj I h2 h2' (fun z hz=>f z (dC _ hz)) fun z hz=>f' z (dC _ hz)]
end
theorem in1_units{A:Around}:A.in1.units=A.units+1:=rfl
theorem zJp(I:zP X pins σ1 H s):∀(n:Nat) (d d':D) (v v':V) (u u':Value) (A:Around),zM X.K H d v->zM X.K H d' v'->RelV v u->RelV v' u'->flat n d=true->flat n d'=true->A.units+n<cLine->SeqAt.EqAt A s u u' (wN d d'):=by
 intro n
 induction n with
 | zero =>
  intro d d' v v' u u' A h h' r r' f f' hu;have fv:∀ {d:D} {v:V},flat 0 d=true->zM X.K H d v->zHK v=true/\v=vOf d:=fun {d v} f h=>by
   cases d<;>first | (simp[flat] at f;done) | (unfold zM at h;subst h;exact⟨rfl,rfl⟩)
  obtain⟨f1,e1⟩:=fv f h;obtain⟨f2,e2⟩:=fv f' h';have q:=zJb (A:=A) (s:=s) r r' f1 f2;have e:eqV v v'=wN d d':=by
   rw[e1,e2];cases d<;>first | (simp[flat] at f;done) | (cases d'<;>first | (simp[flat] at f';done) | rfl)
  rw[<-e];exact q
 | succ n ih =>
  intro d d' v v' u u' A h h' r r' f f' hu;by_cases hs:flat 0 d=true/\flat 0 d'=true
  ·have fv:∀ {d:D} {v:V},flat 0 d=true->zM X.K H d v->zHK v=true/\v=vOf d:=fun {d v} f h=>by
    cases d<;>first | (simp[flat] at f;done) | (unfold zM at h;subst h;exact⟨rfl,rfl⟩)
   obtain⟨f1,e1⟩:=fv hs.1 h;obtain⟨f2,e2⟩:=fv hs.2 h';have q:=zJb (A:=A) (s:=s) r r' f1 f2;have e:eqV v v'=wN d d':=by
    rw[e1,e2];cases d<;>first | (simp[flat] at hs;done) | (cases d'<;>first | (simp[flat] at hs;done) | rfl)
   rw[<-e];exact q
  ·have hu0:A.units<cLine:=by omega
   cases d with
   | tup ds =>
    unfold zM at h;obtain⟨a,xs,rfl,hsq,hd⟩:=h;cases r;obtain⟨its,rv,tp,u0⟩:=I.tuple hsq;have tp':s.heap.IsTuple a its.toArray:=tp;cases d' with
    | tup ds' =>
     unfold zM at h';obtain⟨a',xs',rfl,hsq',hd'⟩:=h';cases r';obtain⟨its',rv',tp2,u0⟩:=I.tuple hsq';by_cases ha:a=a'
     ·subst ha
      have:=I.tuple_inj hsq hsq';subst this;have hds:ds=ds':=Dens.inj I hd hd' (by simpa[flat] using f) (by simpa[flat] using f');subst hds;have e:wN (.tup ds) (.tup ds)=true:=zDX _ _ f;rw[e];exact SeqAt.EqAt.same _
     ·have q:=SeqAt.EqAt.of_refs ha (SeqAt.RcAt.tuples (A:=A) (s:=s) (e:=fun j=>wN (ds.getD j .non) (ds'.getD j .non)) tp' (show s.heap.IsTuple a' its'.toArray from tp2) hu0 fun j h1 h2=>by
       have h1':j<its.length:=by simpa using h1
       have h2':j<its'.length:=by simpa using h2
       have l1:=hd.length;have l2:=rv.length;have l3:=hd'.length;have l4:=rv'.length;obtain⟨x,ex,dx⟩:=hd.get (i:=j) (d:=ds[j]'(by omega)) (by simp);obtain⟨y,ey,dy⟩:=hd'.get (i:=j) (d:=ds'[j]'(by omega)) (by simp);obtain⟨ux,eux,rx⟩:=rv.get ex;obtain⟨uy,euy,ry⟩:=rv'.get ey;have e1:its.toArray[j]=ux:=by
        have:=(di.mp eux).2;simpa using this
       have e2:its'.toArray[j]=uy:=by
        have:=(di.mp euy).2;simpa using this
       have g1:ds.getD j .non=ds[j]'(by omega):=by simp[gc,(show j<ds.length by omega)]
       have g2:ds'.getD j .non=ds'[j]'(by omega):=by simp[gc,(show j<ds'.length by omega)]
       rw[e1,e2];show SeqAt.EqAt A.in1 s ux uy (wN (ds.getD j .non) (ds'.getD j .non));rw[g1,g2];refine ih _ _ x y ux uy A.in1 dx dy rx ry ?_ ?_ (by rw[in1_units];omega)
       ·have:∀ d∈ds,flat n d=true:=by simpa[flat] using f
        exact this _ (fH _)
       ·have:∀ d∈ds',flat n d=true:=by simpa[flat] using f'
        exact this _ (fH _))
      have e:wN (.tup ds) (.tup ds')=((dq (min its.toArray.size its'.toArray.size)).all (fun j=>wN (ds.getD j .non) (ds'.getD j .non))&&its.toArray.size==its'.toArray.size):=by
       show eqDs ds ds'=_;rw[zDW];simp[hd.length,rv.length,hd'.length,rv'.length]
      rw[e];exact q
    | adr _=>simp[flat] at f'
    | dic _=>simp[flat] at f'
    | non=>unfold zM at h';subst h';cases r';exact SeqAt.EqAt.tuple_none tp' hu0
    | bl _=>unfold zM at h';subst h';cases r';exact SeqAt.EqAt.tuple_bool _ tp' hu0
    | int _=>unfold zM at h';subst h';obtain⟨t,rfl⟩:=r';exact SeqAt.EqAt.tuple_int _ _ tp' hu0
    | str _=>unfold zM at h';subst h';obtain⟨t,rfl⟩:=r';exact SeqAt.EqAt.tuple_str _ _ tp' hu0
   | adr _=>simp[flat] at f
   | dic _=>simp[flat] at f
   | non =>
    cases d' with
    | tup ds' =>
     unfold zM at h h';subst h;cases r;obtain⟨a',xs',rfl,hsq',hd'⟩:=h';cases r';obtain⟨its',rv',tp2,u0⟩:=I.tuple hsq';exact SeqAt.EqAt.none_tuple (show s.heap.IsTuple a' its'.toArray from tp2) hu0
    | adr _=>simp[flat] at f'
    | dic _=>simp[flat] at f'
    | _=>exact absurd ⟨rfl,rfl⟩ hs
   | bl _ =>
    cases d' with
    | tup ds' =>
     unfold zM at h h';subst h;cases r;obtain⟨a',xs',rfl,hsq',hd'⟩:=h';cases r';obtain⟨its',rv',tp2,u0⟩:=I.tuple hsq';exact SeqAt.EqAt.bool_tuple _ (show s.heap.IsTuple a' its'.toArray from tp2) hu0
    | adr _=>simp[flat] at f'
    | dic _=>simp[flat] at f'
    | _=>exact absurd ⟨rfl,rfl⟩ hs
   | int _ =>
    cases d' with
    | tup ds' =>
     unfold zM at h h';subst h;obtain⟨t,rfl⟩:=r;obtain⟨a',xs',rfl,hsq',hd'⟩:=h';cases r';obtain⟨its',rv',tp2,u0⟩:=I.tuple hsq';exact SeqAt.EqAt.int_tuple _ _ (show s.heap.IsTuple a' its'.toArray from tp2) hu0
    | adr _=>simp[flat] at f'
    | dic _=>simp[flat] at f'
    | _=>exact absurd ⟨rfl,rfl⟩ hs
   | str _ =>
    cases d' with
    | tup ds' =>
     unfold zM at h h';subst h;obtain⟨t,rfl⟩:=r;obtain⟨a',xs',rfl,hsq',hd'⟩:=h';cases r';obtain⟨its',rv',tp2,u0⟩:=I.tuple hsq';exact SeqAt.EqAt.str_tuple _ _ (show s.heap.IsTuple a' its'.toArray from tp2) hu0
    | adr _=>simp[flat] at f'
    | dic _=>simp[flat] at f'
    | _=>exact absurd ⟨rfl,rfl⟩ hs
end
end
section
variable {X:Cx} {pins:List (Addr×Obj)} {σ1:L2.St} {H:Hp} {s:Shared} {A:Around}
theorem zDA(I:zP X pins σ1 H s)(hd:Dens X.K H ds xs)(hd':Dens X.K H ds' xs')(rv:zW xs its)(rv':zW xs' its')
  (f:∀ d∈ds,flat n d=true) (f':∀ d∈ds',flat n d=true) (hu:A.units+n<cLine) (j:Nat) (h1:j<its.toArray.size) (h2:j<its'.toArray.size) :
  SeqAt.EqAt A s its.toArray[j] its'.toArray[j] (wN (ds.getD j .non) (ds'.getD j .non)):=by
 have h1':j<its.length:=by simpa using h1
 have h2':j<its'.length:=by simpa using h2
 have l1:=hd.length;have l2:=rv.length;have l3:=hd'.length;have l4:=rv'.length;obtain⟨x,ex,dx⟩:=hd.get (i:=j) (d:=ds[j]'(by omega)) (by simp);obtain⟨y,ey,dy⟩:=hd'.get (i:=j) (d:=ds'[j]'(by omega)) (by simp);obtain⟨ux,eux,rx⟩:=rv.get ex;obtain⟨uy,euy,ry⟩:=rv'.get ey;have e1:its.toArray[j]=ux:=by
  have:=(di.mp eux).2;simpa using this
 have e2:its'.toArray[j]=uy:=by
  have:=(di.mp euy).2;simpa using this
 have g1:ds.getD j .non=ds[j]'(by omega):=by simp[gc,(show j<ds.length by omega)]
 have g2:ds'.getD j .non=ds'[j]'(by omega):=by simp[gc,(show j<ds'.length by omega)]
 rw[e1,e2,g1,g2];exact zJp I n _ _ x y ux uy A dx dy rx ry (f _ (fH _)) (f' _ (fH _)) hu
theorem zAq(h:ds.length=n)(h':ds'.length=n'):eqDs ds ds'=((dq (min n n')).all (fun j=>wN (ds.getD j .non) (ds'.getD j .non))&&n==n'):=by
 rw[zDW,h,h']
theorem zNt(I:zP X pins σ1 H s)(h:zM X.K H d v)(h':zM X.K H d' v')(r:RelV v u)(r':RelV v' u')(f:flat n d=true)(f':flat n d'=true)(hu:A.units+n+1<cLine) :
  SeqAt.RcAt A s u u' (wN d d'):=by
 have hu0:A.units<cLine:=by omega
 have tupI:∀ {d:D} {v:V} {u:Value} {ds:List D},d=.tup ds->zM X.K H d v->RelV v u->∃ a xs its,u=.ref a/\Dens X.K H ds xs/\zW xs its/\s.heap.IsTuple a its.toArray:=fun {d v u ds} e h r=>by
  subst e;unfold zM at h;obtain⟨a,xs,rfl,hs,hd⟩:=h;cases r;obtain⟨its,rv,tp,u0⟩:=I.tuple hs;exact⟨a,xs,its,rfl,hd,rv,tp⟩
 cases d with
 | tup ds =>
  obtain⟨a,xs,its,rfl,hd,rv,tp⟩:=tupI rfl h r;cases d' with
  | tup ds' =>
   obtain⟨a',xs',its',rfl,hd',rv',tp'⟩:=tupI rfl h' r';cases n with
   | zero=>simp[flat] at f
   | succ n =>
    have q:=SeqAt.RcAt.tuples (A:=A) (s:=s) tp tp' hu0 (zDA (A:=A.in1) I hd hd' rv rv' (by simpa[flat] using f) (by simpa[flat] using f') (by rw[in1_units];omega));have e:wN (.tup ds) (.tup ds')=((dq (min its.toArray.size its'.toArray.size)).all (fun j=>wN (ds.getD j .non) (ds'.getD j .non))&&its.toArray.size==its'.toArray.size) :=
     zAq (by simp[hd.length,rv.length]) (by simp[hd'.length,rv'.length])
    rw[e];exact q
  | adr _=>cases n<;>simp[flat] at f'
  | dic _=>cases n<;>simp[flat] at f'
  | non=>unfold zM at h';subst h';cases r';exact SeqAt.RcAt.tuple_none tp hu0
  | bl _=>unfold zM at h';subst h';cases r';exact SeqAt.RcAt.tuple_bool _ tp hu0
  | int _=>unfold zM at h';subst h';obtain⟨t,rfl⟩:=r';exact SeqAt.RcAt.tuple_int _ _ tp hu0
  | str _=>unfold zM at h';subst h';obtain⟨t,rfl⟩:=r';exact SeqAt.RcAt.tuple_str _ _ tp hu0
 | adr _=>cases n<;>simp[flat] at f
 | dic _=>cases n<;>simp[flat] at f
 | non =>
  unfold zM at h;subst h;cases r;cases d' with
  | tup ds'=>obtain⟨a',xs',its',rfl,hd',rv',tp'⟩:=tupI rfl h' r';exact SeqAt.RcAt.none_tuple tp' hu0
  | adr _=>cases n<;>simp[flat] at f'
  | dic _=>cases n<;>simp[flat] at f'
  | non=>unfold zM at h';subst h';cases r';exact SeqAt.RcAt.none_none
  | bl _=>unfold zM at h';subst h';cases r';exact SeqAt.RcAt.none_bool _
  | int _=>unfold zM at h';subst h';obtain⟨t,rfl⟩:=r';exact SeqAt.RcAt.none_int _ _
  | str _=>unfold zM at h';subst h';obtain⟨t,rfl⟩:=r';exact SeqAt.RcAt.none_str _ _
 | bl _ =>
  unfold zM at h;subst h;cases r;cases d' with
  | tup ds'=>obtain⟨a',xs',its',rfl,hd',rv',tp'⟩:=tupI rfl h' r';exact SeqAt.RcAt.bool_tuple _ tp' hu0
  | adr _=>cases n<;>simp[flat] at f'
  | dic _=>cases n<;>simp[flat] at f'
  | non=>unfold zM at h';subst h';cases r';exact SeqAt.RcAt.bool_none _
  | bl _=>unfold zM at h';subst h';cases r';exact SeqAt.RcAt.bool_bool _ _
  | int _=>unfold zM at h';subst h';obtain⟨t,rfl⟩:=r';exact SeqAt.RcAt.bool_int _ _ _
  | str _=>unfold zM at h';subst h';obtain⟨t,rfl⟩:=r';exact SeqAt.RcAt.bool_str _ _ _
 | int _ =>
  unfold zM at h;subst h;obtain⟨t,rfl⟩:=r;cases d' with
  | tup ds'=>obtain⟨a',xs',its',rfl,hd',rv',tp'⟩:=tupI rfl h' r';exact SeqAt.RcAt.int_tuple _ _ tp' hu0
  | adr _=>cases n<;>simp[flat] at f'
  | dic _=>cases n<;>simp[flat] at f'
  | non=>unfold zM at h';subst h';cases r';exact SeqAt.RcAt.int_none _ _
  | bl _=>unfold zM at h';subst h';cases r';exact SeqAt.RcAt.int_bool _ _ _
  | int _=>unfold zM at h';subst h';obtain⟨t,rfl⟩:=r';exact SeqAt.RcAt.int_int _ _ _ _
  | str _=>unfold zM at h';subst h';obtain⟨t,rfl⟩:=r';exact SeqAt.RcAt.int_str _ _ _ _
 | str _ =>
  unfold zM at h;subst h;obtain⟨t,rfl⟩:=r;cases d' with
  | tup ds'=>obtain⟨a',xs',its',rfl,hd',rv',tp'⟩:=tupI rfl h' r';exact SeqAt.RcAt.str_tuple _ _ tp' hu0
  | adr _=>cases n<;>simp[flat] at f'
  | dic _=>cases n<;>simp[flat] at f'
  | non=>unfold zM at h';subst h';cases r';exact SeqAt.RcAt.str_none _ _
  | bl _=>unfold zM at h';subst h';cases r';exact SeqAt.RcAt.str_bool _ _ _
  | int _=>unfold zM at h';subst h';obtain⟨t,rfl⟩:=r';exact SeqAt.RcAt.str_int _ _ _ _
  | str _=>unfold zM at h';subst h';obtain⟨t,rfl⟩:=r';exact SeqAt.RcAt.str_str _ _ _ _
theorem zNu(I:zP X pins σ1 H s)(hs:SqL X.K H a xs)(hd:Dens X.K H ds xs)(hs':SqL X.K H a' xs')(hd':Dens X.K H ds' xs')(f:∀ d∈ds,flat n d=true)(f':∀ d∈ds',flat n d=true)(hu:A.units+n+1<cLine) :
  SeqAt.RcAt A s (.ref a) (.ref a') (eqDs ds ds'):=by
 have hu0:A.units<cLine:=by omega
 obtain⟨its,rv,pl,u0⟩:=I.list hs;obtain⟨its',rv',pl',u0⟩:=I.list hs';have e:=zAq (ds:=ds) (ds':=ds') (n:=its.toArray.size) (n':=its'.toArray.size) (by simp[hd.length,rv.length]) (by simp[hd'.length,rv'.length]);by_cases hl:its.toArray.size=its'.toArray.size
 ·have q:=SeqAt.RcAt.lists (A:=A) (s:=s) pl.isList pl'.isList hl hu0 (zDA (A:=A.in1) I hd hd' rv rv' f f' (by rw[in1_units];omega))
  have e':eqDs ds ds'=(dq its.toArray.size).all (fun j=>wN (ds.getD j .non) (ds'.getD j .non)):=by
   rw[e,<-hl];simp
  rw[e'];exact q
 ·have e':eqDs ds ds'=false:=by
   rw[e];have:(its.toArray.size==its'.toArray.size)=false:=by simpa using hl
   rw[this,Bool.and_false]
  rw[e'];exact SeqAt.RcAt.lists_lengths pl.isList pl'.isList (by simpa using hl) hu0
noncomputable def zNv(K:PySem.W.Frag)(ng:Bool):R2:=fun x y H Q=>(∃ d d',zM K H d x/\zM K H d' y/\flat 8 d=true/\flat 8 d'=true/\Q (.bl (if ng then !wN d d' else wN d d')) H) \/
 (∃ a a' xs xs' ds ds',x=.ref a/\y=.ref a'/\SqL K H a xs/\SqL K H a' xs'/\Dens K H ds xs/\Dens K H ds' xs'/\(∀ d∈ds,flat 8 d=true)/\(∀ d∈ds',flat 8 d=true)/\Q (.bl (if ng then !eqDs ds ds' else eqDs ds ds')) H)
theorem zJq(hu:X.A.units+10<cLine):OpR X (compareOp .Eq) (zNv X.K false):=by
 intro pins s σ H x y v u Q I rx ry h;rcases h with ⟨d,d',h1,h2,f1,f2,q⟩ | ⟨a,a',xs,xs',ds,ds',rfl,rfl,h1,h2,h3,h4,f1,f2,q⟩
 ·exact zNt (A:=X.A) I h1 h2 rx ry f1 f2 (by omega) X.prog X.w X.xe _ ⟨.bl _,H,I,rfl,q⟩
 ·cases rx;cases ry
  exact zNu (A:=X.A) I h1 h3 h2 h4 f1 f2 (by omega) X.prog X.w X.xe _ ⟨.bl _,H,I,rfl,q⟩
theorem zNw(I:zP X pins σ1 H s)(h:zM X.K H d v)(h':zM X.K H d' v')(r:RelV v u)(r':RelV v' u')(f:flat n d=true)(f':flat n d'=true)(hu:A.units+n+1<cLine) :
  SeqAt.RcNeAt A s u u' (!wN d d'):=by
 have hu0:A.units<cLine:=by omega
 have tupI:∀ {d:D} {v:V} {u:Value} {ds:List D},d=.tup ds->zM X.K H d v->RelV v u->∃ a xs its,u=.ref a/\Dens X.K H ds xs/\zW xs its/\s.heap.IsTuple a its.toArray:=fun {d v u ds} e h r=>by
  subst e;unfold zM at h;obtain⟨a,xs,rfl,hs,hd⟩:=h;cases r;obtain⟨its,rv,tp,u0⟩:=I.tuple hs;exact⟨a,xs,its,rfl,hd,rv,tp⟩
 cases d with
 | tup ds =>
  obtain⟨a,xs,its,rfl,hd,rv,tp⟩:=tupI rfl h r;cases d' with
  | tup ds' =>
   obtain⟨a',xs',its',rfl,hd',rv',tp'⟩:=tupI rfl h' r';cases n with
   | zero=>simp[flat] at f
   | succ n =>
    have q:=SeqAt.RcNeAt.tuples (A:=A) (s:=s) tp tp' hu0 (zDA (A:=A.in1) I hd hd' rv rv' (by simpa[flat] using f) (by simpa[flat] using f') (by rw[in1_units];omega));have e:wN (.tup ds) (.tup ds')=((dq (min its.toArray.size its'.toArray.size)).all (fun j=>wN (ds.getD j .non) (ds'.getD j .non))&&its.toArray.size==its'.toArray.size) :=
     zAq (by simp[hd.length,rv.length]) (by simp[hd'.length,rv'.length])
    rw[e];exact q
  | adr _=>cases n<;>simp[flat] at f'
  | dic _=>cases n<;>simp[flat] at f'
  | non=>unfold zM at h';subst h';cases r';exact SeqAt.RcNeAt.tuple_none tp hu0
  | bl _=>unfold zM at h';subst h';cases r';exact SeqAt.RcNeAt.tuple_bool _ tp hu0
  | int _=>unfold zM at h';subst h';obtain⟨t,rfl⟩:=r';exact SeqAt.RcNeAt.tuple_int _ _ tp hu0
  | str _=>unfold zM at h';subst h';obtain⟨t,rfl⟩:=r';exact SeqAt.RcNeAt.tuple_str _ _ tp hu0
 | adr _=>cases n<;>simp[flat] at f
 | dic _=>cases n<;>simp[flat] at f
 | non =>
  unfold zM at h;subst h;cases r;cases d' with
  | tup ds'=>obtain⟨a',xs',its',rfl,hd',rv',tp'⟩:=tupI rfl h' r';exact SeqAt.RcNeAt.none_tuple tp' hu0
  | adr _=>cases n<;>simp[flat] at f'
  | dic _=>cases n<;>simp[flat] at f'
  | non=>unfold zM at h';subst h';cases r';exact SeqAt.RcNeAt.none_none
  | bl _=>unfold zM at h';subst h';cases r';exact SeqAt.RcNeAt.none_bool _
  | int _=>unfold zM at h';subst h';obtain⟨t,rfl⟩:=r';exact SeqAt.RcNeAt.none_int _ _
  | str _=>unfold zM at h';subst h';obtain⟨t,rfl⟩:=r';exact SeqAt.RcNeAt.none_str _ _
 | bl _ =>
  unfold zM at h;subst h;cases r;cases d' with
  | tup ds'=>obtain⟨a',xs',its',rfl,hd',rv',tp'⟩:=tupI rfl h' r';exact SeqAt.RcNeAt.bool_tuple _ tp' hu0
  | adr _=>cases n<;>simp[flat] at f'
  | dic _=>cases n<;>simp[flat] at f'
  | non=>unfold zM at h';subst h';cases r';exact SeqAt.RcNeAt.bool_none _
  | bl _=>unfold zM at h';subst h';cases r';exact SeqAt.RcNeAt.bool_bool _ _
  | int _=>unfold zM at h';subst h';obtain⟨t,rfl⟩:=r';exact SeqAt.RcNeAt.bool_int _ _ _
  | str _=>unfold zM at h';subst h';obtain⟨t,rfl⟩:=r';exact SeqAt.RcNeAt.bool_str _ _ _
 | int _ =>
  unfold zM at h;subst h;obtain⟨t,rfl⟩:=r;cases d' with
  | tup ds'=>obtain⟨a',xs',its',rfl,hd',rv',tp'⟩:=tupI rfl h' r';exact SeqAt.RcNeAt.int_tuple _ _ tp' hu0
  | adr _=>cases n<;>simp[flat] at f'
  | dic _=>cases n<;>simp[flat] at f'
  | non=>unfold zM at h';subst h';cases r';exact SeqAt.RcNeAt.int_none _ _
  | bl _=>unfold zM at h';subst h';cases r';exact SeqAt.RcNeAt.int_bool _ _ _
  | int _=>unfold zM at h';subst h';obtain⟨t,rfl⟩:=r';exact SeqAt.RcNeAt.int_int _ _ _ _
  | str _=>unfold zM at h';subst h';obtain⟨t,rfl⟩:=r';exact SeqAt.RcNeAt.int_str _ _ _ _
 | str _ =>
  unfold zM at h;subst h;obtain⟨t,rfl⟩:=r;cases d' with
  | tup ds'=>obtain⟨a',xs',its',rfl,hd',rv',tp'⟩:=tupI rfl h' r';exact SeqAt.RcNeAt.str_tuple _ _ tp' hu0
  | adr _=>cases n<;>simp[flat] at f'
  | dic _=>cases n<;>simp[flat] at f'
  | non=>unfold zM at h';subst h';cases r';exact SeqAt.RcNeAt.str_none _ _
  | bl _=>unfold zM at h';subst h';cases r';exact SeqAt.RcNeAt.str_bool _ _ _
  | int _=>unfold zM at h';subst h';obtain⟨t,rfl⟩:=r';exact SeqAt.RcNeAt.str_int _ _ _ _
  | str _=>unfold zM at h';subst h';obtain⟨t,rfl⟩:=r';exact SeqAt.RcNeAt.str_str _ _ _ _
theorem zNx(I:zP X pins σ1 H s)(hs:SqL X.K H a xs)(hd:Dens X.K H ds xs)(hs':SqL X.K H a' xs')(hd':Dens X.K H ds' xs')(f:∀ d∈ds,flat n d=true)(f':∀ d∈ds',flat n d=true)(hu:A.units+n+1<cLine) :
  SeqAt.RcNeAt A s (.ref a) (.ref a') (!eqDs ds ds'):=by
 have hu0:A.units<cLine:=by omega
 obtain⟨its,rv,pl,u0⟩:=I.list hs;obtain⟨its',rv',pl',u0⟩:=I.list hs';have e:=zAq (ds:=ds) (ds':=ds') (n:=its.toArray.size) (n':=its'.toArray.size) (by simp[hd.length,rv.length]) (by simp[hd'.length,rv'.length]);by_cases hl:its.toArray.size=its'.toArray.size
 ·have q:=SeqAt.RcNeAt.lists (A:=A) (s:=s) pl.isList pl'.isList hl hu0 (zDA (A:=A.in1) I hd hd' rv rv' f f' (by rw[in1_units];omega))
  have e':eqDs ds ds'=(dq its.toArray.size).all (fun j=>wN (ds.getD j .non) (ds'.getD j .non)):=by
   rw[e,<-hl];simp
  rw[e'];exact q
 ·have e':eqDs ds ds'=false:=by
   rw[e];have:(its.toArray.size==its'.toArray.size)=false:=by simpa using hl
   rw[this,Bool.and_false]
  rw[e'];exact SeqAt.RcNeAt.lists_lengths pl.isList pl'.isList (by simpa using hl) hu0
theorem zNy(hu:X.A.units+10<cLine):OpR X (compareOp .NotEq) (zNv X.K true):=by
 intro pins s σ H x y v u Q I rx ry h;rcases h with ⟨d,d',h1,h2,f1,f2,q⟩ | ⟨a,a',xs,xs',ds,ds',rfl,rfl,h1,h2,h3,h4,f1,f2,q⟩
 ·exact zNw (A:=X.A) I h1 h2 rx ry f1 f2 (by omega) X.prog X.w X.xe _ ⟨.bl _,H,I,rfl,q⟩
 ·cases rx;cases ry
  exact zNx (A:=X.A) I h1 h3 h2 h4 f1 f2 (by omega) X.prog X.w X.xe _ ⟨.bl _,H,I,rfl,q⟩
noncomputable def zPB(K:PySem.W.Frag)(ng:Bool):R2:=fun x y H Q=>∃ d ds a xs,zM K H d x/\y=.ref a/\(SqL K H a xs\/SqT K H a xs)/\Dens K H ds xs/\flat 8 d=true/\(∀ z∈ds,flat 8 z=true)/\Q (.bl (if ng then !ds.any fun z=>wN z d else ds.any fun z=>wN z d)) H
theorem zIM{its:List Value}{ds:List D}(g:D->Bool)(hl:its.length=ds.length)(hinj:∀(i j:Nat) (u:Value) (z z':D),its[i]?=some u->its[j]?=some u->ds[i]?=some z->ds[j]?=some z'->z=z') :
  ∃ e:Value->Bool,(∀(j:Nat) (u:Value) (z:D),its[j]?=some u->ds[j]?=some z->e u=g z)/\its.any e=ds.any g:=by
 classical
 have key:∀(j:Nat) (u:Value) (z:D),its[j]?=some u->ds[j]?=some z->decide (∃(j:Nat) (z:D),its[j]?=some u/\ds[j]?=some z/\g z=true)=g z:=by
  intro j u z h1 h2;cases hg:g z with
  | true=>exact decide_eq_true ⟨j,z,h1,h2,hg⟩
  | false =>
   refine decide_eq_false ?_;rintro⟨j',z',h3,h4,h5⟩;rw[hinj j j' u z z' h1 h3 h2 h4,h5] at hg;cases hg
 refine⟨fun u=>decide (∃(j:Nat) (z:D),its[j]?=some u/\ds[j]?=some z/\g z=true),key,?_⟩;rw[eD,List.any_eq_true,List.any_eq_true];constructor
 ·rintro⟨u,hu,he⟩
  obtain⟨j,z,h1,h2,h3⟩:=of_decide_eq_true he;exact⟨z,dS h2,h3⟩
 ·rintro⟨z,hz,hg⟩
  obtain⟨j,hj⟩:=List.getElem?_of_mem hz;have hj':j<ds.length:=(di.mp hj).1;refine⟨its[j]'(by omega),fH _,decide_eq_true ⟨j,z,by simp,hj,hg⟩⟩
theorem zHO(I:zP X pins σ1 H s)(hd:Dens X.K H ds xs)(rv:zW xs its)(h:zM X.K H d v)(r:RelV v u)(f:∀ z∈ds,flat n z=true)(f':flat n d=true)(hu:A.units+n<cLine) :
  ∃ e:Value->Bool,(∀ y,y∈its.toArray->SeqAt.EqAt A s y u (e y))/\its.toArray.any e=ds.any fun z=>wN z d:=by
 have l1:=hd.length;have l2:=rv.length;obtain⟨e,h1,h2⟩:=zIM (its:=its) (ds:=ds) (fun z=>wN z d) (by omega) (by
  intro i j w z z' a1 a2 a3 a4;obtain⟨x,b1,b2⟩:=hd.get a3;obtain⟨x',b3,b4⟩:=hd.get a4;obtain⟨w1,c1,c2⟩:=rv.get b1;obtain⟨w2,c3,c4⟩:=rv.get b3;rw[a1] at c1;cases c1;rw[a2] at c3;cases c3;have:=c2.inj c4;subst this;exact zM.inj I b2 b4 (f z (dS a3)) (f z' (dS a4)))
 refine⟨e,fun y hy=>?_,by simpa using h2⟩;have hy':y∈its:=by simpa using hy
 obtain⟨j,hj⟩:=List.getElem?_of_mem hy';have hjl:j<its.length:=(di.mp hj).1;obtain⟨x,b1,b2⟩:=hd.get (i:=j) (d:=ds[j]'(by omega)) (by simp);obtain⟨w1,c1,c2⟩:=rv.get b1;rw[hj] at c1;cases c1;rw[h1 j _ (ds[j]'(by omega)) hj (by simp)];exact zJp I n _ _ x v _ u A b2 h c2 r (f _ (fH _)) f' hu
theorem zJr(hu:X.A.units+10<cLine):OpR X (compareOp .In) (zPB X.K false):=by
 intro pins s σ H x y v u Q I rx ry h;obtain⟨d,ds,a,xs,h1,rfl,h2,h3,f1,f2,q⟩:=h;cases ry;rcases h2 with h2 | h2
 ·obtain⟨its,rv,pl,u0⟩:=I.list h2
  obtain⟨e,e1,e2⟩:=zHO (A:=X.A.in1) I h3 rv h1 rx f2 f1 (by rw[in1_units];omega);exact SeqAt.in_listAt e pl.isList e1 ⟨.bl _,H,I,rfl,by rw[e2];exact q⟩
 ·obtain⟨its,rv,tp,u0⟩:=I.tuple h2
  obtain⟨e,e1,e2⟩:=zHO (A:=X.A.in1) I h3 rv h1 rx f2 f1 (by rw[in1_units];omega);exact SeqAt.in_tupleAt e (show s.heap.IsTuple a its.toArray from tp) e1 ⟨.bl _,H,I,rfl,by rw[e2];exact q⟩
end
section
variable {X:Cx} {a b c e o:Expr} {es:List Expr} {pos p:Pos} {ta tb te:zi}
noncomputable def fEq(ng:Bool):D->D->Gp->Q2->Prop:=fun x y G R=>match x,y with
 | .adr l,.adr l'=>∃ ds ds',Ls G l ds/\Ls G l' ds'/\(∀ d∈ds,flat 8 d=true)/\(∀ d∈ds',flat 8 d=true)/\R (.bl (if ng then !eqDs ds ds' else eqDs ds ds')) G
 | x,y=>flat 8 x=true/\flat 8 y=true/\R (.bl (if ng then !wN x y else wN x y)) G
theorem zGc{K:PySem.W.Frag}{ng:Bool}:Fit K (zNv K ng) (fEq ng):=by
 intro dx dy G R x y H Q h r d1 d2 k;unfold fEq at h;split at h
 ·rename_i l l'
  obtain⟨ds,ds',e1,e2,f1,f2,h⟩:=h;obtain⟨xs,s1,t1⟩:=r.sq e1;obtain⟨xs',s2,t2⟩:=r.sq e2;unfold zM at d1 d2;exact .inr ⟨l,l',xs,xs',ds,ds',d1,d2,s1,s2,t1,t2,f1,f2,k _ G h _ H (.refl H) r (by unfold zM;rfl)⟩
 ·obtain⟨f1,f2,h⟩:=h
  exact .inl ⟨_,_,d1,d2,f1,f2,k _ G h _ H (.refl H) r (by unfold zM;rfl)⟩
noncomputable def fIn(ng:Bool):D->D->Gp->Q2->Prop:=fun x y G R=>match y with
 | .adr l=>∃ ds,Ls G l ds/\flat 8 x=true/\(∀ d∈ds,flat 8 d=true)/\R (.bl (if ng then !ds.any fun z=>wN z x else ds.any fun z=>wN z x)) G
 | .tup ds=>flat 8 x=true/\(∀ d∈ds,flat 8 d=true)/\R (.bl (if ng then !ds.any fun z=>wN z x else ds.any fun z=>wN z x)) G
 | _=>False
theorem zJs{K:PySem.W.Frag}{ng:Bool}:Fit K (zPB K ng) (fIn ng):=by
 intro dx dy G R x y H Q h r d1 d2 k;unfold fIn at h;split at h
 ·rename_i l
  obtain⟨ds,e1,f1,f2,h⟩:=h;obtain⟨xs,s1,t1⟩:=r.sq e1;unfold zM at d2;exact⟨dx,ds,l,xs,d1,d2,.inl s1,t1,f1,f2,k _ G h _ H (.refl H) r (by unfold zM;rfl)⟩
 ·rename_i ds
  obtain⟨f1,f2,h⟩:=h;unfold zM at d2;obtain⟨l,xs,e,s1,t1⟩:=d2;exact⟨dx,ds,l,xs,d1,e,.inr s1,t1,f1,f2,k _ G h _ H (.refl H) r (by unfold zM;rfl)⟩
 ·exact h.elim
theorem zNz(hr:yE k X.A)(ha:E2 X a ta)(hb:E2 X b tb):E2 X (.Compare a [.Eq] [b] pos) (zY (fEq false) ta tb):=zMp (zJq (by have:=hr.units;omega)) zGc ha hb (zBC _)
theorem zLo(hr:yE k X.A)(ha:E2 X a ta)(hb:E2 X b tb)(hm:autoParam (behindInMarks .In b=false) Zq4._auto_1):E2 X (.Compare a [.In] [b] pos) (zY (fIn false) ta tb):=zMp (zJr (by have:=hr.units;omega)) zJs ha hb hm
theorem zIN(hr:yE k X.A)(ha:E2 X a ta)(hb:E2 X b tb):T2 X (.Compare a [.Eq] [b] pos) (xB (zY (fEq false) ta tb)):=zB3 (zJq (by have:=hr.units;omega)) zGc ha hb (zBC _)
theorem zEA(hr:yE k X.A)(ha:E2 X a ta)(hb:E2 X b tb):T2 X (.Compare a [.NotEq] [b] pos) (xB (zY (fEq true) ta tb)):=zB3 (zNy (by have:=hr.units;omega)) zGc ha hb (zBC _)
theorem zPC(hr:yE k X.A)(ha:E2 X a ta)(hb:E2 X b tb)(hm:autoParam (behindInMarks .In b=false) Zq4._auto_1):T2 X (.Compare a [.In] [b] pos) (xB (zY (fIn false) ta tb)):=zB3 (zJr (by have:=hr.units;omega)) zJs ha hb hm
noncomputable def yr:D->D->Gp->Q2->Prop:=fun x y G R=>match x,y with
 | .adr l,.int k=>∃ ds d,Ls G l ds/\atI ds k=some d/\R d G
 | .tup ds,.int k=>match atI ds k with | some d=>R d G | none=>False
 | _,_=>False
theorem zFc{K:PySem.W.Frag}{H:Hp}{ds:List D}{xs:List V}{k:Int}{d:D}(h:Dens K H ds xs)(e:atI ds k=some d):∃ x,atI xs k=some x/\zM K H d x:=by
 unfold atI at e ⊢;rw[h.length] at e;cases q:ixN xs.length k with
 | none=>rw[q] at e;cases e
 | some j =>
  rw[q] at e;exact h.get e
theorem zN0{K:PySem.W.Frag}:Fit K (fun x y H Q=>zO2 K x y H Q\/zO3 K x y H Q) yr:=by
 intro dx dy G R x y H Q h r d1 d2 k;unfold yr at h;split at h
 ·rename_i l i
  obtain⟨ds,d,e1,e2,h⟩:=h;obtain⟨xs,s1,t1⟩:=r.sq e1;obtain⟨z,e3,t2⟩:=zFc t1 e2;unfold zM at d1 d2;exact .inl ⟨l,xs,i,z,d1,d2,s1,e3,k _ G h _ H (.refl H) r t2⟩
 ·rename_i ds i
  split at h
  ·rename_i d e2
   unfold zM at d1 d2;obtain⟨l,xs,e,s1,t1⟩:=d1;obtain⟨z,e3,t2⟩:=zFc t1 e2;exact .inr ⟨l,xs,i,z,e,d2,s1,e3,k _ G h _ H (.refl H) r t2⟩
  ·exact h.elim
 ·exact h.elim
theorem yU(ha:E2 X a ta)(hb:E2 X b tb)(hs:autoParam (zEy b) Zq7._auto_1):E2 X (.Subscript a b pos) (zY yr ta tb) :=
 PE.mono (zMn (zLf.or zNm) ha hb hs) fun σ1 H Q h=>zFZ zN0 h
noncomputable def zGd(K:PySem.W.Frag)(r:List V->Hp->VK->Prop)(f:Sp2):Prop :=
 ∀ ds G R vs H Q,f ds G R->zf K G H->Dens K H ds vs->(∀ d G',R d G'->∀ v H',zd H H'->zf K G' H'->zM K H' d v->Q v H')->r vs H Q
theorem zET{K:PySem.W.Frag}{r:List V->Hp->VK->Prop}{f:Sp2}{t:yj}(hf:zGd K r f){σ1:L2.St}{H:Hp}{Q:VK}(h:lE K (zO f t) σ1 H Q):tCB r (lA K t) σ1 H Q:=by
 obtain⟨σ,G,R,rl,q,k⟩:=h;exact⟨σ,G,_,rl,q,fun ds G1 q1 vs H1 g1 r1 d1=>hf ds G1 R vs H1 Q q1 r1 d1 fun d G' q' v H' g'=>k d G' q' v H' (g1.trans g')⟩
theorem zE0{id:String}{x:Str}{r:List V->Hp->VK->Prop}{f:Sp2}{t:yj}(hc:yt X (.builtin id) r)(hf:zGd X.K r f)(hg:Gl X x)(hm:X.mg x=none)(hv:bootBuiltins x=some (.builtin id))(ha:A2 X (e::es) t)(hn:autoParam (x≠"__name__") Zq2._auto_1)(hdb:autoParam ((x==("__debug__":Str))=false) Zq2._auto_1)
  (he:autoParam (starEach (e::es) X.env=(false,eval e X.env)::starEach es X.env) Zq4._auto_1) (hpl:autoParam ((backTo pos (starEach es X.env)).any (·.1)=false) Zq4._auto_1):E2 X (.Call (.Name x p) (e::es) [] pos) (zO f t) :=
 PE.mono (zAA hc hg hm hv ha hn hdb he hpl) fun σ1 H Q h=>zET hf h
theorem zFd(hc:yt X (.type T) r)(hf:zGd X.K r f)(hg:Gl X x)(hm:X.mg x=none)(hv:bootBuiltins x=some (.type T))(ha:A2 X (e::es) t)(hn:autoParam (x≠"__name__") Zq2._auto_1)(hdb:autoParam ((x==("__debug__":Str))=false) Zq2._auto_1)
  (he:autoParam (starEach (e::es) X.env=(false,eval e X.env)::starEach es X.env) Zq4._auto_1) (hpl:autoParam ((backTo pos (starEach es X.env)).any (·.1)=false) Zq4._auto_1):E2 X (.Call (.Name x p) (e::es) [] pos) (zO f t) :=
 PE.mono (zCe hc hg hm hv ha hn hdb he hpl) fun σ1 H Q h=>zET hf h
noncomputable def zJt(G:Gp):D->List D->Prop
 | .tup es,ds=>es=ds
 | .adr l,ds=>Ls G l ds
 | _,_=>False
theorem zHP{K:PySem.W.Frag}{G:Gp}{H:Hp}{d:D}{v:V}{ds:List D}(r:zf K G H)(h:zM K H d v)(e:zJt G d ds):∃ l xs,v=.ref l/\(SqL K H l xs\/SqT K H l xs)/\Dens K H ds xs:=by
 cases d with
 | tup _ =>
  have e:_=ds:=e;subst e;unfold zM at h;obtain⟨l,xs,e,s1,t1⟩:=h;exact⟨l,xs,e,.inr s1,t1⟩
 | adr l =>
  unfold zM at h;obtain⟨xs,s1,t1⟩:=r.sq (show Ls G l ds from e);exact⟨l,xs,h,.inl s1,t1⟩
 | _=>exact e.elim
theorem zBh{K:PySem.W.Frag}{H:Hp}{d:D}{vs:List V}(h:Dens K H [d] vs):∃ v,vs=[v]/\zM K H d v:=by
 unfold Dens at h;obtain⟨v,r,e,h1,h2⟩:=h;unfold Dens at h2;subst h2;exact⟨v,e,h1⟩
theorem zPD{K:PySem.W.Frag}{H:Hp}{d d':D}{vs:List V}(h:Dens K H [d,d'] vs):∃ v v',vs=[v,v']/\zM K H d v/\zM K H d' v':=by
 unfold Dens at h;obtain⟨v,r,e,h1,h2⟩:=h;obtain⟨v',e2,h3⟩:=zBh h2;subst e2;exact⟨v,v',e,h1,h3⟩
noncomputable def wB:Sp2:=fun ds G R=>match ds with | [d]=>∃ l,zJt G d l/\R (.int l.length) G | _=>False
theorem zLp:zGd X.K (fun xs H Q=>∃ p ys,xs=[.ref p]/\(SqL X.K H p ys\/SqT X.K H p ys)/\Q (.int ys.length) H) wB:=by
 intro ds G R vs H Q h r d k;unfold wB at h;split at h
 ·rename_i d0
  obtain⟨v,rfl,d1⟩:=zBh d;obtain⟨l,e,h⟩:=h;obtain⟨a,xs,rfl,s1,t1⟩:=zHP r d1 e;exact⟨a,xs,rfl,s1,k _ G h _ H (.refl H) r (by rw[<-t1.length];unfold zM;rfl)⟩
 ·exact h.elim
theorem zB6(hg:Gl X "len")(hm:X.mg "len"=none)(ha:A2 X [e] t)(he:autoParam (starEach [e] X.env=(false,eval e X.env)::starEach [] X.env) Zq4._auto_1)(hpl:autoParam ((backTo pos (starEach [] X.env)).any (·.1)=false) Zq4._auto_1):E2 X (.Call (.Name "len" p) [e] [] pos) (zO wB t):=zE0 zEz zLp hg hm PySem.boot_len ha (by decide) (by decide) he hpl
noncomputable def zAP:Sp2:=fun ds G R=>match ds with | [.int i,.int j]=>R (.int (if j<i then j else i)) G | _=>False
noncomputable def zAe:Sp2:=fun ds G R=>match ds with | [.int i,.int j]=>R (.int (if j>i then j else i)) G | _=>False
theorem zJu{f:Int->Int->Int}{sp:Sp2}(hs:∀ ds G R,sp ds G R->∃ i j,ds=[.int i,.int j]/\R (.int (f i j)) G):zGd X.K (fun xs H Q=>∃ i j,xs=[.int i,.int j]/\Q (.int (f i j)) H) sp:=by
 intro ds G R vs H Q h r d k;obtain⟨i,j,rfl,h'⟩:=hs ds G R h;obtain⟨v,v',rfl,d1,d2⟩:=zPD d;unfold zM at d1 d2;subst d1 d2;exact⟨i,j,rfl,k _ G h' _ H (.refl H) r (by unfold zM;rfl)⟩
theorem zMv(hc:X.calm=true)(hg:Gl X "min")(hm:X.mg "min"=none)(ha:A2 X [e,e'] t)(he:autoParam (starEach [e,e'] X.env=(false,eval e X.env)::starEach [e'] X.env) Zq4._auto_1)(hpl:autoParam ((backTo pos (starEach [e'] X.env)).any (·.1)=false) Zq4._auto_1):E2 X (.Call (.Name "min" p) [e,e'] [] pos) (zO zAP t):=zE0 (zIF hc) (zJu fun ds G R h=>by unfold zAP at h;split at h;exact⟨_,_,rfl,h⟩;exact h.elim) hg hm (by decide +kernel) ha (by decide) (by decide) he hpl
theorem zMw(hc:X.calm=true)(hg:Gl X "max")(hm:X.mg "max"=none)(ha:A2 X [e,e'] t)(he:autoParam (starEach [e,e'] X.env=(false,eval e X.env)::starEach [e'] X.env) Zq4._auto_1)(hpl:autoParam ((backTo pos (starEach [e'] X.env)).any (·.1)=false) Zq4._auto_1):E2 X (.Call (.Name "max" p) [e,e'] [] pos) (zO zAe t):=zE0 (zIE hc) (zJu fun ds G R h=>by unfold zAe at h;split at h;exact⟨_,_,rfl,h⟩;exact h.elim) hg hm (by decide +kernel) ha (by decide) (by decide) he hpl
end
section
variable {X:Cx} {a b c e o:Expr} {es:List Expr} {pos p p2:Pos} {ta tb te to:zi} {tl:TL2}
noncomputable def zLq(K:PySem.W.Frag)(r:List V->Hp->VK->Prop)(g:Sp2):Prop :=
 ∀ ds G R l xs H Q,g ds G R->zf K G H->H l=some (.lst xs)->Dens K H ds xs->(∀ d G',R d G'->∀ v H',zd H H'->zf K G' H'->zM K H' d v->Q v H')->r [.ref l] H Q
noncomputable def yB(g:Sp2)(t:TL2):zi:=fun σ G R=>t σ G fun ds G1=>g ds G1 R
theorem zDY{K:PySem.W.Frag}{r:List V->Hp->VK->Prop}{g:Sp2}(hf:zLq K r g){σ1:L2.St}{H:Hp}{Q:VK}(h:lE K (yB g tl) σ1 H Q):tCB r (zJZ (lL K tl) zNj) σ1 H Q:=by
 obtain⟨σ,G,R,rl,q,k⟩:=h;exact⟨σ,G,_,rl,q,fun ds G1 q1 l xs H1 g1 r1 n e d1=>hf ds G1 R l xs H1 Q q1 r1 e d1 fun d G' q' v H' g'=>k d G' q' v H' (g1.trans g')⟩
theorem zIO(hc:yt X (.type T) r)(hf:zLq X.K r g)(hg:Gl X x)(hm:X.mg x=none)(hv:bootBuiltins x=some (.type T))(ha:F2 X e tl)(hn:autoParam (x≠"__name__") Zq2._auto_1)(hdb:autoParam ((x==("__debug__":Str))=false) Zq2._auto_1)
  (he:autoParam (starEach [e] X.env=(false,eval e X.env)::starEach [] X.env) Zq4._auto_1) (hpl:autoParam ((backTo pos (starEach [] X.env)).any (·.1)=false) Zq4._auto_1):E2 X (.Call (.Name x p) [e] [] pos) (yB g tl) :=
 PE.mono (zCe hc hg hm hv (yP ha wz he) hn hdb he hpl) fun σ1 H Q h=>zDY hf h
theorem zJv{id:String}{x:Str}{r:List V->Hp->VK->Prop}{g:Sp2}(hc:yt X (.builtin id) r)(hf:zLq X.K r g)(hg:Gl X x)(hm:X.mg x=none)(hv:bootBuiltins x=some (.builtin id))(ha:F2 X e tl)(hn:autoParam (x≠"__name__") Zq2._auto_1)(hdb:autoParam ((x==("__debug__":Str))=false) Zq2._auto_1)
  (he:autoParam (starEach [e] X.env=(false,eval e X.env)::starEach [] X.env) Zq4._auto_1) (hpl:autoParam ((backTo pos (starEach [] X.env)).any (·.1)=false) Zq4._auto_1):E2 X (.Call (.Name x p) [e] [] pos) (yB g tl) :=
 PE.mono (zAA hc hg hm hv (yP ha wz he) hn hdb he hpl) fun σ1 H Q h=>zDY hf h
noncomputable def yb:Sp2:=fun ds G R=>R (.tup ds) G
theorem zGe{K:PySem.W.Frag}:zLq K (fun xs H Q=>∃ p ys,xs=[.ref p]/\((SqL K H p ys/\∀ l,H l=none->Q (.ref l) (yT H l (.tup ys)))\/(SqT K H p ys/\Q (.ref p) H))) yb:=by
 intro ds G R l xs H Q h r e d k;refine⟨l,xs,rfl,.inl ⟨.of e,fun l' n=>k _ G h _ _ (.fresh n) (r.fresh n) ?_⟩⟩;unfold zM;exact⟨l',xs,rfl,.of zb,d.grow (.fresh n)⟩
theorem zCh(hg:Gl X "tuple")(hm:X.mg "tuple"=none)(ha:F2 X e tl)(he:autoParam (starEach [e] X.env=(false,eval e X.env)::starEach [] X.env) Zq4._auto_1)(hpl:autoParam ((backTo pos (starEach [] X.env)).any (·.1)=false) Zq4._auto_1) :
  E2 X (.Call (.Name "tuple" p) [e] [] pos) (yB yb tl):=zIO zBg zGe hg hm (by decide +kernel) ha (by decide) (by decide) he hpl
noncomputable def zB7:Sp2:=fun ds G R=>match ds with | [d]=>∃ l,zJt G d l/\R (.tup l) G | _=>False
theorem zIP{K:PySem.W.Frag}:zGd K (fun xs H Q=>∃ p ys,xs=[.ref p]/\((SqL K H p ys/\∀ l,H l=none->Q (.ref l) (yT H l (.tup ys)))\/(SqT K H p ys/\Q (.ref p) H))) zB7:=by
 intro ds G R vs H Q h r d k;unfold zB7 at h;split at h
 ·rename_i d0
  obtain⟨v,rfl,d1⟩:=zBh d;obtain⟨l,e,h⟩:=h;obtain⟨a,xs,rfl,s1,t1⟩:=zHP r d1 e;rcases s1 with s1 | s1
  ·refine⟨a,xs,rfl,.inl ⟨s1,fun l' n=>k _ G h _ _ (.fresh n) (r.fresh n) ?_⟩⟩
   unfold zM;exact⟨l',xs,rfl,.of zb,t1.grow (.fresh n)⟩
  ·refine⟨a,xs,rfl,.inr ⟨s1,k _ G h _ H (.refl H) r ?_⟩⟩
   unfold zM;exact⟨a,xs,rfl,s1,t1⟩
 ·exact h.elim
theorem zHQ(hg:Gl X "tuple")(hm:X.mg "tuple"=none)(ha:A2 X [e] t)(he:autoParam (starEach [e] X.env=(false,eval e X.env)::starEach [] X.env) Zq4._auto_1)(hpl:autoParam ((backTo pos (starEach [] X.env)).any (·.1)=false) Zq4._auto_1) :
  E2 X (.Call (.Name "tuple" p) [e] [] pos) (zO zB7 t):=zFd zBg zIP hg hm (by decide +kernel) ha (by decide) (by decide) he hpl
theorem zCv:∀ {xs:List V} {us:List Value},xs.length=us.length->(∀(i:Nat) (x:V) (u:Value),xs[i]?=some x->us[i]?=some u->RelV x u)->zW xs us
 | [],[],_,_=>.nil
 | [],_::_,h,_=>by cases h
 | _::_,[],h,_=>by cases h
 | x::xs,u::us,h,g=>.cons (g 0 x u rfl rfl) (zCv (by simpa using h) fun i y w e1 e2=>g (i+1) y w (by simpa using e1) (by simpa using e2))
theorem Dens.ints_inv{K:PySem.W.Frag}{H:Hp}:∀ {ns:List Int} {xs:List V},Dens K H (ns.map D.int) xs->xs=ns.map V.int
 | [],xs,h=>by unfold Dens at h;exact h
 | n::r,xs,h=>by
  rw[eA] at h;unfold Dens at h;obtain⟨x,y,rfl,h1,h2⟩:=h;unfold zM at h1;rw[h1,Dens.ints_inv h2];rfl
theorem zIQ(hg:Gl X "range")(hm:X.mg "range"=none)(ha:PA X [a] t)(hs:autoParam (starEach [a] X.env=[(false,eval a X.env)]) Zq4._auto_1) :
  PE X (.Call (.Name "range" p) [a] [] pos) (fun σ H Q=>t σ H fun vs H1=>∃ j:Int,vs=[.int j]/\∀ l,H1 l=none->Q (.ref l) (yT H1 l (.rng 0 j))):=by
 intro pins s σ H Q I h;refine Call_ (zAX I hg hm boot_range (PyProof.Rows.callWith_type1 (yq (ha pos pins s σ H _ I h) fun us s1 ⟨vs,H1,I1,r1,q1⟩=>?_) hs rfl));obtain⟨j,e,q⟩:=q1;subst e;cases r1 with
 | cons r rr =>
  cases rr;obtain⟨t,rfl⟩:=r;refine call_range_1 ?_;have hn:H1 s1.heap.objs.size=none:=I1.hok.fresh (da _);exact⟨.ref s1.heap.objs.size,_,I1.laid (o:=.rng 0 j) (fun b u e=>cP _ e) (da _) ⟨_,_,_,d9 _ rfl⟩,rfl,q _ hn⟩
theorem zGf(hc:X.calm=true):yt X (.type "list") (fun xs H Q=>∃ p j,xs=[.ref p]/\H p=some (.rng 0 j)/\(0<=j/\j<=1000000)/\∀ l,H l=none->Q (.ref l) (yT H l (.lst ((dq j.toNat).map fun(k:Nat)=>V.int k)))):=by
 intro pins s σ H xs us Q I r h;obtain⟨p,j,rfl,hp,⟨h0,h1⟩,q⟩:=h;obtain⟨u,rfl,rx⟩:=vals1 r;cases rx;obtain⟨t1,t2,t3,ho⟩:∃ t u v,s.heap.get? p=some { cls:=.type "range",data:=.fields #[.int 0 t,.int j u,.int 1 v] }:=I.hok p _ hp;have hsz:Builtin.Range.rangeSize 0 j 1=((j.toNat:Nat):Int):=by rw[rangeSize_one];split<;>omega
 refine call_list_range (I.ok.hd hc) (show IsRange s.heap p 0 j 1 t1 t2 t3 from ho) (small_one (by omega) (by omega) (by omega) (by omega)) hsz (by omega) fun h' tk acc' c' kp e hacc=>?_;have hn:H s.heap.objs.size=none:=I.hok.fresh (da _);refine⟨.ref s.heap.objs.size,_,I.laid (o:=.lst ((dq j.toNat).map fun(k:Nat)=>V.int k)) kp (da _) ?_,rfl,q _ hn⟩;refine⟨?_,acc'.toList,c',?_,by rw[e]⟩
 ·rw[db,eT,sizeLine_eq];omega
 ·refine zCv (by simp[hacc.1]) fun i x v e1 e2=>?_
  have e2':acc'[i]?=some v:=by simpa using e2
  obtain⟨t,rfl⟩:=hacc.2 i v e2';rw[eU] at e1;cases q':(dq j.toNat)[i]? with
  | none=>rw[q'] at e1;cases e1
  | some k =>
   rw[q'] at e1;cases e1;have hk:k=i:=by
    have:=(di.mp q').2;simpa using this.symm
   subst hk;refine⟨t,?_⟩;congr 1;omega
noncomputable def zGg(t:yj):TL2:=fun σ G R=>t σ G fun ds G1=>match ds with | [.int j]=>(0<=j/\j<=1000000)/\R (yM 0 j.toNat) G1 | _=>False
theorem zLr(hc:X.calm=true)(hg:Gl X "list")(hm:X.mg "list"=none)(hg2:Gl X "range")(hm2:X.mg "range"=none)(ha:A2 X [a] t)(hs:autoParam (starEach [a] X.env=[(false,eval a X.env)]) Zq4._auto_1)
  (he:autoParam (starEach [.Call (.Name "range" p2) [a] [] pos] X.env=(false,eval (.Call (.Name "range" p2) [a] [] pos) X.env)::starEach [] X.env) Zq4._auto_1) (hpl:autoParam ((backTo pos' (starEach [] X.env)).any (·.1)=false) Zq4._auto_1) :
  F2 X (.Call (.Name "list" p) [.Call (.Name "range" p2) [a] [] pos] [] pos') (zGg t):=by
 refine PE.mono (zCe (zGf hc) hg hm (by decide +kernel) (yP (zIQ hg2 hm2 ha hs) wz he) (by decide) (by decide) he hpl) ?_;rintro σ1 H Q ⟨σ,G,R,rl,q,k⟩;refine⟨σ,G,_,rl,q,fun ds G1 q1 vs H1 g1 r1 d1=>?_⟩;split at q1
 ·rename_i j
  obtain⟨v,rfl,d2⟩:=zBh d1;unfold zM at d2;subst d2;refine⟨j,rfl,fun l n=>⟨l,j,rfl,zb,q1.1,fun l' n'=>?_⟩⟩;have g2:zd H1 (yT H1 l (.rng 0 j)):=.fresh n;have r2:=r1.fresh (o:=.rng 0 j) n;refine k _ G1 q1.2 l' _ _ ((g1.trans g2).trans (.fresh n')) (r2.fresh n') (r2.free n') zb ?_;have:(dq j.toNat).map (fun(k:Nat)=>V.int k)=((dq j.toNat).map fun(k:Nat)=>(k:Int)).map V.int:=by simp
  rw[this];have e2:yM 0 j.toNat=((dq j.toNat).map fun(k:Nat)=>(k:Int)).map D.int:=by simp[yM]
  rw[e2];exact Dens.ints _
 ·exact q1.elim
noncomputable def zN1(ta tb:zi):TL2:=fun σ G R=>ta σ G fun x G1=>tb σ G1 fun y G2=>match x,y with
 | .adr l,.int k=>match G2.m l with
  | some ds=>(0<=k/\k<=1000)/\ds.length<=1000/\R ((dF k.toNat ds).flatten) G2
  | none=>False
 | _,_=>False
theorem Dens.rep{K:PySem.W.Frag}{H:Hp}{ds:List D}{xs:List V}(h:Dens K H ds xs):∀ n:Nat,Dens K H (dF n ds).flatten (dF n xs).flatten
 | 0=>.nil
 | n+1=>by
  rw[cU,fZ,cU,fZ];exact h.append (Dens.rep h n)
theorem zPE(ha:E2 X a ta)(hb:E2 X b tb):F2 X (.BinOp a .Mult b pos) (zN1 ta tb):=by
 refine PE.mono (zJV zNq ha hb) ?_;rintro σ1 H Q ⟨σ,G,R,rl,q,k⟩;refine⟨σ,G,_,rl,q,fun dx G1 q1 x H1 g1 r1 d1=>⟨σ,G1,_,rl.to g1 r1,q1,fun dy G2 q2 y H2 g2 r2 d2=>?_⟩⟩;split at q2
 ·rename_i l i
  split at q2
  ·rename_i ds e
   obtain⟨⟨h0,h1⟩,hz,q3⟩:=q2;have d1':=d1.grow g2;unfold zM at d1' d2;subst d1' d2;obtain⟨xs,e1,e2⟩:=r2.m l ds e;have hlen:=e2.length;refine⟨l,i,xs,rfl,rfl,e1,by omega,by omega,?_,fun l' n'=>?_⟩
   ·have h3:i.toNat<=1000:=by omega
    have h4:xs.length<=1000:=by omega
    have:=Nat.mul_le_mul h4 h3;rw[sizeLine_eq];omega
   ·exact k _ G2 q3 l' _ _ ((g1.trans g2).trans (.fresh n')) (r2.fresh n') (r2.free n') zb ((e2.rep i.toNat).grow (.fresh n'))
  ·exact q2.elim
 ·exact q2.elim
noncomputable def zB8(to:zi)(t:yj):zi:=fun σ G R=>to σ G fun x G1=>match x with
 | .adr l=>match G1.m l with
  | some _=>t σ G1 fun ds G2=>match ds with
   | [d]=>(match G2.m l with | some xs=>xs.length<=1000000/\R .non (zS G2 l (xs++[d])) | none=>False)
   | _=>False
  | none=>False
 | _=>False
theorem zAD(ho:E2 X o to)(ha:A2 X [e] t)
  (hbase:autoParam (attributeBase o "append" X.env (eval o X.env)=eval o X.env) Zq4._auto_1)
  (hfew:autoParam (((backTo pos (starEach [e] X.env)).all (fun x=>!x.1)&&(backToKw pos (keywordEach [] X.env)).all (fun x=>x.1.isSome)
   && decide ([e].length+([]:List Keyword).length+(if ([]:List Keyword).isEmpty then 0 else 1)<30))=true) Zq4._auto_1)
  (hline:autoParam ((apos.endLine==pos.line)=true) Zq4._auto_1) (hs:autoParam (starEach [e] X.env=(false,eval e X.env)::starEach [] X.env) Zq4._auto_1) (hplain:autoParam ((backTo pos (starEach [] X.env)).any (·.1)=false) Zq4._auto_1) :
  E2 X (.Call (.Attribute o "append" apos) [e] [] pos) (zB8 to t):=by
 refine PE.mono (zJc PySem.F.plainAttrs_list PySem.F.slot_list_append PySem.F.type_list_append zEO ho ha hbase hfew hline hs hplain) ?_;rintro σ1 H Q ⟨σ,G,R,rl,q,k⟩;refine⟨σ,G,_,rl,q,fun dx G1 q1 x H1 g1 r1 d1=>?_⟩;split at q1
 ·rename_i l
  split at q1
  ·rename_i ds0 e0
   unfold zM at d1;subst d1;obtain⟨xs0,a1,a2⟩:=r1.m l ds0 e0;refine⟨.inl ⟨rfl,xs0,.of a1⟩,σ,G1,_,rl.to g1 r1,q1,fun ds G2 q2 vs H2 g2 r2 d2=>?_⟩;split at q2
   ·rename_i d
    split at q2
    ·rename_i xs e1
     obtain⟨v,rfl,d3⟩:=zBh d2;obtain⟨ys,b1,b2⟩:=r2.m l xs e1;have hlen:=b2.length;refine⟨l,ys,v,rfl,rfl,b1,by rw[sizeLine_eq];omega,?_⟩;exact k _ _ q2.2 _ _ ((g1.trans g2).trans (.lst b1)) (r2.put b1 (b2.append (.cons d3 .nil))) (by unfold zM;rfl)
    ·exact q2.elim
   ·exact q2.elim
  ·exact q1.elim
 ·exact q1.elim
noncomputable def zLs(to:zi)(t:TL2):zi:=fun σ G R=>to σ G fun x G1=>match x with
 | .adr l=>match G1.m l with
  | some _=>t σ G1 fun zs G2=>match G2.m l with | some xs=>xs.length+zs.length<=1000000/\R .non (zS G2 l (xs++zs)) | none=>False
  | none=>False
 | _=>False
theorem zJw(ho:E2 X o to)(ha:F2 X e tl)
  (hbase:autoParam (attributeBase o "extend" X.env (eval o X.env)=eval o X.env) Zq4._auto_1)
  (hfew:autoParam (((backTo pos (starEach [e] X.env)).all (fun x=>!x.1)&&(backToKw pos (keywordEach [] X.env)).all (fun x=>x.1.isSome)
   && decide ([e].length+([]:List Keyword).length+(if ([]:List Keyword).isEmpty then 0 else 1)<30))=true) Zq4._auto_1)
  (hline:autoParam ((apos.endLine==pos.line)=true) Zq4._auto_1) (hs:autoParam (starEach [e] X.env=(false,eval e X.env)::starEach [] X.env) Zq4._auto_1) (hplain:autoParam ((backTo pos (starEach [] X.env)).any (·.1)=false) Zq4._auto_1) :
  E2 X (.Call (.Attribute o "extend" apos) [e] [] pos) (zLs to tl):=by
 refine PE.mono (zJc PySem.F.plainAttrs_list PySem.F.slot_list_extend PySem.F.type_list_extend zIH ho (yP ha wz hs) hbase hfew hline hs hplain) ?_;rintro σ1 H Q ⟨σ,G,R,rl,q,k⟩;refine⟨σ,G,_,rl,q,fun dx G1 q1 x H1 g1 r1 d1=>?_⟩;split at q1
 ·rename_i l
  split at q1
  ·rename_i ds0 e0
   unfold zM at d1;subst d1;obtain⟨xs0,a1,a2⟩:=r1.m l ds0 e0;refine⟨.inl ⟨rfl,xs0,.of a1⟩,σ,G1,_,rl.to g1 r1,q1,fun zs G2 q2 l2 ys H2 g2 r2 n2 e2 d2=>?_⟩;split at q2
   ·rename_i xs e1
    obtain⟨ws,b1,b2⟩:=r2.m l xs e1;have hl1:=b2.length;have hl2:=d2.length;refine⟨l,l2,ws,ys,rfl,rfl,b1,e2,by rw[sizeLine_eq];omega,?_⟩;exact k _ _ q2.2 _ _ ((g1.trans g2).trans (.lst b1)) (r2.put b1 (b2.append d2)) (by unfold zM;rfl)
   ·exact q2.elim
  ·exact q1.elim
 ·exact q1.elim
noncomputable def zLt(to:zi)(t:yj):zi:=fun σ G R=>to σ G fun x G1=>match x with
 | .adr l=>match G1.m l with
  | some _=>t σ G1 fun ds G2=>match ds with
   | [.int i]=>(match G2.m l with
    | some xs=>(0<=i/\i<xs.length/\i<=1000000)/\(match xs[i.toNat]? with | some d=>R d (zS G2 l (xs.eraseIdx i.toNat)) | none=>False)
    | none=>False)
   | _=>False
  | none=>False
 | _=>False
theorem zPF(ho:E2 X o to)(ha:A2 X [e] t)
  (hbase:autoParam (attributeBase o "pop" X.env (eval o X.env)=eval o X.env) Zq4._auto_1)
  (hfew:autoParam (((backTo pos (starEach [e] X.env)).all (fun x=>!x.1)&&(backToKw pos (keywordEach [] X.env)).all (fun x=>x.1.isSome)
   && decide ([e].length+([]:List Keyword).length+(if ([]:List Keyword).isEmpty then 0 else 1)<30))=true) Zq4._auto_1)
  (hline:autoParam ((apos.endLine==pos.line)=true) Zq4._auto_1) (hs:autoParam (starEach [e] X.env=(false,eval e X.env)::starEach [] X.env) Zq4._auto_1) (hplain:autoParam ((backTo pos (starEach [] X.env)).any (·.1)=false) Zq4._auto_1) :
  E2 X (.Call (.Attribute o "pop" apos) [e] [] pos) (zLt to t):=by
 refine PE.mono (zJc PySem.F.plainAttrs_list PySem.F.slot_list_pop PySem.F.type_list_pop zJd ho ha hbase hfew hline hs hplain) ?_;rintro σ1 H Q ⟨σ,G,R,rl,q,k⟩;refine⟨σ,G,_,rl,q,fun dx G1 q1 x H1 g1 r1 d1=>?_⟩;split at q1
 ·rename_i l
  split at q1
  ·rename_i ds0 e0
   unfold zM at d1;subst d1;obtain⟨xs0,a1,a2⟩:=r1.m l ds0 e0;refine⟨.inl ⟨rfl,xs0,.of a1⟩,σ,G1,_,rl.to g1 r1,q1,fun ds G2 q2 vs H2 g2 r2 d2=>?_⟩;split at q2
   ·rename_i i
    split at q2
    ·rename_i xs e1
     obtain⟨⟨h0,h1,h9⟩,q2⟩:=q2;split at q2
     ·rename_i d e2
      obtain⟨v,rfl,d3⟩:=zBh d2;unfold zM at d3;subst d3;obtain⟨ys,b1,b2⟩:=r2.m l xs e1;have hlen:=b2.length;obtain⟨z,c1,c2⟩:=b2.get e2;refine⟨l,ys,i,i.toNat,z,rfl,rfl,b1,by omega,by omega,?_,c1,?_⟩
      ·have hi:¬ i<0:=by omega
       unfold seqIndex?;simp only[if_neg hi];rw[if_pos (by rw[fm];exact⟨decide_eq_true h0,decide_eq_true (by omega)⟩)]
      ·exact k _ _ q2 _ _ ((g1.trans g2).trans (.lst b1)) (r2.put b1 (b2.eraseIdx i.toNat)) (c2.grow (.lst b1))
     ·exact q2.elim
    ·exact q2.elim
   ·exact q2.elim
  ·exact q1.elim
 ·exact q1.elim
noncomputable def zB9:D->String->Bool
 | .tup _,T=>decide (T="tuple")
 | .bl _,T=>decide (T="bool"\/T="int")
 | .int _,T=>decide (T="int")
 | .str _,T=>decide (T="str")
 | .non,_=>false
 | .adr _,_=>false
 | .dic _,T=>decide (T="dict")
noncomputable def tys:List String:=["tuple","bool","int","str","list","dict"]
theorem zFe(hT:T∈tys):yt X (.builtin "isinstance") (fun xs H Q=>∃ x d,xs=[x,.ty T]/\zM X.K H d x/\((∀ l,d≠.adr l)/\Q (.bl (zB9 d T)) H\/∃ l ys,d=.adr l/\SqL X.K H l ys/\Q (.bl (decide (T="list"))) H)):=by
 intro pins s σ H xs us Q I r h;obtain⟨x,d,rfl,hd,q⟩:=h;obtain⟨u,u',rfl,rx,ry⟩:=vals2 r;obtain rfl:u'=Value.type T:=ry;simp only[tys,dN,eO,or_false] at hT;rcases q with ⟨hna,q⟩ | ⟨l,ys,rfl,hs,q⟩
 ·cases d with
  | tup _ =>
   unfold zM at hd;obtain⟨a,ys,rfl,hs,u0⟩:=hd;cases (show u=Value.ref a from rx);obtain⟨u0,u0,⟨o,h1,h2,u0⟩,u0⟩:=I.tuple hs;rcases hT with rfl | rfl | rfl | rfl | rfl | rfl<;>exact PySem.W.kia_one PySem.W.kitx_tuple I.kIn ⟨o,h1,h2⟩ (by rfl) (fun z=>nomatch z) fun tk=>⟨.bl _,H,I.tok _,rfl,q⟩
  | bl _ =>
   unfold zM at hd;subst hd;rcases hT with rfl | rfl | rfl | rfl | rfl | rfl<;>exact zBQ I rx (.bl _) (by rfl) fun tk=>⟨.bl _,H,I.tok _,rfl,q⟩
  | int _ =>
   unfold zM at hd;subst hd;rcases hT with rfl | rfl | rfl | rfl | rfl | rfl<;>exact zBQ I rx (.int _) (by rfl) fun tk=>⟨.bl _,H,I.tok _,rfl,q⟩
  | str _ =>
   unfold zM at hd;subst hd;rcases hT with rfl | rfl | rfl | rfl | rfl | rfl<;>exact zBQ I rx (.str _) (by rfl) fun tk=>⟨.bl _,H,I.tok _,rfl,q⟩
  | non =>
   unfold zM at hd;subst hd;rcases hT with rfl | rfl | rfl | rfl | rfl | rfl<;>exact zBQ I rx .non (by rfl) fun tk=>⟨.bl _,H,I.tok _,rfl,q⟩
  | dic a =>
   unfold zM at hd;obtain⟨rfl,o,y,hs,hc⟩:=hd;cases (show u=Value.ref a from rx);have h1:=(I.hok a _ hs).1;rcases hT with rfl | rfl | rfl | rfl | rfl | rfl<;>exact PySem.W.kia_one PySem.W.kitx_dict I.kIn ⟨o,h1,hc⟩ (by rfl) (fun z=>nomatch z) fun tk=>⟨.bl _,H,I.tok _,rfl,q⟩
  | adr l=>exact absurd rfl (hna l)
 ·unfold zM at hd
  subst hd;cases (show u=Value.ref l from rx);obtain⟨u0,u0,pl,u0⟩:=I.list hs;obtain⟨o,h1,h2,u0⟩:=pl.isList;rcases hT with rfl | rfl | rfl | rfl | rfl | rfl<;>exact PySem.W.kia_one PySem.W.kitx_list I.kIn ⟨o,h1,h2⟩ (by rfl) (fun z=>nomatch z) fun tk=>⟨.bl _,H,I.tok _,rfl,q⟩
noncomputable def zEB(T:String)(te:zi):zi:=fun σ G R=>te σ G fun d G1=>match d with
 | .adr l=>(∃ ds,Ls G1 l ds)/\R (.bl (decide (T="list"))) G1
 | d=>R (.bl (zB9 d T)) G1
theorem zEU(hg:Gl X "isinstance")(hm:X.mg "isinstance"=none)(hg2:Gl X x)(hm2:X.mg x=none)(hv:bootBuiltins x=some (.type T))(ha:E2 X e te)(hT:autoParam (T∈tys) Zq2._auto_1)
  (he:autoParam (starEach [e,.Name x p2] X.env=(false,eval e X.env)::starEach [.Name x p2] X.env) Zq4._auto_1) (he2:autoParam (starEach [.Name x p2] X.env=(false,eval (.Name x p2) X.env)::starEach [] X.env) Zq4._auto_1) (hpl:autoParam ((backTo pos (starEach [.Name x p2] X.env)).any (·.1)=false) Zq4._auto_1)
  (hn:autoParam (x≠"__name__") Zq2._auto_1) (hdb:autoParam ((x==("__debug__":Str))=false) Zq2._auto_1) :
  E2 X (.Call (.Name "isinstance" p) [e,.Name x p2] [] pos) (zEB T te):=by
 refine PE.mono (zAA (zFe (T:=T) hT) hg hm (by decide +kernel) (yP ha (yP (zC7 (v:=.ty T) hg2 hm2 hv rfl hn hdb) wz he2) he) (by decide) (by decide) he hpl) ?_;rintro σ1 H Q ⟨σ,G,R,rl,q,k⟩;refine⟨σ,G,_,rl,q,fun d G1 q1 v H1 g1 r1 d1=>?_⟩;refine⟨v,d,rfl,d1,?_⟩;cases d with
 | adr l =>
  obtain⟨⟨ds,hl⟩,q1⟩:=q1;obtain⟨xs,hs,u0⟩:=r1.sq hl;exact .inr ⟨l,xs,rfl,hs,k _ G1 q1 _ H1 g1 r1 (by unfold zM;rfl)⟩
 | _=>exact .inl ⟨fun l z=>(by cases z),k _ G1 q1 _ H1 g1 r1 (by unfold zM;rfl)⟩
noncomputable def zGh(i:Nat)(te:zi)(f:Int->Int->Int):yd:=fun E σ G=>match look σ i with
 | some (.int a)=>te σ G fun y G1=>match y with | .int b=>E.nx (σ.set i (some (.int (f a b)))) G1 | _=>False
 | _=>False
noncomputable def zJx(tc:TT2)(tb:yd):yd:=fun E σ G=>∃ Pv:Nat->S2->Gp->Prop,(∃ m,Pv m σ G)/\∀ m σ G,Pv m σ G->tc σ G fun b G1=>if b=true then tb { E with nx:=Fg fun σ' G'=>∃ m',m'<m/\Pv m' σ' G',ct:=Fg fun σ' G'=>∃ m',m'<m/\Pv m' σ' G',bk:=E.nx } σ G1 else E.nx σ G1
theorem zLu{tc:TT2}{tb:yd}{body:List Stmt}(hp:PassesOwn (model X.prog X.w) X.A X.env X.xe)(hc:T2 X c tc)(hb:Ps2 X body tb):P2 X (.While c body [] pos) (zJx tc tb):=by
 refine PS.mono (L2.zJT hp hc hb) ?_;rintro E σ1 H ⟨σ,G,D2,r,⟨Pv,⟨m0,p0⟩,pt⟩,k⟩;refine⟨fun m σ1' H'=>zd H H'/\∃ σ' G',Rel X.K σ' G' σ1' H'/\Pv m σ' G',⟨m0,.refl H,σ,G,r,p0⟩,?_⟩;rintro m σ1' H' ⟨g',σ',G',r',p'⟩;refine⟨σ',G',_,r',pt m σ' G' p',fun b G1 q1 H1 g1 r1=>?_⟩;cases b with
 | false=>exact k.nx _ G1 q1 _ H1 (g'.trans g1) (r'.to g1 r1)
 | true =>
  refine⟨fun σ1'' H''=>∃ m',m'<m/\(zd H H''/\∃ σ'' G'',Rel X.K σ'' G'' σ1'' H''/\Pv m' σ'' G''),fun σ1'' H'' h=>h,σ',G1,_,r'.to g1 r1,q1,?_⟩;have back:∀ σ3 G3,Fg (fun σ' G'=>∃ m',m'<m/\Pv m' σ' G') σ3 G3->∀ σ13 H3,zd H1 H3->Rel X.K σ3 G3 σ13 H3->∃ m',m'<m/\(zd H H3/\∃ σ'' G'',Rel X.K σ'' G'' σ13 H3/\Pv m' σ'' G''):=by
   rintro σ3 G3 ⟨σ4,G4,a1,a2,m',hm,a3⟩ σ13 H3 g3 r3;exact⟨m',hm,(g'.trans g1).trans g3,σ4,G4,r3.sub a1 a2,a3⟩
  exact⟨back,fun σ3 G3 q3 σ13 H3 g3 r3=>k.nx σ3 G3 q3 σ13 H3 ((g'.trans g1).trans g3) r3,back,fun d3 G3 q3 v3 H3 g3 r3 dv=>k.rt d3 G3 q3 v3 H3 ((g'.trans g1).trans g3) r3 dv⟩
end
section
variable {P:Program} {w:World} {K:PySem.W.Frag} {mg:Str->Option Value} {base:Heap}
noncomputable def FgR(R:Q2):Q2:=fun d G=>∃ G',Sub G' G/\R d G'
theorem FgR.of(h:R d G):FgR R d G:=⟨G,.refl G,h⟩
noncomputable def zV(N:List Str)(ds:List D):S2:=ds.map some++dF (N.length-ds.length) none
theorem zCi(r:zf K G H)(d:Dens K H ds vs):Rel K (zV N ds) G (L2.start N vs) H :=
 ⟨r,by simp[zV,L2.start,d.length],fun i x e=>by
  unfold zV at e;unfold L2.start;by_cases hi:i<ds.length
  ·rw[eC (by simpa using hi),eU] at e
   cases q:ds[i]? with
   | none=>rw[q] at e;cases e
   | some y =>
    rw[q] at e;cases e;obtain⟨v,e1,e2⟩:=d.get q;refine⟨v,?_,e2⟩;rw[eC (by rw[db,<-d.length];exact hi),eU,e1];rfl
  ·rw[em (by simpa using hi),gD] at e
   split at e<;>cases e⟩
theorem zPG{x qual:Str}{st:Stmt}{f:Addr}{fd:FuncData}{N ps:List Str}{k:Nat}{sp:Sp2}(F:Fun K x qual st f fd)(S:za N ps (zE st))(hm:mg x=some (.ref f))(hb:Binds K fd ps [])(len:∀ ds G R,sp ds G R->ds.length=ps.length)
  (hbody:∀(cdv:Value) (A:Around) (outer:List Env) (s:Shared) (H:Hp) (E:XK),yE k (A.deeper (envOfC qual (zE st) s.heap.objs.size f cdv)) ->
   ∃ t,Ps2 (zBD CX0 P w K mg base N qual (zE st) f cdv A outer s H E).nox (zX st) t/\∀ ds G R,sp ds G R->t { nx:=fun u0 G'=>FgR R .non G',rt:=FgR R } (zV N ds) G):Df P w K mg base (k+1) x ps sp:=by
 refine⟨f,fd,F.ok S ?_ ?_,hm,F.kp,hb⟩
 ·rintro vs H Q E ⟨ds,G,R,d,r,h,u0⟩
  rw[<-d.length];exact len ds G R h
 ·intro cdv A outer s H vs Q E hr h
  obtain⟨ds,G,R,d,r,h,kk⟩:=h;obtain⟨t,ht,q⟩:=hbody cdv A outer s H E hr;refine⟨_,ht,zV N ds,G,_,zCi r d,q ds G R h,⟨?_,?_,?_,?_⟩⟩
  ·rintro σ G' ⟨G'',s',q'⟩ σ1 H' g' r'
   exact kk _ G'' q' _ H' g' (r'.g.sub s') (by unfold zM;rfl)
  ·intro σ G' h;exact h.elim
  ·intro σ G' h;exact h.elim
  ·rintro d' G' ⟨G'',s',q'⟩ v H' g' r' dv
   exact kk _ G'' q' _ H' g' (r'.sub s') dv
noncomputable abbrev zn(R:Q2):zz:={ nx:=fun u0 G'=>FgR R .non G',rt:=FgR R }
theorem yS{x qual:Str}{st:Stmt}{f:Addr}{fd:FuncData}{N ps:List Str}{k:Nat}{sp:Sp2}(t:yd)(F:Fun K x qual st f fd)(S:za N ps (zE st))(hm:mg x=some (.ref f))(hb:Binds K fd ps [])
  (ht:∀(cdv:Value) (A:Around) (outer:List Env) (s:Shared) (H:Hp) (E:XK),yE k (A.deeper (envOfC qual (zE st) s.heap.objs.size f cdv))->Ps2 (zBD CX0 P w K mg base N qual (zE st) f cdv A outer s H E).nox (zX st) t)
  (hs:∀ ds G R,sp ds G R->ds.length=ps.length/\t (zn R) (zV N ds) G):Df P w K mg base (k+1) x ps sp :=
 zPG F S hm hb (fun ds G R h=>(hs ds G R h).1) fun cdv A outer s H E hr=>⟨t,ht cdv A outer s H E hr,fun ds G R h=>(hs ds G R h).2⟩
end
noncomputable def zEV(osc sc:Scope):List (Str×NameKind):=sc.names.map fun(n,k)=>if (k==NameKind.free&&osc.kind==.function&&osc.names.lookup n==some .cell) then (n,NameKind.cell) else (n,k)
noncomputable def zN2(ns:List (Str×NameKind))(x:Str):Bool:=match ns.lookup x with | some .local=>true | some .cell=>true | some .free=>true | _=>false
noncomputable def zMx(osc sc:Scope)(N N0 own:List Str):Bool :=
 decide (sc.kind=.function)&&sc.names.all (fun y=>decide (y.2≠.cell))&&sc.names.all (fun y=>decide (y.2=.local->sc.names.lookup y.1=some .local))
 && sc.names.all (fun y=>decide (y.2=.free->osc.names.lookup y.1=some .cell\/osc.names.lookup y.1=some .free))
 && decide (N0.length=N.length)&&(dq N0.length).all (fun i=>match N0[i]? with | some x=>!zN2 (zEV osc sc) x||decide (N[i]?=some x/\sc.names.lookup x=some .free) | none=>true)
 && decide ((N0++own).Nodup)&&own.all (fun x=>decide ((zEV osc sc).lookup x=some .local))
structure zFf (X:Cx) (sc:Scope) (N0 own:List Str):Prop where
 ok:zBr X sc N0
 nd:(N0++own).Nodup
 loc:∀ x∈own,(relabel sc X.env).names.lookup x=some .local
theorem yv(h:zMx osc sc N N0 own=true)(e1:autoParam (X.env.scope=osc) Zq4._auto_1)(e2:autoParam (X.N=N) Zq4._auto_1):zFf X sc N0 own:=by
 subst e1 e2;unfold zMx at h;simp only[fm,decide_eq_true_eq,gg] at h;obtain⟨⟨⟨⟨⟨⟨⟨h1,h2⟩,h3⟩,h4⟩,h5⟩,h6⟩,h7⟩,h8⟩:=h;refine⟨⟨h1,h2,h3,h4,h5,fun i x e v=>?_⟩,h7,h8⟩;have hi:i<N0.length:=(di.mp e).1;have q:=h6 i (eS.mpr hi);rw[e] at q;dsimp only at q;have hv:zN2 (zEV X.env.scope sc) x=true:=by
  have v':(zEV X.env.scope sc).lookup x=some .local\/(zEV X.env.scope sc).lookup x=some .cell\/(zEV X.env.scope sc).lookup x=some .free:=v;unfold zN2;rcases v' with v' | v' | v'<;>rw[v']
 rw[hv] at q;simpa using q
section
variable {X:Cx} {elt iter:Expr} {pos:Pos} {te:zi} {ifs:List Expr} {sc:Scope} {N0:List Str} {wi:TI2} {tc:TT2}
theorem zGi(x:Str)(hc:X.calm=true)(T:zFf X sc N0 [x])(hi:I2 X (.Name x px) iter wi)
  (ht:∀ C s H fp pins,Ts2 (X.comp (N0++[x]) sc C s H fp pins) ifs tc) (he:∀ C s H fp pins,E2 (X.comp (N0++[x]) sc C s H fp pins) elt te)
  (hs:autoParam (∀ x,foldedSetIterable iter X.env x=pure x) Zq3._auto_1):F2 X (.ListComp elt [⟨.Name x px,iter,ifs,0⟩] sc pos) (yV wi bd1 tc te) :=
 zLm x hc T.ok hi T.nd (T.loc x (by simp)) ht he hs
theorem zP8(x y:Str)(hc:X.calm=true)(T:zFf X sc N0 [x,y])(hi:I2 X (.Tuple [.Name x px,.Name y py] kk pt) iter wi)
  (ht:∀ C s H fp pins,Ts2 (X.comp (N0++[x,y]) sc C s H fp pins) ifs tc) (he:∀ C s H fp pins,E2 (X.comp (N0++[x,y]) sc C s H fp pins) elt te)
  (hs:autoParam (∀ x,foldedSetIterable iter X.env x=pure x) Zq3._auto_1):F2 X (.ListComp elt [⟨.Tuple [.Name x px,.Name y py] kk pt,iter,ifs,0⟩] sc pos) (yV wi bd2 tc te) :=
 zLn x y hc T.ok hi T.nd (T.loc x (by simp)) (T.loc y (by simp)) ht he hs
theorem zLv(i:Nat)(x:Str)(hc:X.calm=true)(T:zFf X sc N0 [x])(hi:I2 X (.Name x px) iter wi)
  (ht:∀ C s H fp pins,Ts2 (X.comp (N0++[x]) sc C s H fp pins) ifs tc) (he:∀ C s H fp pins,E2 (X.comp (N0++[x]) sc C s H fp pins) elt te)
  (hN:X.N.Nodup) (hy:autoParam (X.N[i]?=some y) Zq4._auto_1) (hl:autoParam (X.env.scope.names.lookup y=some .local) Zq4._auto_1)
  (hsw:autoParam (swapsWith (.ListComp elt [⟨.Name x px,iter,ifs,0⟩] sc pos) (some (.Name y py)) spos.line X.env=pure true) Zq4._auto_1)
  (hs:autoParam (∀ x,foldedSetIterable iter X.env x=pure x) Zq3._auto_1):P2 X (.Assign [.Name y py] (.ListComp elt [⟨.Name x px,iter,ifs,0⟩] sc pos) spos) (zBF i (yV wi bd1 tc te)) :=
 zGa i x hc T.ok hi T.nd (T.loc x (by simp)) ht he hN hy hl hsw hs
end
structure Ext (G G':Gp):Prop where
 sub:Sub G G'
 ro:G'.ro=G.ro
theorem Ext.refl(G:Gp):Ext G G:=⟨.refl G,rfl⟩
theorem Ext.trans{G G1 G2:Gp}(h:Ext G G1)(h':Ext G1 G2):Ext G G2:=⟨h.sub.trans h'.sub,h'.ro.trans h.ro⟩
theorem Ext.new(h:G.m l=none):Ext G (zS G l o):=⟨.new h,rfl⟩
theorem Ext.ls(h:Ext G G')(e:Ls G a ds):Ls G' a ds:=e.sub h.sub
theorem Ext.own(h:Ext G G')(n:G'.m A=none):G.m A=none:=by
 cases q:G.m A with
 | none=>rfl
 | some u=>rw[h.sub.m A u q] at n;cases n
noncomputable def yC(t:zi)(σ:S2)(G:Gp)(d:D):Prop:=∀ G2,Ext G G2->∀ R:D->Gp->Prop,R d G2->t σ G2 R
noncomputable def PuT(t:TT2)(σ:S2)(G:Gp)(b:Bool):Prop:=∀ G2,Ext G G2->∀ R:Bool->Gp->Prop,R b G2->t σ G2 R
noncomputable def PuL(t:TL2)(σ:S2)(G:Gp)(ds:List D):Prop:=∀ G2,Ext G G2->∀ R:List D->Gp->Prop,R ds G2->t σ G2 R
noncomputable def PuA(t:yj)(σ:S2)(G:Gp)(ds:List D):Prop:=∀ G2,Ext G G2->∀ R:List D->Gp->Prop,R ds G2->t σ G2 R
noncomputable def PuI(t:TI2)(σ:S2)(G:Gp)(ds:List D):Prop:=∀ G2,Ext G G2->∀ R:List D->(Gp->Prop)->Gp->Prop,(∀ gd G3,Ext G2 G3->(∀ G4,Ext G3 G4->gd G4)->R ds gd G3)->t σ G2 R
theorem yC.mono(h:yC t σ G d)(e:Ext G G'):yC t σ G' d:=fun G2 x=>h G2 (e.trans x)
section
variable {σ:S2} {G:Gp}
theorem zH(h:look σ i=some d):yC (zB i) σ G d:=fun G2 u0 R q=>by unfold zB;rw[h];exact q
theorem wZ:yC (xC d) σ G d:=fun u0 u0 u0 q=>q
theorem zR:PuA zI σ G []:=fun u0 u0 u0 q=>q
theorem zF(h:yC ta σ G d)(h':PuA tr σ G ds):PuA (zA ta tr) σ G (d::ds):=fun G2 x R q=>h G2 x _ (h' G2 x _ q)
theorem zBv(h:PuA t σ G ds)(hl:ds.length<=100000):yC (yx t) σ G (.tup ds):=fun G2 x R q=>h G2 x _ ⟨by rw[sizeLine_eq];omega,q⟩
theorem zAE(ha:yC ta σ G x)(hb:yC tb σ G y)(h:∀ G2,Ext G G2->∀ R:D->Gp->Prop,R d G2->f x y G2 R):yC (zY f ta tb) σ G d:=fun G2 e R q=>ha G2 e _ (hb G2 e _ (h G2 e R q))
theorem zMy(ha:yC ta σ G (.int i))(hb:yC tb σ G (.int j)):yC (zY (fII g) ta tb) σ G (g i j):=zAE ha hb fun u0 u0 u0 q=>q
theorem yJ(ha:PuA t σ G ds)(h:∀ G2,Ext G G2->∀ R:D->Gp->Prop,R d G2->sp ds G2 R):yC (zO sp t) σ G d:=fun G2 e R q=>ha G2 e _ (h G2 e R q)
theorem zDZ(ha:PuA t σ G ds)(h:∀ G2,Ext G G2->∀ R:List D->Gp->Prop,R ls G2->sp ds G2 R):PuL (yQ sp t) σ G ls:=fun G2 e R q=>ha G2 e _ (h G2 e R q)
theorem zAM(h:yC t σ G (.bl b)):PuT (xB t) σ G b:=fun G2 e R q=>h G2 e _ q
theorem zN3:PuT zD9 σ G true:=fun u0 u0 u0 q=>q
theorem zN4(h:PuT t σ G b)(h':b=false->PuT u σ G c):PuT (zB5 t u) σ G (b||c):=fun G2 e R q=>h G2 e _ (by
 cases b with
 | true=>simpa using q
 | false=>rw[if_neg (by simp)];exact h' rfl G2 e _ (by simpa using q))
theorem zE1(h:PuT t σ G b):PuT (zA7 t) σ G (!b):=fun G2 e R q=>h G2 e _ q
theorem zJy(h:PuL tl σ G ds):yC (yB yb tl) σ G (.tup ds):=fun G2 e R q=>h G2 e _ q
theorem zEW(h:yC t σ G (.tup ds)):PuI (iV t) σ G ds:=fun G2 e R q=>h G2 e _ (q _ G2 (.refl _) fun u0 u0=>trivial)
theorem zIR(h:yC t σ G (.adr a))(hr:Ls G a ds):PuI (iV t) σ G ds:=fun G2 e R q=>h G2 e _ ⟨ds,e.ls hr,q _ G2 (.refl _) fun G4 e4=>e4.ls (e.ls hr)⟩
end
end L3
namespace HT
section
variable {prog:Program} {w:World} {A:Around} {E:Value->Shared->Prop} {s:Shared}
theorem zJz{t b:Addr}{ws:List Value}{Q:Value->Shared->Prop}(ht:IsTup s.heap t #[])(hb:IsTup s.heap b ws.toArray)(h:Q (.ref b) s):wpAny (model prog w) A (binaryOp .Add (.ref t) (.ref b)) Q E s:=by
 obtain⟨⟨cls,dd,data,sl⟩,ho,hc,n,hd⟩:=id ht;obtain⟨⟨cls2,dd2,data2,sl2⟩,ho2,hc2,n2,hd2⟩:=id hb;simp only at hc hd hc2 hd2;subst hc hd hc2 hd2;exact concat_meets ⟨_,ho,rfl⟩ ⟨_,ho2,rfl⟩ noFill_tuple_add seq_tuple_add PySem.F.slot_tuple_add PySem.F.entry_tuple_add (PySem.F.args_tuple_add_2 _ _)
   (tuple_addW0 t b #[] ws.toArray n n2 dd dd2 sl sl2 rfl) ⟨ho,ho2,h⟩
end
end HT
namespace L3
open L2
section
variable {X:Cx} {a b c e o:Expr} {es:List Expr} {pos p:Pos} {ta tb te:zi}
noncomputable def wa:D->D->Gp->Q2->Prop:=fun x y G R=>match x,y with
 | .int i,.int j=>R (.int (i+j)) G
 | .tup xs,.tup ys=>xs.length+ys.length<=1000000/\R (.tup (xs++ys)) G
 | _,_=>False
theorem OpR.or(h:OpR X f r)(h':OpR X f r'):OpR X f (fun x y H Q=>r x y H Q\/r' x y H Q):=by
 intro pins s σ H x y v u Q I rx ry q;rcases q with q | q
 ·exact h pins s σ H x y v u Q I rx ry q
 ·exact h' pins s σ H x y v u Q I rx ry q
noncomputable def zMz(K:PySem.W.Frag):R2:=fun x y H Q=>∃ a b ys,x=.ref a/\y=.ref b/\SqT K H a []/\SqT K H b ys/\Q (.ref b) H
theorem zLw:OpR X (binaryOp .Add) (zMz X.K):=by
 intro pins s σ H x y v u Q I rx ry h;obtain⟨a,b,ys,rfl,rfl,ha,hb,q⟩:=h;cases rx;cases ry;obtain⟨its,r1,p1,u0⟩:=I.tuple ha;obtain⟨its2,r2,p2,u0⟩:=I.tuple hb;have:its=[]:=r1.nil_iff.mpr rfl;subst this;exact HT.zJz p1 p2 ⟨.ref b,H,I,rfl,q⟩
theorem zLx{K:PySem.W.Frag}:Fit K (fun x y H Q=>rI0 (fun i j=>.int (i+j)) x y H Q\/zMm K x y H Q\/zMz K x y H Q) wa:=by
 intro dx dy G R x y H Q h r d1 d2 k;unfold wa at h;split at h
 ·rename_i i j
  unfold zM at d1 d2;subst d1 d2;exact .inl ⟨i,j,rfl,rfl,k _ G h _ H (.refl H) r (by unfold zM;rfl)⟩
 ·rename_i xs ys
  obtain⟨hz,h⟩:=h;unfold zM at d1 d2;obtain⟨a,us,rfl,s1,t1⟩:=d1;obtain⟨b,ws,rfl,s2,t2⟩:=d2;have l1:=t1.length;have l2:=t2.length;by_cases hx:xs=[]
  ·subst hx
   have hu:us=[]:=gC.mp (by rw[<-l1];rfl);subst hu;exact .inr (.inr ⟨a,b,ws,rfl,rfl,s1,s2,k _ G h _ H (.refl H) r (by unfold zM;exact⟨b,ws,rfl,s2,by simpa using t2⟩)⟩)
  ·refine .inr (.inl ⟨a,b,us,ws,rfl,rfl,s1,s2,fun z=>hx (gC.mp (by rw[l1,z];rfl)),by rw[sizeLine_eq];omega,fun z=>?_,fun u0 p hp=>?_⟩)
   ·have hy:ys=[]:=gC.mp (by rw[l2,z];rfl)
    subst hy;exact k _ G h _ H (.refl H) r (by unfold zM;exact⟨a,us,rfl,s1,by simpa using t1⟩)
   ·exact k _ G h _ _ (.fresh hp) (r.fresh hp) (by unfold zM;exact⟨p,us++ws,rfl,.of zb,(t1.append t2).grow (.fresh hp)⟩)
 ·exact h.elim
theorem zBG(ha:E2 X a ta)(hb:E2 X b tb):E2 X (.BinOp a .Add b pos) (zY wa ta tb):=zGY (zNb.or (zLe.or zLw)) zLx ha hb
noncomputable def zCw(ta tb:zi):TL2:=fun σ G R=>ta σ G fun x G1=>tb σ G1 fun y G2=>match x,y with
 | .adr l,.adr m=>∃ xs ys,G2.m l=some xs/\G2.m m=some ys/\xs.length+ys.length<=1000000/\R (xs++ys) G2
 | _,_=>False
theorem zJ0(ha:E2 X a ta)(hb:E2 X b tb):F2 X (.BinOp a .Add b pos) (zCw ta tb):=by
 refine PE.mono (zJV zNp ha hb) ?_;rintro σ1 H Q ⟨σ,G,R,rl,q,k⟩;refine⟨σ,G,_,rl,q,fun dx G1 q1 x H1 g1 r1 d1=>⟨σ,G1,_,rl.to g1 r1,q1,fun dy G2 q2 y H2 g2 r2 d2=>?_⟩⟩;split at q2
 ·rename_i l m
  obtain⟨xs,ys,e1,e2,hz,q3⟩:=q2;have d1':=d1.grow g2;unfold zM at d1' d2;subst d1' d2;obtain⟨us,a1,a2⟩:=r2.m l xs e1;obtain⟨ws,b1,b2⟩:=r2.m m ys e2;have l1:=a2.length;have l2:=b2.length;refine⟨l,m,us,ws,rfl,rfl,a1,b1,by rw[sizeLine_eq];omega,fun p hp=>?_⟩;exact k _ G2 q3 p _ _ ((g1.trans g2).trans (.fresh hp)) (r2.fresh hp) (r2.free hp) zb ((a2.append b2).grow (.fresh hp))
 ·exact q2.elim
theorem zW.reverse:∀ {xs:List V} {us:List Value},zW xs us->zW xs.reverse us.reverse
 | _,_,.nil=>.nil
 | _,_,.cons r rr=>by
  rw[gQ,gQ];exact(zW.reverse rr).append (.cons r .nil)
end
section
variable {σ:S2} {G:Gp}
theorem wO{α:Type}{ds:List α}{i:Nat}{x:α}(h:ds[i]?=some x):ds.take (i+1)=ds.take i++[x]:=by
 rw[List.take_add_one,h];rfl
theorem zCA(p:D->Bool)(f:D->D)(us:D->List D)(hw:PuI wi σ G ds)
  (hx:∀ x∈ds,bd x=some (us x)/\PuT tc (σ++(us x).map some) G (p x)/\(p x=true->yC te (σ++(us x).map some) G (f x))):PuL (yV wi bd tc te) σ G ((ds.filter p).map f):=by
 intro G2 e R q;refine hw G2 e _ fun gd G3 e3 hgd A nA=>?_;refine⟨fun i acc G'=>G'=zS G3 A acc/\acc=((ds.take i).filter p).map f,⟨rfl,by simp⟩,?_,?_,?_⟩
 ·rintro i acc G' hi ⟨rfl,rfl⟩
  refine⟨hgd _ (.new nA),zG,?_⟩;rw[db];exact eN (gM _ _) (by rw[eK];omega)
 ·rintro i x acc G' hi ⟨rfl,rfl⟩
  obtain⟨hb,ht,he⟩:=hx x (dS hi);rw[hb];dsimp only;have ex:Ext G (zS G3 A (((ds.take i).filter p).map f)):=(e.trans e3).trans (.new nA);refine ht _ ex _ ?_;cases hp:p x with
  | false =>
   rw[if_neg (by simp)];exact .of ⟨rfl,by rw[wO hi];simp[hp]⟩
  | true =>
   rw[if_pos rfl];refine he hp _ ex _ ⟨zG,.of ⟨zAd,by rw[wO hi];simp[hp]⟩⟩
 ·rintro acc G' ⟨rfl,rfl⟩
  exact⟨G2,e3.own nA,e3.sub.trans (.new nA),by rw[gE];exact q⟩
theorem zJ1(f:D->D)(us:D->List D)(hw:PuI wi σ G ds)
  (hx:∀ x∈ds,bd x=some (us x)/\yC te (σ++(us x).map some) G (f x)):PuL (yV wi bd zD9 te) σ G (ds.map f):=by
 have:=zCA (tc:=zD9) (fun u0=>true) f us hw fun x h=>⟨(hx x h).1,zN3,fun u0=>(hx x h).2⟩
 rwa [List.filter_eq_self.mpr (fun u0 u0=>rfl)] at this
theorem zBU(h:PuA t σ G [.int j])(hj:-1000000<=j/\j<=1000000):PuI (iR1 t) σ G (yM 0 j.toNat):=fun G2 e R q=>h G2 e _ ⟨hj,q _ G2 (.refl _) fun u0 u0=>trivial⟩
theorem zIS(h:PuA t σ G [.int i,.int j])(hj:(-1000000<=i/\i<=1000000)/\-1000000<=j/\j<=1000000):PuI (iR2 t) σ G (yM i (j-i).toNat):=fun G2 e R q=>h G2 e _ ⟨hj,q _ G2 (.refl _) fun u0 u0=>trivial⟩
theorem wk.nil:wk [] []:=.refl _
theorem wk.keep(h:wk r r'):wk (o::r) (o::r'):=⟨by simp[h.len],fun i d e=>by
 cases i with
 | zero=>simpa using e
 | succ i=>simpa using h.val i d (by simpa using e)⟩
theorem wk.skip(h:wk r r'):wk (none::r) (o::r'):=⟨by simp[h.len],fun i d e=>by
 cases i with
 | zero=>simp at e
 | succ i=>simpa using h.val i d (by simpa using e)⟩
theorem wk.trans(h:wk a b)(h':wk b c):wk a c:=⟨h.len.trans h'.len,fun i d e=>h'.val i d (h.val i d e)⟩
theorem zLy:Fg (fun σ' G'=>σ'=σ/\G'=G)=fun σ' G'=>wk σ σ'/\Sub G G':=by
 funext σ' G';apply propext;constructor
 ·rintro⟨u0,u0,h1,h2,rfl,rfl⟩
  exact⟨h1,h2⟩
 ·rintro⟨h1,h2⟩
  exact⟨σ,G,h1,h2,rfl,rfl⟩
noncomputable def yw(wi:TI2)(g:TG2)(tb:yd):yd:=fun E σ G=>Fg (fun σ' G'=>zO8 wi g tb E σ' G') σ G
theorem wg(hp:PassesOwn (model X.prog X.w) X.A X.env X.xe)(hc:X.calm=true)(hi:I2 X tg iter wi)(hg:G2 X tg g)(hb:Ps2 X body tb)
  (hs:autoParam (∀ x,foldedSetIterable iter X.env x=pure x) Zq3._auto_1):P2 X (.For tg iter body [] pos) (yw wi g tb):=by
 refine PS.mono (zO9 hp hc hi hg hb hs) ?_;rintro E σ1 H ⟨σ,G,D2,r,⟨σ',G',s1,s2,q⟩,k⟩;exact⟨σ',G',D2,r.sub s1 s2,q,k⟩
noncomputable def zE2(tc:TT2)(tb:yd):yd:=fun E σ G=>Fg (fun σ' G'=>zJx tc tb E σ' G') σ G
theorem zFg(hp:PassesOwn (model X.prog X.w) X.A X.env X.xe)(hc:T2 X c tc)(hb:Ps2 X body tb):P2 X (.While c body [] pos) (zE2 tc tb):=by
 refine PS.mono (zLu hp hc hb) ?_;rintro E σ1 H ⟨σ,G,D2,r,⟨σ',G',s1,s2,q⟩,k⟩;exact⟨σ',G',D2,r.sub s1 s2,q,k⟩
theorem zCB(hw:PuI wi σ G ds)
  (hb:∀ x∈ds,∀ G1,Ext G G1->g x σ G1 fun σ2 G2=>tb { E with nx:=fun σ' G'=>wk σ σ'/\Sub G1 G',ct:=fun σ' G'=>wk σ σ'/\Sub G1 G',bk:=E.nx } σ2 G2) (h:∀ G1,Ext G G1->E.nx σ G1)  (hf:autoParam (wk σ σ0) Zq8._auto_1):yw wi g tb E σ0 G:=by
 refine⟨σ,G,hf,.refl G,?_⟩;refine hw G (.refl G) _ fun gd G3 e3 hgd=>⟨fun i σ' G'=>σ'=σ/\G'=G3,⟨rfl,rfl⟩,?_,?_,?_⟩
 ·rintro i σ' G' u0 ⟨rfl,rfl⟩
  exact hgd _ (.refl _)
 ·rintro i x σ' G' hi ⟨rfl,rfl⟩
  rw[zLy];exact hb x (dS hi) _ e3
 ·rintro σ' G' ⟨rfl,rfl⟩
  exact h _ e3
end
noncomputable def zLz(ds:List D)(gd:Gp->Prop)(G1:Gp)(g:TG2)(tb:yd)(E:zz)(σ:S2):Prop:=∃ Pv:Nat->S2->Gp->Prop,Pv 0 σ G1/\(∀ i σ G,i<=ds.length->Pv i σ G->gd G) /\
 (∀ i x σ G,ds[i]?=some x->Pv i σ G->g x σ G fun σ2 G2=>tb { E with nx:=Fg (Pv (i+1)),ct:=Fg (Pv (i+1)),bk:=E.nx } σ2 G2)/\∀ σ G,Pv ds.length σ G->E.nx σ G
theorem zN5{σ:S2}{I:Gp->Prop}:Fg (fun σ' G'=>σ'=σ/\I G')=fun σ' G'=>wk σ σ'/\∃ G'',Sub G'' G'/\I G'':=by
 funext σ' G';apply propext;constructor
 ·rintro⟨u0,G'',h1,h2,rfl,h3⟩
  exact⟨h1,G'',h2,h3⟩
 ·rintro⟨h1,G'',h2,h3⟩
  exact⟨σ,G'',h1,h2,rfl,h3⟩
theorem wm(I:Nat->Gp->Prop)(h0:I 0 G1)(hg:∀ i G',I i G'->gd G')
  (hb:∀ i x,ds[i]?=some x->∀ G2,I i G2->g x σ G2 fun σ2 G3=>tb { E with nx:=fun σ' G'=>wk σ σ'/\∃ G'',Sub G'' G'/\I (i+1) G'',ct:=fun σ' G'=>wk σ σ'/\∃ G'',Sub G'' G'/\I (i+1) G'',bk:=E.nx } σ2 G3)
  (h:∀ G2,I ds.length G2->E.nx σ G2):zLz ds gd G1 g tb E σ:=by
 refine⟨fun i σ' G'=>σ'=σ/\I i G',⟨rfl,h0⟩,?_,?_,?_⟩
 ·rintro i σ' G' u0 ⟨u0,h⟩
  exact hg i G' h
 ·rintro i x σ' G' hi ⟨rfl,hI⟩
  rw[zN5];exact hb i x hi G' hI
 ·rintro σ' G' ⟨rfl,hI⟩
  exact h G' hI
noncomputable def zM0(ds:List D)(gd:Gp->Prop)(G1:Gp)(A:Addr)(bd:D->Option (List D))(tc:TT2)(te:zi)(σ:S2)(R:List D->Gp->Prop):Prop:=∃ Pv:Nat->List D->Gp->Prop,Pv 0 [] (zS G1 A [])/\(∀ i acc G,i<=ds.length->Pv i acc G->gd G/\G.m A=some acc/\acc.length<=i) /\
 (∀ i x acc G,ds[i]?=some x->Pv i acc G->match bd x with
  | some us=>tc (σ++us.map some) G fun b G3=>if b=true then te (σ++us.map some) G3 fun d G4=>G4.m A=some acc/\FgG (Pv (i+1) (acc++[d])) (zS G4 A (acc++[d])) else FgG (Pv (i+1) acc) G3
  | none=>False)/\∀ acc G,Pv ds.length acc G->∃ G',G'.m A=none/\Sub G' G/\R acc G'
theorem zHR(h:wi σ G fun ds gd G1=>∀ A,G1.m A=none->zM0 ds gd G1 A bd tc te σ R):yV wi bd tc te σ G R:=h
theorem zFh(I:Nat->List D->Gp->Prop)(h0:I 0 [] (zS G1 A []))(hg:∀ i acc G',I i acc G'->gd G'/\G'.m A=some acc/\acc.length<=i)
  (hb:∀ i x acc G',ds[i]?=some x->I i acc G'->∃ us,bd x=some us/\tc (σ++us.map some) G' fun b G3=>if b=true then te (σ++us.map some) G3 fun d G4=>G4.m A=some acc/\FgG (I (i+1) (acc++[d])) (zS G4 A (acc++[d])) else FgG (I (i+1) acc) G3)
  (h:∀ acc G',I ds.length acc G'->∃ G'',G''.m A=none/\Sub G'' G'/\R acc G''):zM0 ds gd G1 A bd tc te σ R:=by
 refine⟨I,h0,fun i acc G' u0 q=>hg i acc G' q,fun i x acc G' hi q=>?_,h⟩;obtain⟨us,e,q⟩:=hb i x acc G' hi q;rw[e];exact q
noncomputable def zEX:Sp2:=fun ds G R=>∃(a:Addr) (ns:List Int),ds=[.adr a]/\G.ro a=some (ns.map D.int)/\ns.length<=63/\(∀ l,G.m l=none)/\R (.bl true) G
theorem zN6{K:PySem.W.Frag}{H:Hp}{a:Addr}{ns:List Int}(hl:ns.length<=63)(hO:zLi H)(hS:SqL K H a (ns.map V.int)):lSp K zEX [.ref a] H (fun v u0=>v=.bl true) fun u0 u0 u0=>False:=by
 refine⟨[.adr a],⟨fun u0=>none,fun b=>if b=a then some (ns.map D.int) else none,fun u0=>none⟩,fun d u0=>d=.bl true,.cons (by unfold zM;rfl) .nil,⟨fun b ds e=>(by cases e),fun b ds e=>?_,fun b ds e=>(by cases e)⟩,⟨a,ns,rfl,by simp,hl,fun u0=>rfl,rfl⟩,fun d G' q v H' g r dv=>?_⟩
 ·by_cases hb:b=a
  ·subst hb
   simp at e;subst e;refine⟨_,?_,Dens.ints ns⟩;rcases hS with h | h
   ·rcases hO b with h' | ⟨o,xs,h'⟩ | ⟨ps,h'⟩
    ·rcases h with h | ⟨o,h⟩<;>(rw[h'] at h;cases h)
    ·rcases h with h | ⟨o',h⟩
     ·rw[h'] at h;cases h
     ·exact .inl ⟨o',h⟩
    ·rcases h with h | ⟨o',h⟩<;>(rw[h'] at h;cases h)
   ·exact .inr h
  ·simp[hb] at e
 ·subst q
  unfold zM at dv;exact dv
noncomputable def OkS(s:Int)(b:Bool):Prop:=b=false->0<=s/\s<2147483647
noncomputable def zAN(G:Gp)(l:Addr):Prop:=∃ s b,G.m l=some [.int s,.bl b]/\OkS s b
noncomputable def Dr(l:Addr)(G G':Gp):Prop:=∃ s b,G'=zS G l [.int s,.bl b]/\OkS s b
theorem Dr.st(h:Dr l G G'):zAN G' l:=by
 obtain⟨s,b,rfl,h⟩:=h;exact⟨s,b,zG,h⟩
theorem Dr.trans{l:Addr}{G G1 G2:Gp}(h:Dr l G G1)(h':Dr l G1 G2):Dr l G G2:=by
 obtain⟨s,b,rfl,h⟩:=h;obtain⟨s',b',rfl,h'⟩:=h';exact⟨s',b',zAd,h'⟩
theorem zL0(h:G.m l=some o):zS G l o=G:=by
 cases G with
 | mk m ro =>
  unfold zS;congr 1;funext b;by_cases hb:b=l
  ·subst hb;rw[if_pos rfl];exact h.symm
  ·rw[if_neg hb]
theorem Dr.refl(h:zAN G l):Dr l G G:=by
 obtain⟨s,b,h1,h2⟩:=h;exact⟨s,b,(zL0 h1).symm,h2⟩
theorem Dr.ro(h:Dr l G G'):G'.ro=G.ro:=by
 obtain⟨s,b,rfl,h⟩:=h;rfl
theorem Dr.ne(h:Dr l G G')(ha:a≠l):G'.m a=G.m a:=by
 obtain⟨s,b,rfl,h⟩:=h;exact zT ha
theorem Dr.none(h:Dr l G G')(s:zAN G l)(ha:G.m a=none):G'.m a=none:=by
 obtain⟨u0,u0,h1,u0⟩:=s;rw[h.ne (fun e=>by subst e;rw[h1] at ha;cases ha)];exact ha
theorem zAN.ne(s:zAN G l)(ha:G.m a=none):a≠l:=fun e=>by
 obtain⟨u0,u0,h1,u0⟩:=s;subst e;rw[h1] at ha;cases ha
theorem zAN.ext(s:zAN G l)(h:Sub G G'):zAN G' l:=by
 obtain⟨x,b,h1,h2⟩:=s;exact⟨x,b,h.m l _ h1,h2⟩
theorem Dr.sub{l:Addr}{G G1 G2:Gp}(h:Dr l G1 G2)(e:Sub G G1):∃ G',Dr l G G'/\Sub G' G2:=by
 obtain⟨s,b,rfl,h⟩:=h;refine⟨zS G l [.int s,.bl b],⟨s,b,rfl,h⟩,⟨fun a o q=>?_,fun a o q=>e.ro a o q,fun a o q=>e.dc a o q⟩⟩;by_cases ha:a=l
 ·subst ha;rw[zG] at q ⊢;exact q
 ·rw[zT ha] at q ⊢;exact e.m a o q
theorem zCC(x:α)(r:List α):atI (x::r) 0=some x:=zBR (j:=0) rfl
theorem zFi(x y:α)(r:List α):atI (x::y::r) 1=some y:=zBR (j:=1) rfl
theorem zJ2(x y z:α)(r:List α):atI (x::y::z::r) 2=some z:=zBR (j:=2) rfl
theorem zCD:yr (.tup (x::r)) (.int 0) G R=R x G:=by simp only[yr,zCC]
theorem zCE:yr (.tup (x::y::r)) (.int 1) G R=R y G:=by simp only[yr,zFi]
theorem zDa:yr (.tup (x::y::z::r)) (.int 2) G R=R z G:=by simp only[yr,zJ2]
theorem zAr:fIn ng x (.tup ds) G R=(flat 8 x=true/\(∀ d∈ds,flat 8 d=true)/\R (.bl (if ng then !ds.any fun z=>wN z x else ds.any fun z=>wN z x)) G):=rfl
theorem zGj:(0<=sizeLine)=True:=by rw[sizeLine_eq];simp
theorem zGk:(1<=sizeLine)=True:=by rw[sizeLine_eq];simp
theorem zGl:(2<=sizeLine)=True:=by rw[sizeLine_eq];simp
theorem zGm:(3<=sizeLine)=True:=by rw[sizeLine_eq];simp
theorem wP(p:Prop):(True/\p)=p:=by simp
theorem zAs{p q:Prop}:(if true=true then p else q)=p:=if_pos rfl
theorem zAt{p q:Prop}:(if false=true then p else q)=q:=if_neg (by simp)
section
variable {X:Cx} {pins:List (Addr×Obj)} {σ1:L2.St} {H:Hp} {s:Shared} {A:Around}
end
section
variable {X:Cx} {e o:Expr} {es:List Expr} {to:zi} {t:yj} {name:Str} {apos cpos:Pos}
end
end L3
namespace HT
section
variable {prog:Program} {w:World} {A:Around} {R:Result->Shared->Prop} {I:Addr} {fp wr:List Addr} {n:Nat} {P:Nat->Value->Prop} {St:Nat->Heap->Prop}
end
section
variable {prog:Program} {w:World} {A:Around} {E:Value->Shared->Prop} {s:Shared}
theorem IsTup.at'{h h':Heap}{a:Addr}{its:Array Value}(x:IsTup h a its)(k:∀ o,h.get? a=some o->h'.get? a=some o):IsTup h' a its:=let ⟨o,h1,h2,h3⟩:=x;⟨o,k o h1,h2,h3⟩
end
end HT
namespace L3
open L2
section
variable {X:Cx} {a b c d e o:Expr} {es:List Expr} {pos p:Pos} {ta tb tc td te:zi} {tl:TL2}
theorem zHS(hg:Gl X x)(hm:X.mg x=some (.int n t))(hd:autoParam ((x==("__debug__":Str))=false) Zq2._auto_1):E2 X (.Name x pos) (xC (.int n)):=by
 refine PE.mono (zHG (v:=.int n) hg hm ⟨t,rfl⟩ hd) ?_;rintro σ1 H Q ⟨σ,G,R,r,q,k⟩;exact k _ G q _ H (.refl H) r.g (by unfold zM;rfl)
theorem zFj{A:Around}{prog:Program}{w:World}{bs:List Bool}:TruthOf prog w A (fun i v=>(bs.map Value.bool).toArray[i]?=some v) (fun i=>bs.getD i false):=by
 intro i v s Q E h q;have hi:i<bs.length:=by
  have:=(fI.mp h).1;simpa using this
 have:v=.bool bs[i]:=by
  have:=h;simp[hi] at this;exact this.symm
 subst this;have e:bs.getD i false=bs[i]:=by simp[gc,hi]
 have q':Q (bs.getD i false) s:=q;rw[e] at q';exact fq q'
theorem all_range(bs:List Bool):(dq bs.length).all (fun i=>bs.getD i false)=bs.all id:=by
 rw[eD];simp only[gg,eS,id];constructor
 ·intro h x hx
  obtain⟨i,hi⟩:=List.getElem?_of_mem hx;have hl:i<bs.length:=(di.mp hi).1;have:=h i hl;simp[gc,hi] at this;exact this
 ·intro h i hi
  have:bs.getD i false=bs[i]:=by simp[gc,hi]
  rw[this];exact h _ (fH _)
theorem zDb:∀ {bs:List Bool} {us:List Value},zW (bs.map V.bl) us->us=bs.map Value.bool
 | [],_,h=>by cases h;rfl
 | b::r,_,h=>by
  rw[eA] at h;cases h with
  | cons h1 h2=>rw[zDb h2,(show _=Value.bool b from h1)];rfl
theorem zIT(hc:X.calm=true):yt X (.builtin "all") (fun xs H Q=>∃ l bs,xs=[.ref l]/\SqL X.K H l (dB V.bl bs)/\Q (.bl (bs.all id)) H):=by
 intro pins s σ H xs us Q I r h;obtain⟨l,bs,rfl,hs,q⟩:=h;obtain⟨u,rfl,rx⟩:=vals1 r;cases rx;obtain⟨its,rv,pl,u0⟩:=I.list hs;have:=zDb rv;subst this;have hl:=pl.isList;have ll:l<s.heap.objs.size:=by obtain⟨o,e,u0⟩:=hl;exact d7 e
 refine call_all_walkS (wpAny_pyIter_list hl ?_);refine⟨_,_,_,_,_,_,_,fun i=>bs.getD i false,rfl,(Walks.list (A:=X.A.in1) (I.ok.hd hc) s.heap.objs.size l (dP ll) (bs.map Value.bool).toArray).toS,⟨⟨_,d9 _ rfl,rfl,rfl⟩,hl.push _⟩,zFj,fun s' hm=>?_⟩;have e1:(bs.map Value.bool).toArray.size=bs.length:=by simp
 rw[e1,all_range,Moved.eq_with hm];refine⟨.bl _,H,I.kept (t':=s'.toks) fun b o e=>hm.heap b o (fun z=>?_) (cP _ e),rfl,q⟩;rw[dt] at z;have:=d7 e;rw[z] at this;exact absurd this (fb _)
noncomputable def zL1:Sp2:=fun ds G R=>∃ bs:List Bool,ds=bs.map D.bl/\R (.bl (bs.all id)) G
theorem Dens.bools_inv{K:PySem.W.Frag}{H:Hp}:∀ {bs:List Bool} {xs:List V},Dens K H (bs.map D.bl) xs->xs=bs.map V.bl
 | [],xs,h=>by unfold Dens at h;exact h
 | n::r,xs,h=>by
  rw[eA] at h;unfold Dens at h;obtain⟨x,y,rfl,h1,h2⟩:=h;unfold zM at h1;rw[h1,Dens.bools_inv h2];rfl
theorem zPH(hc:X.calm=true)(hg:Gl X "all")(hm:X.mg "all"=none)(ha:F2 X e tl)(he:autoParam (starEach [e] X.env=(false,eval e X.env)::starEach [] X.env) Zq4._auto_1)(hpl:autoParam ((backTo pos (starEach [] X.env)).any (·.1)=false) Zq4._auto_1) :
  E2 X (.Call (.Name "all" p) [e] [] pos) (yB zL1 tl):=zJv (zIT hc) (by
   rintro ds G R l xs H Q ⟨bs,rfl,h⟩ r e d k;have:=d.bools_inv;subst this;exact⟨l,bs,rfl,.of e,k _ G h _ H (.refl H) r (by unfold zM;rfl)⟩) hg hm (by decide +kernel) ha (by decide) (by decide) he hpl
section
variable {op op' op'':CmpOp} {r r' r'':R2} {f g h:D->D->Gp->Q2->Prop}
end
end
end L3
namespace K
open L2 L3
noncomputable abbrev nD(n:Nat):D:=.int (n:Int)
noncomputable def yX(n:Nat):List (Nat×Nat):=(dq n).flatMap fun i=>(dq (n-(i+1))).map fun k=>(i,i+1+k)
noncomputable def yf(p:Nat×Nat):D:=.tup [nD p.1,nD p.2]
noncomputable def zK(n:Nat)(q:Nat×Nat->Bool):D:=.tup [nD n,.tup (((yX n).filter q).map yf)]
noncomputable def adj(q:Nat×Nat->Bool)(i j:Nat):Bool:=decide (i≠j)&&q (min i j,max i j)
theorem zAu:p∈yX n↔p.1<p.2/\p.2<n:=by
 obtain⟨i,j⟩:=p;unfold yX;simp only[List.mem_flatMap,dL,eS,Prod.mk.injEq];constructor
 ·rintro⟨a,ha,k,hk,rfl,rfl⟩;omega
 ·rintro⟨h1,h2⟩;exact⟨i,by omega,j-(i+1),by omega,rfl,by omega⟩
theorem zBi{α β:Type}{f:α->List β}:∀ {l:List α},l.Nodup->(∀ x∈l,(f x).Nodup)->(∀ x∈l,∀ y∈l,x≠y->∀ z,z∈f x->z∉f y)->(l.flatMap f).Nodup
 | [],_,_,_=>by simp
 | a::r,h,h1,h2=>by
  rw[List.flatMap_cons];obtain⟨ha,hr⟩:=fF.mp h;refine List.nodup_append.mpr ⟨h1 a (by simp),zBi hr (fun x hx=>h1 x (by simp[hx])) (fun x hx y hy=>h2 x (by simp[hx]) y (by simp[hy])),fun x hx y hy e=>?_⟩;subst e;obtain⟨b,hb,hz⟩:=List.mem_flatMap.mp hy;exact h2 a (by simp) b (by simp[hb]) (fun e=>ha (e▸hb)) x hx hz
theorem zBj{α β:Type}{f:α->β}(hf:∀ x y,f x=f y->x=y):∀ {l:List α},l.Nodup->(l.map f).Nodup
 | [],_=>by simp
 | a::r,h=>by
  obtain⟨ha,hr⟩:=fF.mp h;rw[eA];refine fF.mpr ⟨fun hm=>?_,zBj hf hr⟩;obtain⟨b,hb,e⟩:=dL.mp hm;exact ha (hf _ _ e▸hb)
theorem zIU(n:Nat):(yX n).Nodup:=by
 unfold yX;refine zBi List.nodup_range (fun i u0=>zBj (fun x y e=>by simpa using e) List.nodup_range) fun i u0 j u0 hne z hz hz'=>?_;obtain⟨k,u0,rfl⟩:=dL.mp hz;obtain⟨k',u0,e⟩:=dL.mp hz';exact hne (by simpa using(congrArg Prod.fst e).symm)
theorem zDc(h:n<=100):(yX n).length<=10000:=by
 unfold yX;rw[List.length_flatMap];have:∀ l:List Nat,(∀ x∈l,x<=100)->l.sum<=100*l.length:=by
  intro l
  induction l with
  | nil=>simp
  | cons a r ih =>
   intro h;have h1:=h a (by simp);have h2:=ih fun x hx=>h x (by simp[hx]);simp only[List.sum_cons,cW];omega
 have q:=this ((dq n).map fun i=>((dq (n-(i+1))).map fun k=>(i,i+1+k)).length) (by simp;omega);simp only[db,eT] at q ⊢;omega
theorem zBH(p:Nat×Nat):flat (n+1) (yf p)=true:=by simp[yf,flat]
theorem zAv:wN (.int i) (.int j)=decide (i=j):=by show(i==j)=decide (i=j);rw[eD];simp
theorem zE3(p q:Nat×Nat):wN (yf p) (yf q)=decide (p=q):=by
 obtain⟨a,b⟩:=p;obtain⟨c,d⟩:=q;show(((a:Int)==(c:Int))&&(((b:Int)==(d:Int))&&true))=decide ((a,b)=(c,d));rw[eD];simp;omega
theorem zL2(l:List (Nat×Nat))(p:Nat×Nat):((l.map yf).any fun z=>wN z (yf p))=decide (p∈l):=by
 rw[List.any_map,eD];simp only[List.any_eq_true,Function.comp,zE3,decide_eq_true_eq];constructor
 ·rintro⟨x,h,rfl⟩;exact h
 ·intro h;exact⟨p,h,rfl⟩
theorem zCj:flat 8 (zK n q)=true:=by
 simp only[zK,flat,List.all_cons,List.all_nil,Bool.and_true,Bool.true_and,gg];intro x hx;obtain⟨p,u0,rfl⟩:=dL.mp hx;exact zBH p
theorem zC6{a b:Nat}:((a:Int)=(b:Int))↔a=b:=by omega
theorem zAw:yr (zK n q) (.int 0) G R=R (nD n) G:=zCD
theorem zBI:yr (zK n q) (.int 1) G R=R (.tup (((yX n).filter q).map yf)) G:=zCE
noncomputable def zDd:List D->Gp->(List D->Gp->Prop)->Prop:=fun ds G R=>∃ n:Nat,ds=[nD n]/\n<=100/\R ((yX n).map yf) G
theorem zGn:∀ ds G R R',(∀ ls G',R ls G'->R' ls G')->zDd ds G R->zDd ds G R':=by
 rintro ds G R R' h ⟨n,e,hn,q⟩;exact⟨n,e,hn,h _ _ q⟩
noncomputable def yg:List D->Gp->(List D->Gp->Prop)->Prop:=fun ds G R=>∃ ps:List Nat,ds=[.tup (ps.map nD)]/\ps.length<=100/\R (((yX ps.length).map fun p=>(ps.getD p.1 0,ps.getD p.2 0)).map yf) G
theorem zEC:∀ ds G R R',(∀ ls G',R ls G'->R' ls G')->yg ds G R->yg ds G R':=by
 rintro ds G R R' h ⟨n,e,hn,q⟩;exact⟨n,e,hn,h _ _ q⟩
noncomputable def zu:=zDd
theorem wn:∀ ds G R R',(∀ ls G',R ls G'->R' ls G')->zu ds G R->zu ds G R':=zGn
noncomputable def zBV:Sp2:=fun ds G R=>∃(n:Nat) (q:Nat×Nat->Bool) (i j:Nat),ds=[zK n q,nD i,nD j]/\i<n/\j<n/\R (.bl (adj q i j)) G
noncomputable def zAf:Sp2:=fun ds G R=>∃(n:Nat) (q:Nat×Nat->Bool) (i:Nat),ds=[zK n q,nD i]/\i<n/\n<=100/\R (.tup (((dq n).filter (adj q i)).map nD)) G
noncomputable def zE4:yd:=(zy (zY (fIn false) (yx (zA (zO zAP (zA (zB 1) (zA (zB 2) zI))) (zA (zO zAe (zA (zB 1) (zA (zB 2) zI))) zI))) (zY yr (zB 0) (xC (.int 1)))))
theorem zL3(hi:i<n)(hj:j<n):decide ((min i j,max i j)∈(yX n).filter q)=adj q i j:=by
 rw[eD,decide_eq_true_eq,fj,zAu];unfold adj;simp only[fm,decide_eq_true_eq];constructor
 ·rintro⟨h1,h2⟩;exact⟨by omega,h2⟩
 ·rintro⟨h1,h2⟩;exact⟨by omega,h2⟩
theorem zJ3:∀ d∈((yX n).filter q).map yf,flat 8 d=true:=by
 intro x hx;obtain⟨p,u0,rfl⟩:=dL.mp hx;exact zBH p
theorem zN7(ds:List D)(G:Gp)(R:Q2)(h:zBV ds G R):ds.length=3/\zE4 (zn R) (zV ["web","one","other"] ds) G:=by
 obtain⟨n,q,i,j,rfl,hi,hj,h⟩:=h;refine⟨rfl,?_⟩;have e1:(if (j:Int)<(i:Int) then (j:Int) else i)=((min i j:Nat):Int):=by split<;>omega
 have e2:(if (j:Int)>(i:Int) then (j:Int) else i)=((max i j:Nat):Int):=by split<;>omega
 unfold zE4
 ((try dsimp only [zy,zU,zk,xIf,ye,yH,gN,gNN,zY,yx,yk,zj,zA,zI,zO,yQ,yB,yb,zB,look,zV,zAP,zAe,zAr,zCD,zCE,zDa,zAw,zBI,fII,wF,wa,fEq,xC,xB,zB5,zB4,zA7,zGh,dB,cX,cY,cR,cT,cW,cZ,cU,cV,Nat.reduceSub,Nat.reduceAdd,zGj,zGk,zGl,zGm,wP,zAs,zAt,if_true,if_false,cQ]) <;> (try simp only [zy,zU,zk,xIf,ye,yH,gN,gNN,zY,yx,yk,zj,zA,zI,zO,yQ,yB,yb,zB,look,zV,zAP,zAe,zAr,zCD,zCE,zDa,zAw,zBI,fII,wF,wa,fEq,xC,xB,zB5,zB4,zA7,zGh,dB,cX,cY,cR,cT,cW,cZ,cU,cV,Nat.reduceSub,Nat.reduceAdd,zGj,zGk,zGl,zGm,wP,zAs,zAt,if_true,if_false,cQ]))
 rw[e1,e2];have e3:=zL2 ((yX n).filter q) (min i j,max i j);rw[zL3 hi hj] at e3;refine⟨zBH (min i j,max i j),zJ3,?_⟩;rw[<-e3] at h;exact .of h
noncomputable def zCF:yd:=(zy (yB yb (yV (iR1 (zA (zY yr (zB 0) (xC (.int 0))) zI)) bd1 (xB (zO zBV (zA (zB 0) (zA (zB 1) (zA (zB 2) zI))))) (zB 2))))
theorem zCG(n:Nat):yM 0 ((n:Int)).toNat=(dq n).map nD:=by simp[yM,nD]
theorem zJ4(ds:List D)(G:Gp)(R:Q2)(h:zAf ds G R):ds.length=2/\zCF (zn R) (zV ["web","place"] ds) G:=by
 obtain⟨n,q,i,rfl,hi,hn,h⟩:=h;refine⟨rfl,?_⟩;unfold zCF zy;have hw:PuI (iR1 (zA (zY yr (zB 0) (xC (.int 0))) zI)) (zV ["web","place"] [zK n q,nD i]) G ((dq n).map nD):=by
  rw[<-zCG];exact zBU (zF (zAE (zH rfl) wZ fun u0 u0 u0 q=>by rw[zAw];exact q) zR) (by omega)
 have:=zCA (tc:=(xB (zO zBV (zA (zB 0) (zA (zB 1) (zA (zB 2) zI)))))) (te:=zB 2) (bd:=bd1) (fun d=>match d with | .int j=>adj q i j.toNat | _=>false) (fun d=>d) (fun d=>[d]) hw fun x hx=>by
  obtain⟨j,hj,rfl⟩:=dL.mp hx;refine⟨rfl,zAM (yJ (zF (zH rfl) (zF (zH rfl) (zF (zH rfl) zR))) fun u0 u0 u0 q'=>⟨n,q,i,j,rfl,hi,eS.mp hj,q'⟩),fun u0=>zH rfl⟩
 refine zJy this G (.refl G) _ (.of ?_);have e:dB (fun d=>d) (List.filter (fun d=>match d with | .int j=>adj q i j.toNat | _=>false) ((dq n).map nD))=((dq n).filter (adj q i)).map nD:=by
  rw[List.map_id',List.filter_map];rfl
 rw[e];exact h
noncomputable def zBJ(d:D):Nat×Nat:=match d with | .tup [.int i,.int j]=>(i.toNat,j.toNat) | _=>(0,0)
theorem zEY(p:Nat×Nat):zBJ (yf p)=p:=rfl
theorem zAg(h:yC t σ G (zK n q)):yC (zY yr t (xC (.int 0))) σ G (nD n):=zAE h wZ fun u0 u0 u0 q=>by rw[zAw];exact q
theorem zJ5(h:yC t σ G (zK n q)):yC (zY yr t (xC (.int 1))) σ G (.tup (((yX n).filter q).map yf)):=zAE h wZ fun u0 u0 u0 q=>by rw[zBI];exact q
theorem wI(h:G.m l=some ds)(e:atI ds k=some x)(q:R x G):yr (.adr l) (.int k) G R:=⟨ds,x,.inl h,e,q⟩
theorem zM1(ho:look σ i=some (.adr l))(h:G.m l=some (x::r))(q:R σ (zS G l (d::r))):gIx (zB i) (xC (.int 0)) d σ G R:=by
 unfold gIx zB;rw[ho];show match G.m l with | some ds=>_ | none=>_
 rw[h];have e:ixN (x::r).length 0=some 0:=by simp[ixN]
 show match ixN (x::r).length 0 with | some j=>R σ (zS G l ((x::r).set j d)) | none=>False
 rw[e];exact q
noncomputable def wJ:Sp2:=fun ds G R=>∃(a:Addr) (ns:List Int) (k:Nat),ds=[.adr a,nD k]/\Ls G a (ns.map D.int)/\∀ c:Int,R (.int c) G
noncomputable def zAQ:yd:=(zU (xIf (xB (zY (fII fun i j=>.bl (decide (i<j))) (zB 1) (zO wB (zA (zB 0) zI)))) (zy (zY yr (zB 0) (zB 1))) yH) (zy (xC (.int 0))))
theorem zFk(ds:List D)(G:Gp)(R:Q2)(h:wJ ds G R):ds.length=2/\zAQ (zn R) (zV ["script","k"] ds) G:=by
 obtain⟨a,ns,k,rfl,ha,h⟩:=h;refine⟨rfl,?_⟩;unfold zAQ
 ((try dsimp only [zy,zU,zk,xIf,ye,yH,gN,gNN,zY,yx,yk,zj,zA,zI,zO,yQ,yB,yb,zB,look,zV,zAP,zAe,zAr,zCD,zCE,zDa,zAw,zBI,fII,wF,wa,fEq,xC,xB,zB5,zB4,zA7,zGh,dB,cX,cY,cR,cT,cW,cZ,cU,cV,Nat.reduceSub,Nat.reduceAdd,zGj,zGk,zGl,zGm,wP,zAs,zAt,if_true,if_false,cQ]) <;> (try simp only [zy,zU,zk,xIf,ye,yH,gN,gNN,zY,yx,yk,zj,zA,zI,zO,yQ,yB,yb,zB,look,zV,zAP,zAe,zAr,zCD,zCE,zDa,zAw,zBI,fII,wF,wa,fEq,xC,xB,zB5,zB4,zA7,zGh,dB,cX,cY,cR,cT,cW,cZ,cU,cV,Nat.reduceSub,Nat.reduceAdd,zGj,zGk,zGl,zGm,wP,zAs,zAt,if_true,if_false,cQ]))
 refine⟨ns.map D.int,ha,?_⟩;dsimp only;by_cases hk:k<ns.length
 ·rw[decide_eq_true (by rw[db];omega),if_pos rfl]
  exact⟨_,.int ns[k],ha,zBR (by simp[hk]),FgR.of (h _)⟩
 ·rw[decide_eq_false (by rw[db];omega),if_neg (by simp)]
  exact FgR.of (h 0)
noncomputable def yW:List D->Gp->(List D->Gp->Prop)->Prop:=fun ds G R=>∃(a:Addr) (ns:List Int) (k:Nat),ds=[.adr a,nD k]/\Ls G a (ns.map D.int)/\∀ s b,OkS s b->R [.int s,.bl b] G
theorem zE5:∀ ds G R R',(∀ ls G',R ls G'->R' ls G')->yW ds G R->yW ds G R':=by
 rintro ds G R R' h ⟨a,ns,k,e,ha,q⟩;exact⟨a,ns,k,e,ha,fun s b o=>h _ _ (q s b o)⟩
noncomputable def zBW:yd:=(zU (zk (zO wJ (zA (zB 0) (zA (zB 1) zI))) (gN 2)) (zU (xIf (xB (zY (fII fun i j=>.bl (decide (j<=i))) (zB 2) (zY (wF zID fun i j=>.int (i ^ j.toNat)) (xC (.int 10)) (xC (.int 18))))) (zy (zj (yk (zA (zY (fII fun i j=>.int (i-j)) (zB 2) (zY (wF zID fun i j=>.int (i ^ j.toNat)) (xC (.int 10)) (xC (.int 18)))) (zA (xC (.bl true)) zI))))) yH) (zy (zj (yk (zA (zY (wF (fun u0 j=>0<j) fun i j=>.int (i%j)) (zB 2) (xC (.int 2147483647))) (zA (xC (.bl false)) zI)))))))
theorem zJ6:zID 10 18:=by unfold zID;decide
theorem zIV(ds:List D)(G:Gp)(R:Q2)(h:spL yW ds G R):ds.length=2/\zBW (zn R) (zV ["script","k","cell"] ds) G:=by
 obtain⟨a,ns,k,rfl,ha,h⟩:=h;refine⟨rfl,?_⟩;unfold zBW
 ((try dsimp only [zy,zU,zk,xIf,ye,yH,gN,gNN,zY,yx,yk,zj,zA,zI,zO,yQ,yB,yb,zB,look,zV,zAP,zAe,zAr,zCD,zCE,zDa,zAw,zBI,fII,wF,wa,fEq,xC,xB,zB5,zB4,zA7,zGh,dB,cX,cY,cR,cT,cW,cZ,cU,cV,Nat.reduceSub,Nat.reduceAdd,zGj,zGk,zGl,zGm,wP,zAs,zAt,if_true,if_false,cQ]) <;> (try simp only [zy,zU,zk,xIf,ye,yH,gN,gNN,zY,yx,yk,zj,zA,zI,zO,yQ,yB,yb,zB,look,zV,zAP,zAe,zAr,zCD,zCE,zDa,zAw,zBI,fII,wF,wa,fEq,xC,xB,zB5,zB4,zA7,zGh,dB,cX,cY,cR,cT,cW,cZ,cU,cV,Nat.reduceSub,Nat.reduceAdd,zGj,zGk,zGl,zGm,wP,zAs,zAt,if_true,if_false,cQ]))
 refine⟨a,ns,k,rfl,ha,fun c=>?_⟩
 ((try dsimp only [zy,zU,zk,xIf,ye,yH,gN,gNN,zY,yx,yk,zj,zA,zI,zO,yQ,yB,yb,zB,look,zV,zAP,zAe,zAr,zCD,zCE,zDa,zAw,zBI,fII,wF,wa,fEq,xC,xB,zB5,zB4,zA7,zGh,dB,cX,cY,cR,cT,cW,cZ,cU,cV,Nat.reduceSub,Nat.reduceAdd,zGj,zGk,zGl,zGm,wP,zAs,zAt,if_true,if_false,cQ]) <;> (try simp only [zy,zU,zk,xIf,ye,yH,gN,gNN,zY,yx,yk,zj,zA,zI,zO,yQ,yB,yb,zB,look,zV,zAP,zAe,zAr,zCD,zCE,zDa,zAw,zBI,fII,wF,wa,fEq,xC,xB,zB5,zB4,zA7,zGh,dB,cX,cY,cR,cT,cW,cZ,cU,cV,Nat.reduceSub,Nat.reduceAdd,zGj,zGk,zGl,zGm,wP,zAs,zAt,if_true,if_false,cQ]))
 refine⟨zJ6,?_⟩;split
 ·refine⟨zJ6,fun l hl=>?_⟩
  exact FgR.of (h _ true (fun z=>by cases z) l hl)
 ·refine⟨by decide,fun l hl=>?_⟩
  exact FgR.of (h _ false (fun u0=>⟨Int.emod_nonneg _ (by decide),Int.emod_lt_of_pos _ (by decide)⟩) l hl)
noncomputable def zp:Sp2:=fun ds G R=>∃(l:Addr) (m:Nat),ds=[.adr l,nD m]/\zAN G l/\0<m/\m<1000000/\∀(r:Nat) G',r<m->Dr l G G'->R (nD r) G'
noncomputable def zCH:yd:=(zU (xIf (xB (zY yr (zB 0) (xC (.int 1)))) (zU (zk (zY (wF (fun u0 j=>0<j) fun i j=>.int (i%j)) (zY yr (zB 0) (xC (.int 0))) (zB 1)) (gN 2)) (zU (zk (zY (wF zJW fun i j=>.int (i / j)) (zY yr (zB 0) (xC (.int 0))) (zB 1)) (gIx (zB 0) (xC (.int 0)))) (zy (zB 2)))) yH) (zU (zk (zY (wF (fun u0 j=>0<j) fun i j=>.int (i%j)) (zY wa (zY (wF zD8 fun i j=>.int (i*j)) (zY yr (zB 0) (xC (.int 0))) (xC (.int 48271))) (xC (.int 29))) (xC (.int 2147483647))) (gIx (zB 0) (xC (.int 0)))) (zU (zk (zY (wF (fun u0 j=>0<j) fun i j=>.int (i%j)) (zY wa (zY wa (zY (wF zD8 fun i j=>.int (i*j)) (zY yr (zB 0) (xC (.int 0))) (zY yr (zB 0) (xC (.int 0)))) (zY (wF zD8 fun i j=>.int (i*j)) (xC (.int 39373)) (zY yr (zB 0) (xC (.int 0))))) (xC (.int 7))) (xC (.int 2147483629))) (gN 3)) (zU (zk (zY (wF (fun u0 j=>0<j) fun i j=>.int (i%j)) (zY wa (zY (wF zD8 fun i j=>.int (i*j)) (zB 3) (zB 3)) (zY (wF zD8 fun i j=>.int (i*j)) (xC (.int 16807)) (zB 3))) (xC (.int 2147483587))) (gN 3)) (zy (zY (wF (fun u0 j=>0<j) fun i j=>.int (i%j)) (zY (wF zJW fun i j=>.int (i / j)) (zB 3) (xC (.int 8))) (zB 1)))))))
theorem zDe(h:0<m):∃ r:Nat,r<m/\x%(m:Int)=r:=⟨(x%(m:Int)).toNat,by
 have h1:=Int.emod_nonneg x (b:=(m:Int)) (by omega);have h2:=Int.emod_lt_of_pos x (b:=(m:Int)) (by omega);omega,by
 have h1:=Int.emod_nonneg x (b:=(m:Int)) (by omega);omega⟩
theorem zJ7(ds:List D)(G:Gp)(R:Q2)(h:zp ds G R):ds.length=2/\zCH (zn R) (zV ["state","many","found","mixed"] ds) G:=by
 obtain⟨l,m,rfl,⟨s,b,hG,ok⟩,hm,hm2,h⟩:=h;refine⟨rfl,?_⟩;unfold zCH
 ((try dsimp only [zy,zU,zk,xIf,ye,yH,gN,gNN,zY,yx,yk,zj,zA,zI,zO,yQ,yB,yb,zB,look,zV,zAP,zAe,zAr,zCD,zCE,zDa,zAw,zBI,fII,wF,wa,fEq,xC,xB,zB5,zB4,zA7,zGh,dB,cX,cY,cR,cT,cW,cZ,cU,cV,Nat.reduceSub,Nat.reduceAdd,zGj,zGk,zGl,zGm,wP,zAs,zAt,if_true,if_false,cQ]) <;> (try simp only [zy,zU,zk,xIf,ye,yH,gN,gNN,zY,yx,yk,zj,zA,zI,zO,yQ,yB,yb,zB,look,zV,zAP,zAe,zAr,zCD,zCE,zDa,zAw,zBI,fII,wF,wa,fEq,xC,xB,zB5,zB4,zA7,zGh,dB,cX,cY,cR,cT,cW,cZ,cU,cV,Nat.reduceSub,Nat.reduceAdd,zGj,zGk,zGl,zGm,wP,zAs,zAt,if_true,if_false,cQ]))
 refine wI hG (zFi _ _ _) ?_;cases b with
 | true =>
  ((try dsimp only [zy,zU,zk,xIf,ye,yH,gN,gNN,zY,yx,yk,zj,zA,zI,zO,yQ,yB,yb,zB,look,zV,zAP,zAe,zAr,zCD,zCE,zDa,zAw,zBI,fII,wF,wa,fEq,xC,xB,zB5,zB4,zA7,zGh,dB,cX,cY,cR,cT,cW,cZ,cU,cV,Nat.reduceSub,Nat.reduceAdd,zGj,zGk,zGl,zGm,wP,zAs,zAt,if_true,if_false,cQ]) <;> (try simp only [zy,zU,zk,xIf,ye,yH,gN,gNN,zY,yx,yk,zj,zA,zI,zO,yQ,yB,yb,zB,look,zV,zAP,zAe,zAr,zCD,zCE,zDa,zAw,zBI,fII,wF,wa,fEq,xC,xB,zB5,zB4,zA7,zGh,dB,cX,cY,cR,cT,cW,cZ,cU,cV,Nat.reduceSub,Nat.reduceAdd,zGj,zGk,zGl,zGm,wP,zAs,zAt,if_true,if_false,cQ]))
  refine wI hG (zCC _ _) ?_
  ((try dsimp only [zy,zU,zk,xIf,ye,yH,gN,gNN,zY,yx,yk,zj,zA,zI,zO,yQ,yB,yb,zB,look,zV,zAP,zAe,zAr,zCD,zCE,zDa,zAw,zBI,fII,wF,wa,fEq,xC,xB,zB5,zB4,zA7,zGh,dB,cX,cY,cR,cT,cW,cZ,cU,cV,Nat.reduceSub,Nat.reduceAdd,zGj,zGk,zGl,zGm,wP,zAs,zAt,if_true,if_false,cQ]) <;> (try simp only [zy,zU,zk,xIf,ye,yH,gN,gNN,zY,yx,yk,zj,zA,zI,zO,yQ,yB,yb,zB,look,zV,zAP,zAe,zAr,zCD,zCE,zDa,zAw,zBI,fII,wF,wa,fEq,xC,xB,zB5,zB4,zA7,zGh,dB,cX,cY,cR,cT,cW,cZ,cU,cV,Nat.reduceSub,Nat.reduceAdd,zGj,zGk,zGl,zGm,wP,zAs,zAt,if_true,if_false,cQ]))
  refine⟨by omega,wI hG (zCC _ _) ?_⟩
  ((try dsimp only [zy,zU,zk,xIf,ye,yH,gN,gNN,zY,yx,yk,zj,zA,zI,zO,yQ,yB,yb,zB,look,zV,zAP,zAe,zAr,zCD,zCE,zDa,zAw,zBI,fII,wF,wa,fEq,xC,xB,zB5,zB4,zA7,zGh,dB,cX,cY,cR,cT,cW,cZ,cU,cV,Nat.reduceSub,Nat.reduceAdd,zGj,zGk,zGl,zGm,wP,zAs,zAt,if_true,if_false,cQ]) <;> (try simp only [zy,zU,zk,xIf,ye,yH,gN,gNN,zY,yx,yk,zj,zA,zI,zO,yQ,yB,yb,zB,look,zV,zAP,zAe,zAr,zCD,zCE,zDa,zAw,zBI,fII,wF,wa,fEq,xC,xB,zB5,zB4,zA7,zGh,dB,cX,cY,cR,cT,cW,cZ,cU,cV,Nat.reduceSub,Nat.reduceAdd,zGj,zGk,zGl,zGm,wP,zAs,zAt,if_true,if_false,cQ]))
  refine⟨⟨by omega,by omega⟩,zM1 rfl hG ?_⟩
  ((try dsimp only [zy,zU,zk,xIf,ye,yH,gN,gNN,zY,yx,yk,zj,zA,zI,zO,yQ,yB,yb,zB,look,zV,zAP,zAe,zAr,zCD,zCE,zDa,zAw,zBI,fII,wF,wa,fEq,xC,xB,zB5,zB4,zA7,zGh,dB,cX,cY,cR,cT,cW,cZ,cU,cV,Nat.reduceSub,Nat.reduceAdd,zGj,zGk,zGl,zGm,wP,zAs,zAt,if_true,if_false,cQ]) <;> (try simp only [zy,zU,zk,xIf,ye,yH,gN,gNN,zY,yx,yk,zj,zA,zI,zO,yQ,yB,yb,zB,look,zV,zAP,zAe,zAr,zCD,zCE,zDa,zAw,zBI,fII,wF,wa,fEq,xC,xB,zB5,zB4,zA7,zGh,dB,cX,cY,cR,cT,cW,cZ,cU,cV,Nat.reduceSub,Nat.reduceAdd,zGj,zGk,zGl,zGm,wP,zAs,zAt,if_true,if_false,cQ]))
  obtain⟨r,hr,e⟩:=zDe (x:=s) hm;rw[e];exact FgR.of (h r _ hr ⟨_,true,rfl,fun z=>by cases z⟩)
 | false =>
  obtain⟨h0,h1⟩:=ok rfl
  ((try dsimp only [zy,zU,zk,xIf,ye,yH,gN,gNN,zY,yx,yk,zj,zA,zI,zO,yQ,yB,yb,zB,look,zV,zAP,zAe,zAr,zCD,zCE,zDa,zAw,zBI,fII,wF,wa,fEq,xC,xB,zB5,zB4,zA7,zGh,dB,cX,cY,cR,cT,cW,cZ,cU,cV,Nat.reduceSub,Nat.reduceAdd,zGj,zGk,zGl,zGm,wP,zAs,zAt,if_true,if_false,cQ]) <;> (try simp only [zy,zU,zk,xIf,ye,yH,gN,gNN,zY,yx,yk,zj,zA,zI,zO,yQ,yB,yb,zB,look,zV,zAP,zAe,zAr,zCD,zCE,zDa,zAw,zBI,fII,wF,wa,fEq,xC,xB,zB5,zB4,zA7,zGh,dB,cX,cY,cR,cT,cW,cZ,cU,cV,Nat.reduceSub,Nat.reduceAdd,zGj,zGk,zGl,zGm,wP,zAs,zAt,if_true,if_false,cQ]))
  refine wI hG (zCC _ _) ?_
  ((try dsimp only [zy,zU,zk,xIf,ye,yH,gN,gNN,zY,yx,yk,zj,zA,zI,zO,yQ,yB,yb,zB,look,zV,zAP,zAe,zAr,zCD,zCE,zDa,zAw,zBI,fII,wF,wa,fEq,xC,xB,zB5,zB4,zA7,zGh,dB,cX,cY,cR,cT,cW,cZ,cU,cV,Nat.reduceSub,Nat.reduceAdd,zGj,zGk,zGl,zGm,wP,zAs,zAt,if_true,if_false,cQ]) <;> (try simp only [zy,zU,zk,xIf,ye,yH,gN,gNN,zY,yx,yk,zj,zA,zI,zO,yQ,yB,yb,zB,look,zV,zAP,zAe,zAr,zCD,zCE,zDa,zAw,zBI,fII,wF,wa,fEq,xC,xB,zB5,zB4,zA7,zGh,dB,cX,cY,cR,cT,cW,cZ,cU,cV,Nat.reduceSub,Nat.reduceAdd,zGj,zGk,zGl,zGm,wP,zAs,zAt,if_true,if_false,cQ]))
  refine⟨.inl ⟨by omega,by omega⟩,by decide,zM1 rfl hG ?_⟩;have p0:=Int.emod_nonneg (s*48271+29) (b:=2147483647) (by decide);have p1:=Int.emod_lt_of_pos (s*48271+29) (b:=2147483647) (by decide);generalize (s*48271+29)%2147483647=s1 at p0 p1 ⊢;have hG1:(zS G l [D.int s1,D.bl false]).m l=some [D.int s1,D.bl false]:=zG
  ((try dsimp only [zy,zU,zk,xIf,ye,yH,gN,gNN,zY,yx,yk,zj,zA,zI,zO,yQ,yB,yb,zB,look,zV,zAP,zAe,zAr,zCD,zCE,zDa,zAw,zBI,fII,wF,wa,fEq,xC,xB,zB5,zB4,zA7,zGh,dB,cX,cY,cR,cT,cW,cZ,cU,cV,Nat.reduceSub,Nat.reduceAdd,zGj,zGk,zGl,zGm,wP,zAs,zAt,if_true,if_false,cQ]) <;> (try simp only [zy,zU,zk,xIf,ye,yH,gN,gNN,zY,yx,yk,zj,zA,zI,zO,yQ,yB,yb,zB,look,zV,zAP,zAe,zAr,zCD,zCE,zDa,zAw,zBI,fII,wF,wa,fEq,xC,xB,zB5,zB4,zA7,zGh,dB,cX,cY,cR,cT,cW,cZ,cU,cV,Nat.reduceSub,Nat.reduceAdd,zGj,zGk,zGl,zGm,wP,zAs,zAt,if_true,if_false,cQ]))
  refine wI hG1 (zCC _ _) (wI hG1 (zCC _ _) ?_)
  ((try dsimp only [zy,zU,zk,xIf,ye,yH,gN,gNN,zY,yx,yk,zj,zA,zI,zO,yQ,yB,yb,zB,look,zV,zAP,zAe,zAr,zCD,zCE,zDa,zAw,zBI,fII,wF,wa,fEq,xC,xB,zB5,zB4,zA7,zGh,dB,cX,cY,cR,cT,cW,cZ,cU,cV,Nat.reduceSub,Nat.reduceAdd,zGj,zGk,zGl,zGm,wP,zAs,zAt,if_true,if_false,cQ]) <;> (try simp only [zy,zU,zk,xIf,ye,yH,gN,gNN,zY,yx,yk,zj,zA,zI,zO,yQ,yB,yb,zB,look,zV,zAP,zAe,zAr,zCD,zCE,zDa,zAw,zBI,fII,wF,wa,fEq,xC,xB,zB5,zB4,zA7,zGh,dB,cX,cY,cR,cT,cW,cZ,cU,cV,Nat.reduceSub,Nat.reduceAdd,zGj,zGk,zGl,zGm,wP,zAs,zAt,if_true,if_false,cQ]))
  refine⟨.inl ⟨by omega,by omega⟩,wI hG1 (zCC _ _) ?_⟩
  ((try dsimp only [zy,zU,zk,xIf,ye,yH,gN,gNN,zY,yx,yk,zj,zA,zI,zO,yQ,yB,yb,zB,look,zV,zAP,zAe,zAr,zCD,zCE,zDa,zAw,zBI,fII,wF,wa,fEq,xC,xB,zB5,zB4,zA7,zGh,dB,cX,cY,cR,cT,cW,cZ,cU,cV,Nat.reduceSub,Nat.reduceAdd,zGj,zGk,zGl,zGm,wP,zAs,zAt,if_true,if_false,cQ]) <;> (try simp only [zy,zU,zk,xIf,ye,yH,gN,gNN,zY,yx,yk,zj,zA,zI,zO,yQ,yB,yb,zB,look,zV,zAP,zAe,zAr,zCD,zCE,zDa,zAw,zBI,fII,wF,wa,fEq,xC,xB,zB5,zB4,zA7,zGh,dB,cX,cY,cR,cT,cW,cZ,cU,cV,Nat.reduceSub,Nat.reduceAdd,zGj,zGk,zGl,zGm,wP,zAs,zAt,if_true,if_false,cQ]))
  refine⟨.inl ⟨by omega,by omega⟩,by decide,?_⟩;have p2:=Int.emod_nonneg (s1*s1+39373*s1+7) (b:=2147483629) (by decide);have p3:=Int.emod_lt_of_pos (s1*s1+39373*s1+7) (b:=2147483629) (by decide);generalize (s1*s1+39373*s1+7)%2147483629=s2 at p2 p3 ⊢;refine⟨.inl ⟨by omega,by omega⟩,.inl ⟨by omega,by omega⟩,by decide,⟨by decide,by decide⟩,by omega,?_⟩;obtain⟨r,hr,e⟩:=zDe (x:=(s2*s2+16807*s2)%2147483587 / 8) hm;rw[e];exact FgR.of (h r _ hr ⟨_,false,rfl,fun u0=>⟨p0,p1⟩⟩)
noncomputable def zAx:yd:=(zU (zk (zj (yk zI)) (gN 1)) (zU (yw (iR1 (zA (zO wB (zA (zB 0) zI)) zI)) (gN 2) (yw (iR2 (zA (zY wa (zB 2) (xC (.int 1))) (zA (zO wB (zA (zB 0) zI)) zI))) (gN 3) (ye (zB8 (zB 1) (zA (yx (zA (zY yr (zB 0) (zB 2)) (zA (zY yr (zB 0) (zB 3)) zI))) zI))))) (zy (zB 1))))
noncomputable def zAR(n i:Nat):List (Nat×Nat):=(dq i).flatMap fun i=>(dq (n-(i+1))).map fun k=>(i,i+1+k)
theorem zCk(n:Nat):zAR n n=yX n:=rfl
theorem zBw(n i:Nat):zAR n (i+1)=zAR n i++(dq (n-(i+1))).map fun k=>(i,i+1+k):=by
 unfold zAR;rw[i8,List.flatMap_append];simp
theorem zEZ(hi:i<=n)(h:n<=100):(zAR n i).length<=10000:=by
 have:(zAR n i).length<=(yX n).length:=by
  obtain⟨k,rfl⟩:=Nat.exists_eq_add_of_le hi;rw[<-zCk];have:∀ k,(zAR (i+k) i).length<=(zAR (i+k) (i+k)).length:=fun k=>by
   unfold zAR;rw[List.range_add,List.flatMap_append,dO];omega
  exact this k
 have:=zDc h;omega
theorem zDf(h:((dq n).map nD)[i]?=some x):x=nD i/\i<n:=by
 rw[eU] at h;cases q:(dq n)[i]? with
 | none=>rw[q] at h;cases h
 | some k =>
  rw[q] at h;cases h;obtain⟨h1,h2⟩:=di.mp q;simp at h1 h2;subst h2;exact⟨rfl,h1⟩
theorem zIW{lo:Int}{n i:Nat}{x:D}(h:(yM lo n)[i]?=some x):x=.int (lo+i)/\i<n:=by
 have hi:i<n:=by
  have:=(di.mp h).1;rwa [yy] at this
 rw[zDT hi] at h;cases h;exact⟨rfl,hi⟩
theorem zCl(h:wi σ G fun ds gd G1=>zLz ds gd G1 g tb E σ):yw wi g tb E σ G:=.of h
theorem zE6(ht:PuA t σ G [nD n])(hn:n<=1000)(h:zLz ((dq n).map nD) (fun u0=>True) G g tb E σ):yw (iR1 t) g tb E σ G:=by
 refine zCl (ht G (.refl G) _ ⟨by omega,?_⟩);rw[zCG];exact h
theorem zN8(ht:PuA t σ G [.int i,.int j])(hn:(-1000<=i/\i<=1000)/\-1000<=j/\j<=1000)(h:zLz (yM i (j-i).toNat) (fun u0=>True) G g tb E σ):yw (iR2 t) g tb E σ G :=
 zCl (ht G (.refl G) _ ⟨by omega,h⟩)
theorem zDB{i:Nat}{l:Addr}{d:D}{xs:List D}{σ:S2}{G:Gp}{t:yj}{R:Q2}(ho:look σ i=some (.adr l))(h:G.m l=some xs)(ht:∀ Q:List D->Gp->Prop,Q [d] G->t σ G Q)(hz:xs.length<=1000000)(q:R .non (zS G l (xs++[d]))):zB8 (zB i) t σ G R:=by
 unfold zB8 zB;rw[ho];show match G.m l with | some _=>_ | none=>_
 rw[h];refine ht _ ?_;show match G.m l with | some xs=>_ | none=>_
 rw[h];exact⟨hz,q⟩
theorem zL4{i:Nat}{l:Addr}{zs xs:List D}{σ:S2}{G:Gp}{t:TL2}{R:Q2}(ho:look σ i=some (.adr l))(h:G.m l=some xs)(ht:∀ Q:List D->Gp->Prop,Q zs G->t σ G Q)(hz:xs.length+zs.length<=1000000)(q:R .non (zS G l (xs++zs))):zLs (zB i) t σ G R:=by
 unfold zLs zB;rw[ho];show match G.m l with | some _=>_ | none=>_
 rw[h];refine ht _ ?_;show match G.m l with | some xs=>_ | none=>_
 rw[h];exact⟨hz,q⟩
theorem zL5{ps:List Nat}{i:Nat}(h:i<ps.length):atI (ps.map nD) (i:Int)=some (nD (ps.getD i 0)):=zBR (by simp[gc,h])
theorem zHT{σ:S2}{G:Gp}{t u:zi}{ps:List Nat}{i:Nat}(h:yC t σ G (.tup (ps.map nD)))(h':yC u σ G (nD i))(hi:i<ps.length):yC (zY yr t u) σ G (nD (ps.getD i 0)):=zAE h h' fun u0 u0 u0 q=>by
 simp only[yr,zL5 hi];exact q
theorem zHU{σ:S2}{G:Gp}{t:zi}{ps:List Nat}(h:yC t σ G (.tup (ps.map nD))):yC (zO wB (zA t zI)) σ G (nD ps.length):=yJ (zF h zR) fun u0 u0 u0 q=>⟨ps.map nD,rfl,by rw[db];exact q⟩
theorem zGo(ds:List D)(G:Gp)(R:Q2)(h:spL yg ds G R):ds.length=1/\zAx (zn R) (zV ["places","found","k","j"] ds) G:=by
 obtain⟨ps,rfl,hn,h⟩:=h;refine⟨rfl,?_⟩;unfold zAx;let at2:Nat×Nat->Nat×Nat:=fun p=>(ps.getD p.1 0,ps.getD p.2 0)
 generalize hN:ps.length=n at *
 ((try dsimp only [zy,zU,zk,xIf,ye,yH,gN,gNN,zY,yx,yk,zj,zA,zI,zO,yQ,yB,yb,zB,look,zV,zAP,zAe,zAr,zCD,zCE,zDa,zAw,zBI,fII,wF,wa,fEq,xC,xB,zB5,zB4,zA7,zGh,dB,cX,cY,cR,cT,cW,cZ,cU,cV,Nat.reduceSub,Nat.reduceAdd,zGj,zGk,zGl,zGm,wP,zAs,zAt,if_true,if_false,cQ]) <;> (try simp only [zy,zU,zk,xIf,ye,yH,gN,gNN,zY,yx,yk,zj,zA,zI,zO,yQ,yB,yb,zB,look,zV,zAP,zAe,zAr,zCD,zCE,zDa,zAw,zBI,fII,wF,wa,fEq,xC,xB,zB5,zB4,zA7,zGh,dB,cX,cY,cR,cT,cW,cZ,cU,cV,Nat.reduceSub,Nat.reduceAdd,zGj,zGk,zGl,zGm,wP,zAs,zAt,if_true,if_false,cQ]))
 intro l hl;refine zE6 (n:=n) (zF (by rw[<-hN];exact zHU (zH rfl)) zR) (by omega) ?_;refine wm (fun i G'=>G'=zS G l (((zAR n i).map at2).map yf)) rfl (fun u0 u0 u0=>trivial) ?_ ?_
 ·rintro i x hx G2 rfl
  obtain⟨rfl,hi⟩:=zDf hx;simp only[gN,cT,cR];refine zN8 (i:=(i:Int)+1) (j:=n) (zF (zAE (zH rfl) wZ fun u0 u0 u0 q=>q) (zF (by rw[<-hN];exact zHU (zH rfl)) zR)) (by omega) ?_;refine wm (fun k G'=>G'=zS G l (((zAR n i++(dq k).map fun k=>(i,i+1+k)).map at2).map yf)) (by simp) (fun u0 u0 u0=>trivial) ?_ ?_
  ·rintro k x hx G2 rfl
   obtain⟨rfl,hk⟩:=zIW hx;have ek:((i:Int)+1+(k:Int))=((i+1+k:Nat):Int):=by omega
   rw[ek];simp only[gN,cT,cR,ye];have hlen:=zEZ (n:=n) (i:=i) (by omega) hn;have pt:PuA (zA (yx (zA (zY yr (zB 0) (zB 2)) (zA (zY yr (zB 0) (zB 3)) zI))) zI) [some (.tup (ps.map nD)),some (.adr l),some (nD i),some (nD (i+1+k))] (zS G l (((zAR n i++(dq k).map fun k=>(i,i+1+k)).map at2).map yf)) [yf (at2 (i,i+1+k))] :=
    zF (zBv (zF (zHT (zH rfl) (zH rfl) (by omega)) (zF (zHT (zH rfl) (zH rfl) (by omega)) zR)) (by simp)) zR
   refine zDB (d:=yf (at2 (i,i+1+k))) rfl zG (fun Q q=>pt _ (.refl _) Q q) (by simp;omega) ⟨?_,_,.refl _,?_⟩
   ·exact .keep (.keep (.keep (.skip .nil)))
   ·rw[zAd,i8]
    simp
  ·rintro G2 rfl
   refine⟨.keep (.keep (.skip (.skip .nil))),_,.refl _,?_⟩;rw[yy,zBw];have:((n:Int)-((i:Int)+1)).toNat=n-(i+1):=by omega
   rw[this]
 ·rintro G2 rfl
  rw[db,eT,zCk];exact FgR.of (h l hl)
noncomputable def zBX:yd:=(zU (zk (zj (yk zI)) (gN 1)) (zU (yw (iR1 (zA (zB 0) zI)) (gN 2) (ye (zLs (zB 1) (yV (iR2 (zA (zY wa (zB 2) (xC (.int 1))) (zA (zB 0) zI))) bd1 zD9 (yx (zA (zB 2) (zA (zB 3) zI))))))) (zy (zB 1))))
theorem zIX(ds:List D)(G:Gp)(R:Q2)(h:spL zu ds G R):ds.length=1/\zBX (zn R) (zV ["many","found","one"] ds) G:=by
 obtain⟨n,rfl,hn,h⟩:=h;refine⟨rfl,?_⟩;unfold zBX
 ((try dsimp only [zy,zU,zk,xIf,ye,yH,gN,gNN,zY,yx,yk,zj,zA,zI,zO,yQ,yB,yb,zB,look,zV,zAP,zAe,zAr,zCD,zCE,zDa,zAw,zBI,fII,wF,wa,fEq,xC,xB,zB5,zB4,zA7,zGh,dB,cX,cY,cR,cT,cW,cZ,cU,cV,Nat.reduceSub,Nat.reduceAdd,zGj,zGk,zGl,zGm,wP,zAs,zAt,if_true,if_false,cQ]) <;> (try simp only [zy,zU,zk,xIf,ye,yH,gN,gNN,zY,yx,yk,zj,zA,zI,zO,yQ,yB,yb,zB,look,zV,zAP,zAe,zAr,zCD,zCE,zDa,zAw,zBI,fII,wF,wa,fEq,xC,xB,zB5,zB4,zA7,zGh,dB,cX,cY,cR,cT,cW,cZ,cU,cV,Nat.reduceSub,Nat.reduceAdd,zGj,zGk,zGl,zGm,wP,zAs,zAt,if_true,if_false,cQ]))
 intro l hl;refine zE6 (n:=n) (zF (zH rfl) zR) (by omega) ?_;refine wm (fun i G'=>G'=zS G l ((zAR n i).map yf)) rfl (fun u0 u0 u0=>trivial) ?_ ?_
 ·rintro i x hx G2 rfl
  obtain⟨rfl,hi⟩:=zDf hx;have hlen:=zEZ (n:=n) (i:=i+1) (by omega) hn;rw[zBw,dO,db,eT] at hlen;have hw:PuI (iR2 (zA (zY wa (zB 2) (xC (.int 1))) (zA (zB 0) zI))) [some (nD n),some (.adr l),some (nD i)] (zS G l ((zAR n i).map yf)) (yM ((i:Int)+1) ((n:Int)-((i:Int)+1)).toNat) :=
   zIS (zF (zAE (zH rfl) wZ fun u0 u0 u0 q=>q) (zF (zH rfl) zR)) (by omega)
  have:=zJ1 (bd:=bd1) (te:=yx (zA (zB 2) (zA (zB 3) zI))) (fun d=>.tup [nD i,d]) (fun d=>[d]) hw fun x hx=>⟨rfl,zBv (zF (zH rfl) (zF (zH rfl) zR)) (by simp)⟩
  ((try dsimp only [zy,zU,zk,xIf,ye,yH,gN,gNN,zY,yx,yk,zj,zA,zI,zO,yQ,yB,yb,zB,look,zV,zAP,zAe,zAr,zCD,zCE,zDa,zAw,zBI,fII,wF,wa,fEq,xC,xB,zB5,zB4,zA7,zGh,dB,cX,cY,cR,cT,cW,cZ,cU,cV,Nat.reduceSub,Nat.reduceAdd,zGj,zGk,zGl,zGm,wP,zAs,zAt,if_true,if_false,cQ]) <;> (try simp only [zy,zU,zk,xIf,ye,yH,gN,gNN,zY,yx,yk,zj,zA,zI,zO,yQ,yB,yb,zB,look,zV,zAP,zAe,zAr,zCD,zCE,zDa,zAw,zBI,fII,wF,wa,fEq,xC,xB,zB5,zB4,zA7,zGh,dB,cX,cY,cR,cT,cW,cZ,cU,cV,Nat.reduceSub,Nat.reduceAdd,zGj,zGk,zGl,zGm,wP,zAs,zAt,if_true,if_false,cQ]))
  have e:((n:Int)-((i:Int)+1)).toNat=n-(i+1):=by omega
  have e2:dB (fun d=>D.tup [nD i,d]) (yM ((i:Int)+1) ((n:Int)-((i:Int)+1)).toNat)=((dq (n-(i+1))).map fun k=>(i,i+1+k)).map yf:=by
   rw[e];unfold yM;rw[gh,gh];refine g9 fun k u0=>?_;simp[yf,nD]
  rw[e2] at this;refine zL4 rfl zG (fun Q q=>this _ (.refl _) Q q) (by simp only[db,eT];omega) ⟨.keep (.keep (.skip .nil)),_,.refl _,?_⟩;rw[zAd,zBw,ig]
 ·rintro G2 rfl
  rw[db,eT,zCk];exact FgR.of (h l hl)
noncomputable def lar(n:Nat)(q:Nat×Nat->Bool)(i:Nat):List Nat:=(((yX n).filter q).filter fun p=>decide (p.1=i)||decide (p.2=i)).map fun p=>p.1+p.2-i
theorem zGp(l:List Nat)(i:Nat):((l.map nD).any fun z=>wN z (nD i))=decide (i∈l):=by
 rw[List.any_map,eD];simp only[List.any_eq_true,Function.comp,zAv,decide_eq_true_eq,zC6];constructor
 ·rintro⟨x,h,rfl⟩;exact h
 ·intro h;exact⟨i,h,rfl⟩
theorem zDg(l:List Nat):∀ d∈l.map nD,flat 8 d=true:=by
 intro d hd;obtain⟨k,u0,rfl⟩:=dL.mp hd;rfl
theorem zGq{σ:S2}{G:Gp}{t u:zi}{ng:Bool}{x:D}{ds:List D}{b:Bool}(h:yC t σ G x)(h':yC u σ G (.tup ds))(f:flat 8 x=true)(fs:∀ d∈ds,flat 8 d=true)(e:(if ng then !ds.any fun z=>wN z x else ds.any fun z=>wN z x)=b):yC (zY (fIn ng) t u) σ G (.bl b) :=
 zAE h h' fun u0 u0 u0 q=>⟨f,fs,by rw[e];exact q⟩
theorem zJ8(h:yC t σ G (.int i))(h':yC u σ G (.int j)):yC (zY wa t u) σ G (.int (i+j)):=zAE h h' fun u0 u0 u0 q=>q
noncomputable def zAy(n:Nat)(r:List Nat):Prop:=r.Perm (dq n++dq n)
theorem zAy.len(h:zAy n r):r.length=2*n:=by
 have:=h.length_eq;simp at this;omega
theorem zAy.mem(h:zAy n r):x∈r↔x<n:=by
 rw[h.mem_iff];simp
theorem zFl:(dq n).count i=if i<n then 1 else 0:=by
 induction n with
 | zero=>simp
 | succ n ih =>
  rw[i8,List.count_append,ih];by_cases h:i=n
  ·subst h;simp
  ·have:(n==i)=false:=by simpa using fun e=>h e.symm
   simp[List.count_cons,this];split<;>split<;>omega
theorem zAy.count(h:zAy n r)(hi:i<n):r.count i=2:=by
 rw[h.count_eq,List.count_append,zFl,if_pos hi]
noncomputable def both(r:List Nat)(p:Nat×Nat):List Nat:=r.filter fun x=>decide (x=p.1)||decide (x=p.2)
noncomputable def zAF(r:List Nat)(p:Nat×Nat):Bool:=match both r p with | a::b::c::_=>decide (a≠b)&&decide (b≠c) | _=>false
theorem zJ9(h:zAy n r)(hp:p∈yX n):(both r p).length=4:=by
 obtain⟨i,j⟩:=p;obtain⟨h1,h2⟩:=zAu.mp hp;have:∀ l:List Nat,(l.filter fun x=>decide (x=i)||decide (x=j)).length=l.count i+l.count j:=by
  intro l
  induction l with
  | nil=>rfl
  | cons a r ih =>
   simp only[gW,List.count_cons];by_cases ha:a=i
   ·subst ha
    have:¬ a=j:=by dsimp only at h1;omega
    simp[this,ih];omega
   ·by_cases hb:a=j
    ·subst hb;simp[ha,ih];omega
    ·simp[ha,hb,ih]
 unfold both;rw[this,h.count (by dsimp only at h1 h2;omega),h.count h2]
theorem _root_.L3.Sub.put(h:Sub G G')(n:G.m f=none):Sub G (zS G' f x) :=
 ⟨fun a o e=>by rw[zT (gne e n)];exact h.m a o e,fun a o e=>h.ro a o e,fun a o e=>h.dc a o e⟩
noncomputable def wb:Sp2:=fun ds G R=>∃(n:Nat) (r:List Nat),ds=[.tup (r.map nD)]/\zAy n r/\n<=100/\R (zK n (zAF r)) G
noncomputable def zAz:yd:=(zU (zk (zY (wF zJW fun i j=>.int (i / j)) (zO wB (zA (zB 0) zI)) (xC (.int 2))) (gN 1)) (zU (zk (zj (yk zI)) (gN 2)) (zU (yw (iF (yQ zu (zA (zB 1) zI))) (gNN 3 4) (zU (zBF 5 (yV (iV (zB 0)) bd1 (xB (zY (fIn false) (zB 6) (yx (zA (zB 3) (zA (zB 4) zI))))) (zB 6))) (xIf (zB4 (xB (zY (fEq true) (zY yr (zB 5) (xC (.int 0))) (zY yr (zB 5) (xC (.int 1))))) (xB (zY (fEq true) (zY yr (zB 5) (xC (.int 1))) (zY yr (zB 5) (xC (.int 2)))))) (ye (zB8 (zB 2) (zA (yx (zA (zB 3) (zA (zB 4) zI))) zI))) yH))) (zy (yx (zA (zB 1) (zA (zO zB7 (zA (zB 2) zI)) zI)))))))
theorem zL6{σ:S2}{G:Gp}{r:List Nat}{p:Nat×Nat}{x1 x2 x5:Option D}(h:σ=[some (.tup (r.map nD)),x1,x2,some (nD p.1),some (nD p.2),x5]) :
  PuL (yV (iV (zB 0)) bd1 (xB (zY (fIn false) (zB 6) (yx (zA (zB 3) (zA (zB 4) zI))))) (zB 6)) σ G ((both r p).map nD):=by
 subst h;have:=zCA (bd:=bd1) (tc:=(xB (zY (fIn false) (zB 6) (yx (zA (zB 3) (zA (zB 4) zI)))))) (te:=zB 6) (fun d=>match d with | .int x=>decide (x.toNat=p.1)||decide (x.toNat=p.2) | _=>false) (fun d=>d) (fun d=>[d])
  (zEW (σ:=[some (.tup (r.map nD)),x1,x2,some (nD p.1),some (nD p.2),x5]) (G:=G) (zH (i:=0) rfl)) fun x hx=>by
   obtain⟨k,hk,rfl⟩:=dL.mp hx;refine⟨rfl,zAM (zGq (zH (d:=nD k) rfl) (zBv (zF (zH (d:=nD p.1) rfl) (zF (zH (d:=nD p.2) rfl) zR)) (by simp)) rfl (zDg [p.1,p.2]) ?_),fun u0=>zH rfl⟩;have:=zGp [p.1,p.2] k;simp only[dB] at this;simp only[cQ,if_false,this];rw[eD];simp
 have e:dB (fun d=>d) (List.filter (fun d=>match d with | .int x=>decide (x.toNat=p.1)||decide (x.toNat=p.2) | _=>false) (r.map nD))=(both r p).map nD:=by
  rw[List.map_id',List.filter_map];rfl
 rw[e] at this;exact this
theorem zBP{α:Type}{f:α->D}{l:List α}{i:Nat}{x:D}(h:(l.map f)[i]?=some x):∃ a,l[i]?=some a/\x=f a:=by
 rw[eU] at h;cases q:l[i]? with
 | none=>rw[q] at h;cases h
 | some a=>rw[q] at h;cases h;exact⟨a,rfl,rfl⟩
theorem zGr(ds:List D)(G:Gp)(R:Q2)(h:wb ds G R):ds.length=1/\zAz (zn R) (zV ["ring","many","found","one","other","some"] ds) G:=by
 obtain⟨n,r,rfl,hr,hn,h⟩:=h;refine⟨rfl,?_⟩;unfold zAz
 ((try dsimp only [zy,zU,zk,xIf,ye,yH,gN,gNN,zY,yx,yk,zj,zA,zI,zO,yQ,yB,yb,zB,look,zV,zAP,zAe,zAr,zCD,zCE,zDa,zAw,zBI,fII,wF,wa,fEq,xC,xB,zB5,zB4,zA7,zGh,zBF,dB,cX,cY,cR,cT,cW,cZ,cU,cV,Nat.reduceSub,Nat.reduceAdd,zGj,zGk,zGl,zGm,wP,zAs,zAt,if_true,if_false,cQ]) <;> (try simp only [zy,zU,zk,xIf,ye,yH,gN,gNN,zY,yx,yk,zj,zA,zI,zO,yQ,yB,yb,zB,look,zV,zAP,zAe,zAr,zCD,zCE,zDa,zAw,zBI,fII,wF,wa,fEq,xC,xB,zB5,zB4,zA7,zGh,zBF,dB,cX,cY,cR,cT,cW,cZ,cU,cV,Nat.reduceSub,Nat.reduceAdd,zGj,zGk,zGl,zGm,wP,zAs,zAt,if_true,if_false,cQ]))
 refine⟨r.map nD,rfl,?_⟩
 ((try dsimp only [zy,zU,zk,xIf,ye,yH,gN,gNN,zY,yx,yk,zj,zA,zI,zO,yQ,yB,yb,zB,look,zV,zAP,zAe,zAr,zCD,zCE,zDa,zAw,zBI,fII,wF,wa,fEq,xC,xB,zB5,zB4,zA7,zGh,zBF,dB,cX,cY,cR,cT,cW,cZ,cU,cV,Nat.reduceSub,Nat.reduceAdd,zGj,zGk,zGl,zGm,wP,zAs,zAt,if_true,if_false,cQ]) <;> (try simp only [zy,zU,zk,xIf,ye,yH,gN,gNN,zY,yx,yk,zj,zA,zI,zO,yQ,yB,yb,zB,look,zV,zAP,zAe,zAr,zCD,zCE,zDa,zAw,zBI,fII,wF,wa,fEq,xC,xB,zB5,zB4,zA7,zGh,zBF,dB,cX,cY,cR,cT,cW,cZ,cU,cV,Nat.reduceSub,Nat.reduceAdd,zGj,zGk,zGl,zGm,wP,zAs,zAt,if_true,if_false,cQ]))
 refine⟨⟨by decide,by decide⟩,fun f hf=>?_⟩;have e:(((r.map nD).length:Int) / 2)=(n:Int):=by rw[db,hr.len];omega
 rw[e];refine zCl ⟨n,rfl,hn,fun a ha=>?_⟩;have fa:a≠f:=fun e=>by rw[e,zG] at ha;cases ha
 have ga:G.m a=none:=by rw[zT fa] at ha;exact ha
 refine wm (fun k G'=>G'.m f=some ((((yX n).take k).filter (zAF r)).map yf)/\G'.m a=some ((yX n).map yf)/\Sub G G') ⟨?_,zG,?_⟩ (fun u0 u0 h=>.inl h.2.1) ?_ ?_
 ·rw[zT (Ne.symm fa)];exact zG
 ·exact((Sub.refl G).put hf).put ga
 ·rintro k x hx G2 ⟨h1,h2,h3⟩
  obtain⟨p,hp,rfl⟩:=zBP hx;have hp':=dS hp;have hc:(((yX n).take (k+1)).filter (zAF r))=(((yX n).take k).filter (zAF r))++(if zAF r p=true then [p] else []):=by
   rw[wO hp,List.filter_append];congr 1;simp[gW]
  show gNN 3 4 (.tup [nD p.1,nD p.2]) _ _ _
  ((try dsimp only [zy,zU,zk,xIf,ye,yH,gN,gNN,zY,yx,yk,zj,zA,zI,zO,yQ,yB,yb,zB,look,zV,zAP,zAe,zAr,zCD,zCE,zDa,zAw,zBI,fII,wF,wa,fEq,xC,xB,zB5,zB4,zA7,zGh,zBF,dB,cX,cY,cR,cT,cW,cZ,cU,cV,Nat.reduceSub,Nat.reduceAdd,zGj,zGk,zGl,zGm,wP,zAs,zAt,if_true,if_false,cQ]) <;> (try simp only [zy,zU,zk,xIf,ye,yH,gN,gNN,zY,yx,yk,zj,zA,zI,zO,yQ,yB,yb,zB,look,zV,zAP,zAe,zAr,zCD,zCE,zDa,zAw,zBI,fII,wF,wa,fEq,xC,xB,zB5,zB4,zA7,zGh,zBF,dB,cX,cY,cR,cT,cW,cZ,cU,cV,Nat.reduceSub,Nat.reduceAdd,zGj,zGk,zGl,zGm,wP,zAs,zAt,if_true,if_false,cQ]))
  refine zL6 rfl G2 (.refl G2) _ fun s hs=>?_;have hl:=zJ9 hr hp';have hz:((((yX n).take k).filter (zAF r)).map yf).length<=1000000:=by
   rw[db];have:=gM (zAF r) ((yX n).take k);rw[eK] at this;have:=zDc hn;omega
  have sf:s≠f:=fun e=>by rw[e,h1] at hs;cases hs
  have sa:s≠a:=fun e=>by rw[e,h2] at hs;cases hs
  have gs:G.m s=none:=by
   cases q:G.m s with
   | none=>rfl
   | some o=>rw[h3.m s o q] at hs;cases hs
  match hb:both r p,hl with
  | [x,y,z,w],_ =>
   have hcr:zAF r p=(decide (x≠y)&&decide (y≠z)):=by unfold zAF;rw[hb]
   rw[hcr] at hc
   ((try dsimp only [zy,zU,zk,xIf,ye,yH,gN,gNN,zY,yx,yk,zj,zA,zI,zO,yQ,yB,yb,zB,look,zV,zAP,zAe,zAr,zCD,zCE,zDa,zAw,zBI,fII,wF,wa,fEq,xC,xB,zB5,zB4,zA7,zGh,zBF,dB,cX,cY,cR,cT,cW,cZ,cU,cV,Nat.reduceSub,Nat.reduceAdd,zGj,zGk,zGl,zGm,wP,zAs,zAt,if_true,if_false,cQ]) <;> (try simp only [zy,zU,zk,xIf,ye,yH,gN,gNN,zY,yx,yk,zj,zA,zI,zO,yQ,yB,yb,zB,look,zV,zAP,zAe,zAr,zCD,zCE,zDa,zAw,zBI,fII,wF,wa,fEq,xC,xB,zB5,zB4,zA7,zGh,zBF,dB,cX,cY,cR,cT,cW,cZ,cU,cV,Nat.reduceSub,Nat.reduceAdd,zGj,zGk,zGl,zGm,wP,zAs,zAt,if_true,if_false,cQ]))
   refine wI zG (zCC _ _) (wI zG (zFi _ _ _) ?_)
   ((try dsimp only [zy,zU,zk,xIf,ye,yH,gN,gNN,zY,yx,yk,zj,zA,zI,zO,yQ,yB,yb,zB,look,zV,zAP,zAe,zAr,zCD,zCE,zDa,zAw,zBI,fII,wF,wa,fEq,xC,xB,zB5,zB4,zA7,zGh,zBF,dB,cX,cY,cR,cT,cW,cZ,cU,cV,Nat.reduceSub,Nat.reduceAdd,zGj,zGk,zGl,zGm,wP,zAs,zAt,if_true,if_false,cQ]) <;> (try simp only [zy,zU,zk,xIf,ye,yH,gN,gNN,zY,yx,yk,zj,zA,zI,zO,yQ,yB,yb,zB,look,zV,zAP,zAe,zAr,zCD,zCE,zDa,zAw,zBI,fII,wF,wa,fEq,xC,xB,zB5,zB4,zA7,zGh,zBF,dB,cX,cY,cR,cT,cW,cZ,cU,cV,Nat.reduceSub,Nat.reduceAdd,zGj,zGk,zGl,zGm,wP,zAs,zAt,if_true,if_false,cQ]))
   refine⟨rfl,rfl,?_⟩;have exy:(!wN (nD x) (nD y))=decide (x≠y):=by rw[zAv];rw[eD];simp;omega
   have eyz:(!wN (nD y) (nD z))=decide (y≠z):=by rw[zAv];rw[eD];simp;omega
   rw[exy];have no:(decide (x≠y)&&decide (y≠z))=false->wk [some (.tup (r.map nD)),some (.int n),some (.adr f),none,none,none] [some (.tup (r.map nD)),some (.int n),some (.adr f),some (nD p.1),some (nD p.2),some (.adr s)]/\∃ G'',Sub G'' (zS G2 s ([x,y,z,w].map nD))/\(G''.m f=some ((((yX n).take (k+1)).filter (zAF r)).map yf)/\G''.m a=some ((yX n).map yf)/\Sub G G''):=fun hf=>by
    refine⟨.keep (.keep (.keep (.skip (.skip (.skip .nil))))),G2,.new hs,?_,h2,h3⟩;rw[hc,hf];simpa using h1
   by_cases c1:x≠y
   ·rw[decide_eq_true c1]
    ((try dsimp only [zy,zU,zk,xIf,ye,yH,gN,gNN,zY,yx,yk,zj,zA,zI,zO,yQ,yB,yb,zB,look,zV,zAP,zAe,zAr,zCD,zCE,zDa,zAw,zBI,fII,wF,wa,fEq,xC,xB,zB5,zB4,zA7,zGh,zBF,dB,cX,cY,cR,cT,cW,cZ,cU,cV,Nat.reduceSub,Nat.reduceAdd,zGj,zGk,zGl,zGm,wP,zAs,zAt,if_true,if_false,cQ]) <;> (try simp only [zy,zU,zk,xIf,ye,yH,gN,gNN,zY,yx,yk,zj,zA,zI,zO,yQ,yB,yb,zB,look,zV,zAP,zAe,zAr,zCD,zCE,zDa,zAw,zBI,fII,wF,wa,fEq,xC,xB,zB5,zB4,zA7,zGh,zBF,dB,cX,cY,cR,cT,cW,cZ,cU,cV,Nat.reduceSub,Nat.reduceAdd,zGj,zGk,zGl,zGm,wP,zAs,zAt,if_true,if_false,cQ]))
    refine wI zG (zFi _ _ _) (wI zG (zJ2 _ _ _ _) ?_)
    ((try dsimp only [zy,zU,zk,xIf,ye,yH,gN,gNN,zY,yx,yk,zj,zA,zI,zO,yQ,yB,yb,zB,look,zV,zAP,zAe,zAr,zCD,zCE,zDa,zAw,zBI,fII,wF,wa,fEq,xC,xB,zB5,zB4,zA7,zGh,zBF,dB,cX,cY,cR,cT,cW,cZ,cU,cV,Nat.reduceSub,Nat.reduceAdd,zGj,zGk,zGl,zGm,wP,zAs,zAt,if_true,if_false,cQ]) <;> (try simp only [zy,zU,zk,xIf,ye,yH,gN,gNN,zY,yx,yk,zj,zA,zI,zO,yQ,yB,yb,zB,look,zV,zAP,zAe,zAr,zCD,zCE,zDa,zAw,zBI,fII,wF,wa,fEq,xC,xB,zB5,zB4,zA7,zGh,zBF,dB,cX,cY,cR,cT,cW,cZ,cU,cV,Nat.reduceSub,Nat.reduceAdd,zGj,zGk,zGl,zGm,wP,zAs,zAt,if_true,if_false,cQ]))
    refine⟨rfl,rfl,?_⟩;rw[eyz];by_cases c2:y≠z
    ·rw[decide_eq_true c2]
     ((try dsimp only [zy,zU,zk,xIf,ye,yH,gN,gNN,zY,yx,yk,zj,zA,zI,zO,yQ,yB,yb,zB,look,zV,zAP,zAe,zAr,zCD,zCE,zDa,zAw,zBI,fII,wF,wa,fEq,xC,xB,zB5,zB4,zA7,zGh,zBF,dB,cX,cY,cR,cT,cW,cZ,cU,cV,Nat.reduceSub,Nat.reduceAdd,zGj,zGk,zGl,zGm,wP,zAs,zAt,if_true,if_false,cQ]) <;> (try simp only [zy,zU,zk,xIf,ye,yH,gN,gNN,zY,yx,yk,zj,zA,zI,zO,yQ,yB,yb,zB,look,zV,zAP,zAe,zAr,zCD,zCE,zDa,zAw,zBI,fII,wF,wa,fEq,xC,xB,zB5,zB4,zA7,zGh,zBF,dB,cX,cY,cR,cT,cW,cZ,cU,cV,Nat.reduceSub,Nat.reduceAdd,zGj,zGk,zGl,zGm,wP,zAs,zAt,if_true,if_false,cQ]))
     refine zDB (d:=yf p) rfl (by rw[zT (Ne.symm sf)];exact h1) (fun Q q=>by ((try dsimp only [zy,zU,zk,xIf,ye,yH,gN,gNN,zY,yx,yk,zj,zA,zI,zO,yQ,yB,yb,zB,look,zV,zAP,zAe,zAr,zCD,zCE,zDa,zAw,zBI,fII,wF,wa,fEq,xC,xB,zB5,zB4,zA7,zGh,zBF,dB,cX,cY,cR,cT,cW,cZ,cU,cV,Nat.reduceSub,Nat.reduceAdd,zGj,zGk,zGl,zGm,wP,zAs,zAt,if_true,if_false,cQ]) <;> (try simp only [zy,zU,zk,xIf,ye,yH,gN,gNN,zY,yx,yk,zj,zA,zI,zO,yQ,yB,yb,zB,look,zV,zAP,zAe,zAr,zCD,zCE,zDa,zAw,zBI,fII,wF,wa,fEq,xC,xB,zB5,zB4,zA7,zGh,zBF,dB,cX,cY,cR,cT,cW,cZ,cU,cV,Nat.reduceSub,Nat.reduceAdd,zGj,zGk,zGl,zGm,wP,zAs,zAt,if_true,if_false,cQ]));exact q) hz ⟨.keep (.keep (.keep (.skip (.skip (.skip .nil))))),_,.refl _,?_,?_,?_⟩
     ·rw[zG,hc,decide_eq_true c1,decide_eq_true c2]
      simp
     ·rw[zT fa,zT (Ne.symm sa)];exact h2
     ·exact(h3.put gs).put hf
    ·rw[decide_eq_false c2]
     ((try dsimp only [zy,zU,zk,xIf,ye,yH,gN,gNN,zY,yx,yk,zj,zA,zI,zO,yQ,yB,yb,zB,look,zV,zAP,zAe,zAr,zCD,zCE,zDa,zAw,zBI,fII,wF,wa,fEq,xC,xB,zB5,zB4,zA7,zGh,zBF,dB,cX,cY,cR,cT,cW,cZ,cU,cV,Nat.reduceSub,Nat.reduceAdd,zGj,zGk,zGl,zGm,wP,zAs,zAt,if_true,if_false,cQ]) <;> (try simp only [zy,zU,zk,xIf,ye,yH,gN,gNN,zY,yx,yk,zj,zA,zI,zO,yQ,yB,yb,zB,look,zV,zAP,zAe,zAr,zCD,zCE,zDa,zAw,zBI,fII,wF,wa,fEq,xC,xB,zB5,zB4,zA7,zGh,zBF,dB,cX,cY,cR,cT,cW,cZ,cU,cV,Nat.reduceSub,Nat.reduceAdd,zGj,zGk,zGl,zGm,wP,zAs,zAt,if_true,if_false,cQ]))
     exact no (by simp[c2])
   ·rw[decide_eq_false c1]
    ((try dsimp only [zy,zU,zk,xIf,ye,yH,gN,gNN,zY,yx,yk,zj,zA,zI,zO,yQ,yB,yb,zB,look,zV,zAP,zAe,zAr,zCD,zCE,zDa,zAw,zBI,fII,wF,wa,fEq,xC,xB,zB5,zB4,zA7,zGh,zBF,dB,cX,cY,cR,cT,cW,cZ,cU,cV,Nat.reduceSub,Nat.reduceAdd,zGj,zGk,zGl,zGm,wP,zAs,zAt,if_true,if_false,cQ]) <;> (try simp only [zy,zU,zk,xIf,ye,yH,gN,gNN,zY,yx,yk,zj,zA,zI,zO,yQ,yB,yb,zB,look,zV,zAP,zAe,zAr,zCD,zCE,zDa,zAw,zBI,fII,wF,wa,fEq,xC,xB,zB5,zB4,zA7,zGh,zBF,dB,cX,cY,cR,cT,cW,cZ,cU,cV,Nat.reduceSub,Nat.reduceAdd,zGj,zGk,zGl,zGm,wP,zAs,zAt,if_true,if_false,cQ]))
    exact no (by simp[c1])
 ·rintro G2 ⟨h1,h2,h3⟩
  rw[db,gE] at h1
  ((try dsimp only [zy,zU,zk,xIf,ye,yH,gN,gNN,zY,yx,yk,zj,zA,zI,zO,yQ,yB,yb,zB,look,zV,zAP,zAe,zAr,zCD,zCE,zDa,zAw,zBI,fII,wF,wa,fEq,xC,xB,zB5,zB4,zA7,zGh,zBF,dB,cX,cY,cR,cT,cW,cZ,cU,cV,Nat.reduceSub,Nat.reduceAdd,zGj,zGk,zGl,zGm,wP,zAs,zAt,if_true,if_false,cQ]) <;> (try simp only [zy,zU,zk,xIf,ye,yH,gN,gNN,zY,yx,yk,zj,zA,zI,zO,yQ,yB,yb,zB,look,zV,zAP,zAe,zAr,zCD,zCE,zDa,zAw,zBI,fII,wF,wa,fEq,xC,xB,zB5,zB4,zA7,zGh,zBF,dB,cX,cY,cR,cT,cW,cZ,cU,cV,Nat.reduceSub,Nat.reduceAdd,zGj,zGk,zGl,zGm,wP,zAs,zAt,if_true,if_false,cQ]))
  refine⟨((yX n).filter (zAF r)).map yf,.inl h1,?_⟩;exact⟨G,h3,h⟩
theorem zDh{α:Type}:∀(l:List α) (i:Nat) (h:i<l.length),(l[i]::l.eraseIdx i).Perm l
 | a::r,0,_=>by simp
 | a::r,i+1,h=>by
  have hi:i<r.length:=by simpa using h
  simp only[List.getElem_cons_succ,List.eraseIdx_cons_succ];exact(fW.swap a (r[i]'hi) _).trans ((zDh r i (by simpa using h)).cons a)
theorem zBk{α β:Type}(f:α->β):∀(l:List α) (i:Nat),(l.map f).eraseIdx i=(l.eraseIdx i).map f
 | [],_=>by simp
 | a::r,0=>by simp
 | a::r,i+1=>by simp[zBk f r i]
noncomputable def DrS(l:Addr)(G G':Gp):Prop:=∃ G1,Dr l G G1/\Sub G1 G'
theorem DrS.dr{l:Addr}{G G1 G2:Gp}(h:DrS l G G1)(d:Dr l G1 G2):DrS l G G2:=by
 obtain⟨G0,d0,s0⟩:=h;obtain⟨G3,d3,s3⟩:=d.sub s0;exact⟨G3,d0.trans d3,s3⟩
theorem DrS.put(h:DrS l G G1)(s:zAN G l)(n:G.m f=none):DrS l G (zS G1 f x):=by
 obtain⟨G0,d0,s0⟩:=h;exact⟨G0,d0,s0.put (d0.none s n)⟩
theorem DrS.refl(s:zAN G l):DrS l G G:=⟨G,.refl s,.refl G⟩
theorem DrS.st(h:DrS l G G'):zAN G' l:=by
 obtain⟨G0,d0,s0⟩:=h;exact d0.st.ext s0
theorem DrS.own(h:DrS l G G')(s:zAN G l)(n:G'.m a=none):G.m a=none:=by
 obtain⟨G0,d0,s0⟩:=h;have n0:G0.m a=none:=by
  cases q:G0.m a with
  | none=>rfl
  | some o=>rw[s0.m a o q] at n;cases n
 by_cases ha:a=l
 ·subst ha
  obtain⟨u0,u0,e,u0⟩:=d0.st;rw[e] at n0;cases n0
 ·rw[d0.ne ha] at n0;exact n0
theorem DrS.fin(h:DrS l G G')(q:∀ G',Dr l G G'->R d G'):FgR R d G':=by
 obtain⟨G0,d0,s0⟩:=h;exact⟨G0,s0,q G0 d0⟩
theorem drawn{σ:S2}{G G0:Gp}{st lf:Addr}{xs:List Nat}{i0 i2 k:Nat}{t:yj}{R:Q2}(h0:look σ i0=some (.adr st))(h2:look σ i2=some (.adr lf))(hk:σ.length=k)
  (ht:PuA t σ G [nD xs.length]) (hs:zAN G st) (hs0:zAN G0 st) (hne:lf≠st) (hx:G.m lf=some (xs.map nD)) (h0lf:G0.m lf=none) (hd:DrS st G0 G) (hlen:xs.length<=1000)
  (hR:∀(ys:List Nat) (G':Gp),ys.Perm xs->DrS st G0 G'->R (.tup (ys.map nD)) G') :
  yB yb (yV (iR1 t) bd1 zD9 (zLt (zB i2) (zA (zO zp (zA (zB i0) (zA (zO wB (zA (zB i2) zI)) zI))) zI))) σ G R:=by
 have lk:∀(j:Nat) (o:D) (d:D),look σ j=some o->look (σ++[some d]) j=some o:=fun j o d h=>by
  clear h0 h2 hk ht
  induction σ generalizing j with
  | nil=>cases h
  | cons a r ih =>
   cases j with
   | zero=>exact h
   | succ j=>exact ih j h
 refine zHR (ht G (.refl G) _ ⟨by omega,fun A hA=>?_⟩);rw[zCG];have Alf:A≠lf:=fun e=>by rw[e,hx] at hA;cases hA
 have Ast:A≠st:=hs.ne hA;refine zFh (fun i acc G'=>∃ ys zs:List Nat,acc=ys.map nD/\ys.length=i/\(ys++zs).Perm xs/\G'.m A=some acc/\G'.m lf=some (zs.map nD)/\DrS st G0 G')
  ⟨[],xs,rfl,rfl,.refl _,zG,by rw[zT (Ne.symm Alf)];exact hx,hd.put hs0 (hd.own hs0 hA)⟩ (fun i acc G' ⟨ys,zs,h1,h2,h3,h4,h5,h6⟩=>⟨trivial,h4,by rw[h1,db];omega⟩) ?_ ?_
 ·rintro i x acc G' hi ⟨ys,zs,rfl,h2',h3,h4,h5,h6⟩
  obtain⟨rfl,hi⟩:=zDf hi;refine⟨[nD i],rfl,?_⟩;have hz:ys.length+zs.length=xs.length:=by have:=h3.length_eq;rwa [dO] at this
  have st':=h6.st;unfold zD9;dsimp only;rw[if_pos rfl];unfold zLt;rw[show zB i2=fun σ G R=>match look σ i2 with | some d=>R d G | none=>False from rfl];dsimp only;rw[show dB some [nD i]=[some (nD i)] from rfl,lk i2 _ _ h2];dsimp only;rw[h5];dsimp only;simp only[zA,zO,zB,zI,lk i0 _ _ h0,lk i2 _ _ h2];refine⟨zs.map nD,.inl h5,?_⟩;rw[db];refine⟨st,zs.length,rfl,st',by omega,by omega,fun r G1 hr d1=>?_⟩;have e1:G1.m lf=some (zs.map nD):=by rw[d1.ne hne];exact h5
  dsimp only;rw[e1];dsimp only;refine⟨⟨by omega,by rw[db];omega,by omega⟩,?_⟩;have e2:(dB nD zs)[(r:Int).toNat]?=some (nD zs[r]):=by simp[hr]
  rw[e2];dsimp only;have Aa:(zS G1 lf ((dB nD zs).eraseIdx (r:Int).toNat)).m A=some (ys.map nD):=by rw[zT Alf,d1.ne Ast];exact h4
  refine⟨Aa,.of ⟨ys++[zs[r]],zs.eraseIdx r,by simp,by simp[h2'],?_,zG,?_,?_⟩⟩
  ·rw[eV]
   exact((zDh zs r hr).append_left ys).trans h3
  ·rw[zT (Ne.symm Alf),zG]
   simp[zBk]
  ·have hA0:G0.m A=none:=hd.own hs0 hA
   exact(((h6.dr d1).put hs0 h0lf).put hs0 hA0)
 ·rintro acc G' ⟨ys,zs,rfl,h2',h3,h4,h5,h6⟩
  rw[db,eT] at h2';have hz:ys.length+zs.length=xs.length:=by have:=h3.length_eq;rwa [dO] at this
  have:zs=[]:=gC.mp (by omega);subst this;rw[fU] at h3
  -- forget the list itself
  obtain⟨G1,d1,s1⟩:=h6;refine⟨G1,d1.none hs0 (hd.own hs0 hA),s1,?_⟩;exact hR ys G1 h3 ⟨G1,d1,.refl _⟩
noncomputable def zAh:Sp2:=fun ds G R=>∃(l:Addr) (n:Nat),ds=[.adr l,nD n]/\zAN G l/\n<=100/\∀(r:List Nat) (G':Gp),zAy n r->Dr l G G'->R (.tup (r.map nD)) G'
noncomputable def zCI:yd:=(zU (zk (zj (zN1 (zj (zGg (zA (zB 1) zI))) (xC (.int 2)))) (gN 2)) (zy (yB yb (yV (iR1 (zA (zY (wF zD8 fun i j=>.int (i*j)) (xC (.int 2)) (zB 1)) zI)) bd1 zD9 (zLt (zB 2) (zA (zO zp (zA (zB 0) (zA (zO wB (zA (zB 2) zI)) zI))) zI))))))
theorem zKA(ds:List D)(G:Gp)(R:Q2)(h:zAh ds G R):ds.length=2/\zCI (zn R) (zV ["state","many","left"] ds) G:=by
 obtain⟨l,n,rfl,hs,hn,h⟩:=h;refine⟨rfl,?_⟩;unfold zCI zU zk zj zN1 zGg
 ((try dsimp only [zy,zU,zk,xIf,ye,yH,gN,gNN,zY,yx,yk,zj,zA,zI,zO,yQ,yB,yb,zB,look,zV,zAP,zAe,zAr,zCD,zCE,zDa,zAw,zBI,fII,wF,wa,fEq,xC,xB,zB5,zB4,zA7,zGh,zBF,dB,cX,cY,cR,cT,cW,cZ,cU,cV,Nat.reduceSub,Nat.reduceAdd,zGj,zGk,zGl,zGm,wP,zAs,zAt,if_true,if_false,cQ]) <;> (try simp only [zy,zU,zk,xIf,ye,yH,gN,gNN,zY,yx,yk,zj,zA,zI,zO,yQ,yB,yb,zB,look,zV,zAP,zAe,zAr,zCD,zCE,zDa,zAw,zBI,fII,wF,wa,fEq,xC,xB,zB5,zB4,zA7,zGh,zBF,dB,cX,cY,cR,cT,cW,cZ,cU,cV,Nat.reduceSub,Nat.reduceAdd,zGj,zGk,zGl,zGm,wP,zAs,zAt,if_true,if_false,cQ]))
 refine⟨by omega,fun a ha=>?_⟩;rw[zG];dsimp only;rw[zCG];refine⟨by omega,by simp;omega,fun lf hlf=>?_⟩;have e:(dF (2:Int).toNat (dB nD (dq n))).flatten=(dq n++dq n).map nD:=by
  show(dF 2 _).flatten=_;simp[cU]
 rw[e];have hlf0:G.m lf=none:=by
  have:lf≠a:=fun e=>by rw[e,zG] at hlf;cases hlf
  rw[zT this] at hlf;exact hlf
 have la:lf≠l:=hs.ne hlf0;have hsG:zAN (zS (zS G a (dB nD (dq n))) lf ((dq n++dq n).map nD)) l:=(hs.ext (.new ha)).ext (.new hlf);have hdr:DrS l G (zS (zS G a (dB nD (dq n))) lf ((dq n++dq n).map nD)):=((DrS.refl hs).put hs ha).put hs hlf0;have hlen:(dq n++dq n).length=2*n:=by simp;omega
 refine drawn (k:=3) (xs:=dq n++dq n) (i0:=0) (i2:=2) rfl rfl rfl (zF ?_ zR) hsG hs la zG hlf0 hdr (by omega) fun ys G' hp hd=>hd.fin fun G1 d1=>h ys G1 hp d1;have:nD (dq n++dq n).length=.int (2*(n:Int)):=by rw[hlen];unfold nD;congr 1
 rw[this];exact zAE wZ (zH rfl) fun u0 u0 u0 q=>⟨.inl ⟨by decide,by decide⟩,q⟩
theorem zDi{l s:List (Nat×Nat)}(h:s.Sublist l)(nd:l.Nodup):(l.filter fun x=>decide (x∈s))=s:=by
 induction h with
 | slnil=>rfl
 | @cons s l a h ih =>
  obtain⟨h1,h2⟩:=fF.mp nd;have:a∉s:=fun m=>h1 (h.subset m);rw[gW,if_neg (by simpa using this)];exact ih h2
 | @cons_cons s l a h ih =>
  obtain⟨h1,h2⟩:=fF.mp nd;rw[gW,if_pos (by simp)];congr 1;refine Eq.trans (List.filter_congr fun x hx=>?_) (ih h2);have:x≠a:=fun e=>h1 (e▸hx);simp[this]
theorem zHV{n:Nat}{s:List (Nat×Nat)}(h:s.Sublist (yX n)):zK n (fun p=>decide (p∈s))=.tup [nD n,.tup (s.map yf)]:=by
 unfold zK;rw[zDi h (zIU n)]
theorem picked{σ:S2}{G G0:Gp}{st pl:Addr}{n i0 i4 k:Nat}{tc:TT2}{R:List D->Gp->Prop}(h0:look σ i0=some (.adr st))(h4:look σ i4=some (.adr pl))(hk:σ.length=k)
  (hs0:zAN G0 st) (hne:pl≠st) (hx:G.m pl=some ((yX n).map yf)) (hd:DrS st G0 G)
  (hc:∀(p:Nat×Nat) (G':Gp) (Q:Bool->Gp->Prop),p∈yX n->zAN G' st->(∀ b G1,Dr st G' G1->Q b G1)->tc (σ++[some (yf p)]) G' Q)
  (hR:∀(s:List (Nat×Nat)) (G':Gp),s.Sublist (yX n)->DrS st G0 G'->R (s.map yf) G') :
  yV (iV (zB i4)) bd1 tc (zB k) σ G R:=by
 have lk:∀ d,look (σ++[some d]) k=some d:=fun d=>by
  subst hk;clear h0 h4 hc
  induction σ with
  | nil=>rfl
  | cons a r ih=>exact ih
 refine zHR ?_;unfold iV zB;rw[h4];refine⟨(yX n).map yf,.inl hx,fun A hA=>?_⟩;have Apl:A≠pl:=fun e=>by rw[e,hx] at hA;cases hA
 have Ast:A≠st:=hd.st.ne hA;have hA0:=hd.own hs0 hA;refine zFh (fun i acc G'=>∃ s:List (Nat×Nat),acc=s.map yf/\s.Sublist ((yX n).take i)/\G'.m A=some acc/\G'.m pl=some ((yX n).map yf)/\DrS st G0 G')
  ⟨[],rfl,by simp,zG,by rw[zT (Ne.symm Apl)];exact hx,hd.put hs0 hA0⟩ (fun i acc G' ⟨s,h1,h2,h3,h4,h5⟩=>⟨.inl h4,h3,by rw[h1,db];exact eN h2.length_le (by rw[eK];omega)⟩) ?_ ?_
 ·rintro i x acc G' hi ⟨s,rfl,h2,h3,h4',h5⟩
  obtain⟨p,hp,rfl⟩:=zBP hi;refine⟨[yf p],rfl,hc p G' _ (dS hp) h5.st fun b G1 d1=>?_⟩;have m1:G1.m A=some (s.map yf):=by rw[d1.ne Ast];exact h3
  have m2:G1.m pl=some ((yX n).map yf):=by rw[d1.ne hne];exact h4'
  cases b with
  | false =>
   rw[if_neg (by simp)];exact .of ⟨s,rfl,by rw[wO hp];exact h2.trans (List.sublist_append_left _ _),m1,m2,h5.dr d1⟩
  | true =>
   rw[if_pos rfl];show match look (σ++[some (yf p)]) k with | some d=>_ | none=>_
   rw[lk];refine⟨m1,.of ⟨s++[p],by simp,by rw[wO hp];exact h2.append (List.Sublist.refl _),zG,by rw[zT (Ne.symm Apl)];exact m2,(h5.dr d1).put hs0 hA0⟩⟩
 ·rintro acc G' ⟨s,rfl,h2,h3,h4',h5⟩
  rw[db,gE] at h2;obtain⟨G1,d1,s1⟩:=h5;exact⟨G1,d1.none hs0 hA0,s1,hR s G1 h2 ⟨G1,d1,.refl _⟩⟩
noncomputable def zBK:Sp2:=fun ds G R=>∃(l:Addr) (m:Nat),ds=[.adr l,nD m]/\zAN G l/\1<=m/\m<=50/\∀(n:Nat) (q:Nat×Nat->Bool) (G':Gp),1<=n->n<=m->Dr l G G'->R (zK n q) G'
noncomputable def zDC:yd:=(zU (zk (zY wa (xC (.int 1)) (zO zp (zA (zB 0) (zA (zB 1) zI)))) (gN 2)) (zU (zk (zO zp (zA (zB 0) (zA (xC (.int 5)) zI))) (gN 3)) (zU (zk (zj (yQ zu (zA (zB 2) zI))) (gN 4)) (zU (xIf (xB (zY (fEq false) (zB 3) (xC (.int 0)))) (zy (zO wb (zA (zO zAh (zA (zB 0) (zA (zB 2) zI))) zI))) yH) (zU (xIf (xB (zY (fEq false) (zB 3) (xC (.int 1)))) (zy (yx (zA (zB 2) (zA (yB yb (yV (iV (zB 4)) bd1 (zB5 (xB (zY (fEq false) (zY yr (zB 6) (xC (.int 1))) (zY wa (zY yr (zB 6) (xC (.int 0))) (xC (.int 1))))) (xB (zY (fEq false) (zO zp (zA (zB 0) (zA (xC (.int 6)) zI))) (xC (.int 0))))) (zB 6))) zI)))) yH) (zU (zk (zY yr (zj (yk (zA (xC (.int 2)) (zA (xC (.int 3)) (zA (xC (.int 4)) zI))))) (zY (fII fun i j=>.int (i-j)) (zB 3) (xC (.int 2)))) (gN 5)) (zy (yx (zA (zB 2) (zA (yB yb (yV (iV (zB 4)) bd1 (xB (zY (fEq false) (zO zp (zA (zB 0) (zA (zB 5) zI))) (xC (.int 0)))) (zB 6))) zI))))))))))
theorem zL7(ds:List D)(G:Gp)(R:Q2)(h:zBK ds G R):ds.length=2/\zDC (zn R) (zV ["state","most","many","way","pairs_v","far"] ds) G:=by
 obtain⟨l,m,rfl,hs,hm1,hm,h⟩:=h;refine⟨rfl,?_⟩;unfold zDC
 ((try dsimp only [zy,zU,zk,xIf,ye,yH,gN,gNN,zY,yx,yk,zj,zA,zI,zO,yQ,yB,yb,zB,look,zV,zAP,zAe,zAr,zCD,zCE,zDa,zAw,zBI,fII,wF,wa,fEq,xC,xB,zB5,zB4,zA7,zGh,zBF,dB,cX,cY,cR,cT,cW,cZ,cU,cV,Nat.reduceSub,Nat.reduceAdd,zGj,zGk,zGl,zGm,wP,zAs,zAt,if_true,if_false,cQ]) <;> (try simp only [zy,zU,zk,xIf,ye,yH,gN,gNN,zY,yx,yk,zj,zA,zI,zO,yQ,yB,yb,zB,look,zV,zAP,zAe,zAr,zCD,zCE,zDa,zAw,zBI,fII,wF,wa,fEq,xC,xB,zB5,zB4,zA7,zGh,zBF,dB,cX,cY,cR,cT,cW,cZ,cU,cV,Nat.reduceSub,Nat.reduceAdd,zGj,zGk,zGl,zGm,wP,zAs,zAt,if_true,if_false,cQ]))
 refine⟨l,m,rfl,hs,by omega,by omega,fun r G1 hr d1=>?_⟩
 ((try dsimp only [zy,zU,zk,xIf,ye,yH,gN,gNN,zY,yx,yk,zj,zA,zI,zO,yQ,yB,yb,zB,look,zV,zAP,zAe,zAr,zCD,zCE,zDa,zAw,zBI,fII,wF,wa,fEq,xC,xB,zB5,zB4,zA7,zGh,zBF,dB,cX,cY,cR,cT,cW,cZ,cU,cV,Nat.reduceSub,Nat.reduceAdd,zGj,zGk,zGl,zGm,wP,zAs,zAt,if_true,if_false,cQ]) <;> (try simp only [zy,zU,zk,xIf,ye,yH,gN,gNN,zY,yx,yk,zj,zA,zI,zO,yQ,yB,yb,zB,look,zV,zAP,zAe,zAr,zCD,zCE,zDa,zAw,zBI,fII,wF,wa,fEq,xC,xB,zB5,zB4,zA7,zGh,zBF,dB,cX,cY,cR,cT,cW,cZ,cU,cV,Nat.reduceSub,Nat.reduceAdd,zGj,zGk,zGl,zGm,wP,zAs,zAt,if_true,if_false,cQ]))
 refine⟨l,5,rfl,d1.st,by omega,by omega,fun way G2 hway d2=>?_⟩;have d12:=d1.trans d2;have e1:(1:Int)+(r:Int)=((r+1:Nat):Int):=by omega
 ((try dsimp only [zy,zU,zk,xIf,ye,yH,gN,gNN,zY,yx,yk,zj,zA,zI,zO,yQ,yB,yb,zB,look,zV,zAP,zAe,zAr,zCD,zCE,zDa,zAw,zBI,fII,wF,wa,fEq,xC,xB,zB5,zB4,zA7,zGh,zBF,dB,cX,cY,cR,cT,cW,cZ,cU,cV,Nat.reduceSub,Nat.reduceAdd,zGj,zGk,zGl,zGm,wP,zAs,zAt,if_true,if_false,cQ]) <;> (try simp only [zy,zU,zk,xIf,ye,yH,gN,gNN,zY,yx,yk,zj,zA,zI,zO,yQ,yB,yb,zB,look,zV,zAP,zAe,zAr,zCD,zCE,zDa,zAw,zBI,fII,wF,wa,fEq,xC,xB,zB5,zB4,zA7,zGh,zBF,dB,cX,cY,cR,cT,cW,cZ,cU,cV,Nat.reduceSub,Nat.reduceAdd,zGj,zGk,zGl,zGm,wP,zAs,zAt,if_true,if_false,cQ]))
 rw[e1];refine⟨r+1,rfl,by omega,fun pl hpl=>?_⟩;have hpl0:G.m pl=none:=by
  have:pl≠l:=d2.st.ne hpl;rw[d12.ne this] at hpl;exact hpl
 have hne:pl≠l:=hs.ne hpl0;have hdr:DrS l G (zS G2 pl ((yX (r+1)).map yf)):=(DrS.put (x:=(yX (r+1)).map yf) ⟨G2,d12,.refl _⟩ hs hpl0)
 have fin:∀(s:List (Nat×Nat)) (G':Gp),s.Sublist (yX (r+1))->DrS l G G'->FgR R (.tup [.int ((r+1:Nat):Int),.tup (s.map yf)]) G':=fun s G' hsub hd=>hd.fin fun G3 d3=>by
  have:=h (r+1) (fun p=>decide (p∈s)) G3 (by omega) (by omega) d3;rw[zHV hsub] at this;exact this
 have e0:wN (nD way) (.int 0)=decide (way=0):=by rw[zAv];rw[eD];simp
 have e1':wN (nD way) (.int 1)=decide (way=1):=by rw[zAv];rw[eD];simp;omega
 refine⟨rfl,rfl,?_⟩;rw[e0];by_cases w0:way=0
 ·rw[decide_eq_true w0,if_pos rfl]
  refine⟨l,r+1,rfl,hdr.st,by omega,fun ring G3 hring d3=>?_⟩
  ((try dsimp only [zy,zU,zk,xIf,ye,yH,gN,gNN,zY,yx,yk,zj,zA,zI,zO,yQ,yB,yb,zB,look,zV,zAP,zAe,zAr,zCD,zCE,zDa,zAw,zBI,fII,wF,wa,fEq,xC,xB,zB5,zB4,zA7,zGh,zBF,dB,cX,cY,cR,cT,cW,cZ,cU,cV,Nat.reduceSub,Nat.reduceAdd,zGj,zGk,zGl,zGm,wP,zAs,zAt,if_true,if_false,cQ]) <;> (try simp only [zy,zU,zk,xIf,ye,yH,gN,gNN,zY,yx,yk,zj,zA,zI,zO,yQ,yB,yb,zB,look,zV,zAP,zAe,zAr,zCD,zCE,zDa,zAw,zBI,fII,wF,wa,fEq,xC,xB,zB5,zB4,zA7,zGh,zBF,dB,cX,cY,cR,cT,cW,cZ,cU,cV,Nat.reduceSub,Nat.reduceAdd,zGj,zGk,zGl,zGm,wP,zAs,zAt,if_true,if_false,cQ]))
  refine⟨r+1,ring,rfl,hring,by omega,?_⟩;exact(hdr.dr d3).fin fun G4 d4=>h _ _ G4 (by omega) (by omega) d4
 ·rw[decide_eq_false w0,if_neg (by simp)]
  refine⟨rfl,rfl,?_⟩;rw[e1'];by_cases w1:way=1
  ·rw[decide_eq_true w1,if_pos rfl]
   refine picked (k:=6) (i0:=0) (n:=r+1) rfl rfl rfl hs hne zG hdr (fun p G' Q hp hst hQ=>?_) fun s G' hsub hd=>?_
   ·show zB5 _ _ _ _ _
    unfold yf
    ((try dsimp only [zy,zU,zk,xIf,ye,yH,gN,gNN,zY,yx,yk,zj,zA,zI,zO,yQ,yB,yb,zB,look,zV,zAP,zAe,zAr,zCD,zCE,zDa,zAw,zBI,fII,wF,wa,fEq,xC,xB,zB5,zB4,zA7,zGh,zBF,dB,cX,cY,cR,cT,cW,cZ,cU,cV,Nat.reduceSub,Nat.reduceAdd,zGj,zGk,zGl,zGm,wP,zAs,zAt,if_true,if_false,cQ]) <;> (try simp only [zy,zU,zk,xIf,ye,yH,gN,gNN,zY,yx,yk,zj,zA,zI,zO,yQ,yB,yb,zB,look,zV,zAP,zAe,zAr,zCD,zCE,zDa,zAw,zBI,fII,wF,wa,fEq,xC,xB,zB5,zB4,zA7,zGh,zBF,dB,cX,cY,cR,cT,cW,cZ,cU,cV,Nat.reduceSub,Nat.reduceAdd,zGj,zGk,zGl,zGm,wP,zAs,zAt,if_true,if_false,cQ]))
    refine⟨rfl,rfl,?_⟩;cases wN (nD p.2) (.int ((p.1:Int)+1)) with
    | true=>rw[if_pos rfl];exact hQ true G' (.refl hst)
    | false =>
     rw[if_neg (by simp)];refine⟨l,6,rfl,hst,by omega,by omega,fun x G3 hx d3=>?_⟩;exact⟨rfl,rfl,hQ _ G3 d3⟩
   ·exact fin s G' hsub hd
  ·rw[decide_eq_false w1,if_neg (by simp)]
   intro a ha;have hat:∃ far:Nat,atI [D.int 2,D.int 3,D.int 4] ((way:Int)-2)=some (nD far)/\0<far/\far<=4:=by
    have:way=2\/way=3\/way=4:=by omega
    rcases this with rfl | rfl | rfl
    ·exact⟨2,zCC _ _,by omega,by omega⟩
    ·exact⟨3,zFi _ _ _,by omega,by omega⟩
    ·exact⟨4,zJ2 _ _ _ _,by omega,by omega⟩
   obtain⟨far,hat,hf1,hf2⟩:=hat;refine wI zG hat ?_;have apl:pl≠a:=fun e=>by rw[<-e,zG] at ha;cases ha
   have ha0:=hdr.own hs ha;refine picked (k:=6) (i0:=0) (n:=r+1) rfl rfl rfl hs hne (by rw[zT apl];exact zG) (hdr.put hs ha0) (fun p G' Q hp hst hQ=>?_) fun s G' hsub hd=>?_
   ·show xB _ _ _ _
    ((try dsimp only [zy,zU,zk,xIf,ye,yH,gN,gNN,zY,yx,yk,zj,zA,zI,zO,yQ,yB,yb,zB,look,zV,zAP,zAe,zAr,zCD,zCE,zDa,zAw,zBI,fII,wF,wa,fEq,xC,xB,zB5,zB4,zA7,zGh,zBF,dB,cX,cY,cR,cT,cW,cZ,cU,cV,Nat.reduceSub,Nat.reduceAdd,zGj,zGk,zGl,zGm,wP,zAs,zAt,if_true,if_false,cQ]) <;> (try simp only [zy,zU,zk,xIf,ye,yH,gN,gNN,zY,yx,yk,zj,zA,zI,zO,yQ,yB,yb,zB,look,zV,zAP,zAe,zAr,zCD,zCE,zDa,zAw,zBI,fII,wF,wa,fEq,xC,xB,zB5,zB4,zA7,zGh,zBF,dB,cX,cY,cR,cT,cW,cZ,cU,cV,Nat.reduceSub,Nat.reduceAdd,zGj,zGk,zGl,zGm,wP,zAs,zAt,if_true,if_false,cQ]))
    refine⟨l,far,rfl,hst,by omega,by omega,fun x G3 hx d3=>?_⟩;exact⟨rfl,rfl,hQ _ G3 d3⟩
   ·exact fin s G' hsub hd
section
variable {σ:S2} {G:Gp}
theorem zKB(hx:flat 8 x=true)(hy:flat 8 y=true)(q:R (.bl (if ng then !wN x y else wN x y)) G):fEq ng x y G R:=by
 cases x with
 | adr _=>simp[flat] at hx
 | _=>exact⟨hx,hy,q⟩
theorem zBl{ta tb:zi}{x y:D}{ng b:Bool}(ha:yC ta σ G x)(hb:yC tb σ G y)(hx:flat 8 x=true)(hy:flat 8 y=true)(e:(if ng then !wN x y else wN x y)=b):yC (zY (fEq ng) ta tb) σ G (.bl b) :=
 zAE ha hb fun u0 u0 u0 q=>zKB hx hy (by rw[e];exact q)
theorem zEa(ha:yC ta σ G x)(hb:yC tb σ G x)(hx:flat 8 x=true):yC (zY (fEq true) ta tb) σ G (.bl false) :=
 zBl ha hb hx hx (by rw[zDX x 8 hx];rfl)
theorem zN9(h:yC t σ G d)(hd:∀ l,d≠.adr l)(hi:zB9 d T=b):yC (zEB T t) σ G (.bl b):=fun G2 e R q=>h G2 e _ (by
 subst hi;cases d with
 | adr l=>exact absurd rfl (hd l)
 | _=>exact q)
theorem zGs(h:PuT t σ G false)(h':PuT u σ G false):PuT (zB5 t u) σ G false:=zN4 h fun u0=>h'
theorem zCJ(h:PuT tc σ G false)(h':u E σ G):xIf tc t u E σ G:=h G (.refl G) _ (by rw[if_neg (by simp)];exact h')
theorem zGt(h:PuT tc σ G true)(h':t E σ G):xIf tc t u E σ G:=h G (.refl G) _ (by rw[if_pos rfl];exact h')
theorem wu(h:PuT tc σ G false)(h':u E σ G):zU (xIf tc t yH) u E σ G:=h G (.refl G) _ (by rw[if_neg (by simp)];exact h')
theorem zHW(h:yC te σ G d)(h':E.rt d G):zy te E σ G:=h G (.refl G) _ h'
theorem yI(h:te σ G fun d G1=>g d σ G1 fun σ' G'=>u E σ' G'):zU (zk te g) u E σ G:=h
theorem zBx{sp:Sp2}{t:yj}{ds:List D}{R:Q2}(h:PuA t σ G ds)(h':sp ds G R):zO sp t σ G R:=h G (.refl G) _ h'
theorem zKC(h:yC ta σ G d)(h':tr σ G fun xs G2=>R (d::xs) G2):zA ta tr σ G R:=h G (.refl G) _ h'
theorem zBm{tl:TL2}{ds:List D}{R:Q2}(h:PuL tl σ G ds)(h':∀ l,G.m l=none->R (.adr l) (zS G l ds)):zj tl σ G R:=h G (.refl G) _ h'
theorem zL8(h:yC te σ G d)(h':g d σ G fun σ' G'=>u E σ' G'):zU (zk te g) u E σ G:=h G (.refl G) _ h'
theorem _root_.L3.Dr.new(h:Dr l (zS G l x) G')(n:G.m l=none):Ext G G':=by
 obtain⟨s,b,rfl,u0⟩:=h;rw[zAd];exact .new n
end
theorem zL9(hi:i<n):x∈lar n q i↔x<n/\adj q i x=true:=by
 unfold lar adj;simp only[dL,fj,zAu,fm,decide_eq_true_eq,Bool.or_eq_true];constructor
 ·rintro⟨⟨a,b⟩,⟨⟨⟨h1,h2⟩,h3⟩,h4⟩,rfl⟩
  dsimp only at h1 h2 h3 h4 ⊢;rcases h4 with rfl | rfl
  ·have e:a+b-a=b:=by omega
   rw[e,Nat.min_eq_left (by omega),Nat.max_eq_right (by omega)];exact⟨h2,by omega,h3⟩
  ·have e:a+b-b=a:=by omega
   rw[e,Nat.min_eq_right (by omega),Nat.max_eq_left (by omega)];exact⟨by omega,by omega,h3⟩
 ·rintro⟨h1,h2,h3⟩
  refine⟨(min i x,max i x),⟨⟨⟨by dsimp only;omega,by dsimp only;omega⟩,h3⟩,by dsimp only;omega⟩,by dsimp only;omega⟩
theorem zIY{σ:S2}{G:Gp}{a:Addr}{ns:List Int}{c:Int}(hc:1<=c/\c<=100)(h:look σ 0=some (.adr a))(ha:Ls G a (ns.map D.int)) :
  ∃ m:Nat,PuI (iR1 (zA (zO zAe (zA (xC (.int 1)) (zA (zO zAP (zA (zO wB (zA (zB 0) zI)) (zA (xC (.int c)) zI))) zI))) zI)) σ G ((dq m).map nD):=by
 have h1:yC (zO wB (zA (zB 0) zI)) σ G (.int (ns.length:Int)):=yJ (zF (zH h) zR) fun G2 e R q=>⟨ns.map D.int,e.ls ha,by rw[db];exact q⟩
 have h2:yC (zO zAP (zA (zO wB (zA (zB 0) zI)) (zA (xC (.int c)) zI))) σ G (.int (if c<(ns.length:Int) then c else ns.length)):=yJ (zF h1 (zF wZ zR)) fun u0 u0 u0 q=>q;have h3:yC (zO zAe (zA (xC (.int 1)) (zA (zO zAP (zA (zO wB (zA (zB 0) zI)) (zA (xC (.int c)) zI))) zI))) σ G (.int (if (if c<(ns.length:Int) then c else ns.length)>1 then (if c<(ns.length:Int) then c else ns.length) else 1)):=yJ (zF wZ (zF h2 zR)) fun u0 u0 u0 q=>q;have hb:(if (if c<(ns.length:Int) then c else ns.length)>1 then (if c<(ns.length:Int) then c else (ns.length:Int)) else 1)<=100/\1<=(if (if c<(ns.length:Int) then c else ns.length)>1 then (if c<(ns.length:Int) then c else (ns.length:Int)) else 1):=by
  split<;>split<;>omega
 generalize (if (if c<(ns.length:Int) then c else ns.length)>1 then (if c<(ns.length:Int) then c else (ns.length:Int)) else 1)=m at h3 hb;refine⟨m.toNat,?_⟩;have:(m.toNat:Int)=m:=by omega
 have q:=zBU (zF h3 zR) (by omega);rw[<-this,zCG] at q;exact q
theorem zIZ{a:Addr}{G:Gp}{σ:S2}{k:Nat}{ns:List Int}{i j:Nat}(hs:look σ i=some (.adr a))(hk:look σ j=some (nD k))(ha:Ls G a (ns.map D.int)){R:Q2}(h:∀ l s b,G.m l=none->OkS s b->R (.adr l) (zS G l [.int s,.bl b])):zj (yQ yW (zA (zB i) (zA (zB j) zI))) σ G R:=by
 unfold zj yQ zA zI zB;simp only[hs,hk];exact⟨a,ns,k,rfl,ha,fun s b o l hl=>h l s b hl o⟩
theorem zIa{a:Addr}{G:Gp}{σ:S2}{k x:Nat}{ns:List Int}{i j:Nat}{u:yd}{E:zz}(hs:look σ i=some (.adr a))(hk:look σ j=some (nD k))(ha:Ls G a (ns.map D.int))(h:∀ l s b,G.m l=none->OkS s b->u E (σ.set x (some (.adr l))) (zS G l [.int s,.bl b])) :
  zU (zk (zj (yQ yW (zA (zB i) (zA (zB j) zI)))) (gN x)) u E σ G:=by
 have:=zIZ (σ:=σ) (G:=G) (R:=fun d G1=>gN x d σ G1 (u E)) hs hk ha fun l s b hl ok=>h l s b hl ok;exact this
theorem zKD(h:yC t σ G (.tup ds)):yC (zO wB (zA t zI)) σ G (nD ds.length):=yJ (zF h zR) fun u0 u0 u0 q=>⟨ds,rfl,q⟩
theorem zPI(h:yC t σ G (yf p)):yC (zY yr t (xC (.int 0))) σ G (nD p.1):=zAE h wZ fun u0 u0 u0 q=>by unfold yf;rw[zCD];exact q
theorem zPJ(h:yC t σ G (yf p)):yC (zY yr t (xC (.int 1))) σ G (nD p.2):=zAE h wZ fun u0 u0 u0 q=>by unfold yf;rw[zCE];exact q
theorem zOA(i j:Nat):wN (nD i) (nD j)=decide (i=j):=by rw[zAv,eD];simp;omega
theorem zP9(h:t σ G fun ds G1=>∀ a,G1.m a=none->R ds (fun G=>Ls G a ds) (zS G1 a ds)):iF t σ G R:=h
theorem zDj(h:t σ G fun ds G1=>ds.length<=sizeLine/\R ds G1):yk t σ G R:=h
theorem zEb(h:R [] G):zI σ G R:=h
noncomputable def ltP(a b:Nat×Nat):Prop:=a.1<b.1\/a.1=b.1/\a.2<b.2
theorem zKE(n:Nat):(yX n).Pairwise ltP:=by
 unfold yX;rw[List.pairwise_flatMap];refine⟨fun i u0=>?_,?_⟩
 ·rw[List.pairwise_map]
  exact List.pairwise_lt_range.imp fun {a b} h=>.inr ⟨rfl,by dsimp only;omega⟩
 ·refine List.pairwise_lt_range.imp fun {a b} h x hx y hy=>?_
  obtain⟨u0,u0,rfl⟩:=dL.mp hx;obtain⟨u0,u0,rfl⟩:=dL.mp hy;exact .inl h
theorem zOB{σ:S2}{G:Gp}{tl:TL2}{bs:List Bool}(h:PuL tl σ G (bs.map D.bl)):yC (yB zL1 tl) σ G (.bl (bs.all id)):=fun G2 e R q=>h G2 e _ ⟨bs,rfl,q⟩
theorem zOC(ha:yC ta σ G (.bl true))(hb:yC tb σ G (.bl b)):yC (zJl ta tb) σ G (.bl b):=fun G2 e R q=>ha G2 e _ (by
 show if true=true then _ else _;rw[if_pos rfl];exact hb G2 e _ q)
section
variable {n:Nat} {q:Nat×Nat->Bool}
end
end K
namespace HT
section
variable {prog:Program} {w:World} {A:Around} {E:Value->Shared->Prop} {s:Shared}
end
end HT
namespace L3
open L2
section
variable {X:Cx} {a b c e o:Expr} {es:List Expr} {pos p:Pos} {ta tb te:zi}
end
section
variable {X:Cx} {a b c e o:Expr} {es:List Expr} {pos p:Pos} {ta tb te:zi} {tl:TL2}
noncomputable def tupI(ns:List Int):D:=.tup (ns.map D.int)
end
end L3
namespace K
open L2 L3
end K
namespace HT
open PySem PyProof.Rows
section
open PySem.SeqAt
open PySem.MeetsSeq PySem.MeetsSeq2 PySem.MeetsSeq3
end
section
variable {prog:Program} {w:World} {A:Around} {E:Value->Shared->Prop} {s:Shared}
end
end HT
namespace L3
open L2
section
variable {X:Cx} {a b c e o:Expr} {es:List Expr} {pos p:Pos} {ta tb te:zi}
end
end L3
namespace HT
section
variable {prog:Program} {w:World} {A:Around} {E:Value->Shared->Prop} {s:Shared}
end
end HT
namespace L3
open L2
section
variable {X:Cx} {a b c e o:Expr} {es:List Expr} {pos p:Pos} {ta tb te:zi}
theorem zW.rep(r:zW xs us):∀ n:Nat,zW (dF n xs).flatten (dF n us).flatten
 | 0=>.nil
 | n+1=>by
  rw[cU,cU,fZ,fZ];exact r.append (zW.rep r n)
end
end L3
namespace HT
section
variable {prog:Program} {w:World} {A:Around} {E:Value->Shared->Prop} {s:Shared}
end
end HT
namespace L3
open L2
section
variable {X:Cx} {a b c e o:Expr} {es:List Expr} {pos p:Pos} {ta tb te:zi}
end
end L3
namespace HZ
structure Zs (prog:Program) (w:World) (i l:Addr) (xs:Array Value) where
 It:Nat->Heap->Prop
 Sq:Heap->Prop
 item:∀(A:Around) (E:Value->Shared->Prop) (s:Shared) (k:Nat) (x:Value) (Q:Value->Shared->Prop),It k s.heap->Sq s.heap->xs[k]?=some x->(∀ h',It (k+1) h'->dW i s.heap h'->Q x { s with heap:=h' })->wpAny (model prog w) A (Builtin.SmallTypes.nextOf (.ref i)) Q E s
 fin:∀(A:Around) (E:Value->Shared->Prop) (s:Shared) (k:Nat) (Q:Value->Shared->Prop),A.handled=none->It k s.heap->Sq s.heap->xs[k]?=none->(∀ h' e,Heap.ExtBut i s.heap h'->(∃ o,h'.get? e=some o/\o.cls=.type "StopIteration")->E (.ref e) { s with heap:=h' })->wpAny (model prog w) A (Builtin.SmallTypes.nextOf (.ref i)) Q E s
 itAt:∀ {k:Nat} {h h':Heap},It k h->(∀ o,h.get? i=some o->h'.get? i=some o)->It k h'
 sqAt:∀ {h h':Heap},Sq h->(∀ o,h.get? l=some o->h'.get? l=some o)->Sq h'
 itHas:∀ {k:Nat} {h:Heap},It k h->∃ o,h.get? i=some o/\∀ v,o.data≠.cell v
theorem Zs.lt(Z:Zs prog w i l xs)(x:Z.It k h):i<h.objs.size:=let ⟨_,e,_⟩:=Z.itHas x;d7 e
section
variable {prog:Program} {w:World} {A:Around} {E:Value->Shared->Prop} {s:Shared}
theorem zCK(hit:s.heap.IsTupleIter nt tp i)(ht:s.heap.IsTuple tp its)(hx:its[i]?=some x)
  (hQ:∀ h',h'.IsTupleIter nt tp (i+1)->dW nt s.heap h'->Q x { s with heap:=h' }):wpAny (model prog w) A (Builtin.SmallTypes.nextOf (.ref nt)) Q E s:=by
 obtain⟨o,ho,hc,hd⟩:=id hit;obtain⟨ol,hol,u0,nl,hdl⟩:=ht;unfold Builtin.SmallTypes.nextOf;refine cN (wpAny_callSpecial?_slot (name:=Str.ofString "__next__") hit.typeIs F.slot_tuple_iterator_next (dY F.slot_tuple_iterator_next hit.typeIs F.entry_tuple_iterator_next ?_ (F.args_tuple_iterator_next_1 _)));show wpAny _ _ (field (.ref nt) 0>>=_) _ _ s;refine cN (gj ho hd (x:=.ref tp) rfl ?_);show wpAny _ _ (if (Value.ref tp==Value.none)=true then _ else _) _ _ s;rw[if_neg (show ¬ ((Value.ref tp==Value.none)=true) from eH)];show wpAny _ _ (field (.ref nt) 1>>=_) _ _ s;refine cN (gj ho hd (x:=.int i 0) rfl (show wpAny _ _ (seqItems? (.ref tp)>>=_) _ _ s from cN (fN hol hdl ?_)));simp only[gR,hx];refine cN (wpAny_setField ho hd (by simp) (cS ⟨x,rfl,cS (hQ _ ⟨_,gi _ ho (Obj.isFreed_of_fields (Obj.data_mapFields hd _)),(Obj.cls_mapFields ..).trans hc,?_⟩ (dW.update ..))⟩));rw[Obj.data_mapFields hd];simp[rawInt]
theorem zCm(hh:A.handled=none)(hit:s.heap.IsTupleIter nt tp i)(ht:s.heap.IsTuple tp its)(hx:its[i]?=none)
  (hE:∀ h' e,Heap.ExtBut nt s.heap h'->(∃ o,h'.get? e=some o/\o.cls=.type "StopIteration")->E (.ref e) { s with heap:=h' }):wpAny (model prog w) A (Builtin.SmallTypes.nextOf (.ref nt)) Q E s:=by
 obtain⟨o,ho,hc,hd⟩:=id hit;obtain⟨ol,hol,u0,nl,hdl⟩:=ht;unfold Builtin.SmallTypes.nextOf;refine cN (wpAny_callSpecial?_slot (name:=Str.ofString "__next__") hit.typeIs F.slot_tuple_iterator_next (dY F.slot_tuple_iterator_next hit.typeIs F.entry_tuple_iterator_next ?_ (F.args_tuple_iterator_next_1 _)));show wpAny _ _ (field (.ref nt) 0>>=_) _ _ s;refine cN (gj ho hd (x:=.ref tp) rfl ?_);show wpAny _ _ (if (Value.ref tp==Value.none)=true then _ else _) _ _ s;rw[if_neg (show ¬ ((Value.ref tp==Value.none)=true) from eH)];show wpAny _ _ (field (.ref nt) 1>>=_) _ _ s;refine cN (gj ho hd (x:=.int i 0) rfl (show wpAny _ _ (seqItems? (.ref tp)>>=_) _ _ s from cN (fN hol hdl ?_)));simp only[gR,hx];refine cN (fY (cN (wpAny_setField ho hd (by simp) (show wpAny _ _ (newExc (.type "StopIteration") []>>=_) _ _ _ from cN ?_))));simp only[newExc,newTuple];refine cN (eR (cN (m:=firstArgMember _ _) (gX (a:=Value.none) (by first | rfl | (simp only[firstArgMember];rfl)) (eR ?_ (by size_fits)))) (by size_fits));simp only[raiseNew];refine cN (wpAny_handled ?_)
 first | rw[show A.in1.handled=none from hh] | rw[hh]
 exact cN (cS (wpAny_throw (hE _ _ (((dW.update ..).extBut.push _).push _) ⟨_,d9 _ rfl,rfl⟩)))
end
theorem IsTupleIter.at'{h h':Heap}{a t:Addr}{i:Nat}(x:h.IsTupleIter a t i)(k:∀ o,h.get? a=some o->h'.get? a=some o):h'.IsTupleIter a t i:=let ⟨o,e,r⟩:=x;⟨o,k o e,r⟩
theorem IsTuple.at'{h h':Heap}{a:Addr}{its:Array Value}(x:h.IsTuple a its)(k:∀ o,h.get? a=some o->h'.get? a=some o):h'.IsTuple a its:=let ⟨o,e,r⟩:=x;⟨o,k o e,r⟩
noncomputable def zHX(prog:Program)(w:World)(i l:Addr)(xs:Array Value):Zs prog w i l xs where
 It:=fun k h=>h.IsTupleIter i l k
 Sq:=fun h=>h.IsTuple l xs
 item:=fun A E s k x Q a b c d=>zCK a b c d
 fin:=fun A E s k Q hh a b c d=>zCm hh a b c d
 itAt:=fun x k=>IsTupleIter.at' x k
 sqAt:=fun x k=>IsTuple.at' x k
 itHas:=fun⟨o,e,c,d⟩=>⟨o,e,fun v z=>by rw[d] at z;cases z⟩
noncomputable def zHY(prog:Program)(w:World)(i l:Addr)(xs:Array Value):Zs prog w i l xs where
 It:=fun k h=>h.IsListIter i l k
 Sq:=fun h=>h.IsList l xs
 item:=fun A E s k x Q a b c d=>wpAny_nextOf_list_item a b c d
 fin:=fun A E s k Q hh a b c d=>wpAny_nextOf_list_end hh a b c d
 itAt:=fun x k=>x.at k
 sqAt:=fun x k=>x.at k
 itHas:=fun⟨o,e,c,d⟩=>⟨o,e,fun v z=>by rw[d] at z;cases z⟩
structure Ap (z a b i j l m:Addr):Prop where
 az:a≠z
 bz:b≠z
 iz:i≠z
 jz:j≠z
 ab:a≠b
 ai:a≠i
 aj:a≠j
 bi:b≠i
 bj:b≠j
 ij:i≠j
 lz:l≠z
 lb:l≠b
 li:l≠i
 lj:l≠j
 mz:m≠z
 mb:m≠b
 mi:m≠i
 mj:m≠j
section
variable {prog:Program} {w:World} {A:Around} {E:Value->Shared->Prop} {s:Shared} {z a b i j l m:Addr} {xs ys:Array Value} (Z1:Zs prog w i l xs) (Z2:Zs prog w j m ys)
theorem zMA{k1 k2:Nat}{x y u v:Value}{Q:Value->Shared->Prop}(D:Ap z a b i j l m)(hz:IsZip s.heap z a b .none)(hTI:IsPair s.heap a (.ref i) (.ref j))(hTO:IsPair s.heap b u v)
  (h1:Z1.It k1 s.heap) (h2:Z2.It k2 s.heap) (hl1:Z1.Sq s.heap) (hl2:Z2.Sq s.heap) (hx:xs[k1]?=some x) (hy:ys[k2]?=some y)
  (hQ:∀ h',IsZip h' z a b (rawInt s.heap.objs.size)->IsPair h' b x y->Z1.It (k1+1) h'->Z2.It (k2+1) h'->IsPair h' s.heap.objs.size x y->h'.objs.size=s.heap.objs.size+1 ->
   (∀ c o,c≠z->c≠b->c≠i->c≠j->s.heap.get? c=some o->h'.get? c=some o)->Q (.ref s.heap.objs.size) { s with heap:=h' }) :
  wpAny (model prog w) A (Builtin.«zip.__next__» ⟨[.ref z],[]⟩) (fun fin s'=>∃ v,fin=.done (.ret v)/\Q v s') E s:=by
 show wpAny _ _ (field (.ref z) 2>>=_) _ _ s;refine cN (gj hz rfl (x:=.bool false) rfl (show wpAny _ _ (field (.ref z) 3>>=_) _ _ s from cN (gj hz rfl (x:=.ref a) rfl (cN (fN hTI rfl ?_)))));show wpAny _ _ (Builtin.SmallTypes.ownedTupleIsFree (.ref z)>>=_) _ _ s;refine cN ?_;unfold Builtin.SmallTypes.ownedTupleIsFree;refine cN (gj hz rfl (x:=.none) rfl (cS ?_));simp only[if_true];refine cN (fY (cN (gj hz rfl (x:=.ref b) rfl (cN (fB hz (by simp) fun g1 hz1 s1=>?_)))))
 replace hz1:IsZip g1 z a b .ellipsis:=hz1
 refine cN ?_;simp only[List.zipIdx_cons,List.zipIdx_nil,List.forIn_cons,List.forIn_nil];refine cN (cN (wpAny_onRaise (show wpAny _ _ (Builtin.SmallTypes.nextOf (.ref i)>>=_) _ _ _ from cN (Z1.item _ _ _ _ _ _ (Z1.itAt h1 fun o e=>s1.extBut _ _ D.iz e) (Z1.sqAt hl1 fun o e=>s1.extBut _ _ D.lz e) hx fun g2 i2 s2=>cS ?_))));have t2:IsPair g2 b u v:=s2.extBut _ _ D.bi (s1.extBut _ _ D.bz hTO);refine cN (fN t2 rfl (cN (wpAny_updateSeq_pair t2 fun g3 t3 s3=>?_)))
 replace t3:IsPair g3 b x v:=t3
 refine cN (wpAny_letGo (cS (cN (cN (wpAny_onRaise (show wpAny _ _ (Builtin.SmallTypes.nextOf (.ref j)>>=_) _ _ _ from cN (Z2.item _ _ _ _ _ _ (Z2.itAt h2 fun o e=>s3.extBut _ _ D.bj.symm (s2.extBut _ _ D.ij.symm (s1.extBut _ _ D.jz e))) (Z2.sqAt hl2 fun o e=>s3.extBut _ _ D.mb (s2.extBut _ _ D.mi (s1.extBut _ _ D.mz e))) hy fun g4 j4 s4=>cS ?_)))))));have t4:IsPair g4 b x v:=s4.extBut _ _ D.bj t3;refine cN (fN t4 rfl (cN (wpAny_updateSeq_pair t4 fun g5 t5 s5=>?_)))
 replace t5:IsPair g5 b x y:=t5
 refine cN (wpAny_letGo (cS (cS (cN (fN t5 rfl (cN (wpAny_newTuple ?_)))))));have hsz:g5.objs.size=s.heap.objs.size:=by rw[s5.1,s4.1,s3.1,s2.1,s1.1]
 have z5:IsZip g5 z a b .ellipsis:=s5.extBut _ _ D.bz.symm (s4.extBut _ _ D.jz.symm (s3.extBut _ _ D.bz.symm (s2.extBut _ _ D.iz.symm hz1)));have k5:∀ c o,c≠z->c≠b->c≠i->c≠j->s.heap.get? c=some o->g5.get? c=some o:=fun c o c1 c2 c3 c4 e=>s5.extBut _ _ c2 (s4.extBut _ _ c4 (s3.extBut _ _ c2 (s2.extBut _ _ c3 (s1.extBut _ _ c1 e))));have i5:Z1.It (k1+1) g5:=Z1.itAt i2 fun o e=>s5.extBut _ _ D.bi.symm (s4.extBut _ _ D.ij (s3.extBut _ _ D.bi.symm e));have j5:Z2.It (k2+1) g5:=Z2.itAt j4 fun o e=>s5.extBut _ _ D.bj.symm e;have zl:z<g5.objs.size:=d7 z5;show wpAny _ _ (Builtin.SmallTypes.ownedTupleHandOut (.ref z) (.ref g5.objs.size)>>=_) _ _ _;refine cN ?_;unfold Builtin.SmallTypes.ownedTupleHandOut;have z6:IsZip (g5.push { cls:=.type "tuple",data:=.seq #[x,y] }) z a b .ellipsis:=cP _ z5;refine cN (fB z6 (by simp) fun g7 z7 s7=>?_)
 replace z7:IsZip g7 z a b (rawInt g5.objs.size):=z7
 refine fB z7 (by simp) fun g8 z8 s8=>?_
 replace z8:IsZip g8 z a b (rawInt g5.objs.size):=z8
 have up:∀ c o,c≠z->g5.get? c=some o->g8.get? c=some o:=fun c o c1 e=>s8.extBut _ _ c1 (s7.extBut _ _ c1 (cP _ e));have p8:IsPair g8 g5.objs.size x y:=s8.extBut _ _ (gB zl) (s7.extBut _ _ (gB zl) (d9 _ rfl));have n8:g8.objs.size=g5.objs.size+1:=by rw[s8.1,s7.1,eE]
 rw[hsz] at z8 p8 n8;refine cS ⟨_,rfl,?_⟩;show Q (.ref g5.objs.size) _;rw[hsz];exact hQ g8 z8 (up _ _ D.bz t5) (Z1.itAt i5 fun o e=>up _ o D.iz e) (Z2.itAt j5 fun o e=>up _ o D.jz e) p8 n8 fun c o c1 c2 c3 c4 e=>up c o c1 (k5 c o c1 c2 c3 c4 e)
theorem zOD(hh:A.handled=none)(D:Ap z a b i j l m)(hz:IsZip s.heap z a b .none)(hTI:IsPair s.heap a (.ref i) (.ref j))(hTO:IsPair s.heap b u v)
  (h1:Z1.It k1 s.heap) (h2:Z2.It k2 s.heap) (hl1:Z1.Sq s.heap) (hl2:Z2.Sq s.heap) (hend:xs[k1]?=none\/ys[k2]?=none)
  (hE:∀ h' e,(∀ c o,c≠z->c≠b->c≠i->c≠j->s.heap.get? c=some o->h'.get? c=some o)->(∃ o,h'.get? e=some o/\o.cls=.type "StopIteration")->E (.ref e) { s with heap:=h' }) :
  wpAny (model prog w) A (Builtin.«zip.__next__» ⟨[.ref z],[]⟩) Q E s:=by
 show wpAny _ _ (field (.ref z) 2>>=_) _ _ s;refine cN (gj hz rfl (x:=.bool false) rfl (show wpAny _ _ (field (.ref z) 3>>=_) _ _ s from cN (gj hz rfl (x:=.ref a) rfl (cN (fN hTI rfl ?_)))));show wpAny _ _ (Builtin.SmallTypes.ownedTupleIsFree (.ref z)>>=_) _ _ s;refine cN ?_;unfold Builtin.SmallTypes.ownedTupleIsFree;refine cN (gj hz rfl (x:=.none) rfl (cS ?_));simp only[if_true];refine cN (fY (cN (gj hz rfl (x:=.ref b) rfl (cN (fB hz (by simp) fun g1 hz1 s1=>?_)))))
 replace hz1:IsZip g1 z a b .ellipsis:=hz1
 refine cN ?_;simp only[List.zipIdx_cons,List.zipIdx_nil,List.forIn_cons,List.forIn_nil];refine cN (cN (wpAny_onRaise ?_));show wpAny _ _ (Builtin.SmallTypes.nextOf (.ref i)>>=_) _ _ _;have w1:Z1.It k1 g1:=Z1.itAt h1 fun o e=>s1.extBut _ _ D.iz e;have w2:Z1.Sq g1:=Z1.sqAt hl1 fun o e=>s1.extBut _ _ D.lz e;cases hx:xs[k1]? with
 | none =>
  refine cN (Z1.fin _ _ _ _ _ hh w1 w2 hx fun g2 e s2 he=>?_);obtain⟨oe,hoe,hce⟩:=he;have z2:IsZip g2 z a b .ellipsis:=s2 _ _ D.iz.symm hz1;have hez:e≠z:=fun q=>by subst q;rw[z2] at hoe;cases hoe;simp at hce
  refine fB z2 (by simp) fun g3 u0 s3=>hE g3 e (fun c o c1 u0 c3 u0 q=>s3.extBut _ _ c1 (s2 _ _ c3 (s1.extBut _ _ c1 q))) ⟨oe,s3.extBut _ _ hez hoe,hce⟩
 | some x =>
  have hy:ys[k2]?=none:=by rcases hend with h | h;rw[hx] at h;cases h;exact h
  refine cN (Z1.item _ _ _ _ _ _ w1 w2 hx fun g2 i2 s2=>cS ?_);have t2:IsPair g2 b u v:=s2.extBut _ _ D.bi (s1.extBut _ _ D.bz hTO);refine cN (fN t2 rfl (cN (wpAny_updateSeq_pair t2 fun g3 t3 s3=>cN (wpAny_letGo (cS (cN (cN (wpAny_onRaise ?_))))))));show wpAny _ _ (Builtin.SmallTypes.nextOf (.ref j)>>=_) _ _ _;refine cN (Z2.fin _ _ _ _ _ hh (Z2.itAt h2 fun o e=>s3.extBut _ _ D.bj.symm (s2.extBut _ _ D.ij.symm (s1.extBut _ _ D.jz e))) (Z2.sqAt hl2 fun o e=>s3.extBut _ _ D.mb (s2.extBut _ _ D.mi (s1.extBut _ _ D.mz e))) hy fun g4 e s4 he=>?_);obtain⟨oe,hoe,hce⟩:=he;have z4:IsZip g4 z a b .ellipsis:=s4 _ _ D.jz.symm (s3.extBut _ _ D.bz.symm (s2.extBut _ _ D.iz.symm hz1));have hez:e≠z:=fun q=>by subst q;rw[z4] at hoe;cases hoe;simp at hce
  refine fB z4 (by simp) fun g5 u0 s5=>hE g5 e (fun c o c1 c2 c3 c4 q=>s5.extBut _ _ c1 (s4 _ _ c4 (s3.extBut _ _ c2 (s2.extBut _ _ c3 (s1.extBut _ _ c1 q))))) ⟨oe,s5.extBut _ _ hez hoe,hce⟩
theorem zHZ(D:Ap z a b i j l m)(hz:IsZip s.heap z a b .none)(hTI:IsPair s.heap a (.ref i) (.ref j))(hTO:IsPair s.heap b u v)
  (h1:Z1.It k1 s.heap) (h2:Z2.It k2 s.heap) (hl1:Z1.Sq s.heap) (hl2:Z2.Sq s.heap) (hx:xs[k1]?=some x) (hy:ys[k2]?=some y)
  (hQ:∀ h',IsZip h' z a b (rawInt s.heap.objs.size)->IsPair h' b x y->Z1.It (k1+1) h'->Z2.It (k2+1) h'->IsPair h' s.heap.objs.size x y->h'.objs.size=s.heap.objs.size+1 ->
   (∀ c o,c≠z->c≠b->c≠i->c≠j->s.heap.get? c=some o->h'.get? c=some o)->Q (some (.ref s.heap.objs.size)) { s with heap:=h' }) :
  wpAny (model prog w) A (pyNext (.ref z)) Q E s:=by
 have hT:s.TypeIs (.ref z) "zip":=⟨_,hz,rfl⟩
 unfold pyNext;exact cN (gO (wpAny_callSpecial?_slot (name:=Str.ofString "__next__") hT F.slot_zip_next (dY F.slot_zip_next hT F.entry_zip_next (zMA Z1 Z2 D hz hTI hTO h1 h2 hl1 hl2 hx hy fun h' a1 a2 a3 a4 a5 a6 a7=>cS (hQ h' a1 a2 a3 a4 a5 a6 a7)) (F.args_zip_next_1 _))))
theorem zKF(hh:A.handled=none)(D:Ap z a b i j l m)(hz:IsZip s.heap z a b .none)(hTI:IsPair s.heap a (.ref i) (.ref j))(hTO:IsPair s.heap b u v)
  (h1:Z1.It k1 s.heap) (h2:Z2.It k2 s.heap) (hl1:Z1.Sq s.heap) (hl2:Z2.Sq s.heap) (hend:xs[k1]?=none\/ys[k2]?=none)
  (hQ:∀ h',(∀ c o,c≠z->c≠b->c≠i->c≠j->s.heap.get? c=some o->h'.get? c=some o)->Q none { s with heap:=h' }):wpAny (model prog w) A (pyNext (.ref z)) Q E s:=by
 have hT:s.TypeIs (.ref z) "zip":=⟨_,hz,rfl⟩
 unfold pyNext;refine cN (gO (wpAny_callSpecial?_slot (name:=Str.ofString "__next__") hT F.slot_zip_next (dY F.slot_zip_next hT F.entry_zip_next (zOD Z1 Z2 hh D hz hTI hTO h1 h2 hl1 hl2 hend fun h' e hk he=>?_) (F.args_zip_next_1 _))));obtain⟨o,ho,hc⟩:=he;exact cN (fV (T:="StopIteration") (b:=true) ⟨o,ho,hc⟩ isSubtype_stop (cS (hQ _ hk)))
end
theorem yc{a b:Nat}(h:a<b\/b<a):@Ne Addr a b:=fun z=>by
 have z':(a:Nat)=b:=z;omega
theorem zKG{n a b:Nat}(h1:a<n)(h2:b<n):Ap (n+4) (n+2) (n+3) n (n+1) a b :=
 ⟨yc (by omega),yc (by omega),yc (by omega),yc (by omega),yc (by omega),yc (by omega),yc (by omega),yc (by omega),yc (by omega),yc (by omega),yc (by omega),yc (by omega),yc (by omega),yc (by omega),yc (by omega),yc (by omega),yc (by omega),yc (by omega)⟩
noncomputable abbrev zt1(h:Heap)(p:Addr):Heap:=h.push { cls:=.type "tuple_iterator",data:=.fields #[.ref p,.int 0 0] }
noncomputable abbrev zt2(h:Heap)(p q:Addr):Heap:=(zt1 h p).push { cls:=.type "tuple_iterator",data:=.fields #[.ref q,.int 0 0] }
noncomputable abbrev zt3(h:Heap)(p q:Addr):Heap:=(zt2 h p q).push { cls:=.type "tuple",data:=.seq #[.ref h.objs.size,.ref (zt1 h p).objs.size] }
noncomputable abbrev zt4(h:Heap)(p q:Addr):Heap:=(zt3 h p q).push { cls:=.type "tuple",data:=.seq #[.none,.none] }
noncomputable abbrev zt5(h:Heap)(p q:Addr):Heap:=(zt4 h p q).push { cls:=.type "zip",data:=.fields #[.none,.bool false,.bool false,.ref (zt2 h p q).objs.size,.ref (zt3 h p q).objs.size] }
theorem zGu(p q:Addr)(xs ys:Array Value) :
  Meets (Builtin.«zip.__new__» ⟨[.type "zip",.ref p,.ref q],[]⟩) (fun u0 R s=>s.heap.IsTuple p xs/\s.heap.IsTuple q ys/\R (.ok (.ret (.ref (zt4 s.heap p q).objs.size))) { s with heap:=zt5 s.heap p q }) :=
 .of_wp fun prog w A R s h=>by
  obtain⟨hp,g,d,tk,os⟩:=s;obtain⟨hl1,hl2,h⟩:=h;have hsub:=sub_zip;have w1:Heap.IsTuple (Shared.heap ⟨hp,g,d,tk,os⟩) p xs:=hl1;have w2:Heap.IsTuple (Shared.heap ⟨hp.push { cls:=.type "tuple_iterator",data:=.fields #[.ref p,.int 0 0] },g,d,tk,os⟩) q ys:=Heap.IsTuple.push hl2 _
  wp_walk using wpAny_pyIter_tuple w1,wpAny_pyIter_tuple w2
  exact⟨_,rfl,h⟩
theorem zIb{prog:Program}{w:World}{A:Around}{E:Value->Shared->Prop}{s:Shared}{p q:Addr}{xs ys:Array Value}{Q:Value->Shared->Prop}(hl1:s.heap.IsTuple p xs)(hl2:s.heap.IsTuple q ys)
  (h:∀ h',IsZip h' (s.heap.objs.size+4) (s.heap.objs.size+2) (s.heap.objs.size+3) .none->IsPair h' (s.heap.objs.size+2) (.ref s.heap.objs.size) (.ref (s.heap.objs.size+1)) ->
   IsPair h' (s.heap.objs.size+3) .none .none->h'.IsTupleIter s.heap.objs.size p 0->h'.IsTupleIter (s.heap.objs.size+1) q 0->h'.objs.size=s.heap.objs.size+5 ->
   (∀ c o,s.heap.get? c=some o->h'.get? c=some o)->Q (.ref (s.heap.objs.size+4)) { s with heap:=h' }) :
  wpAny (model prog w) A (call (.type "zip") [.ref p,.ref q]) Q E s:=by
 refine callType_new F.called_zip (by decide) (F.typeCall_zip_2 _ _) (F.newCall_zip_2 _ _) (fun obj=>F.args_object_init_3 obj _ _) F.entry_zip_new (zGu p q xs ys) ⟨hl1,hl2,?_⟩;have z1:(zt1 s.heap p).objs.size=s.heap.objs.size+1:=eE ..;have z2:(zt2 s.heap p q).objs.size=s.heap.objs.size+2:=by rw[eE,z1]
 have z3:(zt3 s.heap p q).objs.size=s.heap.objs.size+3:=by rw[eE,z2]
 have z4:(zt4 s.heap p q).objs.size=s.heap.objs.size+4:=by rw[eE,z3]
 have z5:(zt5 s.heap p q).objs.size=s.heap.objs.size+5:=by rw[eE,z4]
 have g5:(zt5 s.heap p q).get? (zt4 s.heap p q).objs.size=some _:=d9 _ rfl;have g4:(zt5 s.heap p q).get? (zt3 s.heap p q).objs.size=some _:=cP _ (d9 _ rfl);have g3:(zt5 s.heap p q).get? (zt2 s.heap p q).objs.size=some _:=cP _ (cP _ (d9 _ rfl));have g2:(zt5 s.heap p q).get? (zt1 s.heap p).objs.size=some _:=cP _ (cP _ (cP _ (d9 _ rfl)));have g1:(zt5 s.heap p q).get? s.heap.objs.size=some _:=cP _ (cP _ (cP _ (cP _ (d9 _ rfl))));show _/\_;rw[z2,z3,z4] at g5;rw[z1,z2] at g3;rw[z3] at g4;rw[z1] at g2;rw[z4];exact⟨⟨_,g5,rfl⟩,h _ g5 g3 g4 ⟨_,g1,rfl,rfl⟩ ⟨_,g2,rfl,rfl⟩ z5 fun c o x=>cP _ (cP _ (cP _ (cP _ (cP _ x))))⟩
end HZ
namespace L2
open HZ
theorem zP.turnedL{X:Cx}{pins:List (Addr×Obj)}{σ:List (Option V)}{H:Hp}{s:Shared}{h':Heap}{t':Nat}{fp:List Addr}(I:zP X pins σ H s)(k:∀ b o,b∉fp->s.heap.get? b=some o->h'.get? b=some o)(hf:∀ b∈fp,zBf X pins H b):zP X pins σ H { s with heap:=h',toks:=t' }:=by
 have nit:∀ b u,H b=some u->b∉fp:=fun b u e z=>by rw[(hf b z).1] at e;cases e
 refine I.step (g':=s.gens) (d':=s.drawn) (ch:=fp) (fun b hb=>?_) (fun b o u0 u0 hc e u0=>k b o hc e) (fun b o u0 u0 hc e u0=>⟨o.slots,k b o hc e⟩) (fun u0 u0 u0 u0 n=>n)
  (fun b o hc e=>⟨o,k b o hc e⟩) (fun u0 u0 e=>e) (fun u0 u0 u0 e=>e) (fun u0 u0 e=>e) (fun m hm=>?_) (fun b u e=>?_) I.bare
 ·obtain⟨f0,f1,f2,f3,f4,f5⟩:=hf b hb
  exact⟨f3,f1,f4,f5⟩
 ·obtain⟨o,es,ep,ho,r⟩:=hm
  exact⟨o,es,ep,k _ o (fun z=>(hf _ z).2.1 rfl) ho,r⟩
 ·refine(I.hok b u e).stay (fun c v hc q=>k c v ?_ q) (fun u0 q=>q) (fun u0 u0 q=>q) fun u0 u0 u0 q=>q
  rcases hc with z | z
  ·rw[z];exact nit b u e
  ·exact nit c _ z
noncomputable def Itz(K:PySem.W.Frag)(a b:Addr):It :=
  ⟨fun i H=>∃ xs ys x y,SqT K H a xs/\SqT K H b ys/\xs[i]?=some x/\ys[i]?=some y,
   fun i H v H'=>∃ t,v=.ref t/\H t=none/\∃ x y,(∀ xs,SqT K H a xs->xs[i]?=some x)/\(∀ ys,SqT K H b ys->ys[i]?=some y)/\H'=yT H t (.tup [x,y]),
   fun i H=>∃ xs ys,SqT K H a xs/\SqT K H b ys/\(xs.length<=i\/ys.length<=i)⟩
theorem zIc{P:Program}{w:World}{K:PySem.W.Frag}{es:List Expr}{kk:Nat}{pt:Pos}{z a b i1 i2 l m:Addr}(D:Ap z a b i1 i2 l m) :
  Turn P w K (.Tuple es kk pt) (Itz K l m) [z,a,b,i1,i2] z (fun i h=>IsZip h z a b .none/\IsPair h a (.ref i1) (.ref i2)/\(∃ u v,IsPair h b u v)/\h.IsTupleIter i1 l i/\h.IsTupleIter i2 m i) where
 mem:=by simp
 obj:=fun i h st c hc=>by
  obtain⟨h1,h2,⟨u,v,h3⟩,h4,h5⟩:=st;simp only[dN,eO,or_false] at hc;rcases hc with rfl | rfl | rfl | rfl | rfl
  ·exact⟨_,h1,fun v q=>by cases q⟩
  ·exact⟨_,h2,fun v q=>by cases q⟩
  ·exact⟨_,h3,fun v q=>by cases q⟩
  ·obtain⟨o,e,c,d⟩:=h4;exact⟨o,e,fun v q=>by rw[d] at q;cases q⟩
  ·obtain⟨o,e,c,d⟩:=h5;exact⟨o,e,fun v q=>by rw[d] at q;cases q⟩
 keep:=fun i h h' st k=>by
  obtain⟨h1,h2,⟨u,v,h3⟩,h4,h5⟩:=st;exact⟨k z (by simp) _ h1,k a (by simp) _ h2,⟨u,v,k b (by simp) _ h3⟩,IsTupleIter.at' h4 fun o e=>k i1 (by simp) o e,IsTupleIter.at' h5 fun o e=>k i2 (by simp) o e⟩
 item:=by
  intro X hP hw hK hc i pins s σ H E I hf st hg;subst hP hw hK;obtain⟨xs,ys,x,y,q1,q2,hx,hy⟩:=hg;obtain⟨its1,rv1,p1,hz1⟩:=I.tuple q1;obtain⟨its2,rv2,p2,hz2⟩:=I.tuple q2;obtain⟨u1,hu1,ru1⟩:=rv1.get hx;obtain⟨u2,hu2,ru2⟩:=rv2.get hy;obtain⟨h1,h2,⟨u,v,h3⟩,h4,h5⟩:=st;have fl:∀ c∈[z,a,b,i1,i2],c<s.heap.objs.size:=fun c hc=>by
   simp only[dN,eO,or_false] at hc;rcases hc with rfl | rfl | rfl | rfl | rfl
   ·exact d7 h1
   ·exact d7 h2
   ·exact d7 h3
   ·obtain⟨o,e,u0⟩:=h4;exact d7 e
   ·obtain⟨o,e,u0⟩:=h5;exact d7 e
  have hfr:H s.heap.objs.size=none:=I.hok.fresh (da _);refine zHZ (zHX X.prog X.w i1 l its1.toArray) (zHX X.prog X.w i2 m its2.toArray) D h1 h2 h3 h4 h5 (show s.heap.IsTuple l its1.toArray from p1) (show s.heap.IsTuple m its2.toArray from p2) (x:=u1) (y:=u2) (by simpa using hu1) (by simpa using hu2) fun h' a1 a2 a3 a4 a5 a6 a7=>?_;refine⟨_,rfl,wpAny_letOwnedTupleGo_zip (s:={ s with heap:=h' }) a1 fun h'' z1 sb=>?_⟩;have nT:∀ c∈[z,a,b,i1,i2],c≠s.heap.objs.size:=fun c hc e=>absurd (fl c hc) (by rw[e];exact fb _);have I1:zP X pins σ (yT H s.heap.objs.size (.tup [x,y])) { s with heap:=s.heap.push { cls:=.type "tuple",data:=.seq #[u1,u2] },toks:=s.toks } :=
   I.laid (t':=s.toks) (fun b u e=>cP _ e) (da _) ⟨by show 2<=sizeLine;decide,[u1,u2],.cons ru1 (.cons ru2 .nil),zDI.new _ _⟩
  have hf':∀ c∈[z,a,b,i1,i2],zBf X pins (yT H s.heap.objs.size (.tup [x,y])) c:=fun c hc=>by
   obtain⟨f0,f1⟩:=hf c hc;exact⟨by rw[zc (nT c hc)];exact f0,f1⟩
  have I2:zP X pins σ (yT H s.heap.objs.size (.tup [x,y])) { s with heap:=h'' }:=by
   refine I1.turnedL (t':=s.toks) (h':=h'') (fun c o hc e=>?_) hf';have cz:c≠z:=fun q=>hc (by simp[q]);refine sb.extBut _ _ cz ?_;by_cases hT:c=s.heap.objs.size
   ·subst hT
    have e':(s.heap.push { cls:=.type "tuple",data:=.seq #[u1,u2] }).get? s.heap.objs.size=some o:=e;rw[d9 _ rfl] at e';cases e';exact a5
   ·have e':(s.heap.push { cls:=.type "tuple",data:=.seq #[u1,u2] }).get? c=some o:=e
    have:s.heap.get? c=some o:=by rw[Heap.get?_push_ne _ _ _ hT] at e';exact e'
    exact a7 c o cz (fun q=>hc (by simp[q])) (fun q=>hc (by simp[q])) (fun q=>hc (by simp[q])) this
  refine⟨.ref s.heap.objs.size,_,I2,rfl,⟨s.heap.objs.size,rfl,hfr,x,y,fun zs hzs=>by rw[I.tuple_inj hzs q1];exact hx,fun zs hzs=>by rw[I.tuple_inj hzs q2];exact hy,rfl⟩,?_,fun c hc=>(hf' c hc).1⟩;refine⟨z1,sb.extBut _ _ D.az (a7 _ _ D.az D.ab D.ai D.aj h2),⟨_,_,sb.extBut _ _ D.bz a2⟩,IsTupleIter.at' a3 fun o e=>sb.extBut _ _ D.iz e,IsTupleIter.at' a4 fun o e=>sb.extBut _ _ D.jz e⟩
 done:=by
  intro X hP hw hK hc i pins s σ H E I hf st hg;subst hP hw hK;obtain⟨xs,ys,q1,q2,hx⟩:=hg;obtain⟨its1,rv1,p1,hz1⟩:=I.tuple q1;obtain⟨its2,rv2,p2,hz2⟩:=I.tuple q2;obtain⟨h1,h2,⟨u,v,h3⟩,h4,h5⟩:=st;have l1:=rv1.length;have l2:=rv2.length;refine zKF (zHX X.prog X.w i1 l its1.toArray) (zHX X.prog X.w i2 m its2.toArray) (I.ok.hd hc) D h1 h2 h3 h4 h5 (show s.heap.IsTuple l its1.toArray from p1) (show s.heap.IsTuple m its2.toArray from p2) (by
   rcases hx with h | h
   ·left;simp;omega
   ·right;simp;omega) fun h' hk=>⟨rfl,I.turnedL (t':=s.toks) (fun c o hc e=>hk c o (fun q=>hc (by simp[q])) (fun q=>hc (by simp[q])) (fun q=>hc (by simp[q])) (fun q=>hc (by simp[q])) e) hf⟩
 self:=fun u0 u0 u0 u0 u0 st h=>wpAny_pyIter_zip st.1 h
end L2
namespace L3
open L2
theorem zKH{K:PySem.W.Frag}{H0:Hp}{a b:Addr}{xs ys:List V}{ds es:List D}(h:SqT K H0 a xs)(hd:Dens K H0 ds xs)(h':SqT K H0 b ys)(hd':Dens K H0 es ys) :
  Walk K H0 ((ds.zip es).map fun p=>D.tup [p.1,p.2]) (fun u0=>True) (Itz K a b) where
 go:=fun i G H u0 r g hi=>by
  have hl:i<xs.length/\i<ys.length:=by rw[db,ii] at hi;rw[<-hd.length,<-hd'.length];omega
  exact⟨xs,ys,xs[i]'hl.1,ys[i]'hl.2,g.sqT h,g.sqT h',by simp,by simp⟩
 stop:=fun G H u0 r g=>⟨xs,ys,g.sqT h,g.sqT h',by rw[<-hd.length,<-hd'.length,db,ii];omega⟩
 yld:=fun i G H x H' u0 r g hi y=>by
  obtain⟨t,rfl,hn,u,v,y1,y2,rfl⟩:=y;obtain⟨d1,e1,e2⟩:=(hd.grow g).got (y1 xs (g.sqT h));obtain⟨d2,e3,e4⟩:=(hd'.grow g).got (y2 ys (g.sqT h'));have gr:zd H (yT H t (.tup [u,v])):=.fresh hn;refine⟨gr,r.fresh hn,D.tup [d1,d2],by simp[gU,e1,e3],?_⟩;unfold zM;exact⟨t,[u,v],rfl,.inl (.of zb),.cons (e2.grow gr) (.cons (e4.grow gr) .nil)⟩
end L3
namespace HZ
section
variable {prog:Program} {w:World} {A:Around} {E:Value->Shared->Prop}
end
end HZ
namespace L2
open HZ
variable {X:Cx} {pos:Pos}
end L2
namespace L3
open L2
section
variable {X:Cx} {e:Expr} {te:zi} {pos p p2 p3 p4:Pos}
theorem zPK:Ps2 X body (fun u0 u0 u0=>False):=by
 rintro pins s σ H E I ⟨σ',G,D2,r,q,k⟩;exact q.elim
theorem zId:yt X (.builtin "isinstance") (fun xs H Q=>∃ x d p,xs=[x,.ref p]/\SqT X.K H p [.ty "tuple",.ty "list"]/\zM X.K H d x/\((∀ l,d≠.adr l)/\Q (.bl (zB9 d "tuple")) H\/∃ l ys,d=.adr l/\SqL X.K H l ys/\Q (.bl true) H)):=by
 intro pins s σ H xs us Q I r h;obtain⟨x,d,pp,rfl,hsp,hd,q⟩:=h;obtain⟨u,u',rfl,rx,ry⟩:=vals2 r;obtain rfl:u'=Value.ref pp:=ry;obtain⟨its,rv,⟨o,h1,h2,n,h3⟩,u0⟩:=I.tuple hsp;obtain⟨v1,v2,rfl,rv1,rv2⟩:=vals2 rv;obtain rfl:v1=Value.type "tuple":=rv1;obtain rfl:v2=Value.type "list":=rv2;obtain⟨oc,od,oda,osl⟩:=o;simp only at h2 h3;subst h2 h3;rcases q with ⟨hna,q⟩ | ⟨l,ys,rfl,hs,q⟩
 ·cases d with
  | tup _ =>
   unfold zM at hd;obtain⟨a,ys,rfl,hs,u0⟩:=hd;cases (show u=Value.ref a from rx);obtain⟨u0,u0,⟨o',h4,h5,u0⟩,u0⟩:=I.tuple hs;exact PySem.W.kia_tup PySem.W.kitx_tuple I.kIn ⟨o',h4,h5⟩ h1 (by rfl) (fun z=>nomatch z) fun tk=>⟨.bl _,H,I.tok _,rfl,q⟩
  | bl y =>
   unfold zM at hd;subst hd;cases (show u=Value.bool y from rx);exact PySem.W.kia_tup PySem.W.kitx_bool I.kIn True.intro h1 (by rfl) (fun z=>nomatch z) fun tk=>⟨.bl _,H,I.tok _,rfl,q⟩
  | int i =>
   unfold zM at hd;subst hd;obtain⟨t,e⟩:=(show ∃ t,u=Value.int i t from rx)
   cases e;exact PySem.W.kia_tup PySem.W.kitx_int I.kIn True.intro h1 (by rfl) (fun z=>nomatch z) fun tk=>⟨.bl _,H,I.tok _,rfl,q⟩
  | str y =>
   unfold zM at hd;subst hd;obtain⟨t,e⟩:=(show ∃ t,u=Value.str y t from rx)
   cases e;exact PySem.W.kia_tup PySem.W.kitx_str I.kIn True.intro h1 (by rfl) (fun z=>nomatch z) fun tk=>⟨.bl _,H,I.tok _,rfl,q⟩
  | non =>
   unfold zM at hd;subst hd;cases (show u=Value.none from rx);exact PySem.W.kia_tup PySem.W.kitx_none I.kIn True.intro h1 (by rfl) (fun z=>nomatch z) fun tk=>⟨.bl _,H,I.tok _,rfl,q⟩
  | dic a =>
   unfold zM at hd;obtain⟨rfl,o',y,hs,hc⟩:=hd;cases (show u=Value.ref a from rx);have h4:=(I.hok a _ hs).1;exact PySem.W.kia_tup PySem.W.kitx_dict I.kIn ⟨o',h4,hc⟩ h1 (by rfl) (fun z=>nomatch z) fun tk=>⟨.bl _,H,I.tok _,rfl,q⟩
  | adr l=>exact absurd rfl (hna l)
 ·unfold zM at hd
  subst hd;cases (show u=Value.ref l from rx);obtain⟨u0,u0,pl,u0⟩:=I.list hs;obtain⟨o',h4,h5,u0⟩:=pl.isList;exact PySem.W.kia_tup PySem.W.kitx_list I.kIn ⟨o',h4,h5⟩ h1 (by rfl) (fun z=>nomatch z) fun tk=>⟨.bl _,H,I.tok _,rfl,q⟩
noncomputable def zHa(te:zi):zi:=fun σ G R=>te σ G fun d G1=>match d with
 | .adr l=>(∃ ds,Ls G1 l ds)/\R (.bl true) G1
 | d=>R (.bl (zB9 d "tuple")) G1
theorem zOE(hg:Gl X "isinstance")(hm:X.mg "isinstance"=none)(hg2:Gl X "tuple")(hm2:X.mg "tuple"=none)(hg3:Gl X "list")(hm3:X.mg "list"=none)(ha:E2 X e te)
  (he:autoParam (starEach [e,.Tuple [.Name "tuple" p2,.Name "list" p3] kk p4] X.env=(false,eval e X.env)::starEach [.Tuple [.Name "tuple" p2,.Name "list" p3] kk p4] X.env) Zq4._auto_1) (he2:autoParam (starEach [.Tuple [.Name "tuple" p2,.Name "list" p3] kk p4] X.env=(false,eval (.Tuple [.Name "tuple" p2,.Name "list" p3] kk p4) X.env)::starEach [] X.env) Zq4._auto_1)
  (he3:autoParam (starEach [.Name "tuple" p2,.Name "list" p3] X.env=(false,eval (.Name "tuple" p2) X.env)::starEach [.Name "list" p3] X.env) Zq4._auto_1) (he4:autoParam (starEach [.Name "list" p3] X.env=(false,eval (.Name "list" p3) X.env)::starEach [] X.env) Zq4._auto_1)
  (hpl:autoParam ((backTo pos (starEach [.Tuple [.Name "tuple" p2,.Name "list" p3] kk p4] X.env)).any (·.1)=false) Zq4._auto_1) :
  E2 X (.Call (.Name "isinstance" p) [e,.Tuple [.Name "tuple" p2,.Name "list" p3] kk p4] [] pos) (zHa te):=by
 refine PE.mono (zAA zId hg hm (by decide +kernel) (yP ha (yP (zJa (yP (zC7 (v:=.ty "tuple") hg2 hm2 (by decide +kernel) rfl) (yP (zC7 (v:=.ty "list") hg3 hm3 (by decide +kernel) rfl) wz he4) he3)) wz he2) he) (by decide) (by decide) he hpl) ?_;rintro σ1 H Q ⟨σ,G,R,rl,q,k⟩;refine⟨σ,G,_,rl,q,fun d G1 q1 v H1 g1 r1 d1=>⟨by show 2<=sizeLine;decide,fun pp hp=>?_⟩⟩;have gr:zd H1 (yT H1 pp (.tup [.ty "tuple",.ty "list"])):=.fresh hp;refine⟨v,d,pp,rfl,.inl (.of zb),d1.grow gr,?_⟩;cases d with
 | adr l =>
  obtain⟨⟨ds,hl⟩,q1⟩:=q1;obtain⟨xs,hs,u0⟩:=(r1.fresh (o:=.tup [.ty "tuple",.ty "list"]) hp).sq hl;exact .inr ⟨l,xs,rfl,hs,k _ G1 q1 _ _ (g1.trans gr) (r1.fresh hp) (by unfold zM;rfl)⟩
 | _=>exact .inl ⟨fun l z=>(by cases z),k _ G1 q1 _ _ (g1.trans gr) (r1.fresh hp) (by unfold zM;rfl)⟩
end
end L3
namespace K
open L2 L3
noncomputable def zEc:Nat->D->Bool
 | 0,_=>false
 | n+1,.tup xs=>xs.all (zEc n)
 | _+1,.int _=>true
 | _+1,.bl _=>true
 | _+1,.non=>true
 | _+1,.str _=>false
 | _+1,.adr _=>false
 | _+1,.dic _=>false
theorem zHb(h:yC t σ G d)(hd:∀ l,d≠.adr l):yC (zHa t) σ G (.bl (zB9 d "tuple")):=fun G2 e R q=>h G2 e _ (by
 cases d with
 | adr l=>exact absurd rfl (hd l)
 | _=>exact q)
theorem zBY(h:yC t σ G d)(hd:∀ l,d≠.adr l):yC (zEB T t) σ G (.bl (zB9 d T)):=zN9 h hd rfl
theorem zDk(h:PuT tc σ G true)(h':t { E with nx:=v E } σ G):zU (xIf tc t u) v E σ G:=h G (.refl G) _ (by rw[if_pos rfl];exact h')
theorem zFm{α:Type}(l:List α):l.zip l=l.map fun x=>(x,x):=by
 induction l with
 | nil=>rfl
 | cons a r ih=>simp[ih]
end K
namespace HS
structure SB (a0:Array Keyed) (kd:SortKind) (z:SortSt):Prop where
 pm:(arrOf z).Perm a0
 kd:kindOf z=kd
 fl:failedOf z=none
 pe:pendingOf z=#[]
theorem SB.sz{a0:Array Keyed}{kd:SortKind}{z:SortSt}(b:SB a0 kd z):(arrOf z).size=a0.size:=b.pm.size_eq
section
variable {prog:Program} {w:World} {A:Around} {E:Value->Shared->Prop} {s:Shared} {a0:Array Keyed} {kd:SortKind} {κ:KeyKind}
noncomputable abbrev Ky(κ:KeyKind)(z:SortSt)(i:Nat):κ.α:=KK κ (arrOf z) i
variable (L:∀(z:SortSt) (i j:Nat) (Q:Option Bool->SortSt->Prop),SB a0 kd z->i<a0.size->j<a0.size->Q (some (κ.blt (Ky κ z i) (Ky κ z j))) z->wpS (model prog w) A E s (ltAt' i j) Q z)
include L
omit L in
end
end HS
namespace HM
open HS
noncomputable abbrev SM:=StateT SortSt Sem
noncomputable def zA0:Bool->Keyed->Array Keyed->Nat->Nat->Nat->SM (Option Nat):=sortPriv% PySem.Builtin.gallop
noncomputable def zFn:Array Keyed->Array Keyed->SM (Array Keyed):=sortPriv% PySem.Builtin.mergeLo
noncomputable def zFo:Array Keyed->Array Keyed->SM (Array Keyed):=sortPriv% PySem.Builtin.mergeHi
noncomputable def zFp:Nat->SM Unit:=sortPriv% PySem.Builtin.setMinGallop
noncomputable def ky(κ:KeyKind)(p:Keyed):κ.α:=(κ.keyOf p.1).getD κ.dflt
noncomputable def byd(left:Bool)(key:Keyed)(arr:Array Keyed)(base i:Nat):SM (Option Bool):=do
 let x <-elem' arr (base+i)
 if left=true then lt' x key
 else do
  let r <-lt' key x
  pure (r.map fun c=>!c)
section
variable {prog:Program} {w:World} {A:Around} {E:Value->Shared->Prop} {s:Shared} {kd:SortKind} {κ:KeyKind} {P:Keyed->Prop}
theorem zo(h:arr[i]?=some p)(q:Q p z):wpS (model prog w) A E s (elem' arr i) Q z:=by
 rw[elem'_eq,h];exact dI q
theorem zKI{c:Prop}[Decidable c]{γ β:Type}{Q:β->SortSt->Prop}{z:SortSt}{T:SM β}{F:γ->SM β}{x:γ}(R:γ->SortSt->Prop)(h0:¬c->R x z)(h1:c->(∀ x z',R x z'->wpS (model prog w) A E s (F x) Q z')->wpS (model prog w) A E s T Q z)(H:∀ x z',R x z'->wpS (model prog w) A E s (F x) Q z'):wpS (model prog w) A E s (if c then T else F x) Q z:=by
 by_cases h:c
 ·rw[if_pos h]
  exact h1 h H
 ·rw[if_neg h]
  exact H _ _ (h0 h)
structure Turn (B:Nat->Bool) (n r:Nat):Prop where
 le:r<=n
 yes:∀ i,i<r->B i=true
 no:∀ i,r<=i->i<n->B i=false
variable (L:∀(z:SortSt) (x y:Keyed) (Q:Option Bool->SortSt->Prop),kindOf z=kd->P x->P y->Q (some (κ.blt (ky κ x) (ky κ y))) z->wpS (model prog w) A E s (lt' x y) Q z)
include L
theorem zOF{left:Bool}{key:Keyed}{arr:Array Keyed}{base i:Nat}{z:SortSt}{Q:Option Bool->SortSt->Prop}(hz:kindOf z=kd)(hk:P key)(ha:∀ p∈arr,P p)(hi:base+i<arr.size)
  (h:Q (some (if left=true then κ.blt (ky κ arr[base+i]) (ky κ key) else !κ.blt (ky κ key) (ky κ arr[base+i]))) z):wpS (model prog w) A E s (byd left key arr base i) Q z:=by
 unfold byd;refine du (zo (getElem?_pos arr _ hi) ?_);cases left with
 | true =>
  simp only[if_true] at h ⊢;exact L _ _ _ _ hz (ha _ (eF hi)) hk h
 | false =>
  simp only[cQ,if_false] at h ⊢;exact du (L _ _ _ _ hz hk (ha _ (eF hi)) (dI h))
theorem wv(hz:kindOf z=kd)(hk:P key)(ha:∀ p∈arr,P p)(hb:base+n<=arr.size)(hh:hint<n)
  (hB:∀ i,(hi:base+i<arr.size)->i<n->(if left=true then κ.blt (ky κ arr[base+i]) (ky κ key) else !κ.blt (ky κ key) (ky κ arr[base+i]))=B i)
  (mo:∀ i j,i<=j->j<n->B j=true->B i=true) (h:∀ r,Turn B n r->Q (some r) z):wpS (model prog w) A E s (zA0 left key arr base n hint) Q z:=by
 have bd:∀ {i:Nat} {Q:Option Bool->SortSt->Prop},i<n->Q (some (B i)) z->wpS (model prog w) A E s (byd left key arr base i) Q z:=fun {i Q} hi q=>zOF L hz hk ha (by omega) (by rw[hB i (by omega) hi];exact q);refine du (m:=byd left key arr base hint) (bd hh ?_);dsimp only;generalize hf:(fun(x:Nat) (c:Option (Option Nat)×Nat×Nat)=>if c.2.1≥c.2.2 then (_:SM (ForInStep (Option (Option Nat)×Nat×Nat))) else _)=f3;revert f3;refine id ?_;intro f3 hf;have S3:∀ lo₀ hi₀:Nat,lo₀<=hi₀->hi₀<=n->(∀ i,i<lo₀->B i=true)->(∀ i,hi₀<=i->i<n->B i=false)->wpS (model prog w) A E s (forIn [:n] ((none,lo₀,hi₀):Option (Option Nat)×Nat×Nat) f3) (fun c z''=>z''=z/\c.1=none/\Turn B n c.2.2) z:=by
  intro lo₀ hi₀ l1 l2 y1 y2;refine eX (β:=Option (Option Nat)×Nat×Nat) (I:=fun x c z''=>z''=z/\c.1=none/\c.2.1<=c.2.2/\c.2.2<=n/\c.2.2-c.2.1<=n-x/\(∀ i,i<c.2.1->B i=true)/\∀ i,c.2.2<=i->i<n->B i=false) (fun x c z'' x1 x2 hh=>?_) (fun c z'' hh=>?_) ⟨rfl,rfl,l1,l2,by dsimp only;omega,y1,y2⟩
  ·clear y1 y2 l1 l2
   obtain⟨c0,lo,hi⟩:=c;obtain⟨e1,e2,q1,q2,q3,q4,q5⟩:=hh;subst e1;rw[<-hf];dsimp only at e2 q1 q2 q3 q4 q5 ⊢;by_cases g:lo≥hi
   ·rw[if_pos g]
    exact dI ⟨rfl,rfl,q2,fun i hi'=>q4 i (by dsimp only at hi';omega),q5⟩
   ·rw[if_neg g]
    refine du (m:=byd left key arr base (lo+(hi-lo) / 2)) (bd (by omega) ?_);dsimp only;cases e:B (lo+(hi-lo) / 2) with
    | true=>exact dI ⟨rfl,rfl,by dsimp only;omega,q2,by dsimp only;omega,fun i hi'=>mo i (lo+(hi-lo) / 2) (by dsimp only at hi';omega) (by omega) e,q5⟩
    | false =>
     refine dI ⟨rfl,rfl,by dsimp only;omega,by dsimp only;omega,by dsimp only;omega,q4,fun i i1 i2=>?_⟩;dsimp only at i1;cases e':B i with
     | false=>rfl
     | true=>rw[mo _ i i1 i2 e'] at e;cases e
  ·obtain⟨e1,e2,q1,q2,q3,q4,q5⟩:=hh
   exact⟨e1,e2,q2,fun i hi'=>q4 i (by omega),q5⟩
 clear hf;cases hr:B hint with
 | true =>
  rw[if_pos rfl];refine du (gp (eX (β:=Option (Option Nat)×Nat×Nat) (I:=fun x c z'=>z'=z/\c.1=none/\c.2.1<c.2.2/\x+1<=c.2.2/\hint+c.2.1<n/\B (hint+c.2.1)=true) (Q:=fun c z'=>z'=z/\c.1=none/\c.2.1<c.2.2/\hint+c.2.1<n/\B (hint+c.2.1)=true/\(c.2.2≥n-hint\/B (hint+c.2.2)=false)) (fun x c z' x1 x2 ⟨e1,e2,q1,q2,q3,q4⟩=>?stp) (fun c z' ⟨e1,e2,q1,q2,q3,q4⟩=>⟨e1,e2,q1,q3,q4,.inl (by omega)⟩) ⟨rfl,rfl,Nat.zero_lt_one,da _,hh,hr⟩) fun c z' ⟨e1,e2,q1,q3,q4,q5⟩=>?pst)
  case stp =>
   obtain⟨c0,la,of⟩:=c;subst e1;dsimp only at e2 q1 q2 q3 q4 ⊢;by_cases g:of≥n-hint
   ·rw[if_pos g]
    exact dI ⟨rfl,rfl,q1,q3,q4,.inl g⟩
   ·rw[if_neg g]
    refine du (m:=byd left key arr base (hint+of)) (bd (by omega) ?_);dsimp only;cases e:B (hint+of) with
    | true=>exact dI ⟨rfl,rfl,by dsimp only;omega,by dsimp only;omega,by dsimp only;omega,e⟩
    | false=>exact dI ⟨rfl,rfl,q1,q3,q4,.inr e⟩
  case pst =>
   obtain⟨c0,la,of⟩:=c;subst e1;dsimp only at e2 q1 q3 q4 q5 ⊢;rw[e2];dsimp only;have y1:∀ i,i<hint+la+1->B i=true:=fun i hi=>by
    exact mo i (hint+la) (by omega) q3 q4
   have y2:∀ i,hint+min of (n-hint)<=i->i<n->B i=false:=fun i i1 i2=>by
    rcases q5 with q5 | q5
    ·omega
    ·cases e':B i with
     | false=>rfl
     | true=>rw[mo _ i (by omega) i2 e'] at q5;cases q5
   have l1:hint+la+1<=hint+min of (n-hint):=by omega
   have l2:hint+min of (n-hint)<=n:=by omega
   refine du (gp (S3 _ _ l1 l2 y1 y2) fun c z'' hh=>?_);obtain⟨c0,lo,hi⟩:=c;obtain⟨e1,e2,e3⟩:=hh;dsimp only at e2 e3 ⊢;subst e1;rw[e2];exact dI (h _ e3)
 | false =>
  rw[if_neg (by simp)];refine du (gp (eX (β:=Option (Option Nat)×Nat×Nat) (I:=fun x c z'=>z'=z/\c.1=none/\c.2.1<c.2.2/\x+1<=c.2.2/\c.2.1<=hint/\B (hint-c.2.1)=false) (Q:=fun c z'=>z'=z/\c.1=none/\c.2.1<c.2.2/\c.2.1<=hint/\B (hint-c.2.1)=false/\(c.2.2≥hint+1\/(c.2.2<=hint/\B (hint-c.2.2)=true))) (fun x c z' x1 x2 ⟨e1,e2,q1,q2,q3,q4⟩=>?stp) (fun c z' ⟨e1,e2,q1,q2,q3,q4⟩=>⟨e1,e2,q1,q3,q4,.inl (by omega)⟩) ⟨rfl,rfl,Nat.zero_lt_one,da _,eY _,hr⟩) fun c z' ⟨e1,e2,q1,q3,q4,q5⟩=>?pst)
  case stp =>
   obtain⟨c0,la,of⟩:=c;subst e1;dsimp only at e2 q1 q2 q3 q4 ⊢;by_cases g:of≥hint+1
   ·rw[if_pos g]
    exact dI ⟨rfl,rfl,q1,q3,q4,.inl g⟩
   ·rw[if_neg g]
    refine du (m:=byd left key arr base (hint-of)) (bd (by omega) ?_);dsimp only;cases e:B (hint-of) with
    | true=>exact dI ⟨rfl,rfl,q1,q3,q4,.inr ⟨by dsimp only;omega,e⟩⟩
    | false=>exact dI ⟨rfl,rfl,by dsimp only;omega,by dsimp only;omega,by dsimp only;omega,e⟩
  case pst =>
   obtain⟨c0,la,of⟩:=c;subst e1;dsimp only at e2 q1 q3 q4 q5 ⊢;rw[e2];dsimp only;have y1:∀ i,i<hint+1-min of (hint+1)->B i=true:=fun i hi=>by
    rcases q5 with q5 | ⟨q5,q6⟩
    ·omega
    ·exact mo i (hint-of) (by omega) (by omega) q6
   have y2:∀ i,hint-la<=i->i<n->B i=false:=fun i i1 i2=>by
    cases e':B i with
    | false=>rfl
    | true=>rw[mo _ i i1 i2 e'] at q4;cases q4
   have l1:hint+1-min of (hint+1)<=hint-la:=by omega
   have l2:hint-la<=n:=by omega
   refine du (gp (S3 _ _ l1 l2 y1 y2) fun c z'' hh=>?_);obtain⟨c0,lo,hi⟩:=c;obtain⟨e1,e2,e3⟩:=hh;dsimp only at e2 e3 ⊢;subst e1;rw[e2];exact dI (h _ e3)
end
section
variable {κ:KeyKind}
theorem zh(h:i<xs.size):KK κ xs i=ky κ xs[i]:=by
 unfold KK ky;rw[getElem?_pos xs i h]
noncomputable def Srt(κ:KeyKind)(l:List Keyed):Prop:=l.Pairwise fun x y=>κ.kle (ky κ x) (ky κ y)
structure MO (κ:KeyKind) (a b r:Array Keyed):Prop where
 sr:Srt κ r.toList
 pm:r.toList.Perm (a.toList++b.toList)
structure MI (κ:KeyKind) (a b out:Array Keyed) (ia ib:Nat):Prop where
 sr:Srt κ out.toList
 pm:(out.toList++(a.toList.drop ia++b.toList.drop ib)).Perm (a.toList++b.toList)
 la:∀ x∈out.toList,∀ j,ia<=j->j<a.size->κ.kle (ky κ x) (KK κ a j)
 lb:∀ x∈out.toList,∀ j,ib<=j->j<b.size->κ.kle (ky κ x) (KK κ b j)
 sz:out.size=ia+ib
theorem zBL(h:SortedToK κ a a.size):Srt κ (a.toList.drop i):=by
 unfold Srt;rw[fi];intro j k hj hk jk;rw[gF,dg] at hj hk;have:=h (i+j) (i+k) (by omega) (by omega);rw[zh (by omega),zh (by omega)] at this;simpa using this
theorem wC(h:y∈a.toList.drop i):∃ j,i<=j/\j<a.size/\ky κ y=KK κ a j:=by
 obtain⟨j,hj,rfl⟩:=gq.mp h;rw[gF,dg] at hj;refine⟨i+j,by omega,by omega,?_⟩;rw[zh (by omega)];simp
theorem zBZ{a:Array Keyed}{i:Nat}:(a.extract i a.size).toList=a.toList.drop i:=by
 rw[fg,eI];rw[List.take_of_length_le (by simp)]
theorem wK(h1:Srt κ l)(h2:Srt κ m)(h:∀ x∈l,∀ y∈m,κ.kle (ky κ x) (ky κ y)):Srt κ (l++m):=List.pairwise_append.mpr ⟨h1,h2,h⟩
variable {a b out:Array Keyed} {ia ib:Nat}
theorem MI.doneA(m:MI κ a b out ia ib)(sa:SortedToK κ a a.size)(e:ib=b.size):MO κ a b (out++a.extract ia a.size++b.extract ib b.size):=by
 have e1:(out++a.extract ia a.size++b.extract ib b.size).toList=out.toList++(a.toList.drop ia++b.toList.drop ib):=by
  rw[el,el,zBZ,zBZ,eV]
 have e2:b.toList.drop ib=[]:=by rw[e,<-dg,List.drop_length]
 refine⟨?_,by rw[e1];exact m.pm⟩;rw[e1,e2,fU];refine wK m.sr (zBL sa) fun x hx y hy=>?_;obtain⟨j,j1,j2,j3⟩:=wC (κ:=κ) hy;rw[j3];exact m.la x hx j j1 j2
theorem MI.doneB(m:MI κ a b out ia ib)(sb:SortedToK κ b b.size)(e:ia=a.size):MO κ a b (out++a.extract ia a.size++b.extract ib b.size):=by
 have e1:(out++a.extract ia a.size++b.extract ib b.size).toList=out.toList++(a.toList.drop ia++b.toList.drop ib):=by
  rw[el,el,zBZ,zBZ,eV]
 have e2:a.toList.drop ia=[]:=by rw[e,<-dg,List.drop_length]
 refine⟨?_,by rw[e1];exact m.pm⟩;rw[e1,e2,cY];refine wK m.sr (zBL sb) fun x hx y hy=>?_;obtain⟨j,j1,j2,j3⟩:=wC (κ:=κ) hy;rw[j3];exact m.lb x hx j j1 j2
theorem MI.lastA(m:MI κ a b out ia ib)(sa:SortedToK κ a a.size)(sb:SortedToK κ b b.size)(la:∀ j,j<b.size->κ.kle (KK κ b j) (KK κ a (a.size-1)))(e:ia+1=a.size):MO κ a b (out++b.extract ib b.size++a.extract ia a.size):=by
 have e1:(out++b.extract ib b.size++a.extract ia a.size).toList=out.toList++(b.toList.drop ib++a.toList.drop ia):=by
  rw[el,el,zBZ,zBZ,eV]
 refine⟨?_,by rw[e1];exact(fW.append_left _ List.perm_append_comm).trans m.pm⟩;rw[e1];refine wK m.sr (wK (zBL sb) (zBL sa) fun x hx y hy=>?_) fun x hx y hy=>?_
 ·obtain⟨j,j1,j2,j3⟩:=wC (κ:=κ) hx
  obtain⟨k,k1,k2,k3⟩:=wC (κ:=κ) hy;rw[j3,k3,show k=a.size-1 by omega];exact la j j2
 ·rcases dQ.mp hy with hy | hy
  ·obtain⟨j,j1,j2,j3⟩:=wC (κ:=κ) hy
   rw[j3];exact m.lb x hx j j1 j2
  ·obtain⟨j,j1,j2,j3⟩:=wC (κ:=κ) hy
   rw[j3];exact m.la x hx j j1 j2
theorem zEd(h:i<a.size):a.toList.drop i=a[i]::a.toList.drop (i+1):=by
 rw[List.drop_eq_getElem_cons (by simpa using h)];simp
theorem MI.pushA(m:MI κ a b out ia ib)(sa:SortedToK κ a a.size)(h:ia<a.size)(hb:∀ j,ib<=j->j<b.size->κ.kle (KK κ a ia) (KK κ b j)):MI κ a b (out.push a[ia]) (ia+1) ib:=by
 refine⟨?_,?_,fun x hx j j1 j2=>?_,fun x hx j j1 j2=>?_,by rw[eQ,m.sz];omega⟩
 ·rw[dR]
  refine wK m.sr (i9 _ _) fun x hx y hy=>?_;rw[dt.mp hy,<-zh h];exact m.la x hx ia (da _) h
 ·rw[dR,eV]
  have:=m.pm;rw[zEd h] at this;exact this
 ·rw[dR] at hx
  rcases dQ.mp hx with hx | hx
  ·exact m.la x hx j (by omega) j2
  ·rw[dt.mp hx,<-zh h]
   exact sa ia j (by omega) j2
 ·rw[dR] at hx
  rcases dQ.mp hx with hx | hx
  ·exact m.lb x hx j j1 j2
  ·rw[dt.mp hx,<-zh h]
   exact hb j j1 j2
theorem MI.pushB(m:MI κ a b out ia ib)(sb:SortedToK κ b b.size)(h:ib<b.size)(ha:∀ j,ia<=j->j<a.size->κ.kle (KK κ b ib) (KK κ a j)):MI κ a b (out.push b[ib]) ia (ib+1):=by
 refine⟨?_,?_,fun x hx j j1 j2=>?_,fun x hx j j1 j2=>?_,by rw[eQ,m.sz];omega⟩
 ·rw[dR]
  refine wK m.sr (i9 _ _) fun x hx y hy=>?_;rw[dt.mp hy,<-zh h];exact m.lb x hx ib (da _) h
 ·rw[dR,eV]
  refine fW.trans ?_ m.pm;rw[zEd h];refine fW.append_left _ ?_;show(b[ib]::(List.drop ia a.toList++List.drop (ib+1) b.toList)).Perm _;exact List.perm_middle.symm
 ·rw[dR] at hx
  rcases dQ.mp hx with hx | hx
  ·exact m.la x hx j j1 j2
  ·rw[dt.mp hx,<-zh h]
   exact ha j j1 j2
 ·rw[dR] at hx
  rcases dQ.mp hx with hx | hx
  ·exact m.lb x hx j (by omega) j2
  ·rw[dt.mp hx,<-zh h]
   exact sb ib j (by omega) j2
theorem zDl(h:i+k<a.size):a.extract i (i+(k+1))=(a.extract i (i+k)).push a[i+k]:=by
 apply Array.ext';rw[dR,fg,fg,eI,eI,show i+(k+1)-i=k+1 by omega,show i+k-i=k by omega,List.take_add_one];congr 1;rw[List.getElem?_drop,fw (by simpa using h)];simp
theorem zCL:a.extract i (i+0)=#[]:=by
 apply Array.ext';rw[fg,eI];simp
theorem MI.manyA(sa:SortedToK κ a a.size)(m:MI κ a b out ia ib):∀ k,ia+k<=a.size->(∀ i,ia<=i->i<ia+k->∀ j,ib<=j->j<b.size->κ.kle (KK κ a i) (KK κ b j))->MI κ a b (out++a.extract ia (ia+k)) (ia+k) ib
 | 0,_,_=>by rw[zCL,Array.append_empty];exact m
 | k+1,hk,h=>by
  have:=(MI.manyA sa m k (by omega) fun i i1 i2=>h i i1 (by omega)).pushA sa (by omega) (h (ia+k) (by omega) (by omega));rw[zDl (by omega),Array.append_push];exact this
theorem MI.manyB(sb:SortedToK κ b b.size)(m:MI κ a b out ia ib):∀ k,ib+k<=b.size->(∀ i,ib<=i->i<ib+k->∀ j,ia<=j->j<a.size->κ.kle (KK κ b i) (KK κ a j))->MI κ a b (out++b.extract ib (ib+k)) ia (ib+k)
 | 0,_,_=>by rw[zCL,Array.append_empty];exact m
 | k+1,hk,h=>by
  have:=(MI.manyB sb m k (by omega) fun i i1 i2=>h i i1 (by omega)).pushB sb (by omega) (h (ib+k) (by omega) (by omega));rw[zDl (by omega),Array.append_push];exact this
end
structure Kp (z z':SortSt):Prop where
 kd:kindOf z'=kindOf z
 ar:arrOf z'=arrOf z
 pe:pendingOf z'=pendingOf z
 fl:failedOf z'=failedOf z
theorem Kp.refl(z:SortSt):Kp z z:=⟨rfl,rfl,rfl,rfl⟩
theorem Kp.trans(h:Kp z z')(h':Kp z' z''):Kp z z'':=⟨h'.kd.trans h.kd,h'.ar.trans h.ar,h'.pe.trans h.pe,h'.fl.trans h.fl⟩
section
variable {prog:Program} {w:World} {A:Around} {E:Value->Shared->Prop} {s:Shared} {kd:SortKind} {κ:KeyKind} {P:Keyed->Prop}
theorem zCM{g:Nat}{z:SortSt}{Q:Unit->SortSt->Prop}(h:∀ z',Kp z z'->Q () z'):wpS (model prog w) A E s (zFp g) Q z:=wpS_modify (h _ ⟨rfl,rfl,rfl,rfl⟩)
theorem zHc{c:Prop}[Decidable c]{γ β:Type}{Q:β->SortSt->Prop}{z:SortSt}{F:γ->SM β}(x y:γ)(h:∀ u,wpS (model prog w) A E s (F u) Q z):wpS (model prog w) A E s (if c then F x else F y) Q z:=by
 split
 ·exact h x
 ·exact h y
theorem zHd{c:Prop}[Decidable c]{γ δ β:Type}{Q:β->SortSt->Prop}{z:SortSt}{T:SM β}{F:γ->δ->SM β}{x:γ}{y:δ}(R:γ->δ->Prop)(h0:¬c->R x y)(h1:c->(∀ x y,R x y->wpS (model prog w) A E s (F x y) Q z)->wpS (model prog w) A E s T Q z)(H:∀ x y,R x y->wpS (model prog w) A E s (F x y) Q z):wpS (model prog w) A E s (if c then T else F x y) Q z:=by
 by_cases h:c
 ·rw[if_pos h]
  exact h1 h H
 ·rw[if_neg h]
  exact H _ _ (h0 h)
variable (L:∀(z:SortSt) (x y:Keyed) (Q:Option Bool->SortSt->Prop),kindOf z=kd->P x->P y->Q (some (κ.blt (ky κ x) (ky κ y))) z->wpS (model prog w) A E s (lt' x y) Q z)
include L
theorem zGv(hz:kindOf z=kd)(pa:∀ p∈a,P p)(pb:∀ p∈b,P p)(ha:1<=a.size)(hb:1<=b.size)(sa:SortedToK κ a a.size)(sb:SortedToK κ b b.size)
  (fst:∀ j,j<a.size->κ.kle (KK κ b 0) (KK κ a j)) (lst:∀ j,j<b.size->κ.kle (KK κ b j) (KK κ a (a.size-1))) (h:∀ r z',MO κ a b r->Kp z z'->Q r z'):wpS (model prog w) A E s (zFn a b) Q z:=by
 refine du (wpS_lift (fY ⟨rfl,?_⟩));dsimp only;generalize hf2:(fun(x:Nat) (c:Option (Array Keyed)×Array Keyed×Nat×Nat×Nat×Nat×Nat)=>(_:SM (ForInStep (Option (Array Keyed)×Array Keyed×Nat×Nat×Nat×Nat×Nat))))=f2;revert f2;refine id ?_;intro f2 hf2;generalize hf1:(fun(x:Nat) (c:Option (Array Keyed)×Array Keyed×Nat×Nat×Nat)=>(_:SM (ForInStep (Option (Array Keyed)×Array Keyed×Nat×Nat×Nat))))=f1;revert f1;refine id ?_;intro f1 hf1;have S2:∀(n0:Nat) (c:Option (Array Keyed)×Array Keyed×Nat×Nat×Nat×Nat×Nat) (z2:SortSt),Kp z z2/\c.1=none/\MI κ a b c.2.1 c.2.2.1 c.2.2.2.1/\c.2.2.1+1<a.size/\c.2.2.2.1<b.size/\n0+1<=c.2.1.size->wpS (model prog w) A E s (forIn [:a.size+b.size] c f2) (fun c z'=>Kp z z'/\((∃ r,c.1=some r/\MO κ a b r)\/(c.1=none/\MI κ a b c.2.1 c.2.2.1 c.2.2.2.1/\c.2.2.1+1<a.size/\c.2.2.2.1<b.size/\n0+1<=c.2.1.size))) z2:=by
  intro n0 c z2 hi;clear hf1 f1;refine eX (β:=Option (Array Keyed)×Array Keyed×Nat×Nat×Nat×Nat×Nat) (I:=fun y c z'=>Kp z z'/\c.1=none/\MI κ a b c.2.1 c.2.2.1 c.2.2.2.1/\c.2.2.1+1<a.size/\c.2.2.2.1<b.size/\n0+1<=c.2.1.size) (fun y c z3 y1 y2 hh=>?_) (fun c z3 hh=>⟨hh.1,.inr hh.2⟩) hi;clear hi y1 y2;obtain⟨c0'',out'',ia'',ib'',mg',ac',bc'⟩:=c;obtain⟨k3,e4,m3,r1,r2,r3⟩:=hh;rw[<-hf2];clear hf2;dsimp only at e4 m3 r1 r2 r3 ⊢;have s3:=m3.sz;generalize mg'-1=mg3;apply zHc (c:=mg'>1) (γ:=Nat) mg3 mg';intro mg2;refine du (m:=zFp _) (zCM fun z4 k4=>?_);have kz:=k3.trans k4;refine du (m:=elem' b ib'') (zo (getElem?_pos b ib'' r2) ?_);refine du (m:=zA0 false b[ib''] a ia'' (a.size-ia'') 0) (wv L (B:=fun t=>!κ.blt (KK κ b ib'') (KK κ a (ia''+t))) (kz.kd.trans hz) (pb _ (eF r2)) pa (by omega) (by omega) (fun t h1 h2=>by rw[if_neg (by simp),zh h1,zh r2]) (fun t u tu un q=>?_) fun k tk=>?_)
  ·simp only[fL] at q ⊢
   exact KeyOrd.kle_trans (sa _ _ (by omega) (by omega)) q
  dsimp only;have l4:=tk.le;have ya:∀ t,ia''<=t->t<ia''+k->∀ j,ib''<=j->j<b.size->κ.kle (KK κ a t) (KK κ b j):=fun t t1 t2 j j1 j2=>by
   have q:=tk.yes (t-ia'') (by omega);rw[show ia''+(t-ia'')=t by omega,fL] at q;exact KeyOrd.kle_trans q (sb _ _ j1 j2)
  have na:∀ t,ia''+k<=t->t<a.size->κ.kle (KK κ b ib'') (KK κ a t):=fun t t1 t2=>by
   have q:=tk.no (t-ia'') (by omega) (by omega);rw[show ia''+(t-ia'')=t by omega,Bool.not_eq_false'] at q;exact KeyOrd.kle_of_klt q
  apply @zHd prog w A E s (k>0) _ (Array Keyed) Nat _ _ _ _ _ out'' ia'' (fun o i=>MI κ a b o i ib''/\i+1<a.size/\n0+1<=o.size/\∀ t,i<=t->t<a.size->κ.kle (KK κ b ib'') (KK κ a t))
  ·exact fun hk=>⟨m3,r1,r3,fun t t1 t2=>na t (by omega) t2⟩
  ·intro hk H
   have m4:=MI.manyA sa m3 k (by omega) ya;have s4:=m4.sz;by_cases c3:ia''+k+1=a.size
   ·rw[if_pos (by simpa using c3)]
    exact dI ⟨kz,.inl ⟨_,rfl,m4.lastA sa sb lst c3⟩⟩
   rw[if_neg (by simpa using c3)];by_cases c4:ia''+k=a.size
   ·rw[if_pos (by simpa using c4)]
    exact dI ⟨kz,.inl ⟨_,rfl,m4.doneB sb c4⟩⟩
   rw[if_neg (by simpa using c4)];exact H _ _ ⟨m4,by omega,by omega,na⟩
  intro o4 i4 hh;clear ya na tk l4 s3 m3 r1 r3;obtain⟨m4,r4,u4,na⟩:=hh;have i5:i4<a.size:=by omega
  refine du (m:=elem' b ib'') (zo (getElem?_pos b ib'' r2) ?_);have m5:=MI.pushB m4 sb r2 na;have u5:n0+1<=(o4.push b[ib'']).size:=by rw[eQ];omega
  by_cases c5:ib''+1=b.size
  ·rw[if_pos (by simpa using c5)]
   exact dI ⟨kz,.inl ⟨_,rfl,m5.doneA sa c5⟩⟩
  rw[if_neg (by simpa using c5)];have r5:ib''+1<b.size:=by omega
  clear m4 u4 na c5;generalize o4.push b[ib'']=o5 at m5 u5 ⊢;generalize ib''+1=i6 at m5 r5 ⊢;refine du (m:=elem' a i4) (zo (getElem?_pos a i4 i5) ?_);refine du (m:=zA0 true a[i4] b i6 (b.size-i6) 0) (wv L (B:=fun t=>κ.blt (KK κ b (i6+t)) (KK κ a i4)) (kz.kd.trans hz) (pa _ (eF i5)) pb (by omega) (by omega) (fun t h1 h2=>by rw[if_pos rfl,zh h1,zh i5]) (fun t u tu un q=>KeyOrd.klt_of_kle_of_klt (sb _ _ (by omega) (by omega)) q) fun k' tk'=>?_);dsimp only;have l6:=tk'.le;have nm:∀ t,i6+k'<=t->t<b.size->κ.kle (KK κ a i4) (KK κ b t):=fun t t1 t2=>by
   have q:=tk'.no (t-i6) (by omega) (by omega);rw[show i6+(t-i6)=t by omega] at q;exact q
  apply @zHd prog w A E s (k'>0) _ (Array Keyed) Nat _ _ _ _ _ o5 i6 (fun o i=>MI κ a b o i4 i/\i<b.size/\n0+1<=o.size/\∀ t,i<=t->t<b.size->κ.kle (KK κ a i4) (KK κ b t))
  ·exact fun hk'=>⟨m5,r5,u5,fun t t1 t2=>nm t (by omega) t2⟩
  ·intro hk' H
   have s5:=m5.sz;have m6:=MI.manyB sb m5 k' (by omega) fun t t1 t2 j j1 j2=>by
    have q:=tk'.yes (t-i6) (by omega);rw[show i6+(t-i6)=t by omega] at q;exact KeyOrd.kle_trans (KeyOrd.kle_of_klt q) (sa _ _ j1 j2)
   have s6:=m6.sz;by_cases c6:i6+k'=b.size
   ·rw[if_pos (by simpa using c6)]
    exact dI ⟨kz,.inl ⟨_,rfl,m6.doneA sa c6⟩⟩
   rw[if_neg (by simpa using c6)];exact H _ _ ⟨m6,by omega,by omega,nm⟩
  intro o6 i7 hh;clear nm tk' l6 m5 r5 u5;obtain⟨m6,r6,u6,nm⟩:=hh;refine du (m:=elem' a i4) (zo (getElem?_pos a i4 i5) ?_);have m7:=MI.pushA m6 sa i5 nm;have s6:=m6.sz;have s7:=m7.sz;by_cases c7:i4+1+1=a.size
  ·rw[if_pos (by simpa using c7)]
   exact dI ⟨kz,.inl ⟨_,rfl,m7.lastA sa sb lst c7⟩⟩
  rw[if_neg (by simpa using c7)];split
  ·exact dI ⟨kz,.inr ⟨rfl,m7,by dsimp only;omega,r6,by dsimp only;omega⟩⟩
  ·exact dI ⟨kz,rfl,m7,by dsimp only;omega,r6,by dsimp only;omega⟩
 clear hf2;have S1:∀(c:Option (Array Keyed)×Array Keyed×Nat×Nat×Nat) (z1:SortSt),Kp z z1/\c.1=none/\MI κ a b c.2.1 c.2.2.1 c.2.2.2.1/\c.2.2.1+1<a.size/\c.2.2.2.1<b.size->wpS (model prog w) A E s (forIn [:a.size+b.size] c f1) (fun c z'=>Kp z z'/\∃ r,c.1=some r/\MO κ a b r) z1:=by
  intro c z1 hi;refine eX (β:=Option (Array Keyed)×Array Keyed×Nat×Nat×Nat) (I:=fun x c z'=>Kp z z'/\c.1=none/\MI κ a b c.2.1 c.2.2.1 c.2.2.2.1/\c.2.2.1+1<a.size/\c.2.2.2.1<b.size/\x<=c.2.1.size) (fun x c z1 x1 x2 hh=>?_) (fun c z1 hh=>?_) ⟨hi.1,hi.2.1,hi.2.2.1,hi.2.2.2.1,hi.2.2.2.2,eY _⟩
  ·clear hi
   obtain⟨c0,out,ia,ib,mg⟩:=c;obtain⟨k1,e2,m1,q1,q2,q3⟩:=hh;rw[<-hf1];clear hf1;dsimp only at e2 m1 q1 q2 q3 ⊢;generalize hf0:(fun(x:Nat) (c:Option (Array Keyed)×Array Keyed×Nat×Nat×Nat×Nat)=>(_:SM (ForInStep (Option (Array Keyed)×Array Keyed×Nat×Nat×Nat×Nat))))=f0;revert f0;refine id ?_;intro f0 hf0;refine du (gp (eX (β:=Option (Array Keyed)×Array Keyed×Nat×Nat×Nat×Nat) (I:=fun y c z'=>Kp z z'/\c.1=none/\MI κ a b c.2.1 c.2.2.1 c.2.2.2.1/\c.2.2.1+1<a.size/\c.2.2.2.1<b.size/\out.size+y<=c.2.1.size) (Q:=fun c z'=>Kp z z'/\((∃ r,c.1=some r/\MO κ a b r)\/(c.1=none/\MI κ a b c.2.1 c.2.2.1 c.2.2.2.1/\c.2.2.1+1<a.size/\c.2.2.2.1<b.size/\out.size+1<=c.2.1.size))) (fun y c z2 y1 y2 hh=>?stp1) (fun c z2 hh=>?fin1) ⟨k1,rfl,m1,q1,q2,by dsimp only;omega⟩) fun c z2 hh=>?pst1)
   case fin1 =>
    obtain⟨k2,e3,m2,p1,p2,p3⟩:=hh;exact⟨k2,.inr ⟨e3,m2,p1,p2,by omega⟩⟩
   case stp1 =>
    obtain⟨c0',out',ia',ib',ac,bc⟩:=c;obtain⟨k2,e3,m2,p1,p2,p3⟩:=hh;rw[<-hf0];clear hf0 S2;dsimp only at e3 m2 p1 p2 p3 ⊢;refine du (m:=elem' b ib') (zo (getElem?_pos b ib' p2) ?_);refine du (m:=elem' a ia') (zo (getElem?_pos a ia' (by omega)) ?_);refine du (m:=lt' b[ib'] a[ia']) (L _ _ _ _ (k2.kd.trans hz) (pb _ (eF p2)) (pa _ (eF _)) ?_);dsimp only;cases e:κ.blt (ky κ b[ib']) (ky κ a[ia']) with
    | true =>
     rw[if_pos rfl];refine du (m:=elem' b ib') (zo (getElem?_pos b ib' p2) ?_);have m3:=m2.pushB sb p2 fun j j1 j2=>KeyOrd.kle_trans (KeyOrd.kle_of_klt (by rw[zh p2,zh (by omega)];exact e)) (sa ia' j j1 j2);by_cases c3:ib'+1=b.size
     ·rw[if_pos (by simpa using c3)]
      exact dI ⟨k2,.inl ⟨_,rfl,m3.doneA sa c3⟩⟩
     rw[if_neg (by simpa using c3)];split
     ·exact dI ⟨k2,.inr ⟨rfl,m3,p1,by dsimp only;omega,by dsimp only;rw[eQ];omega⟩⟩
     ·exact dI ⟨k2,rfl,m3,p1,by dsimp only;omega,by dsimp only;rw[eQ];omega⟩
    | false =>
     rw[if_neg (by simp)];refine du (m:=elem' a ia') (zo (getElem?_pos a ia' (by omega)) ?_);have m3:=m2.pushA sa (by omega) fun j j1 j2=>KeyOrd.kle_trans (show κ.kle (KK κ a ia') (KK κ b ib') by rw[zh p2,zh (by omega)];exact e) (sb ib' j j1 j2);by_cases c3:ia'+1+1=a.size
     ·rw[if_pos (by simpa using c3)]
      exact dI ⟨k2,.inl ⟨_,rfl,m3.lastA sa sb lst c3⟩⟩
     rw[if_neg (by simpa using c3)];split
     ·exact dI ⟨k2,.inr ⟨rfl,m3,by dsimp only;omega,p2,by dsimp only;rw[eQ];omega⟩⟩
     ·exact dI ⟨k2,rfl,m3,by dsimp only;omega,p2,by dsimp only;rw[eQ];omega⟩
   case pst1 =>
    clear hf0;obtain⟨c0',out',ia',ib',ac,bc⟩:=c;obtain⟨k2,o⟩:=hh;dsimp only at o ⊢;rcases o with ⟨r,e3,mo⟩ | ⟨e3,m2,p1,p2,p3⟩
    ·rw[e3]
     exact dI ⟨k2,r,rfl,mo⟩
    rw[e3];dsimp only;refine du (wpS_lift (fY ⟨rfl,?_⟩));refine du (gp (S2 out.size (none,out',ia',ib',mg+1,ac,bc) z2 ⟨k2,rfl,m2,p1,p2,p3⟩) fun c z3 hh=>?_);clear m2 p1 p2 p3 m1 q1 q2 e3 e2 k1 k2;obtain⟨c0'',out'',ia'',ib'',mg',ac',bc'⟩:=c;obtain⟨k3,o⟩:=hh;dsimp only at o ⊢;rcases o with ⟨r,e4,mo⟩ | ⟨e4,m3,r1,r2,r3⟩
    ·rw[e4]
     exact dI ⟨k3,r,rfl,mo⟩
    rw[e4];dsimp only;refine du (m:=zFp (mg'+1)) (zCM fun z4 k4=>?_);exact dI ⟨k3.trans k4,rfl,m3,r1,r2,by dsimp only;omega⟩
  ·obtain⟨k1,e2,m1,q1,q2,q3⟩:=hh
   have:=m1.sz;omega
 clear hf1 S2;refine du (m:=elem' b 0) (zo (getElem?_pos b 0 (by omega)) ?_);have m0:MI κ a b #[b[0]] 0 1:=by
  have:MI κ a b #[] 0 0:=⟨fX.nil,by simp,fun x hx=>by simp at hx,fun x hx=>by simp at hx,rfl⟩
  exact this.pushB sb (by omega) fun j u0 j2=>fst j j2
 by_cases c1:1=b.size
 ·rw[if_pos (by simpa using c1)]
  exact dI (h _ _ (m0.doneA sa c1) (.refl z))
 rw[if_neg (by simpa using c1)];by_cases c2:0+1=a.size
 ·rw[if_pos (by simpa using c2)]
  exact dI (h _ _ (m0.lastA sa sb lst c2) (.refl z))
 rw[if_neg (by simpa using c2)];refine du (wpS_get ?_);refine du (gp (S1 _ z ⟨.refl z,rfl,m0,by dsimp only;omega,by dsimp only;omega⟩) fun c z1 hh=>?_);obtain⟨k1,r,e2,mo⟩:=hh;rw[e2];exact dI (h _ _ mo k1)
end
section
variable {κ:KeyKind}
structure MJ (κ:KeyKind) (a b:Array Keyed) (na nb:Nat) (out:Array Keyed):Prop where
 sr:Srt κ out.toList.reverse
 pm:(a.toList.take na++b.toList.take nb++out.toList.reverse).Perm (a.toList++b.toList)
 la:∀ x∈out.toList,∀ j,j<na->κ.kle (KK κ a j) (ky κ x)
 lb:∀ x∈out.toList,∀ j,j<nb->κ.kle (KK κ b j) (ky κ x)
 sz:out.size+(na+nb)=a.size+b.size
 ha:na<=a.size
 hb:nb<=b.size
theorem zCN(h:SortedToK κ a a.size):Srt κ (a.toList.take i):=(zBL (i:=0) h).sublist (List.take_sublist _ _)
theorem wD(h:y∈a.toList.take i):∃ j,j<i/\j<a.size/\ky κ y=KK κ a j:=by
 obtain⟨j,hj,rfl⟩:=gq.mp h;rw[eK,dg] at hj;refine⟨j,by omega,by omega,?_⟩;rw[zh (by omega)];simp
theorem zDD{a:Array Keyed}{i:Nat}:(a.extract 0 i).toList=a.toList.take i:=by
 rw[fg,eI];simp
variable {a b out:Array Keyed} {na nb:Nat}
theorem MJ.fin(m:MJ κ a b na nb out)(s:Srt κ (a.toList.take na++b.toList.take nb)):MO κ a b (a.extract 0 na++b.extract 0 nb++out.reverse):=by
 have e1:(a.extract 0 na++b.extract 0 nb++out.reverse).toList=a.toList.take na++b.toList.take nb++out.toList.reverse:=by
  rw[el,el,zDD,zDD,Array.toList_reverse]
 refine⟨?_,by rw[e1];exact m.pm⟩;rw[e1];refine wK s m.sr fun x hx y hy=>?_;rw[List.mem_reverse] at hy;rcases dQ.mp hx with hx | hx
 ·obtain⟨j,j1,j2,j3⟩:=wD (κ:=κ) hx
  rw[j3];exact m.la y hy j j1
 ·obtain⟨j,j1,j2,j3⟩:=wD (κ:=κ) hx
  rw[j3];exact m.lb y hy j j1
theorem MJ.doneA(m:MJ κ a b na nb out)(sb:SortedToK κ b b.size)(e:na=0):MO κ a b (a.extract 0 na++b.extract 0 nb++out.reverse):=m.fin (by subst e;simpa using zCN sb)
theorem MJ.doneB(m:MJ κ a b na nb out)(sa:SortedToK κ a a.size)(e:nb=0):MO κ a b (a.extract 0 na++b.extract 0 nb++out.reverse):=m.fin (by subst e;simpa using zCN sa)
theorem MJ.fstB(m:MJ κ a b na nb out)(sa:SortedToK κ a a.size)(sb:SortedToK κ b b.size)(f:∀ j,j<a.size->κ.kle (KK κ b 0) (KK κ a j))(e:nb=1):MO κ a b (b.extract 0 nb++a.extract 0 na++out.reverse):=by
 have e1:(b.extract 0 nb++a.extract 0 na++out.reverse).toList=b.toList.take nb++a.toList.take na++out.toList.reverse:=by
  rw[el,el,zDD,zDD,Array.toList_reverse]
 refine⟨?_,by rw[e1];exact(fW.append_right _ List.perm_append_comm).trans m.pm⟩;rw[e1];refine wK (wK (zCN sb) (zCN sa) fun x hx y hy=>?_) m.sr fun x hx y hy=>?_
 ·obtain⟨j,j1,j2,j3⟩:=wD (κ:=κ) hx
  obtain⟨k,k1,k2,k3⟩:=wD (κ:=κ) hy;rw[j3,k3,show j=0 by omega];exact f k k2
 ·rw[List.mem_reverse] at hy
  rcases dQ.mp hx with hx | hx
  ·obtain⟨j,j1,j2,j3⟩:=wD (κ:=κ) hx
   rw[j3];exact m.lb y hy j j1
  ·obtain⟨j,j1,j2,j3⟩:=wD (κ:=κ) hx
   rw[j3];exact m.la y hy j j1
theorem take_snoc(h:i<a.size):a.toList.take (i+1)=a.toList.take i++[a[i]]:=by
 rw[List.take_add_one,fw (by simpa using h)];simp
theorem MJ.pushA(m:MJ κ a b (na+1) nb out)(sa:SortedToK κ a a.size)(h:na<a.size)(hb:∀ j,j<nb->κ.kle (KK κ b j) (KK κ a na)):MJ κ a b na nb (out.push a[na]):=by
 refine⟨?_,?_,fun x hx j j1=>?_,fun x hx j j1=>?_,by have:=m.sz;rw[eQ];omega,by omega,m.hb⟩
 ·rw[dR,gY]
  refine wK (i9 _ _) m.sr fun x hx y hy=>?_;rw[List.mem_reverse] at hy;rw[gG] at hx;rw[dt.mp hx,<-zh h];exact m.la y hy na (by omega)
 ·rw[dR,gY]
  refine fW.trans ?_ m.pm;rw[take_snoc h];simp only[gG,eV];refine fW.append_left _ ?_;show(b.toList.take nb++(a[na]::out.toList.reverse)).Perm (a[na]::(b.toList.take nb++out.toList.reverse));exact List.perm_middle
 ·rw[dR] at hx
  rcases dQ.mp hx with hx | hx
  ·exact m.la x hx j (by omega)
  ·rw[dt.mp hx,<-zh h]
   exact sa j na (by omega) h
 ·rw[dR] at hx
  rcases dQ.mp hx with hx | hx
  ·exact m.lb x hx j j1
  ·rw[dt.mp hx,<-zh h]
   exact hb j j1
theorem MJ.pushB(m:MJ κ a b na (nb+1) out)(sb:SortedToK κ b b.size)(h:nb<b.size)(ha:∀ j,j<na->κ.kle (KK κ a j) (KK κ b nb)):MJ κ a b na nb (out.push b[nb]):=by
 refine⟨?_,?_,fun x hx j j1=>?_,fun x hx j j1=>?_,by have:=m.sz;rw[eQ];omega,m.ha,by omega⟩
 ·rw[dR,gY]
  refine wK (i9 _ _) m.sr fun x hx y hy=>?_;rw[List.mem_reverse] at hy;rw[gG] at hx;rw[dt.mp hx,<-zh h];exact m.lb y hy nb (by omega)
 ·rw[dR,gY]
  have:=m.pm;rw[take_snoc h] at this;simp only[gG,eV] at this ⊢;exact this
 ·rw[dR] at hx
  rcases dQ.mp hx with hx | hx
  ·exact m.la x hx j j1
  ·rw[dt.mp hx,<-zh h]
   exact ha j j1
 ·rw[dR] at hx
  rcases dQ.mp hx with hx | hx
  ·exact m.lb x hx j (by omega)
  ·rw[dt.mp hx,<-zh h]
   exact sb j nb (by omega) h
theorem zHe(h:i+k<a.size):out++(a.extract i (i+(k+1))).reverse=out.push a[i+k]++(a.extract i (i+k)).reverse:=by
 apply Array.ext';rw[zDl h,el,el,Array.toList_reverse,Array.toList_reverse,dR,dR,gY,gG,eV]
theorem MJ.manyA(sa:SortedToK κ a a.size):∀ k na out,MJ κ a b (na+k) nb out->(∀ i,na<=i->i<na+k->∀ j,j<nb->κ.kle (KK κ b j) (KK κ a i))->MJ κ a b na nb (out++(a.extract na (na+k)).reverse)
 | 0,na,out,m,_=>by rw[zCL];simpa using m
 | k+1,na,out,m,h=>by
  have hk:na+k<a.size:=by have:=m.ha;omega
  rw[zHe hk];exact MJ.manyA sa k na _ (MJ.pushA m sa hk (h (na+k) (by omega) (by omega))) fun i i1 i2=>h i i1 (by omega)
theorem MJ.manyB(sb:SortedToK κ b b.size):∀ k nb out,MJ κ a b na (nb+k) out->(∀ i,nb<=i->i<nb+k->∀ j,j<na->κ.kle (KK κ a j) (KK κ b i))->MJ κ a b na nb (out++(b.extract nb (nb+k)).reverse)
 | 0,nb,out,m,_=>by rw[zCL];simpa using m
 | k+1,nb,out,m,h=>by
  have hk:nb+k<b.size:=by have:=m.hb;omega
  rw[zHe hk];exact MJ.manyB sb k nb _ (MJ.pushB m sb hk (h (nb+k) (by omega) (by omega))) fun i i1 i2=>h i i1 (by omega)
theorem MJ.pushA'(m:MJ κ a b na nb out)(sa:SortedToK κ a a.size)(h1:1<=na)(h:na-1<a.size)(hb:∀ j,j<nb->κ.kle (KK κ b j) (KK κ a (na-1))):MJ κ a b (na-1) nb (out.push a[na-1]):=MJ.pushA (by rwa [Nat.sub_add_cancel h1]) sa h hb
theorem MJ.pushB'(m:MJ κ a b na nb out)(sb:SortedToK κ b b.size)(h1:1<=nb)(h:nb-1<b.size)(ha:∀ j,j<na->κ.kle (KK κ a j) (KK κ b (nb-1))):MJ κ a b na (nb-1) (out.push b[nb-1]):=MJ.pushB (by rwa [Nat.sub_add_cancel h1]) sb h ha
theorem MJ.manyA'(m:MJ κ a b na nb out)(sa:SortedToK κ a a.size)(h:at'<=na)(hb:∀ i,at'<=i->i<na->∀ j,j<nb->κ.kle (KK κ b j) (KK κ a i)):MJ κ a b at' nb (out++(a.extract at' na).reverse):=by
 have e:na=at'+(na-at'):=by omega
 have:=MJ.manyA sa (na-at') at' out (by rw[<-e];exact m) fun i i1 i2=>hb i i1 (by omega);rwa [<-e] at this
theorem MJ.manyB'(m:MJ κ a b na nb out)(sb:SortedToK κ b b.size)(h:at'<=nb)(ha:∀ i,at'<=i->i<nb->∀ j,j<na->κ.kle (KK κ a j) (KK κ b i)):MJ κ a b na at' (out++(b.extract at' nb).reverse):=by
 have e:nb=at'+(nb-at'):=by omega
 have:=MJ.manyB sb (nb-at') at' out (by rw[<-e];exact m) fun i i1 i2=>ha i i1 (by omega);rwa [<-e] at this
end
section
variable {prog:Program} {w:World} {A:Around} {E:Value->Shared->Prop} {s:Shared} {kd:SortKind} {κ:KeyKind} {P:Keyed->Prop}
variable (L:∀(z:SortSt) (x y:Keyed) (Q:Option Bool->SortSt->Prop),kindOf z=kd->P x->P y->Q (some (κ.blt (ky κ x) (ky κ y))) z->wpS (model prog w) A E s (lt' x y) Q z)
include L
theorem zGw(hz:kindOf z=kd)(pa:∀ p∈a,P p)(pb:∀ p∈b,P p)(ha:1<=a.size)(hb:1<=b.size)(sa:SortedToK κ a a.size)(sb:SortedToK κ b b.size)
  (fst:∀ j,j<a.size->κ.kle (KK κ b 0) (KK κ a j)) (lst:∀ j,j<b.size->κ.kle (KK κ b j) (KK κ a (a.size-1))) (h:∀ r z',MO κ a b r->Kp z z'->Q r z'):wpS (model prog w) A E s (zFo a b) Q z:=by
 refine du (wpS_lift (fY ⟨rfl,?_⟩));dsimp only;generalize hf2:(fun(x:Nat) (c:Option (Array Keyed)×Nat×Nat×Array Keyed×Nat×Nat×Nat)=>(_:SM (ForInStep (Option (Array Keyed)×Nat×Nat×Array Keyed×Nat×Nat×Nat))))=f2;revert f2;refine id ?_;intro f2 hf2;generalize hf1:(fun(x:Nat) (c:Option (Array Keyed)×Nat×Nat×Array Keyed×Nat)=>(_:SM (ForInStep (Option (Array Keyed)×Nat×Nat×Array Keyed×Nat))))=f1;revert f1;refine id ?_;intro f1 hf1;have S2:∀(n0:Nat) (c:Option (Array Keyed)×Nat×Nat×Array Keyed×Nat×Nat×Nat) (z2:SortSt),Kp z z2/\c.1=none/\MJ κ a b c.2.1 c.2.2.1 c.2.2.2.1/\1<=c.2.1/\2<=c.2.2.1/\n0+1<=c.2.2.2.1.size->wpS (model prog w) A E s (forIn [:a.size+b.size] c f2) (fun c z'=>Kp z z'/\((∃ r,c.1=some r/\MO κ a b r)\/(c.1=none/\MJ κ a b c.2.1 c.2.2.1 c.2.2.2.1/\1<=c.2.1/\2<=c.2.2.1/\n0+1<=c.2.2.2.1.size))) z2:=by
  intro n0 c z2 hi;clear hf1 f1;refine eX (β:=Option (Array Keyed)×Nat×Nat×Array Keyed×Nat×Nat×Nat) (I:=fun y c z'=>Kp z z'/\c.1=none/\MJ κ a b c.2.1 c.2.2.1 c.2.2.2.1/\1<=c.2.1/\2<=c.2.2.1/\n0+1<=c.2.2.2.1.size) (fun y c z3 y1 y2 hh=>?_) (fun c z3 hh=>⟨hh.1,.inr hh.2⟩) hi;clear hi y1 y2;obtain⟨c0'',na'',nb'',out'',mg',ac',bc'⟩:=c;obtain⟨k3,e4,m3,r1,r2,r3⟩:=hh;rw[<-hf2];clear hf2;dsimp only at e4 m3 r1 r2 r3 ⊢;have s3:=m3.sz;have h3a:=m3.ha;have h3b:=m3.hb;have jb:nb''-1<b.size:=by omega
  generalize mg'-1=mg3;apply zHc (c:=mg'>1) (γ:=Nat) mg3 mg';intro mg2;refine du (m:=zFp _) (zCM fun z4 k4=>?_);have kz:=k3.trans k4;refine du (m:=elem' b (nb''-1)) (zo (getElem?_pos b _ jb) ?_);refine du (m:=zA0 false b[nb''-1] a 0 na'' (na''-1)) (wv L (B:=fun t=>!κ.blt (KK κ b (nb''-1)) (KK κ a t)) (kz.kd.trans hz) (pb _ (eF jb)) pa (by omega) (by omega) (fun t h1 h2=>by rw[if_neg (by simp),<-zh h1,<-zh jb,Nat.zero_add]) (fun t u tu un q=>?_) fun k tk=>?_)
  ·simp only[fL] at q ⊢
   exact KeyOrd.kle_trans (sa _ _ tu (by omega)) q
  dsimp only;have l4:=tk.le;have ya:∀ t,k<=t->t<na''->∀ j,j<nb''->κ.kle (KK κ b j) (KK κ a t):=fun t t1 t2 j j1=>by
   have q:=tk.no t t1 t2;rw[Bool.not_eq_false'] at q;exact KeyOrd.kle_trans (sb j (nb''-1) (by omega) jb) (KeyOrd.kle_of_klt q)
  have yn:∀ t,t<k->κ.kle (KK κ a t) (KK κ b (nb''-1)):=fun t t1=>by
   have q:=tk.yes t t1;rw[fL] at q;exact q
  generalize hac:na''-k=ac2;apply @zHd prog w A E s (ac2>0) _ Nat (Array Keyed) _ _ _ _ _ na'' out'' (fun n o=>MJ κ a b n nb'' o/\1<=n/\n0+1<=o.size/\∀ t,t<n->κ.kle (KK κ a t) (KK κ b (nb''-1)))
  ·exact fun hk=>⟨m3,r1,r3,fun t t1=>yn t (by omega)⟩
  ·intro hk H
   have m4:=MJ.manyA' m3 sa l4 ya;have s4:=m4.sz;by_cases c3:k=0
   ·rw[if_pos (by simpa using c3)]
    exact dI ⟨kz,.inl ⟨_,rfl,m4.doneA sb c3⟩⟩
   rw[if_neg (by simpa using c3)];exact H _ _ ⟨m4,by omega,by omega,yn⟩
  intro n4 o4 hh;clear ya yn tk l4 s3 m3 r1 r3 hac h3a;obtain⟨m4,r4,u4,yn⟩:=hh;have i5:n4-1<a.size:=by have:=m4.ha;omega
  refine du (m:=elem' b (nb''-1)) (zo (getElem?_pos b _ jb) ?_);have m5:=MJ.pushB' m4 sb (by omega) jb yn;have u5:n0+1<=(o4.push b[nb''-1]).size:=by rw[eQ];omega
  by_cases c5:nb''-1=1
  ·rw[if_pos (by simpa using c5)]
   exact dI ⟨kz,.inl ⟨_,rfl,m5.fstB sa sb fst c5⟩⟩
  rw[if_neg (by simpa using c5)];have r5:2<=nb''-1:=by omega
  clear m4 u4 yn c5;generalize o4.push b[nb''-1]=o5 at m5 u5 ⊢;generalize nb''-1=n6 at m5 r5 jb ⊢;refine du (m:=elem' a (n4-1)) (zo (getElem?_pos a (n4-1) i5) ?_);refine du (m:=zA0 true a[n4-1] b 0 n6 (n6-1)) (wv L (B:=fun t=>κ.blt (KK κ b t) (KK κ a (n4-1))) (kz.kd.trans hz) (pa _ (eF i5)) pb (by omega) (by omega) (fun t h1 h2=>by rw[if_pos rfl,<-zh h1,<-zh i5,Nat.zero_add]) (fun t u tu un q=>KeyOrd.klt_of_kle_of_klt (sb _ _ tu (by omega)) q) fun k' tk'=>?_);dsimp only;have l6:=tk'.le;have nm:∀ t,t<k'->κ.kle (KK κ b t) (KK κ a (n4-1)):=fun t t1=>KeyOrd.kle_of_klt (tk'.yes t t1);generalize hbc:n6-k'=bc2;apply @zHd prog w A E s (bc2>0) _ Nat (Array Keyed) _ _ _ _ _ n6 o5 (fun n o=>MJ κ a b n4 n o/\2<=n/\n0+1<=o.size/\∀ t,t<n->κ.kle (KK κ b t) (KK κ a (n4-1)))
  ·exact fun hk'=>⟨m5,r5,u5,fun t t1=>nm t (by omega)⟩
  ·intro hk' H
   have s5:=m5.sz;have m6:=MJ.manyB' m5 sb l6 fun t t1 t2 j j1=>KeyOrd.kle_trans (sa j (n4-1) (by omega) i5) (tk'.no t t1 t2);have s6:=m6.sz;by_cases c6:k'=1
   ·rw[if_pos (by simpa using c6)]
    exact dI ⟨kz,.inl ⟨_,rfl,m6.fstB sa sb fst c6⟩⟩
   rw[if_neg (by simpa using c6)];by_cases c8:k'=0
   ·rw[if_pos (by simpa using c8)]
    exact dI ⟨kz,.inl ⟨_,rfl,m6.doneB sa c8⟩⟩
   rw[if_neg (by simpa using c8)];exact H _ _ ⟨m6,by omega,by omega,nm⟩
  intro n7 o6 hh;clear nm tk' l6 m5 r5 u5 hbc;obtain⟨m6,r6,u6,nm⟩:=hh;refine du (m:=elem' a (n4-1)) (zo (getElem?_pos a (n4-1) i5) ?_);have m7:=MJ.pushA' m6 sa r4 i5 nm;have s6:=m6.sz;have s7:=m7.sz;by_cases c7:n4-1=0
  ·rw[if_pos (by simpa using c7)]
   exact dI ⟨kz,.inl ⟨_,rfl,m7.doneA sb c7⟩⟩
  rw[if_neg (by simpa using c7)];split
  ·exact dI ⟨kz,.inr ⟨rfl,m7,by dsimp only;omega,r6,by dsimp only;omega⟩⟩
  ·exact dI ⟨kz,rfl,m7,by dsimp only;omega,r6,by dsimp only;omega⟩
 clear hf2;have S1:∀(c:Option (Array Keyed)×Nat×Nat×Array Keyed×Nat) (z1:SortSt),Kp z z1/\c.1=none/\MJ κ a b c.2.1 c.2.2.1 c.2.2.2.1/\1<=c.2.1/\2<=c.2.2.1->wpS (model prog w) A E s (forIn [:a.size+b.size] c f1) (fun c z'=>Kp z z'/\∃ r,c.1=some r/\MO κ a b r) z1:=by
  intro c z1 hi;refine eX (β:=Option (Array Keyed)×Nat×Nat×Array Keyed×Nat) (I:=fun x c z'=>Kp z z'/\c.1=none/\MJ κ a b c.2.1 c.2.2.1 c.2.2.2.1/\1<=c.2.1/\2<=c.2.2.1/\x<=c.2.2.2.1.size) (fun x c z1 x1 x2 hh=>?_) (fun c z1 hh=>?_) ⟨hi.1,hi.2.1,hi.2.2.1,hi.2.2.2.1,hi.2.2.2.2,eY _⟩
  ·clear hi
   obtain⟨c0,na,nb,out,mg⟩:=c;obtain⟨k1,e2,m1,q1,q2,q3⟩:=hh;rw[<-hf1];clear hf1;dsimp only at e2 m1 q1 q2 q3 ⊢;generalize hf0:(fun(x:Nat) (c:Option (Array Keyed)×Nat×Nat×Array Keyed×Nat×Nat)=>(_:SM (ForInStep (Option (Array Keyed)×Nat×Nat×Array Keyed×Nat×Nat))))=f0;revert f0;refine id ?_;intro f0 hf0;refine du (gp (eX (β:=Option (Array Keyed)×Nat×Nat×Array Keyed×Nat×Nat) (I:=fun y c z'=>Kp z z'/\c.1=none/\MJ κ a b c.2.1 c.2.2.1 c.2.2.2.1/\1<=c.2.1/\2<=c.2.2.1/\out.size+y<=c.2.2.2.1.size) (Q:=fun c z'=>Kp z z'/\((∃ r,c.1=some r/\MO κ a b r)\/(c.1=none/\MJ κ a b c.2.1 c.2.2.1 c.2.2.2.1/\1<=c.2.1/\2<=c.2.2.1/\out.size+1<=c.2.2.2.1.size))) (fun y c z2 y1 y2 hh=>?stp1) (fun c z2 hh=>?fin1) ⟨k1,rfl,m1,q1,q2,by dsimp only;omega⟩) fun c z2 hh=>?pst1)
   case fin1 =>
    obtain⟨k2,e3,m2,p1,p2,p3⟩:=hh;exact⟨k2,.inr ⟨e3,m2,p1,p2,by omega⟩⟩
   case stp1 =>
    obtain⟨c0',na',nb',out',ac,bc⟩:=c;obtain⟨k2,e3,m2,p1,p2,p3⟩:=hh;rw[<-hf0];clear hf0 S2;dsimp only at e3 m2 p1 p2 p3 ⊢;have ja:na'-1<a.size:=by have:=m2.ha;omega
    have jb:nb'-1<b.size:=by have:=m2.hb;omega
    refine du (m:=elem' b (nb'-1)) (zo (getElem?_pos b _ jb) ?_);refine du (m:=elem' a (na'-1)) (zo (getElem?_pos a _ ja) ?_);refine du (m:=lt' b[nb'-1] a[na'-1]) (L _ _ _ _ (k2.kd.trans hz) (pb _ (eF jb)) (pa _ (eF ja)) ?_);dsimp only;cases e:κ.blt (ky κ b[nb'-1]) (ky κ a[na'-1]) with
    | true =>
     rw[if_pos rfl];refine du (m:=elem' a (na'-1)) (zo (getElem?_pos a _ ja) ?_);have m3:=m2.pushA' sa p1 ja fun j j1=>KeyOrd.kle_trans (sb j (nb'-1) (by omega) jb) (KeyOrd.kle_of_klt (by rw[zh jb,zh ja];exact e));by_cases c3:na'-1=0
     ·rw[if_pos (by simpa using c3)]
      exact dI ⟨k2,.inl ⟨_,rfl,m3.doneA sb c3⟩⟩
     rw[if_neg (by simpa using c3)];split
     ·exact dI ⟨k2,.inr ⟨rfl,m3,by dsimp only;omega,p2,by dsimp only;rw[eQ];omega⟩⟩
     ·exact dI ⟨k2,rfl,m3,by dsimp only;omega,p2,by dsimp only;rw[eQ];omega⟩
    | false =>
     rw[if_neg (by simp)];refine du (m:=elem' b (nb'-1)) (zo (getElem?_pos b _ jb) ?_);have m3:=m2.pushB' sb (by omega) jb fun j j1=>KeyOrd.kle_trans (sa j (na'-1) (by omega) ja) (show κ.kle (KK κ a (na'-1)) (KK κ b (nb'-1)) by rw[zh jb,zh ja];exact e);by_cases c3:nb'-1=1
     ·rw[if_pos (by simpa using c3)]
      exact dI ⟨k2,.inl ⟨_,rfl,m3.fstB sa sb fst c3⟩⟩
     rw[if_neg (by simpa using c3)];split
     ·exact dI ⟨k2,.inr ⟨rfl,m3,p1,by dsimp only;omega,by dsimp only;rw[eQ];omega⟩⟩
     ·exact dI ⟨k2,rfl,m3,p1,by dsimp only;omega,by dsimp only;rw[eQ];omega⟩
   case pst1 =>
    clear hf0;obtain⟨c0',na',nb',out',ac,bc⟩:=c;obtain⟨k2,o⟩:=hh;dsimp only at o ⊢;rcases o with ⟨r,e3,mo⟩ | ⟨e3,m2,p1,p2,p3⟩
    ·rw[e3]
     exact dI ⟨k2,r,rfl,mo⟩
    rw[e3];dsimp only;refine du (wpS_lift (fY ⟨rfl,?_⟩));refine du (gp (S2 out.size (none,na',nb',out',mg+1,ac,bc) z2 ⟨k2,rfl,m2,p1,p2,p3⟩) fun c z3 hh=>?_);clear m2 p1 p2 p3 m1 q1 q2 e3 e2 k1 k2;obtain⟨c0'',na'',nb'',out'',mg',ac',bc'⟩:=c;obtain⟨k3,o⟩:=hh;dsimp only at o ⊢;rcases o with ⟨r,e4,mo⟩ | ⟨e4,m3,r1,r2,r3⟩
    ·rw[e4]
     exact dI ⟨k3,r,rfl,mo⟩
    rw[e4];dsimp only;refine du (m:=zFp (mg'+1)) (zCM fun z4 k4=>?_);exact dI ⟨k3.trans k4,rfl,m3,r1,r2,by dsimp only;omega⟩
  ·obtain⟨k1,e2,m1,q1,q2,q3⟩:=hh
   have:=m1.sz;omega
 clear hf1 S2;have ia0:a.size-1<a.size:=by omega
 refine du (m:=elem' a (a.size-1)) (zo (getElem?_pos a (a.size-1) ia0) ?_);have m0:MJ κ a b (a.size-1) b.size #[a[a.size-1]]:=by
  have:MJ κ a b a.size b.size #[]:=⟨fX.nil,by
   rw[<-dg,<-dg,gE,gE];simp,fun x hx=>by simp at hx,fun x hx=>by simp at hx,by simp,da _,da _⟩
  exact this.pushA' sa ha ia0 fun j j1=>lst j j1
 by_cases c1:a.size-1=0
 ·rw[if_pos (by simpa using c1)]
  exact dI (h _ _ (m0.doneA sb c1) (.refl z))
 rw[if_neg (by simpa using c1)];by_cases c2:b.size=1
 ·rw[if_pos (by simpa using c2)]
  exact dI (h _ _ (m0.fstB sa sb fst c2) (.refl z))
 rw[if_neg (by simpa using c2)];refine du (wpS_get ?_);refine du (gp (S1 _ z ⟨.refl z,rfl,m0,by dsimp only;omega,by dsimp only;omega⟩) fun c z1 hh=>?_);obtain⟨k1,r,e2,mo⟩:=hh;rw[e2];exact dI (h _ _ mo k1)
end
theorem zMB{σ:Type}{M:Model}{A:Around}{E:Value->Shared->Prop}{s:Shared}{Q:PUnit->σ->Prop}{st st':σ}(h:Q ⟨⟩ st'):wpS M A E s (set st':StateT σ Sem PUnit) Q st:=by
 unfold wpS;rw[StateT.run_set];exact cS ⟨rfl,h⟩
section
variable {κ:KeyKind}
noncomputable def Seg(κ:KeyKind)(xs:Array Keyed)(lo hi:Nat):Prop:=∀ i j,lo<=i->i<=j->j<hi->κ.kle (KK κ xs i) (KK κ xs j)
noncomputable def zDm(xs:Array Keyed)(at':Nat)(l:List Keyed):Array Keyed:=l.zipIdx.foldl (fun a x=>match x with | (p,j)=>a.setIfInBounds (at'+j) p) xs
theorem zFq{at':Nat}:∀(l:List Keyed) (m:Nat) (xs:Array Keyed),at'+m+l.length<=xs.size->((l.zipIdx m).foldl (fun a x=>match x with | (p,j)=>a.setIfInBounds (at'+j) p) xs).toList=xs.toList.take (at'+m)++(l++xs.toList.drop (at'+m+l.length))
 | [],m,xs,h=>by simp
 | x::r,m,xs,h=>by
  rw[cW] at h;rw[List.zipIdx_cons,List.foldl_cons];rw[zFq r (m+1) _ (by simp;omega)];simp only[Array.toList_setIfInBounds];have hl:at'+m<xs.toList.length:=by simp;omega
  rw[show at'+(m+1)=at'+m+1 by omega,List.take_set,List.take_add_one,fw hl,List.drop_set_of_lt (by omega),cW,show at'+m+1+r.length=at'+m+(r.length+1) by omega];rw[List.set_append_right _ _ (by simp;omega)];have:at'+m-(xs.toList.take (at'+m)).length=0:=by rw[eK];omega
  rw[this];simp
theorem zDn(h:at'+l.length<=xs.size):(zDm xs at' l).toList=xs.toList.take at'++(l++xs.toList.drop (at'+l.length)):=by
 have:=zFq (at':=at') l 0 xs (by omega);rw[Nat.add_zero] at this;exact this
theorem zIe(h:at'+l.length<=xs.size)(k:Nat):(zDm xs at' l)[k]?=if at'<=k/\k<at'+l.length then l[k-at']? else xs[k]?:=by
 rw[<-eZ,zDn h];have hl:(xs.toList.take at').length=at':=by rw[eK,dg];omega
 by_cases h1:k<at'
 ·rw[if_neg (by omega),eC (by omega),List.getElem?_take,if_pos h1,eZ]
 rw[em (by omega),hl];by_cases h2:k<at'+l.length
 ·rw[if_pos ⟨by omega,h2⟩,eC (by omega)]
 ·rw[if_neg (by omega),em (by omega),List.getElem?_drop,show at'+l.length+(k-at'-l.length)=k by omega,eZ]
theorem zCn(h:u+t<v)(hv:v<=xs.size):KK κ (xs.extract u v) t=KK κ xs (u+t):=by
 refine KK_congr ?_;rw[Array.getElem?_extract_of_lt (by omega),getElem?_pos xs _ (by omega)]
theorem zMC(h:Srt κ r.toList):SortedToK κ r r.size:=fun i j ij jr=>by
 rcases eM i j with q | q
 ·have:=fi.mp h i j (by simp;omega) (by simpa using jr) q
  rw[zh (by omega),zh jr];simpa using this
 ·obtain rfl:i=j:=by omega
  exact KeyOrd.kle_refl _
theorem zHf(h:Seg κ xs u v)(hv:v<=xs.size):SortedToK κ (xs.extract u v) (xs.extract u v).size:=fun i j ij hj=>by
 rw[gI] at hj;rw[zCn (by omega) hv,zCn (by omega) hv];exact h (u+i) (u+j) (by omega) (by omega) (by omega)
theorem zQA{xs:Array Keyed}{u v c:Nat}(huv:u<=v)(hc:v+c<=xs.size):xs.toList=xs.toList.take u++(((xs.extract u v).toList++(xs.extract v (v+c)).toList)++xs.toList.drop (v+c)):=by
 rw[fg,fg,eI,eI,show v+c-v=c by omega];have e1:xs.toList.drop (v+c)=(xs.toList.drop v).drop c:=by rw[List.drop_drop]
 have e2:xs.toList.drop v=(xs.toList.drop u).drop (v-u):=by rw[List.drop_drop,show u+(v-u)=v by omega]
 rw[eV,e1,eG,e2,eG,eG]
variable {prog:Program} {w:World} {A:Around} {E:Value->Shared->Prop} {s:Shared} {kd:SortKind} {P:Keyed->Prop}
structure Mg (κ:KeyKind) (xs ys:Array Keyed) (sa hi:Nat):Prop where
 pm:ys.Perm xs
 fr:∀ k,k<sa\/hi<=k->ys[k]?=xs[k]?
 sg:Seg κ ys sa hi
variable (L:∀(z:SortSt) (x y:Keyed) (Q:Option Bool->SortSt->Prop),kindOf z=kd->P x->P y->Q (some (κ.blt (ky κ x) (ky κ y))) z->wpS (model prog w) A E s (lt' x y) Q z)
theorem merged(h1:sa+k<sb)(h2:0<c)(h3:c<=nb)(h4:sb+nb<=xs.size)(ga:Seg κ xs sa sb)(gb:Seg κ xs sb (sb+nb))(lo:∀ t,t<k->κ.kle (KK κ xs (sa+t)) (KK κ xs sb))(hi:∀ t,c<=t->t<nb->κ.kle (KK κ xs (sb-1)) (KK κ xs (sb+t)))(mo:MO κ (xs.extract (sa+k) sb) (xs.extract sb (sb+c)) r):Mg κ xs (zDm xs (sa+k) r.toList) sa (sb+nb):=by
 have hsz:r.toList.length=sb-(sa+k)+c:=by
  have:=mo.pm.length_eq;rw[dO] at this;simp only[dg,gI] at this ⊢;omega
 have hb:(sa+k)+r.toList.length<=xs.size:=by omega
 have hb2:(sa+k)+r.toList.length=sb+c:=by omega
 have get:=zIe hb;have src:∀ t,t<r.size->∃ u,sa+k<=u/\u<sb+c/\KK κ r t=KK κ xs u:=fun t ht=>by
  have hm:r[t]∈(xs.extract (sa+k) sb).toList++(xs.extract sb (sb+c)).toList:=mo.pm.mem_iff.mp (by simp);rw[zh ht];rcases dQ.mp hm with hm | hm
  ·obtain⟨j,hj,e⟩:=gq.mp hm
   rw[dg,gI] at hj;refine⟨sa+k+j,by omega,by omega,?_⟩;rw[zh (by omega),<-e];simp
  ·obtain⟨j,hj,e⟩:=gq.mp hm
   rw[dg,gI] at hj;refine⟨sb+j,by omega,by omega,?_⟩;rw[zh (by omega),<-e];simp
 have rs:=zMC mo.sr;rw[dg] at hsz;have kin:∀ i,sa+k<=i->i<sb+c->KK κ (zDm xs (sa+k) r.toList) i=KK κ r (i-(sa+k)):=fun i i1 i2=>by
  refine KK_congr ?_;rw[get,if_pos ⟨i1,by omega⟩,eZ]
 have kout:∀ i,(i<sa+k\/sb+c<=i)->KK κ (zDm xs (sa+k) r.toList) i=KK κ xs i:=fun i i1=>by
  refine KK_congr ?_;rw[get,if_neg (by omega)]
 refine⟨?_,fun i hi'=>by rw[get,if_neg (by omega)],fun i j i1 ij j2=>?_⟩
 ·rw[Array.perm_iff_toList_perm,zDn hb,hb2]
  conv=>rhs;rw[zQA (xs:=xs) (u:=sa+k) (v:=sb) (c:=c) (by omega) (by omega)]
  exact fW.append_left _ (fW.append_right _ mo.pm)
 ·by_cases p1:i<sa+k
  ·rw[kout i (.inl p1)]
   have il:=lo (i-sa) (by omega);rw[show sa+(i-sa)=i by omega] at il;by_cases p2:j<sa+k
   ·rw[kout j (.inl p2)]
    exact ga i j i1 ij (by omega)
   by_cases p3:j<sb+c
   ·rw[kin j (by omega) p3]
    obtain⟨u,u1,u2,u3⟩:=src (j-(sa+k)) (by omega);rw[u3];by_cases p4:u<sb
    ·exact ga i u i1 (by omega) p4
    ·exact KeyOrd.kle_trans il (gb sb u (by omega) (by omega) (by omega))
   ·rw[kout j (.inr (by omega))]
    exact KeyOrd.kle_trans il (gb sb j (by omega) (by omega) j2)
  by_cases p2:i<sb+c
  ·rw[kin i (by omega) p2]
   by_cases p3:j<sb+c
   ·rw[kin j (by omega) p3]
    exact rs _ _ (by omega) (by omega)
   ·rw[kout j (.inr (by omega))]
    obtain⟨u,u1,u2,u3⟩:=src (i-(sa+k)) (by omega);rw[u3];by_cases p4:u<sb
    ·have:=hi (j-sb) (by omega) (by omega)
     rw[show sb+(j-sb)=j by omega] at this;exact KeyOrd.kle_trans (ga u (sb-1) (by omega) (by omega) (by omega)) this
    ·exact gb u j (by omega) (by omega) j2
  ·rw[kout i (.inr (by omega)),kout j (.inr (by omega))]
   exact gb i j (by omega) ij j2
include L
theorem zGx(hz:kindOf z=kd)(hf:failedOf z=none)(pa:∀ p∈arrOf z,P p)(e1:(pendingOf z)[i]?=some (sa,na,pw))(e2:(pendingOf z)[i+1]?=some (sb,nb,pw2))(hab:sb=sa+na)(h1:1<=na)(h2:1<=nb)(hs:sb+nb<=(arrOf z).size)(ga:Seg κ (arrOf z) sa sb)(gb:Seg κ (arrOf z) sb (sb+nb))
  (h:∀ z',kindOf z'=kd->failedOf z'=none->pendingOf z'=((pendingOf z).setIfInBounds i (sa,na+nb,pw)).eraseIdxIfInBounds (i+1)->Mg κ (arrOf z) (arrOf z') sa (sb+nb)->Q true z'):wpS (model prog w) A E s (mergeAt' i) Q z:=by
 refine du (wpS_get ?_);rw[e1,e2];dsimp only;refine du (zMB ?_);have jb:sb<(arrOf z).size:=by omega
 refine du (m:=elem' (arrOf z) sb) (zo (getElem?_pos _ sb jb) ?_);refine du (m:=zA0 false (arrOf z)[sb] (arrOf z) sa na 0) (wv L (B:=fun t=>!κ.blt (KK κ (arrOf z) sb) (KK κ (arrOf z) (sa+t))) hz (pa _ (eF jb)) pa (by omega) (by omega) (fun t t1 t2=>by rw[if_neg (by simp),<-zh t1,<-zh jb]) (fun t u tu un q=>?_) fun k tk=>?_)
 ·simp only[fL] at q ⊢
  exact KeyOrd.kle_trans (ga _ _ (by omega) (by omega) (by omega)) q
 dsimp only;have lo:∀ t,t<k->κ.kle (KK κ (arrOf z) (sa+t)) (KK κ (arrOf z) sb):=fun t t1=>by
  have q:=tk.yes t t1;rw[fL] at q;exact q
 have lk:=tk.le;by_cases c1:na-k=0
 ·rw[if_pos (by simpa using c1)]
  refine dI (h _ hz hf rfl ⟨Array.Perm.refl _,fun u0 u0=>rfl,fun i j i1 ij j2=>?_⟩);show κ.kle (KK κ (arrOf z) i) (KK κ (arrOf z) j);by_cases p1:i<sb
  ·by_cases p2:j<sb
   ·exact ga i j i1 ij p2
   ·have:=lo (i-sa) (by omega)
    rw[show sa+(i-sa)=i by omega] at this;exact KeyOrd.kle_trans this (gb sb j (by omega) (by omega) j2)
  ·exact gb i j (by omega) ij j2
 rw[if_neg (by simpa using c1)];have ja:sa+k+(na-k)-1<(arrOf z).size:=by omega
 refine du (m:=elem' (arrOf z) (sa+k+(na-k)-1)) (zo (getElem?_pos (arrOf z) _ ja) ?_);have ej:sa+k+(na-k)-1=sb-1:=by omega
 refine du (m:=zA0 true (arrOf z)[sa+k+(na-k)-1] (arrOf z) sb nb (nb-1)) (wv L (B:=fun t=>κ.blt (KK κ (arrOf z) (sb+t)) (KK κ (arrOf z) (sb-1))) hz (pa _ (eF ja)) pa (by omega) (by omega) (fun t t1 t2=>by rw[if_pos rfl,<-zh t1,<-zh ja,ej]) (fun t u tu un q=>KeyOrd.klt_of_kle_of_klt (gb _ _ (by omega) (by omega) (by omega)) q) fun c tc=>?_);dsimp only;have lc:=tc.le;have hi:∀ t,c<=t->t<nb->κ.kle (KK κ (arrOf z) (sb-1)) (KK κ (arrOf z) (sb+t)):=fun t t1 t2=>tc.no t t1 t2;by_cases c2:c=0
 ·rw[if_pos (by simpa using c2)]
  refine dI (h _ hz hf rfl ⟨Array.Perm.refl _,fun u0 u0=>rfl,fun i j i1 ij j2=>?_⟩);show κ.kle (KK κ (arrOf z) i) (KK κ (arrOf z) j);by_cases p1:i<sb
  ·by_cases p2:j<sb
   ·exact ga i j i1 ij p2
   ·have:=hi (j-sb) (by omega) (by omega)
    rw[show sb+(j-sb)=j by omega] at this;exact KeyOrd.kle_trans (ga i (sb-1) i1 (by omega) (by omega)) this
  ·exact gb i j (by omega) ij j2
 rw[if_neg (by simpa using c2)];have px:∀ p∈(arrOf z).extract (sa+k) sb,P p:=fun p hp=>pa p (by
  rw[<-eu] at hp ⊢;rw[fg,eI] at hp;exact List.mem_of_mem_drop (List.mem_of_mem_take hp))
 have py:∀ p∈(arrOf z).extract sb (sb+c),P p:=fun p hp=>pa p (by
  rw[<-eu] at hp ⊢;rw[fg,eI] at hp;exact List.mem_of_mem_drop (List.mem_of_mem_take hp))
 have xs:((arrOf z).extract (sa+k) sb).size=sb-(sa+k):=by rw[gI];omega
 have ys:((arrOf z).extract sb (sb+c)).size=c:=by rw[gI];omega
 have ax:=zHf (κ:=κ) (xs:=arrOf z) (u:=sa+k) (v:=sb) (fun i j i1 ij j2=>ga i j (by omega) ij j2) (by omega);have ay:=zHf (κ:=κ) (xs:=arrOf z) (u:=sb) (v:=sb+c) (fun i j i1 ij j2=>gb i j (by omega) ij (by omega)) (by omega);have fs:∀ j,j<((arrOf z).extract (sa+k) sb).size->κ.kle (KK κ ((arrOf z).extract sb (sb+c)) 0) (KK κ ((arrOf z).extract (sa+k) sb) j):=fun j hj=>by
  rw[xs] at hj;rw[zCn (by omega) (by omega),zCn (by omega) (by omega)];have q:=tk.no (k+j) (by omega) (by omega);rw[Bool.not_eq_false'] at q;rw[Nat.add_zero,Nat.add_assoc];exact KeyOrd.kle_of_klt q
 have ls:∀ j,j<((arrOf z).extract sb (sb+c)).size->κ.kle (KK κ ((arrOf z).extract sb (sb+c)) j) (KK κ ((arrOf z).extract (sa+k) sb) (((arrOf z).extract (sa+k) sb).size-1)):=fun j hj=>by
  rw[ys] at hj;rw[xs,zCn (by omega) (by omega),zCn (by omega) (by omega),show sa+k+(sb-(sa+k)-1)=sb-1 by omega];exact KeyOrd.kle_of_klt (tc.yes j hj)
 have fin:∀(r:Array Keyed) (z':SortSt),MO κ ((arrOf z).extract (sa+k) sb) ((arrOf z).extract sb (sb+c)) r->Kp (SortSt.mk' (kindOf z) (arrOf z) (((pendingOf z).setIfInBounds i (sa,na+nb,pw)).eraseIdxIfInBounds (i+1)) (gallopOf z) (failedOf z)) z'->Q (failedOf z').isNone (setArr z' (zDm (arrOf z') (sa+k) r.toList)):=fun r z' mo kp=>by
  rw[show(failedOf z').isNone=true by rw[kp.fl];show(failedOf z).isNone=true;rw[hf];rfl];refine h _ (kp.kd.trans hz) (kp.fl.trans hf) kp.pe ?_;show Mg κ (arrOf z) (zDm (arrOf z') (sa+k) r.toList) sa (sb+nb);rw[kp.ar];exact merged (by omega) (by omega) lc hs ga gb lo hi mo
 by_cases c3:na-k<=c
 ·rw[if_pos c3]
  refine du (m:=zFn ((arrOf z).extract (sa+k) sb) ((arrOf z).extract sb (sb+c))) (zGv L hz px py (by omega) (by omega) ax ay fs ls fun r z' mo kp=>?_);exact du (wpS_modify (du (wpS_get (dI (fin r z' mo kp)))))
 ·rw[if_neg c3]
  refine du (m:=zFo ((arrOf z).extract (sa+k) sb) ((arrOf z).extract sb (sb+c))) (zGw L hz px py (by omega) (by omega) ax ay fs ls fun r z' mo kp=>?_);exact du (wpS_modify (du (wpS_get (dI (fin r z' mo kp)))))
end
structure Ahd (lo:Nat) (z z':SortSt):Prop where
 pm:(arrOf z').Perm (arrOf z)
 kd:kindOf z'=kindOf z
 fl:failedOf z'=failedOf z
 pe:pendingOf z'=pendingOf z
 fr:∀ k,k<lo->(arrOf z')[k]?=(arrOf z)[k]?
theorem Ahd.refl(lo:Nat)(z:SortSt):Ahd lo z z:=⟨Array.Perm.refl _,rfl,rfl,rfl,fun u0 u0=>rfl⟩
theorem Ahd.sz{lo:Nat}{z z':SortSt}(h:Ahd lo z z'):(arrOf z').size=(arrOf z).size:=h.pm.size_eq
theorem Ahd.all{lo:Nat}{z z':SortSt}{P:Keyed->Prop}(h:Ahd lo z z')(p:∀ x∈arrOf z,P x):∀ x∈arrOf z',P x:=fun x hx=>p x (h.pm.mem_iff.mp hx)
theorem Ahd.rev{lo i j:Nat}{z z':SortSt}(h:Ahd lo z z')(hi:lo<=i)(hj:j<=(arrOf z').size):Ahd lo z (setArr z' (mirror (arrOf z') i j ((j-i) / 2))):=by
 refine⟨(mirror_perm _ _ _ _).trans h.pm,h.kd,h.fl,h.pe,fun k hk=>?_⟩;show(mirror (arrOf z') i j ((j-i) / 2))[k]?=_;rw[getElem?_mirror_all hj,if_neg (by omega)];exact h.fr k hk
theorem Ahd.down{lo i j:Nat}{z z':SortSt}(h:Ahd lo z z')(hi:lo<=i)(hij:i<=j)(hj:j<(arrOf z').size):Ahd lo z (setArr z' (bubble (arrOf z') j (j-i))):=by
 refine⟨(bubble_perm _ _ _).trans h.pm,h.kd,h.fl,h.pe,fun k hk=>?_⟩;show(bubble (arrOf z') j (j-i))[k]?=_;rw[getElem?_bubble hj (j-i) (by omega),if_neg (by omega),if_neg (by omega)];exact h.fr k hk
section
variable {κ:KeyKind}
noncomputable def Dsc(κ:KeyKind)(xs:Array Keyed)(lo hi:Nat):Prop:=∀ i j,lo<=i->i<=j->j<hi->κ.kle (KK κ xs j) (KK κ xs i)
theorem Seg.more{xs:Array Keyed}{lo hi:Nat}(u:Seg κ xs lo hi)(h:lo<hi->κ.kle (KK κ xs (hi-1)) (KK κ xs hi)):Seg κ xs lo (hi+1):=fun i j i1 ij jm=>by
 rcases eM j hi with q | q
 ·exact u i j i1 ij q
 obtain rfl:j=hi:=by omega
 rcases eM i j with p | p
 ·exact KeyOrd.kle_trans (u i (j-1) i1 (by omega) (by omega)) (h (by omega))
 ·obtain rfl:i=j:=by omega
  exact KeyOrd.kle_refl _
theorem Dsc.more{xs:Array Keyed}{lo hi:Nat}(u:Dsc κ xs lo hi)(h:lo<hi->κ.kle (KK κ xs hi) (KK κ xs (hi-1))):Dsc κ xs lo (hi+1):=fun i j i1 ij jm=>by
 rcases eM j hi with q | q
 ·exact u i j i1 ij q
 obtain rfl:j=hi:=by omega
 rcases eM i j with p | p
 ·exact KeyOrd.kle_trans (h (by omega)) (u i (j-1) i1 (by omega) (by omega))
 ·obtain rfl:i=j:=by omega
  exact KeyOrd.kle_refl _
theorem Dsc.congr{xs ys:Array Keyed}{lo hi:Nat}(e:∀ i,KK κ ys i=KK κ xs i)(u:Dsc κ xs lo hi):Dsc κ ys lo hi:=fun i j i1 ij jm=>by rw[e,e];exact u i j i1 ij jm
theorem Dsc.turn{xs:Array Keyed}{lo hi:Nat}(u:Dsc κ xs lo hi)(h:hi<=xs.size):Seg κ (mirror xs lo hi ((hi-lo) / 2)) lo hi:=fun i j i1 ij jm=>by
 rw[KK_mirror h,KK_mirror h,if_pos ⟨i1,by omega⟩,if_pos ⟨by omega,jm⟩];exact u (lo+hi-1-j) (lo+hi-1-i) (by omega) (by omega) (by omega)
structure Fal (κ:KeyKind) (xs:Array Keyed) (lo m c:Nat):Prop where
 dn:Dsc κ xs lo (lo+m)
 le:c+1<=m
 eq:∀ i,lo+m-(c+1)<=i->i<lo+m->KK κ xs i=KK κ xs (lo+m-1)
theorem Fal.one{xs:Array Keyed}{lo m:Nat}(d:Dsc κ xs lo (lo+m))(h:1<=m):Fal κ xs lo m 0:=⟨d,h,fun i h1 h2=>by rw[show i=lo+m-1 by omega]⟩
variable {prog:Program} {w:World} {A:Around} {E:Value->Shared->Prop} {s:Shared} {kd:SortKind} {P:Keyed->Prop}
variable (L:∀(z:SortSt) (x y:Keyed) (Q:Option Bool->SortSt->Prop),kindOf z=kd->P x->P y->Q (some (κ.blt (ky κ x) (ky κ y))) z->wpS (model prog w) A E s (lt' x y) Q z)
include L
theorem zBa{i j:Nat}{z:SortSt}{Q:Option Bool->SortSt->Prop}(hz:kindOf z=kd)(pa:∀ p∈arrOf z,P p)(hi:i<(arrOf z).size)(hj:j<(arrOf z).size)(h:Q (some (κ.blt (KK κ (arrOf z) i) (KK κ (arrOf z) j))) z):wpS (model prog w) A E s (ltAt' i j) Q z:=by
 refine du (wpS_get ?_);refine du (m:=elem' (arrOf z) i) (zo (getElem?_pos (arrOf z) i hi) ?_);refine du (m:=elem' (arrOf z) j) (zo (getElem?_pos (arrOf z) j hj) ?_);exact L _ _ _ _ hz (pa _ (eF hi)) (pa _ (eF hj)) (by rw[<-zh hi,<-zh hj];exact h)
theorem zFr{lo nrem:Nat}{z:SortSt}{Q:Option Nat->SortSt->Prop}(hz:kindOf z=kd)(pa:∀ p∈arrOf z,P p)(h1:1<=nrem)(hs:lo+nrem<=(arrOf z).size)
  (h:∀ n z',1<=n->n<=nrem->Ahd lo z z'->Seg κ (arrOf z') lo (lo+n)->Q (some n) z'):wpS (model prog w) A E s (countRun' lo nrem) Q z:=by
 refine du (gp (eX (β:=Option (Option Nat)×Nat) (I:=fun x c z'=>z'=z/\c=(none,x)/\Seg κ (arrOf z) lo (lo+x)) (Q:=fun c z'=>z'=z/\∃ n,c=(none,n)/\1<=n/\n<=nrem/\Seg κ (arrOf z) lo (lo+n)/\(n=nrem\/κ.klt (KK κ (arrOf z) (lo+n)) (KK κ (arrOf z) (lo+n-1)))) (fun x c z' x1 x2 ⟨e1,e2,u⟩=>?stp) (fun c z' ⟨e1,e2,u⟩=>?fin) ⟨rfl,rfl,fun i j i1 ij j2=>by obtain rfl:i=j:=(by omega);exact KeyOrd.kle_refl _⟩) fun c z' ⟨e1,n,e2,n1,n2,u,o⟩=>?pst)
 case fin =>
  rw[show max 1 nrem=nrem by omega] at e2 u;exact⟨e1,nrem,e2,h1,da _,u,.inl rfl⟩
 case stp =>
  subst e1 e2;refine du (m:=ltAt' (lo+x) (lo+x-1)) (zBa L hz pa (by omega) (by omega) ?_);dsimp only;cases q:κ.blt (KK κ (arrOf z') (lo+x)) (KK κ (arrOf z') (lo+x-1)) with
  | true=>exact dI ⟨rfl,x,rfl,x1,by omega,u,.inr q⟩
  | false=>exact dI ⟨rfl,rfl,Seg.more u fun u0=>q⟩
 case pst =>
  subst e1 e2;dsimp only;by_cases e:n=nrem
  ·rw[if_pos (by simpa using e)]
   exact dI (h n z' n1 n2 (.refl _ _) u)
  rw[if_neg (by simpa using e)];have lt:=o.resolve_left e;apply @zKI prog w A E s (n>1) _ Nat _ _ _ _ _ n (fun x z1=>n=x/\Ahd lo z' z1/\Dsc κ (arrOf z1) lo (lo+(n+1)))
  ·refine fun g=>⟨rfl,.refl lo z',?_⟩
   obtain rfl:n=1:=by omega
   exact Dsc.more (hi:=lo+1) (fun i j i1 ij j2=>by obtain rfl:i=j:=(by omega);exact KeyOrd.kle_refl _) fun u0=>KeyOrd.kle_of_klt lt
  ·intro g H
   refine du (m:=ltAt' lo (lo+n-1)) (zBa L hz pa (by omega) (by omega) ?_);dsimp only;cases q:κ.blt (KK κ (arrOf z') lo) (KK κ (arrOf z') (lo+n-1)) with
   | true=>exact dI (h n z' n1 n2 (.refl _ _) u)
   | false =>
    have sz:lo+n<=(arrOf z').size:=by omega
    have al:∀ k,lo<=k->k<lo+n->KK κ (arrOf z') k=KK κ (arrOf z') (lo+n-1):=fun k k1 k2=>KeyOrd.kle_antisymm (u k (lo+n-1) k1 (by omega) (by omega)) (KeyOrd.kle_trans q (u lo k (da _) k1 k2));have d0:Dsc κ (arrOf z') lo (lo+n+1):=Dsc.more (fun i j i1 ij jn=>by rw[al i i1 (by omega),al j (by omega) jn];exact KeyOrd.kle_refl _) fun u0=>KeyOrd.kle_of_klt lt;rw[if_neg (by simp)];exact du (m:=reverseSlice' lo (lo+n)) (wpS_reverse (H n _ ⟨rfl,(Ahd.refl lo z').rev (i:=lo) (j:=lo+n) (da _) sz,Dsc.congr (KK_mirror_equal sz al) d0⟩))
  intro x z1 hh;obtain⟨e',a1,d1⟩:=hh;subst e';clear u lt o;refine du (wpS_lift (fY ⟨rfl,?_⟩));refine du (gp (eX (β:=Option (Option Nat)×Nat×Nat) (I:=fun x c z2=>∃ q,c=(none,x,q)/\Ahd lo z' z2/\Fal κ (arrOf z2) lo x q) (Q:=fun c z2=>∃ m q,c=(none,m,q)/\n+1<=m/\m<=nrem/\Ahd lo z' z2/\Fal κ (arrOf z2) lo m q) (fun m c z2 m1 m2 ⟨t,e3,a2,f2⟩=>?sp2) (fun c z2 ⟨t,e3,a2,f2⟩=>⟨nrem,t,by rw[e3,show max (n+1) nrem=nrem by omega],by omega,da _,a2,by rwa [show max (n+1) nrem=nrem by omega] at f2⟩) ⟨0,rfl,a1,Fal.one d1 (by omega)⟩) fun c z2 ⟨m,t,e3,m1,m2,a2,f2⟩=>?ps2)
  case sp2 =>
   subst e3;have s2:=a2.sz;have fl2:=f2.le;refine du (m:=ltAt' (lo+m) (lo+m-1)) (zBa L (a2.kd.trans hz) (a2.all pa) (by omega) (by omega) ?_);dsimp only;cases q2:κ.blt (KK κ (arrOf z2) (lo+m)) (KK κ (arrOf z2) (lo+m-1)) with
   | true =>
    have d2:Dsc κ (arrOf z2) lo (lo+m+1):=Dsc.more f2.dn fun u0=>KeyOrd.kle_of_klt q2;simp only[if_true];by_cases hc:t>0
    ·rw[if_pos hc]
     refine du (m:=reverseSlice' (lo+m-(t+1)) (lo+m)) (wpS_reverse (dI ⟨0,rfl,a2.rev (by omega) (by omega),Fal.one ?_ (by omega)⟩));exact Dsc.congr (KK_mirror_equal (by omega) f2.eq) d2
    ·rw[if_neg hc]
     exact dI ⟨0,rfl,a2,Fal.one d2 (by omega)⟩
   | false =>
    simp only[cQ,if_false];refine du (m:=ltAt' (lo+m-1) (lo+m)) (zBa L (a2.kd.trans hz) (a2.all pa) (by omega) (by omega) ?_);dsimp only;cases q3:κ.blt (KK κ (arrOf z2) (lo+m-1)) (KK κ (arrOf z2) (lo+m)) with
    | true=>exact dI ⟨m,t,rfl,m1,by omega,a2,f2⟩
    | false =>
     have ek:KK κ (arrOf z2) (lo+m)=KK κ (arrOf z2) (lo+m-1):=KeyOrd.kle_antisymm q3 q2;simp only[cQ,if_false];refine dI ⟨t+1,rfl,a2,Dsc.more f2.dn fun u0=>q3,by omega,fun i i1 i2=>?_⟩;rw[show lo+(m+1)-1=lo+m by omega];rcases eM i (lo+m) with p | p
     ·rw[ek];exact f2.eq i (by omega) p
     ·rw[show i=lo+m by omega]
  case ps2 =>
   subst e3;have s2:=a2.sz;have fl2:=f2.le;dsimp only;apply @zKI prog w A E s (t>0) _ Nat _ _ _ _ _ m (fun x z5=>m=x/\Ahd lo z' z5/\Dsc κ (arrOf z5) lo (lo+m))
   ·exact fun u0=>⟨rfl,a2,f2.dn⟩
   ·intro hc H
    exact du (m:=reverseSlice' (lo+m-(t+1)) (lo+m)) (wpS_reverse (H m _ ⟨rfl,a2.rev (i:=lo+m-(t+1)) (j:=lo+m) (by omega) (by omega),Dsc.congr (KK_mirror_equal (by omega) f2.eq) f2.dn⟩))
   intro x z5 hh;obtain⟨e',a4,d4⟩:=hh;subst e';clear a2 f2 s2 fl2 a1 d1;have sw:=Ahd.sz a4;refine du (m:=reverseSlice' lo (lo+m)) (wpS_reverse ?_);have a3:=Ahd.rev (i:=lo) (j:=lo+m) a4 (da _) (by omega);have u3:Seg κ (arrOf (setArr z5 (mirror (arrOf z5) lo (lo+m) ((lo+m-lo) / 2)))) lo (lo+m):=Dsc.turn d4 (by omega);generalize setArr z5 (mirror (arrOf z5) lo (lo+m) ((lo+m-lo) / 2))=z3 at a3 u3 ⊢;have s3:=a3.sz;refine du (gp (eX (β:=Option (Option Nat)×Nat) (I:=fun x c z4=>z4=z3/\c=(none,x)/\Seg κ (arrOf z3) lo (lo+x)) (Q:=fun c z4=>z4=z3/\∃ y,c=(none,y)/\m<=y/\y<=nrem/\Seg κ (arrOf z3) lo (lo+y)) (fun x c z4 x1 x2 ⟨y1,y2,y3⟩=>?_) (fun c z4 ⟨y1,y2,y3⟩=>⟨y1,nrem,by rw[y2,show max m nrem=nrem by omega],m2,da _,by rwa [show max m nrem=nrem by omega] at y3⟩) ⟨rfl,rfl,u3⟩) fun c z4 ⟨y1,y,y2,y3,y4,y5⟩=>?_)
   ·subst y1 y2
    refine du (m:=ltAt' (lo+x) (lo+x-1)) (zBa L (a3.kd.trans hz) (a3.all pa) (by omega) (by omega) ?_);dsimp only;cases q2:κ.blt (KK κ (arrOf z4) (lo+x)) (KK κ (arrOf z4) (lo+x-1)) with
    | true=>exact dI ⟨rfl,x,rfl,x1,by omega,y3⟩
    | false=>exact dI ⟨rfl,rfl,Seg.more y3 fun u0=>q2⟩
   ·subst y1 y2
    exact dI (h y z4 (by omega) y4 a3 y5)
theorem zGy{lo m ok:Nat}{z:SortSt}{Q:Bool->SortSt->Prop}(hz:kindOf z=kd)(pa:∀ p∈arrOf z,P p)(h1:1<=ok)(hok:ok<=m)(hs:lo+m<=(arrOf z).size)(u:Seg κ (arrOf z) lo (lo+ok))
  (h:∀ z',Ahd lo z z'->Seg κ (arrOf z') lo (lo+m)->Q true z'):wpS (model prog w) A E s (binarySort' lo m ok) Q z:=by
 refine du (gp (eX (β:=Option Bool×Unit) (I:=fun k c z'=>c=(none,())/\k<=m/\Ahd lo z z'/\Seg κ (arrOf z') lo (lo+k)) (Q:=fun c z'=>c=(none,())/\Ahd lo z z'/\Seg κ (arrOf z') lo (lo+m)) (fun k c z' k1 k2 ⟨e,km,a1,u'⟩=>?stp) (fun c z' ⟨e,km,a1,u'⟩=>?fin) ⟨rfl,by omega,.refl _ _,by rwa [show max ok 1=ok by omega]⟩) fun c z' ⟨e,a1,u'⟩=>?pst)
 case fin=>exact⟨e,a1,by rwa [show max (max ok 1) m=m by omega] at u'⟩
 case pst =>
  subst e;exact dI (h z' a1 u')
 case stp =>
  subst e;have s1:=a1.sz;have hk:lo+k<(arrOf z').size:=by omega
  refine du (gp (eX (β:=Option Bool×Nat×Nat) (I:=fun x c z''=>z''=z'/\∃ l r,c=(none,l,r)/\(l<=r/\r<=k/\r-l<=k-x)/\(∀ i,i<l->κ.kle (KK κ (arrOf z') (lo+i)) (KK κ (arrOf z') (lo+k)))/\∀ i,r<=i->i<k->κ.klt (KK κ (arrOf z') (lo+k)) (KK κ (arrOf z') (lo+i)))
   (Q:=fun c z''=>z''=z'/\∃ l,(∃ r,c=(none,l,r))/\l<=k/\(∀ i,i<l->κ.kle (KK κ (arrOf z') (lo+i)) (KK κ (arrOf z') (lo+k)))/\∀ i,l<=i->i<k->κ.klt (KK κ (arrOf z') (lo+k)) (KK κ (arrOf z') (lo+i))) (fun x c z'' x1 x2 ⟨e1,l,r,e2,⟨lr,rk,dx⟩,lw,hi⟩=>?is) (fun c z'' ⟨e1,l,r,e2,⟨lr,rk,dx⟩,lw,hi⟩=>?if_) ⟨rfl,0,k,rfl,⟨by omega,by omega,by omega⟩,fun i q=>by omega,fun i q1 q2=>by omega⟩) fun c z'' ⟨e1,l,⟨r,e2⟩,lk,lw,hi⟩=>?ip)
  case is =>
   subst e1 e2;dsimp only;by_cases g:l≥r
   ·rw[if_pos g]
    obtain rfl:l=r:=by omega
    exact dI ⟨rfl,l,⟨_,rfl⟩,rk,lw,hi⟩
   ·rw[if_neg g]
    refine du (m:=ltAt' (lo+k) (lo+(l+r) / 2)) (zBa L (a1.kd.trans hz) (a1.all pa) hk (by omega) ?_);dsimp only;cases q:κ.blt (KK κ (arrOf z'') (lo+k)) (KK κ (arrOf z'') (lo+(l+r) / 2)) with
    | true=>exact dI ⟨rfl,l,(l+r) / 2,rfl,⟨by omega,by omega,by omega⟩,lw,fun i i1 i2=>KeyOrd.klt_of_klt_of_kle q (u' _ _ (by omega) (by omega) (by omega))⟩
    | false=>exact dI ⟨rfl,(l+r) / 2+1,r,rfl,⟨by omega,by omega,by omega⟩,fun i i1=>KeyOrd.kle_trans (u' (lo+i) (lo+(l+r) / 2) (by omega) (by omega) (by omega)) (show κ.kle _ _ from q),hi⟩
  case if_ =>
   subst e1 e2;obtain rfl:l=r:=by omega
   exact⟨rfl,l,⟨_,rfl⟩,rk,lw,hi⟩
  case ip =>
   subst e1 e2;refine du (m:=moveDown' (lo+k) (lo+l)) ?_;rw[moveDown'_eq];refine wpS_modify (dI ⟨rfl,by omega,a1.down (by omega) (by omega) hk,fun i j i1 ij jk=>?_⟩);show κ.kle (KK κ (bubble (arrOf z'') (lo+k) (lo+k-(lo+l))) i) (KK κ (bubble (arrOf z'') (lo+k) (lo+k-(lo+l))) j);rw[KK_bubble hk (by omega),KK_bubble hk (by omega),show lo+k-(lo+k-(lo+l))=lo+l by omega];have lw':∀ t,lo<=t->t<lo+l->κ.kle (KK κ (arrOf z'') t) (KK κ (arrOf z'') (lo+k)):=fun t t1 t2=>by
    have:=lw (t-lo) (by omega);rwa [show lo+(t-lo)=t by omega] at this
   have hi':∀ t,lo+l<=t->t<lo+k->κ.klt (KK κ (arrOf z'') (lo+k)) (KK κ (arrOf z'') t):=fun t t1 t2=>by
    have:=hi (t-lo) (by omega) (by omega);rwa [show lo+(t-lo)=t by omega] at this
   by_cases i2:i=lo+l
   ·rw[if_pos i2]
    by_cases j1:j=lo+l
    ·rw[if_pos j1];exact KeyOrd.kle_refl _
    ·rw[if_neg j1,if_pos ⟨by omega,by omega⟩]
     exact KeyOrd.kle_of_klt (hi' (j-1) (by omega) (by omega))
   ·rw[if_neg i2]
    by_cases i3:lo+l<i/\i<=lo+k
    ·rw[if_pos i3,if_neg (by omega),if_pos ⟨by omega,by omega⟩]
     exact u' (i-1) (j-1) (by omega) (by omega) (by omega)
    ·rw[if_neg i3]
     by_cases j1:j=lo+l
     ·rw[if_pos j1];exact lw' i i1 (by omega)
     ·rw[if_neg j1]
      by_cases j2:lo+l<j/\j<=lo+k
      ·rw[if_pos j2];exact u' i (j-1) i1 (by omega) (by omega)
      ·rw[if_neg j2];exact u' i j i1 ij (by omega)
end
section
variable {κ:KeyKind}
noncomputable def Runs(κ:KeyKind)(xs:Array Keyed):Nat->List (Nat×Nat×Nat)->Nat->Prop
 | lo,[],hi=>lo=hi
 | lo,t::r,hi=>t.1=lo/\1<=t.2.1/\Seg κ xs lo (lo+t.2.1)/\Runs κ xs (lo+t.2.1) r hi
theorem Runs.len:∀ {p:List (Nat×Nat×Nat)} {lo hi:Nat},Runs κ xs lo p hi->p.length+lo<=hi
 | [],lo,hi,h=>by have:lo=hi:=h;simp;omega
 | t::r,lo,hi,⟨_,h1,_,h2⟩=>by have:=Runs.len h2;rw[cW];omega
theorem Runs.app:∀ {p q:List (Nat×Nat×Nat)} {lo hi:Nat},Runs κ xs lo (p++q) hi↔∃ mid,Runs κ xs lo p mid/\Runs κ xs mid q hi
 | [],q,lo,hi=>⟨fun h=>⟨lo,rfl,h⟩,fun⟨mid,h1,h2⟩=>by have:lo=mid:=h1;subst this;exact h2⟩
 | t::r,q,lo,hi=>by
  constructor
  ·rintro⟨h1,h2,h3,h4⟩
   obtain⟨mid,h5,h6⟩:=Runs.app.mp h4;exact⟨mid,⟨h1,h2,h3,h5⟩,h6⟩
  ·rintro⟨mid,⟨h1,h2,h3,h5⟩,h6⟩
   exact⟨h1,h2,h3,Runs.app.mpr ⟨mid,h5,h6⟩⟩
theorem Seg.congr{xs ys:Array Keyed}{lo hi:Nat}(e:∀ k,lo<=k->k<hi->ys[k]?=xs[k]?)(h:Seg κ xs lo hi):Seg κ ys lo hi:=fun i j i1 ij j2=>by
 rw[KK_congr (e i i1 (by omega)),KK_congr (e j (by omega) j2)];exact h i j i1 ij j2
theorem Runs.congr:∀ {p:List (Nat×Nat×Nat)} {lo hi:Nat},(∀ k,lo<=k->k<hi->ys[k]?=xs[k]?)->Runs κ xs lo p hi->Runs κ ys lo p hi
 | [],lo,hi,_,h=>h
 | t::r,lo,hi,e,⟨h1,h2,h3,h4⟩=>by
  have:=h4.len;exact⟨h1,h2,h3.congr fun k k1 k2=>e k k1 (by omega),Runs.congr (fun k k1 k2=>e k (by omega) k2) h4⟩
theorem Runs.power(hf:∀ t,(f t).1=t.1/\(f t).2.1=t.2.1):∀ {p:List (Nat×Nat×Nat)} {lo hi i:Nat},Runs κ xs lo p hi->Runs κ xs lo (p.modify i f) hi
 | [],lo,hi,i,h=>by simpa using h
 | t::r,lo,hi,0,⟨h1,h2,h3,h4⟩=>by
  rw[List.modify_zero_cons];obtain⟨f1,f2⟩:=hf t;exact⟨by rw[f1];exact h1,by rw[f2];exact h2,by rw[f2];exact h3,by rw[f2];exact h4⟩
 | t::r,lo,hi,i+1,⟨h1,h2,h3,h4⟩=>by
  rw[List.modify_succ_cons];exact⟨h1,h2,h3,Runs.power hf h4⟩
structure RS (κ:KeyKind) (a0:Array Keyed) (kd:SortKind) (lo:Nat) (z:SortSt):Prop where
 pm:(arrOf z).Perm a0
 kd:kindOf z=kd
 fl:failedOf z=none
 rn:Runs κ (arrOf z) 0 (pendingOf z).toList lo
theorem RS.ahd{a0:Array Keyed}{kd:SortKind}{lo:Nat}{z z':SortSt}(r:RS κ a0 kd lo z)(a:Ahd lo z z'):RS κ a0 kd lo z':=⟨a.pm.trans r.pm,a.kd.trans r.kd,a.fl.trans r.fl,by rw[a.pe];exact r.rn.congr fun k u0 k2=>a.fr k k2⟩
theorem zIf{p:List (Nat×Nat×Nat)}{i:Nat}(h:i+1<p.length):∃ p1 x y p2,p=p1++x::y::p2/\p1.length=i:=by
 refine⟨p.take i,p[i],p[i+1],p.drop (i+2),?_,by rw[eK];omega⟩;rw[List.getElem_cons_drop,List.getElem_cons_drop,eG]
theorem zHg{p:Array (Nat×Nat×Nat)}{p1 p2:List (Nat×Nat×Nat)}{x y v:Nat×Nat×Nat}{i:Nat}(e:p.toList=p1++x::y::p2)(hi:p1.length=i):((p.setIfInBounds i v).eraseIdxIfInBounds (i+1)).toList=p1++v::p2:=by
 subst hi;have h2:p1.length+1<(p.setIfInBounds p1.length v).size:=by
  rw[Array.size_setIfInBounds,<-dg,e];simp
 rw[Array.eraseIdxIfInBounds,dif_pos h2,Array.toList_eraseIdx,Array.toList_setIfInBounds,e,List.set_append_right _ _ (da _),Nat.sub_self,cR,List.eraseIdx_append_of_length_le (by omega)];rw[show p1.length+1-p1.length=1 by omega];rfl
variable {prog:Program} {w:World} {A:Around} {E:Value->Shared->Prop} {s:Shared} {kd:SortKind} {P:Keyed->Prop} {a0:Array Keyed}
variable (L:∀(z:SortSt) (x y:Keyed) (Q:Option Bool->SortSt->Prop),kindOf z=kd->P x->P y->Q (some (κ.blt (ky κ x) (ky κ y))) z->wpS (model prog w) A E s (lt' x y) Q z)
include L
theorem zCO{i lo:Nat}{z:SortSt}{Q:Bool->SortSt->Prop}(pa:∀ p∈a0,P p)(r:RS κ a0 kd lo z)(hlo:lo<=a0.size)(hi:i+1<(pendingOf z).size)
  (h:∀ z',RS κ a0 kd lo z'->(pendingOf z').size+1=(pendingOf z).size->(∀ k,lo<=k->(arrOf z')[k]?=(arrOf z)[k]?)->Q true z'):wpS (model prog w) A E s (mergeAt' i) Q z:=by
 obtain⟨p1,x,y,p2,e,hl⟩:=zIf (p:=(pendingOf z).toList) (i:=i) (by simpa using hi);have rn:=r.rn;rw[e] at rn;obtain⟨mid,r1,q1,q2,q3,q4,q5,q6,q7⟩:=Runs.app.mp rn;obtain⟨sa,na,pw⟩:=x;obtain⟨sb,nb,pw2⟩:=y;dsimp only at q1 q2 q3 q4 q5 q6 q7;subst q1 q4;have l7:=q7.len;have sz:=r.pm.size_eq;have e1:(pendingOf z)[i]?=some (sa,na,pw):=by
  rw[<-eZ,e,em (by omega),hl,Nat.sub_self];rfl
 have e2:(pendingOf z)[i+1]?=some (sa+na,nb,pw2):=by
  rw[<-eZ,e,em (by omega),hl,show i+1-i=1 by omega];rfl
 refine zGx L r.kd r.fl (fun p hp=>pa p (r.pm.mem_iff.mp hp)) e1 e2 rfl q2 q5 (by omega) q3 q6 fun z' k1 k2 k3 mg=>h z' ⟨mg.pm.trans r.pm,k1,k2,?_⟩ ?_ fun k hk=>mg.fr k (.inr (by omega))
 ·rw[k3,zHg e hl]
  refine Runs.app.mpr ⟨sa,r1.congr fun k u0 k2=>mg.fr k (.inl k2),rfl,by show 1<=na+nb;omega,?_,?_⟩
  ·show Seg κ (arrOf z') sa (sa+(na+nb))
   rw[<-Nat.add_assoc];exact mg.sg
  ·show Runs κ (arrOf z') (sa+(na+nb)) p2 lo
   rw[<-Nat.add_assoc];exact q7.congr fun k k1 u0=>mg.fr k (.inr k1)
 ·have:=congrArg List.length (zHg (v:=(sa,na+nb,pw)) e hl)
  rw[<-k3,dg] at this;rw[this,<-dg (xs:=pendingOf z),e];simp;omega
end
section
variable {κ:KeyKind} {prog:Program} {w:World} {A:Around} {E:Value->Shared->Prop} {s:Shared} {kd:SortKind} {P:Keyed->Prop} {a0:Array Keyed}
theorem zMD[Decidable c](ha:a+1<m)(hb:b+1<m):(if c then a else b)+1<m:=by
 split
 ·exact ha
 ·exact hb
theorem RS.push{lo n pw:Nat}{z:SortSt}(r:RS κ a0 kd lo z)(u:Seg κ (arrOf z) lo (lo+n))(hn:1<=n):RS κ a0 kd (lo+n) (setPending z ((pendingOf z).push (lo,n,pw))):=by
 refine⟨r.pm,r.kd,r.fl,?_⟩;show Runs κ (arrOf z) 0 ((pendingOf z).push (lo,n,pw)).toList (lo+n);rw[dR];exact Runs.app.mpr ⟨lo,r.rn,rfl,hn,u,rfl⟩
theorem RS.repow{lo i:Nat}{z:SortSt}{f:Nat×Nat×Nat->Nat×Nat×Nat}(r:RS κ a0 kd lo z)(hf:∀ t,(f t).1=t.1/\(f t).2.1=t.2.1):RS κ a0 kd lo (setPending z ((pendingOf z).modify i f)):=by
 refine⟨r.pm,r.kd,r.fl,?_⟩;show Runs κ (arrOf z) 0 ((pendingOf z).modify i f).toList lo;rw[Array.toList_modify];exact r.rn.power hf
variable (L:∀(z:SortSt) (x y:Keyed) (Q:Option Bool->SortSt->Prop),kindOf z=kd->P x->P y->Q (some (κ.blt (ky κ x) (ky κ y))) z->wpS (model prog w) A E s (lt' x y) Q z)
include L
theorem zKJ(pa:∀ p∈a0,P p)(pm:(arrOf z).Perm a0)(hk:kindOf z=kd)(hf:failedOf z=none)(hp:pendingOf z=#[])(h1:1<=a0.size)
  (h:∀ z',(arrOf z').Perm a0->failedOf z'=none->SortedToK κ (arrOf z') a0.size->Q () z'):wpS (model prog w) A E s sortRuns' Q z:=by
 have sz:=pm.size_eq;rw[sortRuns'_eq];refine du (wpS_get ?_);dsimp only;rw[sz];generalize minRun' a0.size a0.size 0=mr;refine du (gp (eX (I:=fun x c z'=>∃ lo,c=(none,lo)/\lo<=a0.size/\(x<=lo\/lo=a0.size)/\RS κ a0 kd lo z') (Q:=fun c z'=>c=(none,a0.size)/\RS κ a0 kd a0.size z') (fun x c z1 x1 x2 ⟨lo,e1,l1,l2,r1⟩=>?stp) (fun c z1 ⟨lo,e1,l1,l2,r1⟩=>?fin) ⟨0,rfl,by omega,.inl (da _),pm,hk,hf,by rw[hp];rfl⟩) fun c z1 ⟨e1,r1⟩=>?pst)
 case fin =>
  obtain rfl:lo=a0.size:=by omega
  exact⟨e1,r1⟩
 case stp =>
  subst e1;dsimp only;by_cases g:lo≥a0.size
  ·rw[if_pos g]
   obtain rfl:lo=a0.size:=by omega
   exact dI ⟨rfl,r1⟩
  rw[if_neg g];have s1:=r1.pm.size_eq;refine du (zFr L r1.kd (fun p q=>pa p (r1.pm.mem_iff.mp q)) (by omega) (by omega) fun n z2 n1 n2 a2 u2=>?_);have r2:=r1.ahd a2;have s2:=r2.pm.size_eq;dsimp only;apply @zKI prog w A E s (n<mr) _ Nat _ _ _ _ _ n (fun n' z3=>1<=n'/\lo+n'<=a0.size/\RS κ a0 kd lo z3/\Seg κ (arrOf z3) lo (lo+n'))
  ·exact fun u0=>⟨n1,by omega,r2,u2⟩
  ·intro gn H
   refine du (wpS_lift (fY ⟨rfl,?_⟩));have fn:n<=min (a0.size-lo) mr:=by omega
   have fs:lo+min (a0.size-lo) mr<=a0.size:=by omega
   generalize min (a0.size-lo) mr=fc at fn fs ⊢;refine du (zGy L r2.kd (fun p q=>pa p (r2.pm.mem_iff.mp q)) n1 fn (by omega) u2 fun z3 a3 u3=>?_);rw[if_neg (by simp)];exact H fc z3 ⟨by omega,by omega,r2.ahd a3,u3⟩
  intro fc z3 hh;obtain⟨f1,f2,r3,u3⟩:=hh;clear a2 u2 r2 s2 n1 n2;refine du (wpS_get ?_);cases hb:(pendingOf z3).back? with
  | none=>exact du (wpS_modify (dI ⟨lo+fc,rfl,by omega,by omega,r3.push u3 (by omega)⟩))
  | some t =>
   obtain⟨s1,n1,o1⟩:=t;dsimp only;refine du (gp (eX (I:=fun u0 c z'=>c=(none,())/\RS κ a0 kd lo z'/\Seg κ (arrOf z') lo (lo+fc)) (Q:=fun c z'=>c=(none,())/\RS κ a0 kd lo z'/\Seg κ (arrOf z') lo (lo+fc)) (fun x c z4 x1 x2 ⟨e4,r4,u4⟩=>?ms) (fun c z4 q=>q) ⟨rfl,r3,u3⟩) fun c z4 ⟨e4,r4,u4⟩=>?mp)
   case ms =>
    subst e4;refine du (wpS_get ?_);by_cases g2:(pendingOf z4).size>1
    ·rw[if_pos g2]
     rw[getElem?_pos (pendingOf z4) ((pendingOf z4).size-2) (by omega)];dsimp only;split
     ·exact dI ⟨rfl,r4,u4⟩
     ·refine du (zCO L pa r4 (by omega) (by omega) fun z5 r5 u0 f5=>?_)
      rw[if_neg (by simp)];exact dI ⟨rfl,r5,u4.congr fun k k1 u0=>f5 k k1⟩
    ·rw[if_neg g2]
     exact dI ⟨rfl,r4,u4⟩
   case mp =>
    subst e4;dsimp only;refine du (wpS_modify (du (wpS_modify (dI ⟨lo+fc,rfl,by omega,by omega,?_⟩))));refine RS.push (RS.repow r4 ?_) u4 (by omega);exact fun t=>⟨rfl,rfl⟩
 case pst =>
  subst e1;dsimp only;have ln:=r1.rn.len;rw[dg] at ln;refine du (gp (eX (I:=fun x c z'=>c=(none,())/\RS κ a0 kd a0.size z'/\((pendingOf z').size+x<=a0.size\/(pendingOf z').size<=1)) (Q:=fun c z'=>c=(none,())/\RS κ a0 kd a0.size z'/\(pendingOf z').size<=1) (fun x c z4 x1 x2 ⟨e4,r4,o4⟩=>?ls) (fun c z4 ⟨e4,r4,o4⟩=>⟨e4,r4,by omega⟩) ⟨rfl,r1,.inl (by omega)⟩) fun c z4 ⟨e4,r4,o4⟩=>?lp)
  case ls =>
   subst e4;refine du (wpS_get ?_);by_cases g2:(pendingOf z4).size<=1
   ·rw[if_pos g2]
    exact dI ⟨rfl,r4,g2⟩
   ·rw[if_neg g2]
    refine du (zCO L pa r4 (da _) (zMD (by omega) (by omega)) fun z5 r5 q5 f5=>?_);rw[if_neg (by simp)];exact dI ⟨rfl,r5,by omega⟩
  case lp =>
   subst e4;refine dI (h z4 r4.pm r4.fl ?_);have rn:=r4.rn;have lp:(pendingOf z4).toList.length<=1:=by simpa using o4
   match hpp:(pendingOf z4).toList,lp with
   | [],_ =>
    rw[hpp] at rn;have:0=a0.size:=rn;omega
   | [t],_ =>
    rw[hpp] at rn;obtain⟨t1,t2,t3,t4⟩:=rn;have:0+t.2.1=a0.size:=t4;rw[this] at t3;exact fun i j ij ja=>t3 i j (eY _) ij ja
end
end HM
namespace HS
noncomputable def ltI:List Int->List Int->Bool
 | [],[]=>false
 | [],_::_=>true
 | _::_,[]=>false
 | a::r,b::t=>if a=b then ltI r t else decide (a<b)
theorem zHh:∀ a,ltI a a=false
 | []=>rfl
 | x::r=>by show(if x=x then ltI r r else _)=false;rw[if_pos rfl];exact zHh r
theorem zEe:∀ a b c,ltI a b=true->ltI b c=true->ltI a c=true
 | [],[],_,h,_=>by cases h
 | [],_::_,[],_,h=>by cases h
 | [],_::_,_::_,_,_=>rfl
 | _::_,[],_,h,_=>by cases h
 | _::_,_::_,[],_,h=>by cases h
 | x::a,y::b,z::c,h,h'=>by
  simp only[ltI] at h h' ⊢;split at h<;>split at h'
  ·rename_i e1 e2;rw[if_pos (e1.trans e2)];exact zEe a b c h h'
  ·rename_i e1 e2;subst e1;rw[if_neg e2];exact h'
  ·rename_i e1 e2;subst e2;rw[if_neg e1];exact h
  ·simp only[decide_eq_true_eq] at h h'
   rw[if_neg (by omega)];simp;omega
theorem zHi:∀ a b c,ltI a c=true->ltI a b=true\/ltI b c=true
 | [],[],_,h=>.inr h
 | [],_::_,_,_=>.inl rfl
 | _::_,_,[],h=>by cases h
 | _::_,[],_::_,_=>.inr rfl
 | x::a,y::b,z::c,h=>by
  simp only[ltI] at h ⊢;split at h
  ·rename_i e1;subst e1
   by_cases e2:x=y
   ·subst e2;rw[if_pos rfl,if_pos rfl];exact zHi a b c h
   ·rw[if_neg e2,if_neg (Ne.symm e2)];simp;omega
  ·rename_i e1
   simp only[decide_eq_true_eq] at h;by_cases e2:x=y
   ·subst e2;right;rw[if_neg e1];simp;omega
   ·by_cases e3:y=z
    ·subst e3;left;rw[if_neg e2];simp;omega
    ·rw[if_neg e2,if_neg e3];simp;omega
theorem zE7:∀ a b,ltI a b=false->ltI b a=false->a=b
 | [],[],_,_=>rfl
 | [],_::_,h,_=>by cases h
 | _::_,[],_,h=>by cases h
 | x::a,y::b,h,h'=>by
  simp only[ltI] at h h';by_cases e:x=y
  ·subst e;rw[if_pos rfl] at h h';rw[zE7 a b h h']
  ·rw[if_neg e] at h;rw[if_neg (Ne.symm e)] at h'
   simp only[decide_eq_false_iff_not] at h h';omega
noncomputable def tAt(h:Heap):Value->Option (List Int)
 | .ref a=>match h.get? a with
  | some o=>match o.data with
   | .seq its _=>some (its.toList.map numOf)
   | _=>none
  | none=>none
 | _=>none
noncomputable abbrev zE8(h:Heap):KeyKind where
 α:=List Int
 blt:=ltI
 irrefl:=zHh
 trans:=zEe
 negTrans:=zHi
 total:=zE7
 keyOf:=tAt h
 dflt:=[]
structure TI (h:Heap) (v:Value) (ns:List Int):Prop where
 ex:∃ a o its n,v=.ref a/\h.get? a=some o/\o.cls=.type "tuple"/\o.data=.seq its n/\IntsAre its.toList ns
 ne:ns≠[]
theorem TI.items(t:TI h v ns):tAt h v=some ns:=by
 obtain⟨a,o,its,n,rfl,e,u0,d,i⟩:=t.ex;unfold tAt;simp only[e,d];rw[i.nums]
theorem zCP(b:Bool)(x y:Value):keyLt' (tuples' b) x y=(do
  let xs <-Builtin.List.listItems x;let ys <-Builtin.List.listItems y
  for ((p,q),i) in (xs.toList.zip ys.toList).zipIdx do
   if !(<-eqBool p q) then return <-oneLt' (b&&i==0) p q
  return decide (xs.size<ys.size)):=rfl
section
variable {prog:Program} {w:World} {A:Around} {E:Value->Shared->Prop} {s:Shared}
theorem zDo(h:Q (decide (i<j)) s):wpAny (model prog w) A (oneLt' b (.int i t) (.int j u)) Q E s:=by
 cases b with
 | true=>exact oneLt_int h
 | false =>
  rw[oneLt'_eq];simp only[cQ,if_false];refine cN (m:=richCompare .Lt (.int i t) (.int j u)) (wpAny_lt_int ?_);exact fq h
noncomputable def zCx:List Int->List Int->Option Bool
 | a::r,b::t=>if a=b then zCx r t else some (decide (a<b))
 | _,_=>none
theorem zFs:∀ ns ms,ltI ns ms=(zCx ns ms).getD (decide (ns.length<ms.length))
 | [],[]=>rfl
 | [],_::_=>by simp[ltI,zCx]
 | _::_,[]=>by simp[ltI,zCx]
 | a::r,b::t=>by
  simp only[ltI,zCx];split
  ·rw[zFs r t];simp
  ·rfl
theorem zHj:∀(ps qs:List Value) (ns ms:List Int) (k:Nat),IntsAre ps ns->IntsAre qs ms->Q (zCx ns ms,()) s ->
  wpAny (model prog w) A (forIn ((ps.zip qs).zipIdx k) ((none,()):Option Bool×Unit) fun x r=>do
   let e <-eqBool x.1.1 x.1.2
   if (!e)=true then do
    let c <-oneLt' (b&&x.2==0) x.1.1 x.1.2
    pure (ForInStep.done (some c,()))
   else pure (ForInStep.yield (none,()))) Q E s
 | _,_,_,_,k,.nil,_,h=>by
  simp only[List.zip_nil_left,List.zipIdx_nil,List.forIn_nil];exact cS h
 | _,_,_,_,k,.cons a t i,.nil,h=>by
  simp only[List.zip_nil_right,List.zipIdx_nil,List.forIn_nil];exact cS h
 | _,_,_,_,k,.cons a t i,.cons c u j,h=>by
  simp only[hW,List.zipIdx_cons,List.forIn_cons];refine cN (cN (wpAny_eqBool_int ?_));simp only[zCx] at h;by_cases e:a=c
  ·subst e
   rw[if_pos rfl] at h;rw[if_neg (by simp)];refine cS ?_;exact zHj _ _ _ _ (k+1) i j h
  ·rw[if_neg e] at h
   rw[if_pos (by simpa using e)];exact cN (zDo (cS (cS h)))
theorem zIg(hx:TI s.heap x ns)(hy:TI s.heap y ms)(h:Q (ltI ns ms) s):wpAny (model prog w) A (keyLt' (tuples' b) x y) Q E s:=by
 obtain⟨a,o,its,n,rfl,e,u0,d,i⟩:=hx.ex;obtain⟨a',o',its',n',rfl,e',u0,d',i'⟩:=hy.ex;rw[zCP];refine cN (listItems_at e d (cN (listItems_at e' d' (cN ?_))));refine zHj (Q:=_) its.toList its'.toList ns ms 0 i i' ?_;rw[zFs] at h;cases q:zCx ns ms with
 | some c =>
  rw[q] at h;exact cS h
 | none =>
  rw[q] at h;refine cS ?_;have l1:=i.length;have l2:=i'.length;simp only[dg] at l1 l2;rw[l1,l2];exact h
theorem zIh(hv:TI s.heap v ns)(h:∀ i t,Q (some (.int i t)) s):wpAny (model prog w) A (firstOfTuple' v) Q E s:=by
 obtain⟨a,o,its,n,rfl,e,c,d,i⟩:=hv.ex;show wpAny _ _ (do
  if (<-typeOf (.ref a)) != .type "tuple" then return none
  return (<-Builtin.List.listItems (.ref a))[0]?) _ _ _
 refine cN (wpAny_typeOf (T:="tuple") ⟨o,e,c⟩ ?_);rw[if_neg (by decide)];refine cN (listItems_at e d (cS ?_));obtain⟨l⟩:=its;cases i with
 | nil=>exact absurd rfl hv.ne
 | cons k t r=>exact h k t
theorem zDp:∀(vs:List Value),(∀ v∈vs,∀ Q:Option Value->Shared->Prop,(∀ i t,Q (some (.int i t)) s)->wpAny (model prog w) A (firstOfTuple' v) Q E s)->(∀ fs:List (Option Value),fs.length=vs.length->(∀ f∈fs,∃ i t,f=some (.int i t))->Q fs s)->wpAny (model prog w) A (vs.mapM firstOfTuple') Q E s
 | [],_,h=>by
  simp only[List.mapM_nil];exact cS (h [] rfl (by simp))
 | v::r,hv,h=>by
  simp only[List.mapM_cons];refine cN (hv v (by simp) _ fun i t'=>cN (zDp r (fun u hu=>hv u (by simp[hu])) fun fs hl hf=>cS (h _ (by simp[hl]) fun f hm=>?_)));rcases dN.mp hm with e | e
  ·exact⟨i,t',e⟩
  ·exact hf f e
theorem zA8:∀ {vs:List Value},(∀ v∈vs,∃ i t,v=.int i t)->vs.mapM typeOf=pure (vs.map fun u0=>Value.type "int")
 | [],_=>by simp
 | v::r,h=>by
  obtain⟨i,t,rfl⟩:=h v (by simp);rw[List.mapM_cons,zA8 fun u hu=>h u (by simp[hu])];show(pure (Value.type "int")>>=fun b=>pure _>>=fun bs=>pure (b::bs))=_;simp
theorem zAS:∀(fs:List (Option Value)),(∀ f∈fs,∃ i t,f=some (.int i t))->(∀ v∈fs.filterMap id,∃ i t,v=Value.int i t)/\(fs.filterMap id).length=fs.length
 | [],_=>⟨by simp,rfl⟩
 | f::r,h=>by
  obtain⟨i,t,rfl⟩:=h f (by simp);obtain⟨h1,h2⟩:=zAS r fun g hg=>h g (by simp[hg]);simp only[fK,id];exact⟨fun v hv=>by
   rcases dN.mp hv with e | e
   ·exact⟨i,t,e⟩
   ·exact h1 v e,by simp[h2]⟩
noncomputable def zPL(prog:Program)(w:World)(A:Around)(E:Value->Shared->Prop)(s:Shared)(v:Value):Prop:=∀ Q:Option Value->Shared->Prop,(∀ i t,Q (some (.int i t)) s)->wpAny (model prog w) A (firstOfTuple' v) Q E s
theorem zCy{vs:List Value}{Q:SortKind->Shared->Prop}(h2:1<=vs.length)(hv:∀ v∈vs,zPL prog w A E s v)(h:Q (tuples' true) s):wpAny (model prog w) A (keyKind' vs.toArray) Q E s:=by
 rw[keyKind'_eq];rw[List.mapM_toArray];refine cN ?_;rw[map_eq_pure_bind];refine cN (zDp vs hv fun fs hl hf=>cS ?_);rw[if_pos (by
  simp only[List.all_toArray,gg];intro f hm;obtain⟨i,t,rfl⟩:=hf f hm;rfl)]
 refine cN (fY (cN ?_));obtain⟨q1,q2⟩:=zAS fs hf;rw[oneTypeOnly'_eq];have e0:fs.toArray.filterMap id=(fs.filterMap id).toArray:=by simp
 rw[e0,List.mapM_toArray,zA8 q1];simp only[map_pure,pure_bind];cases q:fs.filterMap id with
 | nil=>rw[q] at q2;simp at q2;omega
 | cons u r =>
  have hall:((dB (fun u0=>Value.type "int") (u::r)).toArray.all fun x=>x==Value.type "int")=true:=by
   simp only[List.all_toArray,List.all_map,gg];intro u0 u0;rfl
  have h0:(dB (fun u0=>Value.type "int") (u::r)).toArray[0]?=some (Value.type "int"):=by simp
  rw[h0];simp only[hall,if_true];refine cS (cS ?_);exact h
noncomputable abbrev kOf(κ:KeyKind)(v:Value):κ.α:=(κ.keyOf v).getD κ.dflt
theorem zFt{κ:KeyKind}{a:Addr}{vs:List Value}{n:Nat}{P:Fin->Shared->Prop}(ho:s.heap.get? a=some (seqObj "list" vs.toArray n))(h64:vs.length<10000)
  (hk:∀ g:Heap,(∀ c o,c≠a->s.heap.get? c=some o->g.get? c=some o)->(∀ Q:SortKind->Shared->Prop,1<=vs.length->Q (tuples' true) { s with heap:=g }->wpAny (model prog w) A (keyKind' vs.toArray) Q E { s with heap:=g }) /\
   ∀ x∈vs,∀ y∈vs,∀(E':Value->Shared->Prop) (Q:Bool->Shared->Prop),Q (κ.blt (kOf κ x) (kOf κ y)) { s with heap:=g }->wpAny (model prog w) A (keyLt' (tuples' true) x y) Q E' { s with heap:=g })
  (h:∀ out:Array Value,out.toList.Perm vs->(∀ i j,i<=j->j<out.size->κ.blt (kOf κ (out.getD j .none)) (kOf κ (out.getD i .none))=false)->P (.done (.ret .none)) { s with heap:=sortedHeap s.heap a vs out }) :
  wpAny (model prog w) A (Builtin.«list.sort» ⟨[.ref a],[]⟩) P E s:=by
 rw[list_sort_plain];refine cN (listItems_at ho rfl (cN (listUpdate_at ho rfl ?_)));obtain⟨e1,ho1⟩:∃ e1,(s.heap.update a (Obj.mapSeq fun u0=>#[])).get? a=some (seqObj "list" #[] e1):=⟨_,get?_update_seq ho (fun u0=>#[])⟩
 refine cN (seqEpoch_at ho1 rfl (cN (wpAny_newTuple (cN (wpAny_newList (dZ ?_))))));have up:∀ c o,c≠a->s.heap.get? c=some o->(((s.heap.update a (Obj.mapSeq fun u0=>#[])).push (seqObj "tuple" vs.toArray 0)).push (seqObj "list" #[] 0)).get? c=some o:=fun c o hc e=>cP _ (cP _ (by rw[ge _ _ _ _ hc];exact e));have ho6:(((s.heap.update a (Obj.mapSeq fun u0=>#[])).push (seqObj "tuple" vs.toArray 0)).push (seqObj "list" #[] 0)).get? a=some (seqObj "list" #[] e1):=cP _ (cP _ ho1);show wpAny (model prog w) A _ P E { s with heap:=(((s.heap.update a (Obj.mapSeq fun u0=>#[])).push (seqObj "tuple" vs.toArray 0)).push (seqObj "list" #[] 0)) };generalize hg:((s.heap.update a (Obj.mapSeq fun u0=>#[])).push (seqObj "tuple" vs.toArray 0)).push (seqObj "list" #[] 0)=g at up ho6 ⊢;obtain⟨hk1,hk2⟩:=hk g up;dsimp only;have fin:∀ z:SortSt,(arrOf z).Perm (pairsOf vs)->SortedToK κ (arrOf z) (pairsOf vs).size->P (.done (.ret .none)) { s with heap:=g.update a (Obj.mapSeq fun u0=>(arrOf z).map (·.2)) }:=by
  intro z pm st;have pl:(arrOf z).toList.Perm (vs.zip vs):=by rw[<-pairsOf_toList];exact Array.perm_iff_toList_perm.mp pm
  have:=h ((arrOf z).map (·.2)) (by
   rw[Array.toList_map];refine(pl.map (·.2)).trans (.of_eq ?_);rw[List.map_snd_zip (da _)]) fun i j ij hj=>by
    have hj':j<(arrOf z).size:=by simpa using hj
    have gk:∀ k,(hk:k<(arrOf z).size)->KK κ (arrOf z) k=kOf κ (((arrOf z).map (·.2)).getD k .none):=fun k hk=>by
     have m1:=(mem_zip_self (pl.mem_iff.mp (show(arrOf z)[k]∈(arrOf z).toList by simp))).1;have e2:((arrOf z).map (·.2)).getD k .none=(arrOf z)[k].1:=by
      rw[m1];simp[gA,hk]
     rw[e2];unfold KK;rw[getElem?_pos _ k hk]
    rw[<-gk i (by omega),<-gk j hj'];exact st i j ij (by rw[<-pm.size_eq];exact hj')
  unfold sortedHeap at this;rw[hg] at this;exact this
 have hsz:vs.toArray.size=vs.length:=by simp
 by_cases h2:vs.toArray.size<2
 ·rw[if_pos h2,if_pos h2]
  refine cN (cS ?_);rw[StateT.run_pure];refine cN (cS (cN (seqEpoch_at ho6 rfl (cN (listUpdate_at ho6 rfl ?_ (hsz2:=by rw[Array.size_map];show(pairsOf vs).size<=_;rw[pairsOf_size,sizeLine_eq];omega))))));simp only[bne_self_eq_false,cQ,if_false];refine cS (fin (SortSt.mk' general' (vs.toArray.zip vs.toArray) #[] 7 none) (Array.Perm.refl _) fun i j hij hj=>?_);obtain rfl:i=j:=by rw[pairsOf_size] at hj;omega
  exact KeyOrd.kle_refl _
 ·rw[if_neg h2,if_neg h2]
  refine cN (hk1 _ (by omega) ?_);have L:∀(z:SortSt) (x y:Keyed) (Q:Option Bool->SortSt->Prop),kindOf z=tuples' true->x∈pairsOf vs->y∈pairsOf vs->Q (some (κ.blt (HM.ky κ x) (HM.ky κ y))) z->wpS (model prog w) A E { s with heap:=g } (lt' x y) Q z:=by
   intro z x y Q b hi hj q;have key:∀ p∈pairsOf vs,p.1∈vs:=fun p hk=>(mem_zip_self (by rw[<-pairsOf_toList];simpa using hk)).2;rw[lt'_eq];refine du (wpS_get ?_);rw[b];exact du (wpS_lift (gO (hk2 _ (key x hi) _ (key y hj) _ _ ⟨rfl,dI q⟩)))
  refine cN (ft (HM.zKJ (a0:=pairsOf vs) L (z:=SortSt.mk' (tuples' true) (vs.toArray.zip vs.toArray) #[] 7 none) (Q:=fun u0 z'=>(arrOf z').Perm (pairsOf vs)/\failedOf z'=none/\SortedToK κ (arrOf z') (pairsOf vs).size)
   (fun p hp=>hp) (Array.Perm.refl _) rfl rfl rfl (by rw[pairsOf_size];omega) fun z' a1 a2 a3=>⟨a1,a2,a3⟩) ?_ fun u0 u0 e=>e)
  rintro⟨⟨⟩,z'⟩ s' ⟨e',pm,hf,st⟩;subst e';dsimp only;refine cN (seqEpoch_at ho6 rfl (cN (listUpdate_at ho6 rfl ?_ (hsz2:=by refine eN (Nat.le_of_eq ((Array.size_map ..).trans (pm.size_eq.trans (pairsOf_size _)))) ?_;rw[sizeLine_eq];omega))));rw[hf];simp only[bne_self_eq_false,cQ,if_false];exact cS (fin z' pm st)
theorem zEf(ho:s.heap.get? a=some (seqObj "list" vs.toArray n))(hv:∀ v∈vs,(∃ ns,TI s.heap v ns)/\v≠.ref a)(h64:vs.length<10000)
  (h:∀ out:Array Value,out.toList.Perm vs->(∀ i j,i<=j->j<out.size->ltI ((tAt s.heap (out.getD j .none)).getD []) ((tAt s.heap (out.getD i .none)).getD [])=false)->P (.done (.ret .none)) { s with heap:=sortedHeap s.heap a vs out }) :
  wpAny (model prog w) A (Builtin.«list.sort» ⟨[.ref a],[]⟩) P E s:=by
 refine zFt (κ:=zE8 s.heap) ho h64 (fun g up=>?_) h;have hv':∀ v∈vs,∃ ns,TI g v ns/\kOf (zE8 s.heap) v=ns:=fun v hm=>by
  obtain⟨⟨ns,t⟩,na⟩:=hv v hm;have e:kOf (zE8 s.heap) v=ns:=by show(tAt s.heap v).getD []=ns;rw[t.items];rfl
  obtain⟨⟨b,o,its,k,rfl,q1,q2,q3,q4⟩,ne⟩:=t;exact⟨ns,⟨⟨b,o,its,k,rfl,up b o (fun z=>na (by rw[z])) q1,q2,q3,q4⟩,ne⟩,e⟩
 refine⟨fun Q h1 q=>zCy (s:={ s with heap:=g }) h1 (fun v hm Q' q'=>by obtain⟨ns,t,u0⟩:=hv' v hm;exact zIh t q') q,fun x hx y hy E' Q q=>?_⟩;obtain⟨ns,x1,x2⟩:=hv' x hx;obtain⟨ms,y1,y2⟩:=hv' y hy;rw[x2,y2] at q;exact zIg (s:={ s with heap:=g }) x1 y1 q
end
end HS
namespace L3
open L2 HS
section
variable {X:Cx} {e:Expr} {pos p:Pos} {tl:TL2}
noncomputable def tI(ns:List Int):D:=.tup (ns.map D.int)
end
end L3
namespace HT
section
variable {prog:Program} {w:World} {A:Around} {E:Value->Shared->Prop} {s:Shared}
end
end HT
namespace L3
open L2
section
variable {X:Cx} {a b c e o:Expr} {es:List Expr} {pos p:Pos} {ta tb te:zi}
theorem zIi:yt X (.type "int") (fun xs H Q=>∃ b,xs=[.bl b]/\Q (.int (if b then 1 else 0)) H):=by
 intro pins s σ H xs us Q I r h;obtain⟨b,rfl,q⟩:=h;obtain⟨u,rfl,rx⟩:=vals1 r;obtain rfl:u=Value.bool b:=rx;exact call_int_bool ⟨.int _,H,I.tok _,⟨_,rfl⟩,q⟩
noncomputable def zDq:Sp2:=fun ds G R=>match ds with | [.bl b]=>R (.int (if b then 1 else 0)) G | _=>False
theorem zKK{K:PySem.W.Frag}:zGd K (fun xs H Q=>∃ b,xs=[.bl b]/\Q (.int (if b then 1 else 0)) H) zDq:=by
 intro ds G R vs H Q h r d k;unfold zDq at h;split at h
 ·rename_i b
  obtain⟨v,rfl,d2⟩:=zBh d;unfold zM at d2;subst d2;exact⟨b,rfl,k _ G h _ H (.refl H) r (by unfold zM;rfl)⟩
 ·exact h.elim
theorem zOG(hg:Gl X "int")(hm:X.mg "int"=none)(ha:A2 X [e] t)(he:autoParam (starEach [e] X.env=(false,eval e X.env)::starEach [] X.env) Zq4._auto_1)(hpl:autoParam ((backTo pos (starEach [] X.env)).any (·.1)=false) Zq4._auto_1) :
  E2 X (.Call (.Name "int" p) [e] [] pos) (zO zDq t):=zFd zIi zKK hg hm (by decide +kernel) ha (by decide) (by decide) he hpl
end
section
variable {X:Cx} {a b c e o we:Expr} {es:List Expr} {pos p:Pos} {ta tb te tw:zi}
theorem zME{pins:List (Addr×Obj)}{σ:L2.St}{H:Hp}{s:Shared}(I:zP X pins σ H s):1<s.heap.objs.size:=by
 have h:mainGlobals<s.heap.objs.size:=(I.mod.glob.keeps I.bk).lt;exact Nat.lt_trans (by decide) h
end
end L3
namespace HI
noncomputable def Ris(xs:Array Nat):Prop:=xs.toList.Pairwise (·<·)
theorem Ris.lt(h:Ris xs)(ik:i<k)(hk:k<xs.size):xs[i]'(Nat.lt_trans ik hk)<xs[k]:=by
 have:=fi.mp h i k (by simpa using Nat.lt_trans ik hk) (by simpa using hk) ik;simpa using this
theorem zKL(hr:Ris xs):∀(fuel lo hi:Nat),hi<=xs.size->lo<=hi->hi-lo<=fuel->(∀ i,(q:i<xs.size)->i<lo->xs[i]<j)->(∀ i,(q:i<xs.size)->hi<=i->j<=xs[i]) ->
  (∀ i,(q:i<xs.size)->i<dA.go xs j fuel lo hi->xs[i]<j)/\∀ i,(q:i<xs.size)->dA.go xs j fuel lo hi<=i->j<=xs[i]
 | 0,lo,hi,h1,h2,h3,a,b=>by
  unfold dA.go;obtain rfl:lo=hi:=by omega
  exact⟨fun i q e=>a i q e,fun i q e=>b i q e⟩
 | fuel+1,lo,hi,h1,h2,h3,a,b=>by
  unfold dA.go;by_cases c:lo<hi
  ·rw[if_pos c]
   dsimp only;have hm:(lo+hi) / 2<xs.size:=by omega
   have eg:xs.getD ((lo+hi) / 2) j=xs[(lo+hi) / 2]:=by simp[gA,hm]
   rw[eg];by_cases d:xs[(lo+hi) / 2]<j
   ·rw[if_pos d]
    refine zKL hr fuel ((lo+hi) / 2+1) hi h1 (by omega) (by omega) (fun i q e=>?_) b;rcases eM i ((lo+hi) / 2) with z | z
    ·exact Nat.lt_trans (hr.lt z hm) d
    ·obtain rfl:i=(lo+hi) / 2:=by omega
     exact d
   ·rw[if_neg d]
    refine zKL hr fuel lo ((lo+hi) / 2) (by omega) (by omega) (by omega) a (fun i q e=>?_);rcases eM ((lo+hi) / 2) i with z | z
    ·exact eN (Nat.not_lt.mp d) (gL (hr.lt z q))
    ·obtain rfl:i=(lo+hi) / 2:=by omega
     exact Nat.not_lt.mp d
  ·rw[if_neg c]
   obtain rfl:lo=hi:=by omega
   exact⟨fun i q e=>a i q e,fun i q e=>b i q e⟩
theorem zDr(hr:Ris xs):(∀ i,(q:i<xs.size)->i<dA xs j->xs[i]<j)/\∀ i,(q:i<xs.size)->dA xs j<=i->j<=xs[i]:=by
 unfold dA;exact zKL hr xs.size 0 xs.size (da _) (eY _) (by omega) (fun i q e=>absurd e (hV _)) (fun i q e=>absurd q (Nat.not_lt.mpr e))
theorem zHk(hr:Ris xs)(hn:xs[dA xs j]?≠some j):Ris (dX xs (dA xs j) j):=by
 obtain⟨b1,b2⟩:=zDr (j:=j) hr;generalize dA xs j=p at *;unfold Ris;rw[SetTable.toList_insertAt];have hd:∀ a∈xs.toList.drop p,j<a:=fun a ha=>by
  obtain⟨i,hi,rfl⟩:=gq.mp ha;rw[gF,dg] at hi;have hpi:p+i<xs.size:=by omega
  rw[List.getElem_drop,Array.getElem_toList];have h1:=b2 (p+i) hpi (by omega);rcases gH h1 with e | e
  ·exfalso
   cases i with
   | zero =>
    apply hn;rw[getElem?_pos xs p (by omega)];congr 1;simpa using e.symm
   | succ i =>
    have hp:p<xs.size:=by omega
    have:=b2 p hp (da _);have l:=hr.lt (i:=p) (k:=p+(i+1)) (by omega) hpi;omega
  ·exact e
 have ht:∀ a∈xs.toList.take p,a<j:=fun a ha=>by
  obtain⟨i,hi,rfl⟩:=gq.mp ha;rw[eK,dg] at hi;rw[List.getElem_take,Array.getElem_toList];exact b1 i (by omega) (by omega)
 refine List.pairwise_append.mpr ⟨hr.sublist (List.take_sublist _ _),List.pairwise_cons.mpr ⟨hd,hr.sublist (List.drop_sublist _ _)⟩,fun a ha b hb=>?_⟩;rcases dN.mp hb with e | e
 ·rw[e];exact ht a ha
 ·exact Nat.lt_trans (ht a ha) (hd b e)
theorem zKM{t:SetTable}{j:Nat}(h:t.slot j=.empty\/t.slot j=.dummy):t.place[dA t.place j]?≠some j:=fun e=>by
 unfold SetTable.slot at h;simp only[e,beq_self_eq_true,if_true] at h;rcases h with h | h<;>cases h
theorem zAY{β:Type}(f:Nat->Option β):∀ l:List Nat,((l.filterMap fun j=>(f j).map (j,·)).map (·.1)).Sublist l
 | []=>.slnil
 | a::r=>by
  rw[fK];cases f a with
  | none=>exact .cons _ (zAY f r)
  | some b=>exact .cons₂ _ (zAY f r)
section
variable {prog:Program} {w:World} {A:Around} {E:Value->Shared->Prop} {s:Shared}
end
section
variable {prog:Program} {w:World} {A:Around} {R:Result->Shared->Prop} {I:Addr} {fp wr:List Addr} {G:Array GenState->Array GenState->Prop} {n:Nat} {P:Nat->Value->Prop} {St:Nat->Shared->Prop}
end
noncomputable abbrev wc(w:World):Bool:=!(w.params.followText "set-order")
noncomputable abbrev wG(w:World):Obj:={ cls:=.type "set",dict:=none,data:=.set #[] 0 (.fresh 0 0 (wc w)) }
section
variable {prog:Program} {w:World} {A:Around} {E:Value->Shared->Prop} {s:Shared}
theorem zCQ(v:Value)(h:Q1 (.ref s.heap.objs.size) { s with heap:=s.heap.push (wG w) }) :
  codeAny (model prog w) A (.call (.builtin "set.__new__") ⟨[.type "set",v],[]⟩) (wants Q1 E) s:=by
 refine codeAny_of_tree ?_;show wpAny _ A.in1 (do checkBuiltinCall "set.__new__" ⟨[.type "set",v],[]⟩;again (.builtin "set.__new__" ⟨[.type "set",v],[]⟩)) _ _ s;refine cN (gX (F.newCall_set_1 v) (cS ⟨plainId_quiet F.plain_set_new _,fS F.entry_set_new ?_⟩));rw[Around.under_plainId F.plain_set_new _];unfold Builtin.«set.__new__» Builtin.Frozenset.newClass;have hsub:=sub_set_self;obtain⟨hp,g,d,tk,os⟩:=s;dsimp only
 wp_walk
 refine wpAny_askSetting (cS ?_);dsimp only;simp only[newObj];exact cN (wpAny_alloc (cS (cS h)))
end
theorem zAG:Slot "set_iterator" "__next__" "set_iterator.__next__" :=
 .of (owner:="set_iterator") (n:="__next__") (by rw[typeLookup_type,builtinLookup_eq_fast];kernel_rfl) (by decide +kernel) (by decide +kernel) (by decide +kernel) (by first | exact .inl (by decide +kernel) | exact .inr (by decide +kernel)) (by rw[isSubtype_type];kernel_rfl)
theorem zEg:entryFor table "set_iterator.__next__"=some Builtin.«set_iterator.__next__»:=entryFor_of_tree (by kernel_rfl)
theorem zFu(v:Value):argsOk "set_iterator.__next__" ⟨[v],[]⟩:=by unfold argsOk;kernel_rfl
theorem zFv:entryFor table "set.__iter__"=some Builtin.«frozenset.__iter__»:=entryFor_alias (id':="frozenset.__iter__") (by kernel_rfl) rfl (by decide +kernel) (by kernel_rfl)
theorem zHl{α:Type}:∀(l:List α) (i:Nat) (h:i<l.length),([l[i]]++l.eraseIdx i).Perm l
 | a::r,0,_=>.refl _
 | a::r,i+1,h=>by
  have hi:i<r.length:=by simpa using h
  have q:=zHl r i hi;show([r[i]]++(a::r.eraseIdx i)).Perm (a::r);exact(fW.swap a r[i] _).trans (q.cons a)
theorem zHm(f:Nat->Nat):∀(n k:Nat) (l:List α) (out:Array α),l.length=n->(pickOrder.go f n k l out).toList.Perm (out.toList++l)
 | 0,k,l,out,h=>by
  have:l=[]:=gC.mp h;subst this;unfold pickOrder.go;simp
 | n+1,k,l,out,h=>by
  unfold pickOrder.go;have hi:f k%l.length<l.length:=Nat.mod_lt _ (by omega);rw[fw hi];dsimp only;refine(zHm f n (k+1) _ _ (by rw[List.length_eraseIdx_of_lt hi];omega)).trans ?_;rw[dR,eV];refine fW.append_left _ ?_;exact zHl l _ hi
theorem zBb(f:Nat->Nat)(xs:Array α):(pickOrder f xs).toList.Perm xs.toList:=by
 unfold pickOrder;simpa using zHm f xs.size 0 xs.toList #[] (by simp)
section
variable {prog:Program} {w:World} {A:Around} {E:Value->Shared->Prop} {s:Shared}
theorem zA1(h:Q (w.params.followText "set-order") s):wpAny (model prog w) A setsByText Q E s:=by
 unfold setsByText;exact cN (wpAny_askSetting (cS h))
noncomputable abbrev zBM(f:Value)(i:Int)(a:Addr)(n:Nat)(ep:Nat):Obj:={ cls:=.type "set_iterator",dict:=none,data:=.fields #[f,rawInt i,.ref a,rawInt n,rawInt ep],slots:=#[] }
structure Sx (h:Heap) (a:Addr) (es:Array (Int×Value)) (ep:Nat) (t:SetTable):Prop where
 ex:∃ o,h.get? a=some o/\o.ExactSet/\o.data=.set es ep t
theorem Sx.keep{h h':Heap}{a:Addr}{es:Array (Int×Value)}{ep:Nat}{t:SetTable}(x:Sx h a es ep t)(k:∀ o,h.get? a=some o->h'.get? a=some o):Sx h' a es ep t:=let ⟨o,e,r⟩:=x.ex;⟨o,k o e,r⟩
noncomputable def Tells(prog:Program)(w:World)(a:Addr)(es:Array (Int×Value))(ep:Nat)(t:SetTable)(sl:Nat->Nat)(xs:List Value):Prop :=
 ∀(A:Around) (E:Value->Shared->Prop) (s:Shared) (i:Nat) (Q:Option (Value×Nat)->Shared->Prop),i<=xs.length->Sx s.heap a es ep t->Q ((xs[i]?).map fun v=>(v,sl (i+1))) s->wpAny (model prog w) A (setNext a (sl i) i ep) Q E s
theorem zDs(hf:t.fits es.size=true)(hb:w.params.followText "set-order"=true):Tells prog w a es ep t (fun u0=>0) ((pickOrder (w.params.setOrder a ep) es).toList.map (·.2)):=by
 intro A E s i Q hi hx h;obtain⟨o,ho,u0,hd⟩:=hx.ex;unfold setNext;refine cN (ef ho hd hf ?_);dsimp only;refine cN (zA1 ?_);rw[hb];simp only[↓reduceIte,bne_self_eq_false,cQ];refine cN ?_;unfold setWalk;refine cN (ef ho hd hf ?_);dsimp only;refine cN (zA1 ?_);rw[hb];simp only[↓reduceIte];refine cN (wpAny_askSetting (cS (cS ?_)));rw[eU,Option.map_map,eZ] at h;exact h
theorem below_at(hr:Ris xs)(hi:i<=xs.size):(i<xs.size->dA xs (if i=0 then 0 else xs.getD (i-1) 0+1)=i)/\(i=xs.size->xs.size<=dA xs (if i=0 then 0 else xs.getD (i-1) 0+1)):=by
 generalize hj:(if i=0 then 0 else xs.getD (i-1) 0+1)=j;obtain⟨b1,b2⟩:=zDr (j:=j) hr;generalize dA xs j=p at b1 b2;have lo:i<=p:=by
  rcases eM p i with q | q
  ·exfalso
   have h1:=b2 p (by omega) (da _);rw[if_neg (by omega)] at hj;have h0:i-1<xs.size:=by omega
   have e:xs.getD (i-1) 0=xs[i-1]:=by simp[gA,h0]
   rw[e] at hj;rcases eM p (i-1) with z | z
   ·have:=hr.lt z h0;omega
   ·have e2:p=i-1:=by omega
    subst e2;omega
  ·exact q
 refine⟨fun h=>?_,fun h=>by omega⟩;rcases eM i p with q | q
 ·exfalso
  have h1:=b1 i h q;by_cases z:i=0
  ·rw[if_pos z] at hj;omega
  ·rw[if_neg z] at hj
   have h0:i-1<xs.size:=by omega
   have e:xs.getD (i-1) 0=xs[i-1]:=by simp[gA,h0]
   have:=hr.lt (i:=i-1) (k:=i) (by omega) h;omega
 ·omega
theorem zCz(hf:t.fits es.size=true)(hr:Ris t.place)(hb:w.params.followText "set-order"=false)(hl:t.led=true)(hp:(!t.plain&&decide (es.size>1))=false) :
  Tells prog w a es ep t (fun i=>if i=0 then 0 else t.place.getD (i-1) 0+1) (es.toList.map (·.2)):=by
 intro A E s i Q hi hx h;obtain⟨o,ho,u0,hd⟩:=hx.ex;have hs:t.place.size=es.size:=by
  simp only[SetTable.fits,fm,beq_iff_eq] at hf;exact hf.1
 unfold setNext;refine cN (ef ho hd hf ?_);dsimp only;refine cN (zA1 ?_);rw[hb];simp only[cQ,↓reduceIte];refine gu (fun q=>absurd (show(!t.plain&&decide (es.size>1))=true from q) (by rw[hp];decide)) (fun u0=>?_);refine cN (gu (fun q=>absurd q (by rw[hl];simp)) (fun u0=>cS (cS ?_)));rw[db,dg] at hi;obtain⟨b1,b2⟩:=below_at hr (i:=i) (by omega);rw[eU,Option.map_map,eZ] at h;rcases eM i es.size with q | q
 ·rw[b1 (by omega),getElem?_pos es i q,getElem?_pos t.place i (by omega)]
  rw[getElem?_pos es i q] at h;have e:t.place.getD (i+1-1) 0=t.place[i]'(by omega):=by simp[gA,hs,q]
  have h':Q (some (es[i].2,if i+1=0 then 0 else t.place.getD (i+1-1) 0+1)) s:=h;rw[if_neg (by omega),e] at h';exact h'
 ·have hn:es[dA t.place (if i=0 then 0 else t.place.getD (i-1) 0+1)]?=none:=by
   rw[Array.getElem?_eq_none_iff];have:=b2 (by omega);omega
  have hn2:es[i]?=none:=by rw[Array.getElem?_eq_none_iff];exact q
  rw[hn];rw[hn2] at h;exact h
theorem zFw(T:Tells prog w a es ep t sl xs)(hf:t.fits es.size=true)(hx:xs.length=es.size)(hi:i<es.size)(hit:s.heap.get? it=some (zBM (rawInt (sl i)) i a es.size ep))(hS:Sx s.heap a es ep t)(hne:a≠it)
  (hQ:∀ h' v,xs[i]?=some v->h'.get? it=some (zBM (rawInt (sl (i+1))) ((i+1:Nat):Int) a es.size ep)->(∀ b o,b≠it->s.heap.get? b=some o->h'.get? b=some o)->Q (some v) { s with heap:=h' }):wpAny (model prog w) A (pyNext (.ref it)) Q E s:=by
 have hT:s.TypeIs (.ref it) "set_iterator":=⟨_,hit,rfl⟩
 obtain⟨o,ho,u0,hd⟩:=hS.ex;unfold pyNext;refine cN (gO (wpAny_callSpecial?_slot (name:=Str.ofString "__next__") hT zAG (dY zAG hT zEg ?_ (zFu _))));unfold Builtin.«set_iterator.__next__»;refine cN (m:=slotArgs "__next__" 0 _) (cS ?_);refine cN (wpAny_fieldsOf hit rfl ?_);simp only[rawInt];refine cN (wpAny_setEntries_of ho hd hf ?_);simp only[bne_self_eq_false,cQ,↓reduceIte];simp only[gR];refine cN (T _ _ _ i _ (by omega) hS ?_);rw[fw (show i<xs.length by omega)];refine cN (fB hit (by simp) fun h1 e1 s1=>cN (fB e1 (by simp) fun h2 e2 s2=>cS ⟨_,rfl,cS (hQ h2 xs[i] (fw _) ?_ fun b o hb e=>s2.extBut _ _ hb (s1.extBut _ _ hb e))⟩));exact e2
theorem zMF{B:Around}{z:Shared}{Q:Fin->Shared->Prop}{E':Value->Shared->Prop}(hh:B.handled=none)(h:∀ h' e,(∀ b o,z.heap.get? b=some o->h'.get? b=some o)->(∃ o,h'.get? e=some o/\o.cls=.type "StopIteration")->E' (.ref e) { z with heap:=h' }) :
  wpAny (model prog w) B (do raiseNew (<-newExc (.type "StopIteration") [])) Q E' z:=by
 refine cN ?_;simp only[newExc,newTuple];refine cN (eR (cN (m:=firstArgMember _ _) (gX (a:=Value.none) (by first | rfl | (simp only[firstArgMember];rfl)) (eR ?_ (by size_fits)))) (by size_fits));simp only[raiseNew];refine cN (wpAny_handled ?_);rw[hh];exact cN (cS (wpAny_throw (h _ _ (fun b o e=>cP _ (cP _ e)) ⟨_,d9 _ rfl,rfl⟩)))
theorem zHn(hh:A.handled=none)(T:Tells prog w a es ep t sl xs)(hf:t.fits es.size=true)(hx:xs.length=es.size)(hit:s.heap.get? it=some (zBM (rawInt (sl es.size)) es.size a es.size ep))(hS:Sx s.heap a es ep t)
  (hQ:∀ h',(∀ b o,b≠it->s.heap.get? b=some o->h'.get? b=some o)->Q none { s with heap:=h' }):wpAny (model prog w) A (pyNext (.ref it)) Q E s:=by
 have hT:s.TypeIs (.ref it) "set_iterator":=⟨_,hit,rfl⟩
 obtain⟨o,ho,u0,hd⟩:=hS.ex;unfold pyNext;refine cN (gO (wpAny_callSpecial?_slot (name:=Str.ofString "__next__") hT zAG (dY zAG hT zEg ?_ (zFu _))));unfold Builtin.«set_iterator.__next__»;refine cN (m:=slotArgs "__next__" 0 _) (cS ?_);refine cN (wpAny_fieldsOf hit rfl ?_);simp only[rawInt];refine cN (wpAny_setEntries_of ho hd hf ?_);simp only[bne_self_eq_false,cQ,↓reduceIte];simp only[gR];refine cN (T _ _ _ es.size _ (by omega) hS ?_);rw[List.getElem?_eq_none (show xs.length<=es.size by omega)];refine cN (fB hit (by simp) fun h1 e1 s1=>?_);refine zMF (by simpa using hh) fun h' e kp he=>?_;obtain⟨oe,q1,q2⟩:=he;refine cN (fV (T:="StopIteration") (b:=true) ⟨oe,q1,q2⟩ isSubtype_stop (cS (hQ _ fun b o hb e=>kp _ _ (s1.extBut _ _ hb e))))
end
theorem zFx:Slot "set_iterator" "__iter__" "set_iterator.__iter__" :=
 .of (owner:="set_iterator") (n:="__iter__") (by rw[typeLookup_type,builtinLookup_eq_fast];kernel_rfl) (by decide +kernel) (by decide +kernel) (by decide +kernel) (by first | exact .inl (by decide +kernel) | exact .inr (by decide +kernel)) (by rw[isSubtype_type];kernel_rfl)
theorem zIj:entryFor table "set_iterator.__iter__"=some Builtin.«dict_keyiterator.__iter__» :=
 entryFor_alias (id':="dict_keyiterator.__iter__") (by kernel_rfl) (by first | rfl | decide +kernel | (unfold String.splitOn;simp +decide [String.splitOnAux])) (by decide +kernel) (by kernel_rfl)
theorem zKN(v:Value):argsOk "set_iterator.__iter__" ⟨[v],[]⟩:=by unfold argsOk;kernel_rfl
section
variable {prog:Program} {w:World} {A:Around} {E:Value->Shared->Prop} {s:Shared}
theorem zFy(h:s.heap.get? it=some (zBM f i a n ep))(q:Q (.ref it) s):wpAny (model prog w) A (pyIter (.ref it)) Q E s:=by
 have hT:s.TypeIs (.ref it) "set_iterator":=⟨_,h,rfl⟩
 refine wpAny_pyIter_slot hT zFx (dY zFx hT zIj ?_ (zKN _));show wpAny _ _ (ret (.ref it)) _ _ s;exact cS ⟨_,rfl,"set_iterator",_,hT,zAG.lookup,q⟩
theorem zDt(ho:s.heap.get? a=some o)(hc:o.cls=.type "set")(h:Q false s):wpAny (model prog w) A (Builtin.List.listLengthHint (.ref a)) Q E s:=by
 unfold Builtin.List.listLengthHint;refine cN (hJ ⟨o,ho,hc⟩ F.slot_set_len.lookup ?_);generalize hid:("set.__len__":String)=id0
 wp_delta
 rw[show splitId id0=some ("set","__len__") from by subst hid;decide +kernel];subst hid;refine cN (fV (T:="set") (b:=true) ⟨o,ho,hc⟩ (by rw[isSubtype_type];kernel_rfl) ?_);refine gu (fun hab=>absurd hab (by decide)) (fun u0=>?_);refine gu (fun u0=>?_) (fun hab=>absurd (by decide +kernel) hab);exact cN (wpAny_typeOf (T:="set") ⟨o,ho,hc⟩ (cS h))
end
end HI
namespace L2
open HI
variable {X:Cx} {e:Expr} {t:TA} {p p2 pos pos2:Pos}
end L2
namespace L3
open L2
section
variable {X:Cx} {e:Expr} {p p2 pos pos2:Pos}
end
end L3
namespace HT2
open PySem
noncomputable abbrev Probe:=SetTable.Probe
noncomputable def adv(mask:Nat)(p:Probe):Probe :=
 if p.more>0 then { p with j:=p.j+1,more:=p.more-1 } else
 { p with j:=(fE mask p.i p.perturb).1,more:=et mask (fE mask p.i p.perturb).1-(fE mask p.i p.perturb).1,i:=(fE mask p.i p.perturb).1,perturb:=(fE mask p.i p.perturb).2 }
theorem zDu(t:SetTable)(p:Probe):t.advance p=adv t.mask p:=by
 unfold SetTable.advance adv;split<;>rfl
theorem zIk(mask:Nat)(p:Probe)(d:Option Nat):adv mask { p with dummy:=d }={ adv mask p with dummy:=d }:=by
 unfold adv;split<;>rfl
noncomputable def ym(mask:Nat)(h:Int):Nat->Probe
 | 0=>{ j:=e8 h%(mask+1),more:=et mask (e8 h%(mask+1))-e8 h%(mask+1),i:=e8 h%(mask+1),perturb:=e8 h,dummy:=none }
 | n+1=>adv mask (ym mask h n)
noncomputable def lp(mask:Nat)(h:Int):Nat->Nat×Nat
 | 0=>(e8 h%(mask+1),e8 h)
 | n+1=>fE mask (lp mask h n).1 (lp mask h n).2
theorem zOH(mask i:Nat):et mask i-i<=9:=by
 unfold et;split<;>omega
section
variable {mask:Nat} {h:Int}
theorem zDE(e:ym mask h n=⟨i,r,i,q,none⟩):∀ m,m<=r->ym mask h (n+m)=⟨i+m,r-m,i,q,none⟩
 | 0,_=>by simpa using e
 | m+1,hm=>by
  have:=zDE e m (by omega);show adv mask (ym mask h (n+m))=_;rw[this];unfold adv;rw[if_pos (show r-m>0 by omega)];simp only[SetTable.Probe.mk.injEq,and_true];omega
theorem zKO:∀ k,∃ n,n<=10*k/\ym mask h n=⟨(lp mask h k).1,et mask (lp mask h k).1-(lp mask h k).1,(lp mask h k).1,(lp mask h k).2,none⟩
 | 0=>⟨0,da _,rfl⟩
 | k+1=>by
  obtain⟨n,hn,e⟩:=zKO k;have hr:=zOH mask (lp mask h k).1;have:=zDE e _ (da _);refine⟨n+(et mask (lp mask h k).1-(lp mask h k).1)+1,by omega,?_⟩;show adv mask (ym mask h _)=_;rw[this];unfold adv;rw[if_neg (by simp)];rfl
theorem zKP:∀ k,(lp mask h k).2=e8 h / 32 ^ k
 | 0=>by simp[lp]
 | k+1=>by
  show(fE mask (lp mask h k).1 (lp mask h k).2).2=_;unfold fE;simp only;rw[zKP k,Nat.div_div_eq_div_mul,Nat.pow_succ]
theorem zMG:e8 h<2 ^ 64:=by
 unfold e8;have h1:=Int.emod_lt_of_pos h (show(0:Int)<2 ^ 64 by decide);have h2:=Int.emod_nonneg h (show(2 ^ 64:Int)≠0 by decide);omega
theorem zQB(hk:13<=k):(lp mask h k).2=0:=by
 rw[zKP];apply Nat.div_eq_of_lt;have h1:=zMG (h:=h);have h2:32 ^ 13<=32 ^ k:=Nat.pow_le_pow_right (by omega) hk;have h3:(2:Nat) ^ 64<=32 ^ 13:=by decide
 omega
noncomputable def fM(M x:Nat):Nat:=(x*5+1)%M
noncomputable def itr(M:Nat):Nat->Nat->Nat
 | 0,x=>x
 | m+1,x=>fM M (itr M m x)
theorem zDF(M:Nat)(a:Nat):∀ b x,itr M (a+b) x=itr M a (itr M b x):=by
 induction a with
 | zero=>intro b x;simp[itr]
 | succ a ih=>intro b x;rw[Nat.add_right_comm];show fM M _=fM M _;rw[ih]
theorem zKQ:∀ m,(lp mask h (13+m)).1=itr (mask+1) m (lp mask h 13).1
 | 0=>rfl
 | m+1=>by
  show(fE mask (lp mask h (13+m)).1 (lp mask h (13+m)).2).1=fM _ _;unfold fE fM;simp only;rw[zQB (by omega),zKQ m]
theorem zPM(k:Nat):(lp mask h k).1<mask+1:=by
 cases k with
 | zero=>exact Nat.mod_lt _ (by omega)
 | succ k=>exact Nat.mod_lt _ (by omega)
end
noncomputable def Cyc(M:Nat):Prop:=∀ i,i<M->∀ j,j<M->∃ m,m<M/\itr M m i=j
noncomputable def orb(M:Nat):Nat->Nat->List Nat
 | 0,_=>[]
 | n+1,x=>x::orb M n (fM M x)
theorem zIl(M:Nat)(m x:Nat):itr M (m+1) x=itr M m (fM M x):=by
 have:=zDF M m 1 x;simpa[itr] using this
theorem zHo:∀ {n x j:Nat},j∈orb M n x->∃ m,m<n/\itr M m x=j
 | 0,_,_,h=>by cases h
 | n+1,x,j,h=>by
  rcases dN.mp h with rfl | h
  ·exact⟨0,by omega,rfl⟩
  ·obtain⟨m,hm,e⟩:=zHo h
   exact⟨m+1,by omega,by rw[zIl];exact e⟩
theorem zCo(hall:((dq M).all fun j=>(orb M M 0).contains j)=true)(hM:itr M M 0=0):Cyc M:=by
 have at0:∀ j,j<M->∃ m,m<M/\itr M m 0=j:=fun j hj=>by
  have:=gg.mp hall j (eS.mpr hj);exact zHo (by simpa using this)
 intro i hi j hj;obtain⟨a,ha,rfl⟩:=at0 i hi;obtain⟨b,hb,rfl⟩:=at0 j hj;rcases eM b a with hab | hab
 ·refine⟨M+b-a,by omega,?_⟩
  rw[<-zDF,show M+b-a+a=b+M by omega,zDF,hM]
 ·refine⟨b-a,by omega,?_⟩
  rw[<-zDF,show b-a+a=b by omega]
theorem zQC:Cyc 8:=zCo (by decide +kernel) (by decide +kernel)
theorem zPN:Cyc 16:=zCo (by decide +kernel) (by decide +kernel)
theorem zPO:Cyc 32:=zCo (by decide +kernel) (by decide +kernel)
theorem zPP:Cyc 64:=zCo (by decide +kernel) (by decide +kernel)
theorem zOI:Cyc 128:=zCo (by decide +kernel) (by decide +kernel)
theorem zOJ:Cyc 256:=zCo (by decide +kernel) (by decide +kernel)
noncomputable def Msk(mask:Nat):Prop:=mask=7\/mask=15\/mask=31\/mask=63\/mask=127\/mask=255
theorem Msk.cyc(h:Msk mask):Cyc (mask+1):=by
 rcases h with rfl | rfl | rfl | rfl | rfl | rfl
 ·exact zQC
 ·exact zPN
 ·exact zPO
 ·exact zPP
 ·exact zOI
 ·exact zOJ
theorem Msk.odd(h:Msk mask):(mask%2==0)=false:=by rcases h with rfl | rfl | rfl | rfl | rfl | rfl<;>rfl
theorem heads(hm:Cyc (mask+1))(hj:j<=mask):∃ k,k<=13+mask/\(lp mask h k).1=j:=by
 obtain⟨m,h1,h2⟩:=hm (lp mask h 13).1 (zPM 13) j (by omega);exact⟨13+m,by omega,by rw[zKQ];exact h2⟩
theorem zOK(hm:Cyc (mask+1))(hj:j<=mask):∃ n,n<=10*(13+mask)/\(ym mask h n).j=j:=by
 obtain⟨k,h1,h2⟩:=heads (h:=h) hm hj;obtain⟨n,h3,h4⟩:=zKO (mask:=mask) (h:=h) k;exact⟨n,by omega,by rw[h4];exact h2⟩
open HI (Ris)
noncomputable def Ent(t:SetTable)(es:Array (Int×Value))(j:Nat)(h:Int)(x:Value):Prop:=∃ i:Nat,t.place[i]?=some j/\es[i]?=some (h,x)
noncomputable def zCp(t:SetTable)(j:Nat):Prop:=t.slot j≠.empty
theorem zFz(hr:Ris xs)(e:xs[i]?=some j):dA xs j=i:=by
 obtain⟨b1,b2⟩:=HI.zDr (j:=j) hr;obtain⟨hi,e⟩:=fI.mp e;rcases Nat.lt_trichotomy (dA xs j) i with z | z | z
 ·have h1:=b2 (dA xs j) (by omega) (da _)
  have h2:=hr.lt z hi;omega
 ·exact z
 ·have:=b1 i hi z
  omega
theorem zEh{t:SetTable}(hr:Ris t.place){i j:Nat}(e:t.place[i]?=some j):t.slot j=.live i:=by
 unfold SetTable.slot;simp only;rw[zFz hr e,e];simp
theorem zMH{t:SetTable}{i j:Nat}(e:t.slot j=.live i):t.place[i]?=some j:=by
 unfold SetTable.slot at e;simp only at e;split at e
 ·rename_i q
  cases e;simpa using q
 ·split at e<;>cases e
theorem zE9(hr:Ris xs):fT xs j=true↔j∈xs:=by
 unfold fT;constructor
 ·intro q
  have q:xs[dA xs j]?=some j:=by simpa using q
  exact Array.mem_of_getElem? q
 ·intro q
  obtain⟨i,hi,e⟩:=Array.getElem_of_mem q;have e':xs[i]?=some j:=by simp[hi,e]
  rw[zFz hr e',e'];simp
theorem zAi(hr:Ris t.place)(hd:Ris t.dummies):zCp t j↔j∈t.place\/j∈t.dummies:=by
 unfold zCp;constructor
 ·intro q
  unfold SetTable.slot at q;simp only at q;split at q
  ·rename_i z
   exact .inl (Array.mem_of_getElem? (by simpa using z))
  ·split at q
   ·rename_i z
    exact .inr ((zE9 hd).mp z)
   ·exact(q rfl).elim
 ·rintro(q | q) z
  ·obtain⟨i,hi,e⟩:=Array.getElem_of_mem q
   rw[zEh hr (i:=i) (by simp[hi,e])] at z;cases z
  ·unfold SetTable.slot at z
   simp only at z;split at z
   ·cases z
   ·rw[if_pos ((zE9 hd).mpr q)] at z
    cases z
structure Tab (t:SetTable) (es:Array (Int×Value)):Prop where
 msk:Msk t.mask
 size:t.place.size=es.size
 ris:Ris t.place
 risD:Ris t.dummies
 le:∀ j∈t.place,j<=t.mask
 leD:∀ j∈t.dummies,j<=t.mask
 room:t.fill<=t.mask
 way:∀ j h x,Ent t es j h x->∃ n,(ym t.mask h n).j=j/\∀ m,m<n->zCp t (ym t.mask h m).j
 dis:∀ j∈t.dummies,j∉t.place
theorem zF0{P:Nat->Prop}[DecidablePred P]{M:Nat}{l:List Nat}(h:∀ j,j<M->P j->j∈l)(hl:l.length<M):∃ j,j<M/\¬ P j:=by
 by_cases q:∃ j,j<M/\¬ P j
 ·exact q
 ·have hs:dq M ⊆ l:=fun j hj=>by
   have hj:=eS.mp hj;by_cases z:P j
   ·exact h j hj z
   ·exact(q ⟨j,hj,z⟩).elim
  have:=List.Nodup.length_le_of_subset List.nodup_range hs;simp at this;omega
theorem Tab.free(T:Tab t es):∃ j,j<=t.mask/\t.slot j=.empty:=by
 have:=zF0 (P:=fun j=>t.slot j≠.empty) (M:=t.mask+1) (l:=t.place.toList++t.dummies.toList) (fun j u0 q=>by
  rcases(zAi T.ris T.risD).mp q with z | z
  ·exact eW _ (by simpa using z)
  ·exact dU _ (by simpa using z)) (by
  have:=T.room;unfold SetTable.fill at this;simp;omega)
 obtain⟨j,h1,h2⟩:=this;exact⟨j,by omega,Decidable.not_not.mp h2⟩
theorem Tab.stop(T:Tab t es)(h:Int):∃ N,N<=10*(13+t.mask)/\t.slot (ym t.mask h N).j=.empty/\∀ m,m<N->zCp t (ym t.mask h m).j:=by
 obtain⟨j,hj,he⟩:=T.free;obtain⟨n,hn,e⟩:=zOK (h:=h) T.msk.cyc hj;have:∀ n,t.slot (ym t.mask h n).j=.empty->∃ N,N<=n/\t.slot (ym t.mask h N).j=.empty/\∀ m,m<N->zCp t (ym t.mask h m).j:=by
  intro n
  induction n using Nat.strongRecOn with
  | ind n ih =>
   intro q;by_cases z:∃ m,m<n/\t.slot (ym t.mask h m).j=.empty
   ·obtain⟨m,hm,q'⟩:=z
    obtain⟨N,h1,h2⟩:=ih m hm q';exact⟨N,by omega,h2⟩
   ·exact⟨n,da _,q,fun m hm q'=>z ⟨m,hm,q'⟩⟩
 obtain⟨N,h1,h2,h3⟩:=this n (by rw[e];exact he);exact⟨N,by omega,h2,h3⟩
open HI (Ris)
noncomputable abbrev At(mask:Nat)(h:Int)(n:Nat)(d:Option Nat):Probe:={ ym mask h n with dummy:=d }
theorem At.adv:adv mask (At mask h n d)=At mask h (n+1) d:=zIk mask (ym mask h n) d
noncomputable def zEi(t:SetTable)(h:Int)(N:Nat)(d:Option Nat):Prop:=∀ j,d=some j->t.slot j=.dummy/\∃ m,m<N/\(ym t.mask h m).j=j
theorem zKR(hs:t.slot (ym t.mask h n).j=.empty):fP.go t f h (fuel+1) (At t.mask h n d)=some (.empty (ym t.mask h n).j d):=by
 rw[fP.go];simp only[hs]
theorem zKS(hs:t.slot (ym t.mask h n).j=.dummy):fP.go t f h (fuel+1) (At t.mask h n d)=fP.go t f h fuel (At t.mask h (n+1) (some (ym t.mask h n).j)):=by
 rw[fP.go];simp only[hs];rw[zDu];exact congrArg _ (At.adv (n:=n) (d:=some (ym t.mask h n).j))
theorem zMI(hs:t.slot (ym t.mask h n).j=.live i):fP.go t f h (fuel+1) (At t.mask h n d)=if f i=h then some (.candidate (ym t.mask h n).j i (At t.mask h (n+1) d)) else fP.go t f h fuel (At t.mask h (n+1) d):=by
 rw[fP.go];simp only[hs];have e:t.advance (At t.mask h n d)=At t.mask h (n+1) d:=by rw[zDu];exact At.adv
 rw[e];by_cases hh:f i=h
 ·rw[if_pos hh,if_pos (by simpa using hh)]
 ·rw[if_neg hh,if_neg (by simpa using hh)]
theorem zIm(hN:t.slot (ym t.mask h N).j=.empty)(hF:∀ m,m<N->zCp t (ym t.mask h m).j) :
  ∀(k n fuel:Nat) (d:Option Nat),N-n=k->n<=N->k<fuel->zEi t h N d ->
   (∃ d',zEi t h N d'/\fP.go t f h fuel (At t.mask h n d)=some (.empty (ym t.mask h N).j d')/\∀ m,n<=m->m<N->∀ i,t.slot (ym t.mask h m).j=.live i->f i≠h) \/
   (∃ m i d',n<=m/\m<N/\zEi t h N d'/\t.slot (ym t.mask h m).j=.live i/\f i=h/\fP.go t f h fuel (At t.mask h n d)=some (.candidate (ym t.mask h m).j i (At t.mask h (m+1) d'))/\∀ m',n<=m'->m'<m->∀ i',t.slot (ym t.mask h m').j=.live i'->f i'≠h):=by
 intro k
 induction k with
 | zero =>
  intro n fuel d hk hn hf hd;obtain rfl:n=N:=by omega
  obtain⟨fuel,rfl⟩:∃ g,fuel=g+1:=⟨fuel-1,by omega⟩
  exact .inl ⟨d,hd,zKR hN,fun m h1 h2=>by omega⟩
 | succ k ih =>
  intro n fuel d hk hn hf hd;have lt:n<N:=by omega
  obtain⟨fuel,rfl⟩:∃ g,fuel=g+1:=⟨fuel-1,by omega⟩
  have fl:=hF n lt;cases hs:t.slot (ym t.mask h n).j with
  | empty=>exact(fl hs).elim
  | dummy =>
   rw[zKS hs];have hd':zEi t h N (some (ym t.mask h n).j):=fun j e=>by cases e;exact⟨hs,n,lt,rfl⟩
   rcases ih (n+1) fuel (some (ym t.mask h n).j) (by omega) (by omega) (by omega) hd' with ⟨d',a1,a2,a3⟩ | ⟨m,i,d',a1,a2,a3,a4,a5,a6,a7⟩
   ·refine .inl ⟨d',a1,a2,fun m h1 h2 i q=>?_⟩
    rcases gH h1 with z | z
    ·subst z;rw[hs] at q;cases q
    ·exact a3 m (by omega) h2 i q
   ·refine .inr ⟨m,i,d',by omega,a2,a3,a4,a5,a6,fun m' h1 h2 i' q=>?_⟩
    rcases gH h1 with z | z
    ·subst z;rw[hs] at q;cases q
    ·exact a7 m' (by omega) h2 i' q
  | live i0 =>
   rw[zMI hs];by_cases hh:f i0=h
   ·exact .inr ⟨n,i0,d,da _,lt,hd,hs,hh,if_pos hh,fun m' h1 h2=>by omega⟩
   ·rw[if_neg hh]
    rcases ih (n+1) fuel d (by omega) (by omega) (by omega) hd with ⟨d',a1,a2,a3⟩ | ⟨m,i,d',a1,a2,a3,a4,a5,a6,a7⟩
    ·refine .inl ⟨d',a1,a2,fun m h1 h2 i q=>?_⟩
     rcases gH h1 with z | z
     ·subst z;rw[hs] at q;cases q;exact hh
     ·exact a3 m (by omega) h2 i q
    ·refine .inr ⟨m,i,d',by omega,a2,a3,a4,a5,a6,fun m' h1 h2 i' q=>?_⟩
     rcases gH h1 with z | z
     ·subst z;rw[hs] at q;cases q;exact hh
     ·exact a7 m' (by omega) h2 i' q
end HT2
namespace HT2
open PySem PySem.Spec
open HI (Ris)
section
variable {prog:Program} {w:World} {P:Addr->Prop} {A:Around} {E:Value->Shared->Prop} {s:Shared}
noncomputable abbrev TK(prog:Program)(w:World)(P:Addr->Prop)(h:Heap)(ns:List Int)(b:Addr):Prop:=IsTupleKey (intKind prog w) h ns b/\P b
noncomputable abbrev hT(prog:Program)(w:World)(ns:List Int):Int:=tupleKeyHash (intKind prog w) ns
theorem zF1(h:ItemsAre (intKind prog w) ns vs):∀ v∈vs,∃ k t,v=.int k t:=by
 induction h with
 | nil=>intro v hv;cases hv
 | cons h1 _ ih =>
  intro v hv;rcases dN.mp hv with rfl | hv
  ·obtain⟨t,rfl⟩:=Value.isInt_shape h1;exact⟨_,_,rfl⟩
  ·exact ih v hv
theorem zKT(hb:TK prog w P s.heap ns b)(h:Q false s):wpAny (model prog w) A (ofAClassStatement 8 (.ref b)) Q E s:=by
 obtain⟨o,its,n,ho,hc,hd,hi⟩:=hb.1;unfold ofAClassStatement;refine cN (wpAny_typeOf hb.1.typeIs ?_);simp only[beq_self_eq_true,↓reduceIte,pure_bind,fQ,cQ];refine cN (fN ho hd ?_);simp only;refine cN ?_;rw[<-Array.forIn_toList];refine gf _ (fun rest r s'=>r.1=none/\s'=s/\∀ v∈rest,∃ k t,v=Value.int k t) _ ?_ ?_ _ _ ⟨rfl,rfl,zF1 hi⟩
 ·rintro v rest r s' ⟨hr,rfl,hall⟩
  obtain⟨k,t,rfl⟩:=hall v dH;unfold ofAClassStatement;refine cN (cS ?_);simp only[cQ,if_false];exact cS ⟨rfl,rfl,fun u hu'=>hall u (dC _ hu')⟩
 ·rintro⟨r1,r2⟩ s' ⟨hr,rfl,u0⟩
  simp only at hr;subst hr;exact cS h
theorem zKU(hb:TK prog w P s.heap ns b)(h:Q true s):wpAny (model prog w) A (hashByValue 8 (.ref b)) Q E s:=by
 obtain⟨o,its,n,ho,hc,hd,hi⟩:=hb.1;unfold hashByValue;refine cN (hJ hb.1.typeIs F.slot_tuple_hash.lookup ?_);simp only;refine cN (fN ho hd ?_);simp only[Option.getD_some];refine cN ?_;rw[<-Array.forIn_toList];refine gf _ (fun rest r s'=>r.1=none/\s'=s/\∀ v∈rest,∃ k t,v=Value.int k t) _ ?_ ?_ _ _ ⟨rfl,rfl,zF1 hi⟩
 ·rintro v rest r s' ⟨hr,rfl,hall⟩
  obtain⟨k,t,rfl⟩:=hall v dH;unfold hashByValue;refine cN (cS ?_);simp only[fQ,cQ,if_false];exact cS ⟨rfl,rfl,fun u hu'=>hall u (dC _ hu')⟩
 ·rintro⟨r1,r2⟩ s' ⟨hr,rfl,u0⟩
  simp only at hr;subst hr;exact cS h
theorem zMJ(hb:TK prog w P s.heap ns b)(hl:∀ v∈l,∃ c ms,v=.ref c/\TK prog w P s.heap ms c)(h:Q false s):wpAny (model prog w) A (searchCouldBeSeen (.ref b) l) Q E s:=by
 unfold searchCouldBeSeen;refine cN ?_;refine gf _ (fun rest r s'=>r.1=none/\s'=s/\∀ v∈rest,∃ c ms,v=Value.ref c/\TK prog w P s.heap ms c) _ ?_ ?_ _ _ ⟨rfl,rfl,hl⟩
 ·rintro v rest r s' ⟨hr,rfl,hall⟩
  obtain⟨c,ms,rfl,hc⟩:=hall v dH;have go:∀ u∈rest,∃ c ms,u=Value.ref c/\TK prog w P s'.heap ms c:=fun u hu'=>hall u (dC _ hu');dsimp only;by_cases e:(b==c)=true
  ·rw[if_pos (by simp[e])]
   exact cS ⟨rfl,rfl,go⟩
  ·rw[if_neg (by simp[e,carriedByValue])]
   refine cN ((tupleKind (intKind prog w)).quiet (k:=ns) hb.1 ?_);simp only[fQ,cQ,if_false];refine cN ((tupleKind (intKind prog w)).quiet (k:=ms) hc.1 ?_);simp only[fQ,cQ,if_false];refine cN (zKT hb ?_);simp only[cQ,if_false];refine cN (zKT hc ?_);simp only[cQ,if_false];exact cS ⟨rfl,rfl,go⟩
 ·rintro⟨r1,r2⟩ s' ⟨hr,rfl,u0⟩
  simp only at hr;subst hr;exact cS h
noncomputable def OkT(prog:Program)(w:World)(P:Addr->Prop)(h:Heap)(es:Array (Int×Value)):Prop:=∀(i:Nat) (e:Int×Value),es[i]?=some e->∃ c ms,e=(hT prog w ms,.ref c)/\TK prog w P h ms c
noncomputable def sf(es:Array (Int×Value))(i:Nat):Int:=(es[i]?.map (·.1)).getD 0
theorem zOL{b:Addr}{ns:List Int}{t:SetTable}{l:List Value}{K1 K2:Sem SetFound}{Q:SetFound->Shared->Prop}(hb:TK prog w P s.heap ns b)(hl:∀ v∈l,∃ c ms,v=.ref c/\TK prog w P s.heap ms c)(h:wpAny (model prog w) A K2 Q E s) :
  wpAny (model prog w) A (if (!t.led)=true then searchCouldBeSeen (.ref b) l>>=fun c=>if c=true then K1 else K2 else K2) Q E s:=by
 split
 ·refine cN (zMJ hb hl ?_)
  rw[if_neg (by simp)];exact h
 ·exact h
theorem zPQ(hA:A.units<cLine)(ho:s.heap.get? a=some o)(hd:o.data=.set es ep t)(T:Tab t es)(ok:OkT prog w P s.heap es)(hb:TK prog w P s.heap ns b)
   (hNle:N<=10*(13+t.mask)) (hN:t.slot (ym t.mask (hT prog w ns) N).j=.empty) (hF:∀ m,m<N->zCp t (ym t.mask (hT prog w ns) m).j)
  (q1:∀(i:Nat) c,es[i]?=some (hT prog w ns,.ref c)->TK prog w P s.heap ns c->Q (.there (if adding then none else some i)) s)
  (q2:(∀(i:Nat) e c ms,es[i]?=some e->e.2=.ref c->TK prog w P s.heap ms c->ms≠ns)->∀ d,zEi t (hT prog w ns) N d->Q (.free (d.getD (ym t.mask (hT prog w ns) N).j) d.isSome) s) :
  ∀(k n fuel:Nat) (d:Option Nat) (stand:Option SetTable.Probe),N-n=k->n<=N->k<fuel->zEi t (hT prog w ns) N d->stand.getD (t.probeStart (hT prog w ns))=At t.mask (hT prog w ns) n d ->
   (∀ m,m<n->∀(i:Nat),t.slot (ym t.mask (hT prog w ns) m).j=.live i->∀ e c ms,es[i]?=some e->e.2=.ref c->TK prog w P s.heap ms c->ms≠ns)->wpAny (model prog w) A (setSearchFrom a (.ref b) (hT prog w ns) adding fuel stand) Q E s:=by
 have hft:t.fits es.size=true:=by
  unfold SetTable.fits;simp[T.size,T.room]
 have hgw:t.gaveWay=false:=T.msk.odd;intro k
 induction k using Nat.strongRecOn with
 | ind k ih =>
  intro n fuel d stand hk hn hf hdm hst hno;obtain⟨fuel,rfl⟩:∃ g,fuel=g+1:=⟨fuel-1,by omega⟩
  unfold setSearchFrom;refine cN (ef ho hd hft ?_);dsimp only;rw[hgw];simp only[cQ,↓reduceIte];rw[hst];have met:=zIm (t:=t) (f:=sf es) (h:=hT prog w ns) hN hF (N-n) n (10*gT t.mask) d rfl hn (by
   unfold gT;omega) hdm
  generalize hp:fP t _ _ _=r;rcases met with ⟨d',a1,a2,a3⟩ | ⟨m,i,d',a1,a2,a3,a4,a5,a6,a7⟩
  ·have hr:r=some (.empty (ym t.mask (hT prog w ns) N).j d'):=hp.symm.trans a2
   subst hr;dsimp only;have none:∀(i:Nat) e c ms,es[i]?=some e->e.2=.ref c->TK prog w P s.heap ms c->ms≠ns:=by
    intro i e c ms e1 e2 e3 e4;subst e4;obtain⟨c',ms',z1,z2⟩:=ok i e e1;have:c'=c:=by rw[z1] at e2;cases e2;rfl
    subst this;have:=z2.1.inj e3.1;subst this;have hi:i<t.place.size:=by rw[T.size];exact(fI.mp e1).1
    have pl:t.place[i]?=some t.place[i]:=by simp[hi]
    obtain⟨n',w1,w2⟩:=T.way t.place[i] (hT prog w ms') (.ref c') ⟨i,pl,by rw[e1,z1]⟩;have sl:=zEh T.ris pl;have lt:n'<N:=by
     rcases Nat.lt_trichotomy n' N with z | z | z
     ·exact z
     ·subst z;rw[w1,sl] at hN;cases hN
     ·exact(w2 N z hN).elim
    rw[<-w1] at sl;rcases eM n' n with z | z
    ·exact hno n' z i sl e c' ms' e1 e2 e3 rfl
    ·refine a3 n' z lt i sl ?_
     unfold sf;rw[e1,z1];rfl
   cases d' with
   | none=>exact cS (q2 none Option.none a1)
   | some dj =>
    dsimp only;have hdj:=(a1 dj rfl).1;rw[if_neg (by simp[hdj])];exact cS (q2 none (some dj) a1)
  ·have hr:r=some (.candidate (ym t.mask (hT prog w ns) m).j i (At t.mask (hT prog w ns) (m+1) d')):=hp.symm.trans a6
   subst hr;dsimp only;have pl:=zMH a4;have hi:i<es.size:=by rw[<-T.size];exact(fI.mp pl).1
   obtain⟨c,ms,z1,z2⟩:=ok i es[i] (by simp[hi]);have ei:es[i]?=some (hT prog w ms,.ref c):=by simp[hi,z1]
   have hseen:∀ v∈(Array.filter (fun x=>x.1==hT prog w ns) es).toList.map (fun x=>x.2),∃ c ms,v=.ref c/\TK prog w P s.heap ms c:=fun v hv=>by
    obtain⟨e,he,rfl⟩:=dL.mp hv;rw[Array.toList_filter] at he;obtain⟨i',hi',e'⟩:=fJ (fj.mp he).1;obtain⟨c',ms',y1,y2⟩:=ok i' e (by rw[<-e'];simpa using hi');exact⟨c',ms',by rw[y1],y2⟩
   refine zOL hb hseen ?_;simp only[ei];refine cN (dZ ((tupleKind (intKind prog w)).eqBool (x:=ms) (y:=ns) hA z2.1 hb.1 ?_));refine cN (ef ho hd hft ?_);dsimp only;have sm:t.sameMemory t.moves t.mask=some true:=by
    unfold SetTable.sameMemory;simp
   by_cases e:ms=ns
   ·subst e
    cases adding with
    | true =>
     rw[if_pos (by simp)];exact cS (q1 i c ei z2)
    | false =>
     rw[if_neg (by simp),sm];simp only[↓reduceIte,a4,ei];refine cN (wpAny_isSame_ref_self ?_);simp only[↓reduceIte,pure_bind,decide_true];exact cS (q1 i c ei z2)
   ·rw[if_neg (by simp[e]),sm]
    simp only[↓reduceIte,a4,ei];refine cN (wpAny_isSame_ref_self ?_);simp only[↓reduceIte,pure_bind,decide_eq_true_eq,e];refine ih (N-(m+1)) (by omega) (m+1) fuel d' _ rfl (by omega) (by omega) a3 rfl ?_;intro m' hm' i' sl' e' c' ms' f1 f2 f3 f4;subst f4;rcases eM m' n with z | z
    ·exact hno m' z i' sl' e' c' ms' f1 f2 f3 rfl
    ·rcases gH (Nat.le_of_lt_succ hm') with y | y
     ·subst y
      rw[a4] at sl';cases sl';rw[ei] at f1;cases f1;cases f2;exact e (z2.1.inj f3.1)
     ·obtain⟨c2,ms2,y1,y2⟩:=ok i' e' f1
      have:c2=c':=by rw[y1] at f2;cases f2;rfl
      subst this;have:=y2.1.inj f3.1;subst this;refine a7 m' z y i' sl' ?_;unfold sf;rw[f1,y1];rfl
end
open HI (Ris)
theorem zDv(mask:Nat)(h:Int):∀ n,(ym mask h n).j+(ym mask h n).more<=mask/\(ym mask h n).i<=mask
 | 0=>by
  have hi:e8 h%(mask+1)<=mask:=by have:=Nat.mod_lt (e8 h) (show 0<mask+1 by omega);omega
  show e8 h%(mask+1)+(et mask (e8 h%(mask+1))-e8 h%(mask+1))<=mask/\e8 h%(mask+1)<=mask;generalize e8 h%(mask+1)=i at *;unfold et;split<;>omega
 | n+1=>by
  have ih:=zDv mask h n;show(adv mask (ym mask h n)).j+(adv mask (ym mask h n)).more<=mask/\(adv mask (ym mask h n)).i<=mask;unfold adv;split
  ·simp only
   omega
  ·simp only
   have hi:(fE mask (ym mask h n).i (ym mask h n).perturb).1<=mask:=by
    unfold fE;simp only;have:=Nat.mod_lt ((ym mask h n).i*5+1+(ym mask h n).perturb / 32) (show 0<mask+1 by omega);omega
   generalize (fE mask (ym mask h n).i (ym mask h n).perturb).1=i at *;unfold et;split<;>omega
theorem zDG:Ent t es j h x↔(j,(h,x))∈t.place.toList.zip es.toList:=by
 unfold Ent;rw[List.mem_iff_getElem?];constructor
 ·rintro⟨i,e1,e2⟩
  exact⟨i,by rw[gU];simpa using⟨e1,e2⟩⟩
 ·rintro⟨i,e⟩
  rw[gU] at e;exact⟨i,by simpa using e.1,by simpa using e.2⟩
theorem zMK{α β:Type}{l:List α}{l':List β}(hl:l.length=l'.length)(p:Nat)(a:α)(b:β)(z:α×β):z∈(l.take p++a::l.drop p).zip (l'.take p++b::l'.drop p)↔z=(a,b)\/z∈l.zip l':=by
 rw[List.zip_append (by simp[hl])];have e:l.zip l'=(l.take p).zip (l'.take p)++(l.drop p).zip (l'.drop p):=by
  rw[<-List.zip_append (by simp[hl]),eG,eG]
 rw[e];simp only[hW,dQ,dN];constructor
 ·rintro(h | h | h)
  ·exact .inr (.inl h)
  ·exact .inl h
  ·exact .inr (.inr h)
 ·rintro(h | h | h)
  ·exact .inr (.inl h)
  ·exact .inl h
  ·exact .inr (.inr h)
theorem zZ(xs:Array α)(p:Nat):(dJ xs p).toList=xs.toList.take p++xs.toList.drop (p+1):=by
 simp[dJ,List.extract_eq_take_drop,List.take_of_length_le]
theorem zFA{α:Type}(l:List α)(p:Nat):(l.take p++l.drop (p+1)).Sublist l:=by
 conv=>rhs;rw[<-eG p l]
 exact(List.Sublist.refl _).append (by rw[<-List.drop_drop];exact List.drop_sublist 1 _)
theorem zKV{α:Type}{l:List α}{p:Nat}{x y:α}(hp:l[p]?=some x)(hy:y∈l)(hne:y≠x):y∈l.take p++l.drop (p+1):=by
 rw[<-eG p l] at hy;rcases dQ.mp hy with h | h
 ·exact eW _ h
 ·obtain⟨hlt,e⟩:=di.mp hp
  rw[List.drop_eq_getElem_cons hlt,e] at h;rcases dN.mp h with h | h
  ·exact(hne h).elim
  ·exact dU _ h
theorem zHp{α:Type}{l:List α}{p:Nat}{x:α}(hp:l[p]?=some x):l.Perm (x::(l.take p++l.drop (p+1))):=by
 obtain⟨hlt,e⟩:=di.mp hp
 conv=>lhs;rw[<-eG p l,List.drop_eq_getElem_cons hlt,e]
 exact List.perm_middle
theorem zKW(hr:Ris xs)(hp:xs.toList[p]?=some j):j∉xs.toList.take p++xs.toList.drop (p+1):=by
 have nd:xs.toList.Nodup:=fX.imp (fun h=>dP h) hr;exact(fF.mp ((zHp hp).nodup_iff.mp nd)).1
theorem zEj(hr:Ris xs)(p:Nat):Ris (dJ xs p):=by
 unfold Ris;rw[zZ];exact fX.sublist (zFA _ _) hr
section
variable {t:SetTable} {es:Array (Int×Value)} {j:Nat} {h:Int} {x:Value}
theorem zFB(hs:t.slot j=.dummy):fT t.dummies j=true:=by
 unfold SetTable.slot at hs;simp only at hs;split at hs
 ·cases hs
 ·split at hs
  ·rename_i q;exact q
  ·cases hs
theorem zML(T:Tab t es):Ent (t.put j).1 (dX es (t.put j).2 (h,x)) j' h' x'↔(j'=j/\h'=h/\x'=x)\/Ent t es j' h' x':=by
 rw[zDG,zDG];show(j',(h',x'))∈(dX t.place (dA t.place j) j).toList.zip (dX es (dA t.place j) (h,x)).toList↔_;rw[SetTable.toList_insertAt,SetTable.toList_insertAt,zMK (by simpa using T.size)];simp
theorem zF2(T:Tab t es)(hnl:t.slot j=.empty\/t.slot j=.dummy)(rD:Ris (t.put j).1.dummies)(rP:Ris (t.put j).1.place)(hf:zCp t i):zCp (t.put j).1 i:=by
 rw[zAi rP rD];have pm:∀ y,y∈(t.put j).1.place↔y=j\/y∈t.place:=fun y=>by
  show y∈dX t.place (dA t.place j) j↔_;rw[<-eu,(fh _ _ _).mem_iff];simp[or_comm]
 rcases(zAi T.ris T.risD).mp hf with q | q
 ·exact .inl ((pm i).mpr (.inr q))
 ·by_cases e:i=j
  ·exact .inl ((pm i).mpr (.inl e))
  ·refine .inr ?_
   show i∈(if fT t.dummies j then dJ t.dummies (dA t.dummies j) else t.dummies);split
   ·rename_i hh
    rw[<-eu,zZ];have hp:t.dummies.toList[dA t.dummies j]?=some j:=by
     unfold fT at hh;simpa using hh
    exact zKV hp (by simpa using q) e
   ·exact q
theorem Tab.put(T:Tab t es)(hj:(ym t.mask h n).j=j)(hw:∀ m,m<n->zCp t (ym t.mask h m).j)(hnl:t.slot j=.empty\/t.slot j=.dummy)(rm:t.fill+1<=t.mask) :
  Tab (t.put j).1 (dX es (t.put j).2 (h,x))/\(t.put j).1.fill<=t.fill+1/\(t.slot j=.dummy->(t.put j).1.fill=t.fill):=by
 have hnl':t.place[dA t.place j]?≠some j:=HI.zKM hnl;have rP:Ris (t.put j).1.place:=HI.zHk T.ris hnl';have rD:Ris (t.put j).1.dummies:=by
  show Ris (if fT t.dummies j then dJ t.dummies (dA t.dummies j) else t.dummies);split
  ·exact zEj T.risD _
  ·exact T.risD
 have jm:j<=t.mask:=by have:=(zDv t.mask h n).1;omega
 have pz:(t.put j).1.place.size=t.place.size+1:=by
  have:=(fh t.place (dA t.place j) j).length_eq;show(dX t.place (dA t.place j) j).size=_;simpa using this
 have dz:(t.put j).1.dummies.size<=t.dummies.size/\(t.slot j=.dummy->(t.put j).1.dummies.size+1=t.dummies.size):=by
  show(if fT t.dummies j then dJ t.dummies (dA t.dummies j) else t.dummies).size<=_/\(_->(if fT t.dummies j then dJ t.dummies (dA t.dummies j) else t.dummies).size+1=_)
  split
  ·rename_i hh
   have hp:t.dummies.toList[dA t.dummies j]?=some j:=by
    unfold fT at hh;simpa using hh
   have hlt:=(di.mp hp).1;have e:(dJ t.dummies (dA t.dummies j)).size=t.dummies.size-1:=by
    rw[<-dg,zZ,dO,eK,gF];simp only[dg] at *;omega
   simp only[dg] at hlt;omega
  ·rename_i hh
   exact⟨da _,fun q=>(hh (zFB q)).elim⟩
 have fz:(t.put j).1.fill=(t.put j).1.place.size+(t.put j).1.dummies.size:=rfl;have fz0:t.fill=t.place.size+t.dummies.size:=rfl;refine⟨⟨T.msk,?_,rP,rD,fun y hy=>?_,fun y hy=>?_,?_,fun j' h' x' he=>?_,fun y hy hy'=>?_⟩,by omega,fun q=>by have:=dz.2 q;omega⟩
 ·rw[pz,T.size]
  have:=(fh es (t.put j).2 (h,x)).length_eq;simp at this;omega
 ·have:y∈dX t.place (dA t.place j) j:=hy
  rw[<-eu,(fh _ _ _).mem_iff] at this;rcases(by simpa using this:y∈t.place\/y=j) with q | q
  ·exact T.le y q
  ·rw[q];exact jm
 ·have:y∈(if fT t.dummies j then dJ t.dummies (dA t.dummies j) else t.dummies):=hy
  refine T.leD y ?_;split at this
  ·rw[<-eu,zZ] at this
   simpa using(zFA _ _).subset this
  ·exact this
 ·show(t.put j).1.fill<=t.mask
  omega
 ·rcases(zML T).mp he with ⟨rfl,rfl,rfl⟩ | q
  ·exact⟨n,hj,fun m hm=>zF2 T hnl rD rP (hw m hm)⟩
  ·obtain⟨n',w1,w2⟩:=T.way j' h' x' q
   exact⟨n',w1,fun m hm=>zF2 T hnl rD rP (w2 m hm)⟩
 ·have hz:y∈(if fT t.dummies j then dJ t.dummies (dA t.dummies j) else t.dummies):=hy
  have hz':y∈dX t.place (dA t.place j) j:=hy';clear hy hy';rw[<-eu,(fh _ _ _).mem_iff] at hz';have hz':y∈t.place\/y=j:=by simpa using hz'
  by_cases hh:fT t.dummies j=true
  ·rw[if_pos hh] at hz
   have hp:t.dummies.toList[dA t.dummies j]?=some j:=by
    unfold fT at hh;simpa using hh
   rw[<-eu,zZ] at hz;rcases hz' with q | q
   ·exact T.dis y (by simpa using(zFA _ _).subset hz) q
   ·rw[q] at hz
    exact zKW T.risD hp hz
  ·rw[if_neg hh] at hz
   rcases hz' with q | q
   ·exact T.dis y hz q
   ·rw[q] at hz
    exact hh ((zE9 T.risD).mpr hz)
end
section
variable {t:SetTable} {es:Array (Int×Value)} {i j:Nat}
theorem zOM{α β:Type}{l:List α}{l':List β}(hl:l.length=l'.length)(p:Nat){z:α×β}(h:z∈(l.take p++l.drop (p+1)).zip (l'.take p++l'.drop (p+1))):z∈l.zip l':=by
 rw[List.zip_append (by simp[hl])] at h;have e:l.zip l'=(l.take p).zip (l'.take p)++(l.drop p).zip (l'.drop p):=by
  rw[<-List.zip_append (by simp[hl]),eG,eG]
 rw[e];rcases dQ.mp h with q | q
 ·exact eW _ q
 ·refine dU _ ?_
  rw[<-List.drop_drop,<-List.drop_drop] at q;generalize l.drop p=a at q ⊢;generalize l'.drop p=b at q ⊢;cases a with
  | nil=>simp at q
  | cons a0 a1 =>
   cases b with
   | nil=>simp at q
   | cons b0 b1 =>
    have q:z∈a1.zip b1:=by simpa using q
    show z∈(a0,b0)::a1.zip b1;exact dC _ q
theorem Tab.drop(T:Tab t es)(hi:t.place[i]?=some j):Tab (t.drop i) (dJ es i)/\(t.drop i).fill=t.fill:=by
 have ed:t.drop i={ t with place:=dJ t.place i,dummies:=dX t.dummies (dA t.dummies j) j }:=by
  unfold SetTable.drop;rw[hi]
 have hp:t.place.toList[i]?=some j:=by simpa using hi
 have jp:j∈t.place:=Array.mem_of_getElem? hi;have jd:j∉t.dummies:=fun q=>T.dis j q jp;have hlt:i<t.place.size:=(fI.mp hi).1;have rP:Ris (dJ t.place i):=zEj T.ris i;have rD:Ris (dX t.dummies (dA t.dummies j) j):=HI.zHk T.risD fun q=>jd (Array.mem_of_getElem? q);have pz:(dJ t.place i).size=t.place.size-1:=by
  rw[<-dg,zZ,dO,eK,gF];simp only[dg];omega
 have ez:(dJ es i).size=es.size-1:=by
  have:=T.size;rw[<-dg,zZ,dO,eK,gF];simp only[dg];omega
 have dz:(dX t.dummies (dA t.dummies j) j).size=t.dummies.size+1:=by
  have:=(fh t.dummies (dA t.dummies j) j).length_eq;simpa using this
 have dm:∀ y,y∈dX t.dummies (dA t.dummies j) j↔y∈t.dummies\/y=j:=fun y=>by
  rw[<-eu,(fh _ _ _).mem_iff];simp
 rw[ed];have fl:∀ y,zCp t y->zCp { t with place:=dJ t.place i,dummies:=dX t.dummies (dA t.dummies j) j } y:=fun y q=>by
  rw[zAi rP rD];rcases(zAi T.ris T.risD).mp q with z | z
  ·by_cases e:y=j
   ·exact .inr ((dm y).mpr (.inr e))
   ·left
    show y∈dJ t.place i;rw[<-eu,zZ];exact zKV hp (by simpa using z) e
  ·exact .inr ((dm y).mpr (.inl z))
 have sb:∀ y,y∈dJ t.place i->y∈t.place:=fun y hy=>by
  rw[<-eu,zZ] at hy;simpa using(zFA _ _).subset hy
 have fz:SetTable.fill { t with place:=dJ t.place i,dummies:=dX t.dummies (dA t.dummies j) j }=t.fill:=by
  show(dJ t.place i).size+(dX t.dummies (dA t.dummies j) j).size=t.place.size+t.dummies.size;omega
 refine⟨⟨T.msk,?_,rP,rD,fun y hy=>T.le y (sb y hy),fun y hy=>?_,?_,fun j' h' x' he=>?_,fun y hy hy'=>?_⟩,fz⟩
 ·show(dJ t.place i).size=_
  rw[pz,ez,T.size]
 ·rcases(dm y).mp hy with q | q
  ·exact T.leD y q
  ·rw[q];exact T.le j jp
 ·rw[fz];exact T.room
 ·rw[zDG] at he
  have he:(j',(h',x'))∈(dJ t.place i).toList.zip (dJ es i).toList:=he;rw[zZ,zZ] at he;obtain⟨n',w1,w2⟩:=T.way j' h' x' (zDG.mpr (zOM (by simpa using T.size) i he));exact⟨n',w1,fun m hm=>fl _ (w2 m hm)⟩
 ·rcases(dm y).mp hy with q | q
  ·exact T.dis y q (sb y hy')
  ·subst q
   have hy':y∈dJ t.place i:=hy';rw[<-eu,zZ] at hy';exact zKW T.ris hp hy'
end
open HI (Ris)
noncomputable def hd(mask:Nat)(h:Int):Nat->Nat
 | 0=>0
 | k+1=>hd mask h k+(et mask (lp mask h k).1-(lp mask h k).1)+1
section
variable {mask:Nat} {h:Int}
theorem zKX:∀ k,ym mask h (hd mask h k)=⟨(lp mask h k).1,et mask (lp mask h k).1-(lp mask h k).1,(lp mask h k).1,(lp mask h k).2,none⟩
 | 0=>rfl
 | k+1=>by
  have:=zDE (zKX k) _ (da _);show adv mask (ym mask h (hd mask h k+(et mask (lp mask h k).1-(lp mask h k).1)))=_;rw[this];unfold adv;rw[if_neg (by simp)];rfl
theorem zGz(hm:m<=et mask (lp mask h k).1-(lp mask h k).1):(ym mask h (hd mask h k+m)).j=(lp mask h k).1+m:=by rw[zDE (zKX k) m hm]
theorem zON(mask i:Nat):i<=et mask i:=by
 unfold et;split<;>omega
noncomputable def Tk(owner:Array (Option Nat))(j:Nat):Prop:=(owner.getD j (some 0)).isSome=true
theorem zKY(hR:¬ Tk owner (lp mask h R).1):∀(fuel r:Nat),r<=R->R-r<fuel->(∀ m,m<hd mask h r->Tk owner (ym mask h m).j) ->
  ∃ j n,gx.free mask owner fuel (lp mask h r).1 (lp mask h r).2=some j/\(ym mask h n).j=j/\¬ Tk owner j/\∀ m,m<n->Tk owner (ym mask h m).j:=by
 intro fuel
 induction fuel with
 | zero=>intro r u0 h;omega
 | succ fuel ih =>
  intro r hr hf hb;unfold gx.free;have hge:=zON mask (lp mask h r).1;cases hfd:(dq (et mask (lp mask h r).1+1-(lp mask h r).1)).find? fun k=>(owner.getD ((lp mask h r).1+k) (some 0)).isNone with
  | some k0 =>
   obtain⟨f1,f2,f3⟩:=List.find?_range_eq_some.mp hfd;have f2:=eS.mp f2;refine⟨(lp mask h r).1+k0,hd mask h r+k0,by simp only[hfd],?_,?_,?_⟩
   ·exact zGz (by omega)
   ·unfold Tk
    rw[Option.isNone_iff_eq_none] at f1;rw[f1];simp
   ·intro m hm
    rcases eM m (hd mask h r) with z | z
    ·exact hb m z
    ·obtain⟨d,rfl⟩:∃ d,m=hd mask h r+d:=⟨m-hd mask h r,by omega⟩
     rw[zGz (by omega)];have:=f3 d (by omega);unfold Tk;cases q:owner.getD ((lp mask h r).1+d) (some 0) with
     | none=>rw[q] at this;simp at this
     | some _=>rfl
  | none =>
   rw[List.find?_range_eq_none] at hfd;have all:∀ d,d<=et mask (lp mask h r).1-(lp mask h r).1->Tk owner ((lp mask h r).1+d):=fun d hd'=>by
    have:=hfd d (by omega);unfold Tk;cases q:owner.getD ((lp mask h r).1+d) (some 0) with
    | none=>rw[q] at this;simp at this
    | some _=>rfl
   have hne:r≠R:=fun e=>by
    subst e;exact hR (by simpa using all 0 (eY _))
   simp only;refine ih (r+1) (by omega) (by omega) fun m hm=>?_;have hm:m<hd mask h r+(et mask (lp mask h r).1-(lp mask h r).1)+1:=hm;rcases eM m (hd mask h r) with z | z
   ·exact hb m z
   ·obtain⟨d,rfl⟩:∃ d,m=hd mask h r+d:=⟨m-hd mask h r,by omega⟩
    rw[zGz (by omega)];exact all d (by omega)
end
theorem zCR{β:Type}{f g:Nat->Option β}:∀ {l:List Nat},(∀ i∈l,g i=f i)->l.filterMap g=l.filterMap f
 | [],_=>rfl
 | a::l,h=>by
  have ea:=h a dH;have ih:=zCR fun i hi=>h i (dC _ hi);cases q:f a with
  | none=>rw[gz (ea.trans q),gz q,ih]
  | some c=>rw[fA (ea.trans q),fA q,ih]
theorem zKZ{β:Type}{f:Nat->Option β}:∀ {l:List Nat},(∀ i∈l,(f i).isSome=true)->(l.filterMap f).length=l.length
 | [],_=>rfl
 | a::l,h=>by
  have ih:=zKZ fun i hi=>h i (dC _ hi);have ea:=h a dH;cases q:f a with
  | none=>rw[q] at ea;cases ea
  | some c=>rw[fA q,cW,cW,ih]
theorem zKa{β:Type}{f g:Nat->Option β}{j:Nat}{b:β}(hf:f j=none)(hg:g j=some b):∀ {l:List Nat},l.Nodup->j∈l->(∀ i∈l,i≠j->g i=f i)->(l.filterMap g).Perm (b::l.filterMap f)
 | [],_,hj,_=>by cases hj
 | a::l,nd,hj,ho=>by
  obtain⟨n1,n2⟩:=fF.mp nd;by_cases e:a=j
  ·subst e
   have:l.filterMap g=l.filterMap f:=by
    apply zCR;intro i hi;exact ho i (dC _ hi) fun e=>n1 (e▸hi)
   rw[fA hg,gz hf,this]
  ·have hj':j∈l:=by
    rcases dN.mp hj with q | q
    ·exact(e q.symm).elim
    ·exact q
   have ih:=zKa hf hg n2 hj' fun i hi hne=>ho i (dC _ hi) hne;have ea:=ho a dH e;cases q:f a with
   | none=>rw[gz (ea.trans q),gz q];exact ih
   | some c =>
    rw[fA (ea.trans q),fA q];exact(fW.cons c ih).trans (fW.swap _ _ _)
structure zFC (mask:Nat) (hs:List Int) (owner:Array (Option Nat)) (k:Nat):Prop where
 size:owner.size=mask+1
 way:∀(j k':Nat),owner.getD j none=some k'->∃ h n,hs[k']?=some h/\(ym mask h n).j=j/\∀ m,m<n->(owner.getD (ym mask h m).j none).isSome=true
 perm:((dq (mask+1)).filterMap fun j=>owner.getD j none).Perm (dq k)
theorem zFC.gap(I:zFC mask hs owner k)(hk:k<=mask):∃ j,j<=mask/\owner.getD j none=none:=by
 by_cases q:∃ j,j<=mask/\owner.getD j none=none
 ·exact q
 ·have:=zKZ (f:=fun j=>owner.getD j none) (l:=dq (mask+1)) fun i hi=>by
   have hi:=eS.mp hi;cases z:owner.getD i none with
   | none=>exact(q ⟨i,by omega,z⟩).elim
   | some _=>rfl
  rw[I.perm.length_eq,eT,eT] at this;omega
theorem zG0(I:zFC mask hs owner k)(hj:j<=mask):Tk owner j↔(owner.getD j none).isSome=true:=by
 have:j<owner.size:=by rw[I.size];omega
 unfold Tk;simp[gA,this]
theorem zFC.step(hm:Msk mask)(I:zFC mask hs owner k)(hk:k<=mask)(e:hs[k]?=some h) :
  ∃ j,gx.free mask owner (gT mask) (e8 h%(mask+1)) (e8 h)=some j/\zFC mask hs (owner.setIfInBounds j (some k)) (k+1):=by
 obtain⟨j0,h1,h2⟩:=I.gap hk;obtain⟨R,r1,r2⟩:=heads (h:=h) hm.cyc h1;obtain⟨j,n,f1,f2,f3,f4⟩:=zKY (mask:=mask) (h:=h) (owner:=owner) (R:=R) (by rw[r2,zG0 I h1,h2];simp) (gT mask) 0 (eY _) (by unfold gT;omega) (fun m hm=>absurd hm (hV _));have hj:j<=mask:=by have:=(zDv mask h n).1;omega
 have hjs:j<owner.size:=by rw[I.size];omega
 rw[zG0 I hj] at f3;have fn:owner.getD j none=none:=by
  cases q:owner.getD j none with
  | none=>rfl
  | some _=>rw[q] at f3;exact(f3 rfl).elim
 have gs:∀ i,(owner.setIfInBounds j (some k)).getD i none=if i=j then some k else owner.getD i none:=fun i=>by
  by_cases e:i=j
  ·subst e;rw[if_pos rfl];simp[gA,hjs]
  ·rw[if_neg e]
   rw[Array.getD_eq_getD_getElem?,Array.getD_eq_getD_getElem?,Array.getElem?_setIfInBounds_ne (Ne.symm e)]
 have mono:∀ i,(owner.getD i none).isSome=true->((owner.setIfInBounds j (some k)).getD i none).isSome=true:=fun i q=>by
  rw[gs];split
  ·rfl
  ·exact q
 refine⟨j,f1,⟨by rw[Array.size_setIfInBounds];exact I.size,fun j' k' q=>?_,?_⟩⟩
 ·rw[gs] at q
  split at q
  ·rename_i e'
   cases q;refine⟨h,n,e,f2.trans e'.symm,fun m hm'=>mono _ ?_⟩;rw[<-zG0 I (by have:=(zDv mask h m).1;omega)];exact f4 m hm'
  ·obtain⟨h',n',w1,w2,w3⟩:=I.way j' k' q
   exact⟨h',n',w1,w2,fun m hm'=>mono _ (w3 m hm')⟩
 ·rw[show dq (k+1)=dq k++[k] from i8]
  refine(zKa (f:=fun i=>owner.getD i none) (g:=fun i=>(owner.setIfInBounds j (some k)).getD i none) (j:=j) (b:=k) fn ((gs j).trans (if_pos rfl)) List.nodup_range (eS.mpr (by omega)) fun i u0 hne=>(gs i).trans (if_neg hne)).trans ?_;refine(fW.cons k I.perm).trans ?_;exact(List.perm_append_singleton k _).symm
theorem zKb{mask:Nat}(hm:Msk mask){hs:List Int}(hn:hs.length<=mask):∀(l done:List Int) (owner:Array (Option Nat)),hs=done++l->zFC mask hs owner done.length ->
  ∃ owner',(l.foldl (fun(acc:Option (Array (Option Nat)×Nat)) h=>do
   let (owner,k) <-acc;let j <-gx.free mask owner (gT mask) (e8 h%(mask+1)) (e8 h)
   pure (owner.setIfInBounds j (some k),k+1)) (some (owner,done.length))).map (·.1)=some owner'/\zFC mask hs owner' hs.length
 | [],done,owner,e,I=>⟨owner,rfl,by rw[e,fU] at *;exact I⟩
 | h::l,done,owner,e,I=>by
  have hk:done.length<=mask:=by rw[e] at hn;simp at hn;omega
  obtain⟨j,f1,I'⟩:=I.step hm hk (h:=h) (by rw[e];simp);obtain⟨owner',g1,g2⟩:=zKb hm hn l (done++[h]) (owner.setIfInBounds j (some done.length)) (by rw[e];simp) (by simpa using I');refine⟨owner',?_,g2⟩;rw[<-g1];rw[List.foldl_cons];congr 2;show(do
   let j <-gx.free mask owner (gT mask) (e8 h%(mask+1)) (e8 h)
   pure (owner.setIfInBounds j (some done.length),done.length+1))=_
  rw[f1];simp
theorem zOO(hm:Msk mask)(hn:hashes.size<=mask):∃ owner,gx mask hashes=some owner/\zFC mask hashes.toList owner hashes.size:=by
 have g0:∀ j,(Array.replicate (mask+1) (none:Option Nat)).getD j none=none:=fun j=>by
  simp only[gA];split
  ·simp
  ·rfl
 obtain⟨owner,h1,h2⟩:=zKb hm (hs:=hashes.toList) (by simpa using hn) hashes.toList [] (Array.replicate (mask+1) none) rfl ⟨by simp,fun j k' q=>(by rw[g0] at q;cases q),by
  have:((dq (mask+1)).filterMap fun j=>(Array.replicate (mask+1) (none:Option Nat)).getD j none)=[]:=by
   rw[zCR (f:=fun u0=>none) fun i u0=>g0 i];simp
  rw[this];exact .refl _⟩
 refine⟨owner,?_,by simpa using h2⟩;unfold gx;rw[<-Array.foldl_toList];exact h1
theorem zHq{mask finger moves:Nat}{led plain:Bool}{es:Array (Int×Value)}(hm:Msk mask)(hn:es.size<=mask) :
  ∃ t order,SetTable.laid mask finger moves led plain (es.map (·.1))=some (t,order)/\Tab t (order.filterMap (es[·]?))/\(order.filterMap (es[·]?)).toList.Perm es.toList/\t.mask=mask/\t.led=led/\t.plain=plain/\t.dummies=#[]/\t.place.size=es.size:=by
 obtain⟨owner,h1,I⟩:=zOO hm (hashes:=es.map (·.1)) (by simpa using hn);rw[Array.size_map] at I;have lk:∀ l:List Nat,(l.filterMap fun j=>(owner.getD j none).map (j,·)).map (·.2)=l.filterMap fun j=>owner.getD j none:=fun l=>by
  rw[List.map_filterMap];apply zCR;intro i u0;cases owner.getD i none<;>rfl
 have lm:∀(l:List Nat) (p:Nat×Nat),p∈(l.filterMap fun j=>(owner.getD j none).map (j,·))↔p.1∈l/\owner.getD p.1 none=some p.2:=fun l p=>by
  rw[List.mem_filterMap];constructor
  ·rintro⟨j,hj,e⟩
   cases q:owner.getD j none with
   | none=>rw[q] at e;cases e
   | some k=>rw[q] at e;cases e;exact⟨hj,q⟩
  ·rintro⟨a,b⟩
   exact⟨p.1,a,by rw[b];rfl⟩
 have pm:=I.perm;have kn:∀ k∈((dq (mask+1)).filterMap fun j=>(owner.getD j none).map (j,·)).map (·.2),k<es.size:=fun k hk=>by
  rw[lk] at hk;exact eS.mp (pm.mem_iff.mp hk)
 have es':(((dq (mask+1)).filterMap fun j=>(owner.getD j none).map (j,·)).map (·.2)).filterMap (es[·]?)=(((dq (mask+1)).filterMap fun j=>(owner.getD j none).map (j,·)).map (·.2)).map fun k=>es.getD k (0,.none):=by
  have:∀ l:List Nat,(∀ k∈l,k<es.size)->l.filterMap (es[·]?)=l.map fun k=>es.getD k (0,.none):=by
   intro l
   induction l with
   | nil=>intro u0;rfl
   | cons a l ih =>
    intro hl;have ha:=hl a dH;rw[fA (b:=es.getD a (0,.none)) (by simp[gA,ha]),eA,ih fun k hk=>hl k (dC _ hk)]
  exact this _ kn
 have hlen:((dq (mask+1)).filterMap fun j=>(owner.getD j none).map (j,·)).length=es.size:=by
  have:=congrArg List.length (lk (dq (mask+1)));rw[db,pm.length_eq,eT] at this;exact this
 generalize hL:(dq (mask+1)).filterMap (fun j=>(owner.getD j none).map (j,·))=L at *;refine⟨{ mask,place:=(L.map (·.1)).toArray,dummies:=#[],finger,led,moves,plain },(L.map (·.2)).toArray,?_,?_⟩
 ·unfold SetTable.laid
  rw[h1];show some _=_;rw[hL]
 ·have eo:((L.map (·.2)).toArray.filterMap (es[·]?)).toList=L.map fun p=>es.getD p.2 (0,.none):=by
   rw[Array.toList_filterMap];show(L.map (·.2)).filterMap (es[·]?)=_;rw[es',gh];rfl
  have rs:Ris (L.map (·.1)).toArray:=by
   unfold Ris;have:=HI.zAY (fun j=>owner.getD j none) (dq (mask+1));rw[hL] at this;exact fX.sublist this List.pairwise_lt_range
  have ls:∀ p,p∈L->p.1<=mask/\owner.getD p.1 none=some p.2:=fun p hp=>by
   have:=(lm (dq (mask+1)) p).mp (by rw[hL];exact hp);exact⟨by have:=eS.mp this.1;omega,this.2⟩
  have rd:Ris (#[]:Array Nat):=fX.nil;refine⟨⟨hm,?_,rs,rd,fun j hj=>?_,fun j hj=>by simp at hj,?_,fun j h x he=>?_,fun j hj=>by simp at hj⟩,?_,rfl,rfl,rfl,rfl,?_⟩
  ·have:=congrArg List.length eo
   rw[dg,db] at this;show(L.map (·.1)).toArray.size=_;rw[this];simp
  ·have:j∈L.map (·.1):=by simpa using hj
   obtain⟨p,hp,rfl⟩:=dL.mp this;exact(ls p hp).1
  ·show(L.map (·.1)).toArray.size+0<=mask
   simp;omega
  ·obtain⟨i,e1,e2⟩:=he
   have e1':(L.map (·.1))[i]?=some j:=by simpa using e1
   have e2':(L.map fun p=>es.getD p.2 (0,.none))[i]?=some (h,x):=by rw[<-eo];simpa using e2
   rw[eU] at e1' e2';cases q:L[i]? with
   | none=>rw[q] at e1';cases e1'
   | some p =>
    rw[q] at e1' e2';have e1'':p.1=j:=by simpa using e1'
    have e2'':es.getD p.2 (0,.none)=(h,x):=by simpa using e2'
    obtain⟨u0,l2⟩:=ls p (dS q);obtain⟨h',n,w1,w2,w3⟩:=I.way p.1 p.2 l2;have hk:p.2<es.size:=kn p.2 (dL.mpr ⟨p,dS q,rfl⟩);have:h'=h:=by
     have w1':(es.map (·.1)).toList[p.2]?=some h':=w1;simp[hk] at w1';have:es[p.2]=(h,x):=by simpa[gA,hk] using e2''
     rw[this] at w1';exact w1'.symm
    subst this;refine⟨n,w2.trans e1'',fun m hm'=>?_⟩;rw[zAi rs rd];left;have:=w3 m hm';have lt:=(zDv mask h' m).1;cases z:owner.getD (ym mask h' m).j none with
    | none=>rw[z] at this;cases this
    | some k2 =>
     have:((ym mask h' m).j,k2)∈L:=by
      rw[<-hL];exact(lm _ _).mpr ⟨eS.mpr (by simp only;omega),z⟩
     show(ym mask h' m).j∈(L.map (·.1)).toArray;simp only[List.mem_toArray];exact dL.mpr ⟨_,this,rfl⟩
  ·rw[eo]
   have e3:es.toList=(dq es.size).map fun k=>es.getD k (0,.none):=by
    apply List.ext_getElem
    ·simp
    ·intro i h1 h2
     have:i<es.size:=by simpa using h1
     simp[gA,this]
   rw[e3];have e4:(L.map fun p=>es.getD p.2 (0,.none))=(L.map (·.2)).map fun k=>es.getD k (0,.none):=by rw[gh];rfl
   rw[e4];refine fW.map _ ?_;have:=lk (dq (mask+1));rw[hL] at this;rw[this];exact pm
  ·show(L.map (·.1)).toArray.size=_
   simp[hlen]
open HI (Ris)
noncomputable def zPR:Value->Int
 | .int k _=>k
 | _=>0
noncomputable def kyT(h:Heap)(e:Int×Value):List Int:=match e.2 with
 | .ref c=>(match h.get? c with | some o=>(match o.data with | .seq its _=>its.toList.map zPR | _=>[]) | none=>[])
 | _=>[]
section
variable {prog:Program} {w:World} {P:Addr->Prop} {A:Around} {E:Value->Shared->Prop} {s:Shared}
theorem zIn(h:ItemsAre (intKind prog w) ns vs):vs.map zPR=ns:=by
 induction h with
 | nil=>rfl
 | cons h1 _ ih =>
  obtain⟨t,rfl⟩:=Value.isInt_shape h1;rw[eA,ih];rfl
theorem zBn(x:TK prog w P h ns c)(n:Int):kyT h (n,.ref c)=ns:=by
 obtain⟨⟨o,its,m,ho,hc,hd,hi⟩,u0⟩:=x;unfold kyT;simp only[ho,hd];exact zIn hi
theorem OkT.mem(x:OkT prog w P h es):∀ e∈es.toList,∃ c,e=(hT prog w (kyT h e),.ref c)/\TK prog w P h (kyT h e) c:=fun e he=>by
 obtain⟨i,hi,rfl⟩:=fJ he;obtain⟨c,ms,e1,e2⟩:=x i es.toList[i] (by simpa using hi);have:kyT h es.toList[i]=ms:=by rw[e1];exact zBn e2 _
 rw[this];exact⟨c,e1,e2⟩
theorem OkT.of{h:Heap}{es:Array (Int×Value)}(x:∀ e∈es.toList,∃ c ms,e=(hT prog w ms,.ref c)/\TK prog w P h ms c):OkT prog w P h es:=fun i e he=>x e (by
 have:=dS (l:=es.toList) (i:=i) (a:=e) (by simpa using he);exact this)
theorem OkT.perm(x:OkT prog w P h es)(p:es'.toList.Perm es.toList):OkT prog w P h es':=.of fun e he=>by
 obtain⟨c,e1,e2⟩:=x.mem e (p.mem_iff.mp he);exact⟨c,_,e1,e2⟩
theorem TK.keep{h h':Heap}{ns:List Int}{c:Addr}(x:TK prog w P h ns c)(k:∀ o,h.get? c=some o->h'.get? c=some o):TK prog w P h' ns c:=let ⟨⟨o,i,n,e,r⟩,q⟩:=x;⟨⟨o,i,n,k o e,r⟩,q⟩
theorem OkT.keep{h h':Heap}{es:Array (Int×Value)}(x:OkT prog w P h es)(k:∀ c o its n,h.get? c=some o->o.data=.seq its n->h'.get? c=some o):OkT prog w P h' es/\es.toList.map (kyT h')=es.toList.map (kyT h):=by
 have tk:∀ {ns c},TK prog w P h ns c->TK prog w P h' ns c:=fun {ns c} q=>let ⟨⟨o,i,n,e,c1,d,r⟩,q⟩:=q;⟨⟨o,i,n,k _ o i n e d,c1,d,r⟩,q⟩;refine⟨fun i e he=>?_,g9 fun e he=>?_⟩
 ·obtain⟨c,ms,e1,e2⟩:=x i e he
  exact⟨c,ms,e1,tk e2⟩
 ·obtain⟨c,e1,e2⟩:=x.mem e he
  have h1:=zBn (tk e2) (hT prog w (kyT h e));rw[<-e1] at h1;exact h1
noncomputable def ST(prog:Program)(w:World)(P:Addr->Prop)(h:Heap)(a:Addr)(kys:List (List Int)):Prop:=∃ o es ep t,h.get? a=some o/\o.ExactSet/\o.data=.set es ep t/\Tab t es/\OkT prog w P h es/\t.plain=true/\t.led=HI.wc w/\t.fill*5<t.mask*3/\kys.Perm (es.toList.map (kyT h))/\kys.Nodup
theorem ST.keep{h h':Heap}{a:Addr}{kys:List (List Int)}(x:ST prog w P h a kys)(k:∀ b o,h.get? b=some o->h'.get? b=some o):ST prog w P h' a kys:=by
 obtain⟨o,es,ep,t,h1,h2,h3,h4,h5,h6,h7,h8,h9,h10⟩:=x;obtain⟨k1,k2⟩:=h5.keep fun c o u0 u0 e u0=>k c o e;exact⟨o,es,ep,t,k _ _ h1,h2,h3,h4,k1,h6,h7,h8,by rw[k2];exact h9,h10⟩
theorem size_of(n:Nat)(h:n<=63):Msk (dG (n*4)-1)/\n*5<(dG (n*4)-1)*3/\dG (n*4)<=256:=by
 have:∀ n,n<64->((dG (n*4)-1==7||dG (n*4)-1==15||dG (n*4)-1==31||dG (n*4)-1==63||dG (n*4)-1==127||dG (n*4)-1==255)&&decide (n*5<(dG (n*4)-1)*3)&&decide (dG (n*4)<=256))=true:=by decide +kernel
 have:=this n (by omega);simp only[fm,Bool.or_eq_true,beq_iff_eq,decide_eq_true_eq] at this;refine⟨?_,this.1.2,this.2⟩;unfold Msk;omega
end
open HI (Ris)
section
variable {prog:Program} {w:World} {P:Addr->Prop} {A:Around} {E:Value->Shared->Prop} {s:Shared}
theorem fits_of(T:Tab t es):t.fits es.size=true:=by
 unfold SetTable.fits;simp[T.size,T.room]
theorem zCS{h:Heap}{a:Addr}{o:Obj}{es:Array (Int×Value)}{ep:Nat}{t:SetTable}{es':Array (Int×Value)}{t':SetTable}(ho:h.get? a=some o)(hd:o.data=.set es ep t) :
  (h.update a (Obj.putSet es' t')).get? a=some { o with data:=.set es' (ep+1) t' }:=by
 rw[<-putSet_of es' t' hd];exact gi _ ho (by rw[putSet_of es' t' hd];rfl)
theorem zM2{a:Addr}{o:Obj}{es:Array (Int×Value)}{ep:Nat}{t:SetTable}{n:Nat}{Q:Unit->Shared->Prop}(ho:s.heap.get? a=some o)(hd:o.data=.set es ep t)(T:Tab t es)(hm:Msk (dG n-1))(hn:es.size<=dG n-1)(hz:dG n<=256)
  (h:∀ es' t',Tab t' es'->es'.toList.Perm es.toList->t'.plain=t.plain->t'.led=t.led->t'.mask=dG n-1->t'.fill=es.size->Q () { s with heap:=s.heap.update a (Obj.putSet es' t') }) :
  wpAny (model prog w) A (setRelay a n) Q E s:=by
 obtain⟨t',order,h1,h2,h3,h4,h5,h6,h7,h8⟩:=zHq (mask:=dG n-1) (finger:=t.finger) (moves:=t.movedTo (dG n-1)) (led:=t.led) (plain:=t.plain) hm hn;unfold setRelay;refine cN (ef ho hd (fits_of T) ?_);dsimp only;rw[if_neg (by rw[sizeLine_eq];omega)];have hr:t.relaid (es.map (·.1)) n=some (t',order):=h1;have sz:(order.filterMap (es[·]?)).size=es.size:=by
  have:=h3.length_eq;rw[dg,dg] at this;exact this
 refine cN (gX (a:=(order.filterMap (es[·]?),t')) ?_ ?_)
 ·rw[hr]
  show(if ((order.filterMap (es[·]?)).size != es.size)=true then _ else _)=_;rw[if_neg (by rw[sz];simp)]
 ·dsimp only
  refine wpAny_storeSet_of ho hd (h _ t' h2 h3 h6 h5 h4 ?_) ?_
  ·show t'.place.size+t'.dummies.size=_
   rw[h7,h8];rfl
  ·rw[sz,sizeLine_eq];omega
theorem zKc(hA:A.units<cLine)(hS:ST prog w P s.heap a kys)(hb:TK prog w P s.heap ns b)(room:kys.length<=60)
  (h:∀ h' kys' r,dW a s.heap h'->ST prog w P h' a kys'->kys'.Perm (if ns∈kys then kys else kys++[ns])->Q r { s with heap:=h' }):wpAny (model prog w) A (setAddHashed a (.ref b) (hT prog w ns)) Q E s:=by
 obtain⟨o,es,ep,t,h1,h2,h3,h4,h5,h6,h7,h8,h9,h10⟩:=id hS;have esz:es.size=kys.length:=by have:=h9.length_eq;simp at this;omega
 have hky:∀(i:Nat) e c ms,es[i]?=some e->e.2=.ref c->TK prog w P s.heap ms c->ms∈kys:=fun i e c ms e1 e2 e3=>by
  rw[h9.mem_iff];refine dL.mpr ⟨e,dS (l:=es.toList) (i:=i) (by simpa using e1),?_⟩;obtain⟨e0,ev⟩:=e;simp only at e2;subst e2;exact zBn e3 _
 unfold setAddHashed;refine dZ ?_;unfold setAddHashedIn;refine cN (ef h1 h3 (fits_of h4) ?_);dsimp only;rw[if_neg (by simp[byScan,Value.scannable])];obtain⟨N,n1,n2,n3⟩:=h4.stop (hT prog w ns);refine cN ?_;unfold setSearch;refine zPQ (Q:=_) hA h1 h3 h4 h5 hb n1 n2 n3 (adding:=true) (fun i c e1 e2=>?_) (fun hno d hd=>?_) (N-0) 0 100000 none none rfl (eY _) ?_ (fun j q=>by cases q) rfl (fun m hm=>absurd hm (hV _))
 ·have hin:ns∈kys:=hky i _ c ns e1 rfl e2
  simp only[↓reduceIte];refine cS ?_;exact h s.heap kys false ⟨rfl,fun u0 u0=>rfl⟩ hS (by rw[if_pos hin])
 ·have hnk:ns∉kys:=fun q=>by
   rw[h9.mem_iff] at q;obtain⟨e,he,hk⟩:=dL.mp q;obtain⟨c,e1,e2⟩:=h5.mem e he;obtain⟨i,hi,e3⟩:=fJ he;rw[hk] at e2;exact hno i e c ns (by rw[<-e3];simpa using hi) (by rw[e1]) e2 rfl
  dsimp only;refine cN (ef h1 h3 (fits_of h4) ?_);dsimp only;have mge:7<=t.mask:=by rcases h4.msk with z | z | z | z | z | z<;>omega
  -- the place
  have hp:∃ n j,d.getD (ym t.mask (hT prog w ns) N).j=j/\(ym t.mask (hT prog w ns) n).j=j/\(∀ m,m<n->zCp t (ym t.mask (hT prog w ns) m).j)/\(t.slot j=.empty\/t.slot j=.dummy)/\(d.isSome=true->t.slot j=.dummy):=by
   cases d with
   | none=>exact⟨N,_,rfl,rfl,n3,.inl n2,fun q=>by cases q⟩
   | some j =>
    obtain⟨d1,m,d2,d3⟩:=hd j rfl;exact⟨m,j,rfl,d3,fun m' hm'=>n3 m' (by omega),.inr d1,fun u0=>d1⟩
  obtain⟨n,j,j1,j2,j3,j4,j5⟩:=hp;rw[j1];obtain⟨T',f1,f2⟩:=h4.put (x:=.ref b) j2 j3 j4 (by omega);have pl:(t.put j).1.plain=true:=h6;have ld:(t.put j).1.led=HI.wc w:=h7;have mk:(t.put j).1.mask=t.mask:=rfl;generalize hes':dX es (t.put j).2 (hT prog w ns,.ref b)=es' at T';have pm:es'.toList.Perm (es.toList++[(hT prog w ns,.ref b)]):=by
   rw[<-hes'];have:=fh es (t.put j).2 (hT prog w ns,.ref b);simpa using this
  have sz':es'.size=es.size+1:=by have:=pm.length_eq;simp at this;omega
  rw[pl];simp only[↓reduceIte];refine cN (zKU hb ?_);simp only[↓reduceIte];refine cN (wpAny_storeSet_of h1 h3 ?_ (by rw[sizeLine_eq];omega))
  -- behind the store
  have ok1:OkT prog w P s.heap es':=.of fun e he=>by
   rcases dQ.mp (pm.mem_iff.mp he) with q | q
   ·obtain⟨c,e1,e2⟩:=h5.mem e q;exact⟨c,_,e1,e2⟩
   ·rw[dt] at q;exact⟨b,ns,q,hb⟩
  have kp1:kys++[ns]=kys++[ns]:=rfl;have pk:(kys++[ns]).Perm (es'.toList.map (kyT s.heap)):=by
   refine fW.trans ?_ (pm.map _).symm;rw[ig];refine h9.append ?_;rw[List.map_singleton,zBn hb]
  have nd1:(kys++[ns]).Nodup:=List.nodup_append.mpr ⟨h10,by simp,fun x hx y hy e=>by rw[dt] at hy;exact hnk (by rw[<-hy,<-e];exact hx)⟩;have fin:∀(es2:Array (Int×Value)) (t2:SetTable) (ep2:Nat) (h':Heap),dW a s.heap h'->h'.get? a=some { o with data:=.set es2 ep2 t2 }->Tab t2 es2->es2.toList.Perm es'.toList->t2.plain=true->t2.led=HI.wc w->t2.fill*5<t2.mask*3->Q true { s with heap:=h' }:=fun es2 t2 ep2 h' sb g T2 p2 pl2 ld2 fl2=>by
   have kk:∀ c o' its n,s.heap.get? c=some o'->o'.data=.seq its n->h'.get? c=some o':=fun c o' its n e1 e2=>by
    rw[sb.2 c (fun q=>by subst q;rw[h1] at e1;cases e1;rw[h3] at e2;cases e2)];exact e1
   obtain⟨k1,k2⟩:=(ok1.perm p2).keep kk;refine h h' (kys++[ns]) true sb ⟨_,es2,ep2,t2,g,h2,rfl,T2,k1,pl2,ld2,fl2,?_,nd1⟩ (by rw[if_neg hnk]);rw[k2];exact pk.trans (p2.map _).symm
  have g1:=zCS (es':=es') (t':=(t.put j).1) h1 h3;have s1:dW a s.heap (s.heap.update a (Obj.putSet es' (t.put j).1)):=dW.update ..;by_cases hrl:(!d.isSome&&(t.put j).1.tooFull)=true
  ·rw[if_pos hrl]
   have so:=size_of (es.size+1) (by omega);have gw:SetTable.grown (es.size+1)=(es.size+1)*4:=by unfold SetTable.grown;rw[if_neg (by omega)]
   rw[gw];refine cN (zM2 (s:={ s with heap:=s.heap.update a (Obj.putSet es' (t.put j).1) }) g1 rfl T' so.1 (by rw[sz'];omega) so.2.2 fun es2 t2 T2 p2 pl2 ld2 mk2 fl2=>?_);refine cS (fin es2 t2 _ _ (s1.trans (dW.update ..)) (zCS (o:={ o with data:=.set es' (ep+1) (t.put j).1 }) g1 rfl) T2 p2 (pl2.trans pl) (ld2.trans ld) ?_);rw[fl2,mk2,sz'];exact so.2.1
  ·rw[if_neg hrl]
   refine cS (fin es' (t.put j).1 _ _ s1 g1 T' (.refl _) pl ld ?_);cases hd':d.isSome with
   | true =>
    rw[f2 (j5 hd'),mk];exact h8
   | false =>
    rw[hd'] at hrl;have:(t.put j).1.tooFull=false:=by simpa using hrl
    unfold SetTable.tooFull at this;simpa using this
 ·rcases h4.msk with z | z | z | z | z | z<;>omega
end
end HT2
namespace HT2
open HI (Ris wG wc zCQ)
noncomputable def Kp(h0 h:Heap):Prop:=∀ b o,h0.get? b=some o->h.get? b=some o
section
variable {prog:Program} {w:World} {P:Addr->Prop} {A:Around} {R:Result->Shared->Prop} {h0:Heap} {S I:Addr} {fp wr:List Addr} {n:Nat} {its:Array Value} {val:Nat->List Int} {St:Nat->Heap->Prop} {g:Array GenState} {d:Drawn} {os:OsState}
theorem zEk(W:Walks prog w A.in1 I fp wr n (fun i v=>its[i]?=some v) St)(hA:A.in1.units<cLine)(hSf:S∉fp)(hS:h0.get? S=none)(hwr:∀ b∈wr,h0.get? b=none)(hwd:∀ i h,St i h->∀ b∈wr,∀ o,h.get? b=some o->∀ its n,o.data≠.seq its n)(hb:n<=60)
  (ht:∀ i v,its[i]?=some v->∃ c,v=.ref c/\TK prog w P h0 (val i) c) :
  ∀(k i:Nat) (h:Heap) (tk:Nat) (kys:List (List Int)),n-i=k->i<=n->Kp h0 h->St i h->ST prog w P h S kys->kys.length<=i->(∀ x,x∈kys↔∃ m,m<i/\val m=x) ->
   (∀ h' tk' kys',Kp h0 h'->ST prog w P h' S kys'->kys'.length<=n->(∀ x,x∈kys'↔∃ m,m<n/\val m=x)->R (.ok (.ret .none)) ⟨h',g,d,tk',os⟩) ->
   codeAny (model prog w) A (.builtin "set.update.loop" ⟨[.ref S,.ref I],[]⟩) R ⟨h,g,d,tk,os⟩:=by
 have hSw:S∉wr:=fun q=>hSf (W.sub _ q);have kpw:∀ {h h':Heap},Kp h0 h->(∀ b o,b∉wr->h.get? b=some o->h'.get? b=some o)->Kp h0 h':=fun {h h'} kp e b o q=>e b o (fun z=>by rw[hwr b z] at q;cases q) (kp b o q);have stw:∀ {h h':Heap} {kys},ST prog w P h S kys->(∀ b o,b∉wr->h.get? b=some o->h'.get? b=some o)->(∀ b o,b∈wr->h.get? b=some o->∀ its n,o.data≠.seq its n)->ST prog w P h' S kys:=fun {h h' kys} x e e2=>by
  obtain⟨o,es,ep,t,h1,h2,h3,h4,h5,h6,h7,h8,h9,h10⟩:=x;obtain⟨k1,k2⟩:=h5.keep fun c o its n q1 q2=>e c o (fun z=>e2 c o z q1 its n q2) q1;exact⟨o,es,ep,t,e _ _ hSw h1,h2,h3,h4,k1,h6,h7,h8,by rw[k2];exact h9,h10⟩
 intro k
 induction k with
 | zero =>
  intro i h tk kys hk hi kp st hst hl mem hR;obtain rfl:i=n:=by omega
  refine fS F.entry_set_update_loop ?_;rw[Around.under_plainId F.plain_set_update_loop _];show wpAny _ A.in1 (pyNext (.ref I)>>=_) _ _ _;refine cN (W.done _ _ _ st fun h' tk' e=>cS (hR h' tk' kys (kpw kp e) (stw hst e fun b o z q=>hwd _ _ st b z o q) hl mem))
 | succ k ih =>
  intro i h tk kys hk hi kp st hst hl mem hR;have lt:i<n:=by omega
  refine fS F.entry_set_update_loop ?_;rw[Around.under_plainId F.plain_set_update_loop _];show wpAny _ A.in1 (pyNext (.ref I)>>=_) _ _ _;refine cN (W.item i _ _ _ lt st fun v h1 tk1 hP st1 e1=>?_);obtain⟨c,rfl,hc⟩:=ht i v hP;have kp1:Kp h0 h1:=kpw kp e1;have hst1:=stw hst e1 fun b o z q=>hwd _ _ st b z o q;have hc1:TK prog w P h1 (val i) c:=hc.keep fun o q=>kp1 c o q;show wpAny _ A.in1 (holding [Value.ref c] (setAdd S (.ref c))>>=_) _ _ _;refine cN (dZ ?_);unfold setAdd;refine dZ (cN ((tupleKind (intKind prog w)).pyHash (k:=val i) hA hc1.1 ?_));refine zKc (s:=⟨h1,g,d,tk1+((val i).length+1),os⟩) hA hst1 hc1 (by omega) fun h2 kys2 r sb st2 pm=>?_;have len2:kys2.length<=i+1:=by
   rw[pm.length_eq];split
   ·omega
   ·rw[dO];simp;omega
  have mem2:∀ x,x∈kys2↔∃ m,m<i+1/\val m=x:=fun x=>by
   rw[pm.mem_iff];constructor
   ·intro q
    split at q
    ·obtain⟨m,h1,h2⟩:=(mem x).mp q
     exact⟨m,by omega,h2⟩
    ·rcases dQ.mp q with q | q
     ·obtain⟨m,h1,h2⟩:=(mem x).mp q
      exact⟨m,by omega,h2⟩
     ·rw[dt] at q
      exact⟨i,by omega,q.symm⟩
   ·rintro⟨m,h1,h2⟩
    rcases eM m i with z | z
    ·have:=(mem x).mpr ⟨m,z,h2⟩
     split
     ·exact this
     ·exact eW _ this
    ·obtain rfl:m=i:=by omega
     split
     ·rename_i q;rw[<-h2];exact q
     ·rw[<-h2];simp
  have kp2:Kp h0 h2:=fun b o q=>by
   rw[sb.2 b (fun z=>by subst z;rw[hS] at q;cases q)];exact kp1 b o q
  refine cS ⟨plainId_quiet F.plain_set_update_loop _,ih (i+1) h2 _ kys2 (by omega) lt kp2 (W.frame _ _ _ st1 fun b hb' o e=>?_) st2 len2 mem2 hR⟩;rw[sb.2 b (fun q:b=S=>hSf (by rw[<-q];exact hb'))];exact e
end
end HT2
namespace HT2
open PySem PySem.Spec
open HI (Ris)
section
variable {prog:Program} {w:World} {P:Addr->Prop} {A:Around} {E:Value->Shared->Prop} {s:Shared}
theorem zMM(hA:A.units<cLine)(h1:s.heap.get? a=some o)(h3:o.data=.set es ep t)(h4:Tab t es)(h5:OkT prog w P s.heap es)(hb:TK prog w P s.heap ns b)
  (q1:∀(i:Nat) c,es[i]?=some (hT prog w ns,.ref c)->TK prog w P s.heap ns c->Q (some i) s) (q2:(∀(i:Nat) e c ms,es[i]?=some e->e.2=.ref c->TK prog w P s.heap ms c->ms≠ns)->Q none s) :
  wpAny (model prog w) A (setFind a (.ref b) (hT prog w ns)) Q E s:=by
 unfold setFind setFindIn;refine cN (ef h1 h3 (fits_of h4) ?_);dsimp only;rw[if_neg (by simp[byScan,Value.scannable])];obtain⟨N,n1,n2,n3⟩:=h4.stop (hT prog w ns);refine cN ?_;unfold setSearch;refine zPQ (Q:=_) hA h1 h3 h4 h5 hb n1 n2 n3 (adding:=false) (fun i c e1 e2=>?_) (fun hno d hd=>?_) (N-0) 0 100000 none none rfl (eY _) ?_ (fun j q=>by cases q) rfl (fun m hm=>absurd hm (hV _))
 ·exact cS (q1 i c e1 e2)
 ·exact cS (q2 hno)
 ·rcases h4.msk with z | z | z | z | z | z<;>omega
theorem zG1(hA:A.units<cLine)(hS:ST prog w P s.heap a kys)(hb:TK prog w P s.heap ns b)
  (h:∀ h' kys',dW a s.heap h'->ST prog w P h' a kys'->kys'.Perm (kys.erase ns)->Q (decide (ns∈kys)) { s with heap:=h' }):wpAny (model prog w) A (setDiscardHashed a (.ref b) (hT prog w ns)) Q E s:=by
 obtain⟨o,es,ep,t,h1,h2,h3,h4,h5,h6,h7,h8,h9,h10⟩:=id hS;unfold setDiscardHashed;refine cN (zMM hA h1 h3 h4 h5 hb (fun i c e1 e2=>?_) (fun hno=>?_))
 ·dsimp only
  have hi:i<es.size:=(fI.mp e1).1;have eL:es.toList[i]?=some (hT prog w ns,.ref c):=by simpa using e1
  have hin:ns∈kys:=by
   rw[h9.mem_iff];exact dL.mpr ⟨_,dS eL,zBn e2 _⟩
  have pl:t.place[i]?=some (t.place[i]'(by rw[h4.size];exact hi)):=by simp[h4.size,hi]
  obtain⟨T',fz⟩:=h4.drop pl;refine cN (ef h1 h3 (fits_of h4) ?_);dsimp only;have sz:(dJ es i).size<=es.size:=by
   rw[<-dg,zZ,dO,eK,gF];simp only[dg];omega
  have esl:es.size<=255:=by
   have:=h4.size;have:=h4.room;have:t.fill=t.place.size+t.dummies.size:=rfl;rcases h4.msk with z | z | z | z | z | z<;>omega
  refine cN (wpAny_storeSet_of h1 h3 (cN (wpAny_point (cS ?_))) (by rw[sizeLine_eq];omega));have sb:dW a s.heap (s.heap.update a (Obj.putSet (dJ es i) (t.drop i))):=dW.update ..;have g:=zCS (es':=dJ es i) (t':=t.drop i) h1 h3;have pe:es.toList.Perm ((hT prog w ns,.ref c)::(dJ es i).toList):=by rw[zZ];exact zHp eL
  have ok1:OkT prog w P s.heap (dJ es i):=.of fun e he=>by
   obtain⟨c,e1,e2⟩:=h5.mem e (pe.mem_iff.mpr (dC _ he));exact⟨c,_,e1,e2⟩
  have kk:∀ c o' its n,s.heap.get? c=some o'->o'.data=.seq its n->(s.heap.update a (Obj.putSet (dJ es i) (t.drop i))).get? c=some o':=fun c o' its n e1 e2=>by
   rw[sb.2 c (fun q=>by subst q;rw[h1] at e1;cases e1;rw[h3] at e2;cases e2)];exact e1
  obtain⟨k1,k2⟩:=ok1.keep kk;have pk:(kys.erase ns).Perm ((dJ es i).toList.map (kyT s.heap)):=by
   have:=h9.trans (pe.map (kyT s.heap));rw[eA,zBn e2] at this;have:=this.erase ns;rwa [List.erase_cons_head] at this
  have dr:(t.drop i).mask=t.mask/\(t.drop i).plain=t.plain/\(t.drop i).led=t.led:=by
   unfold SetTable.drop;rw[pl];exact⟨rfl,rfl,rfl⟩
  have:=h _ (kys.erase ns) sb ⟨_,_,_,_,g,h2,rfl,T',k1,dr.2.1.trans h6,dr.2.2.trans h7,by rw[fz,dr.1];exact h8,by rw[k2];exact pk,h10.erase _⟩ (.refl _);rwa [decide_eq_true hin] at this
 ·have hnk:ns∉kys:=fun q=>by
   rw[h9.mem_iff] at q;obtain⟨e,he,hk⟩:=dL.mp q;obtain⟨c,e1,e2⟩:=h5.mem e he;obtain⟨i,hi,e3⟩:=fJ he;rw[hk] at e2;exact hno i e c ns (by rw[<-e3];simpa using hi) (by rw[e1]) e2 rfl
  dsimp only;refine cS ?_;have:=h s.heap kys ⟨rfl,fun u0 u0=>rfl⟩ hS (by rw[List.erase_of_not_mem hnk]);rwa [decide_eq_false hnk] at this
noncomputable def zF3(ns:List Int)(kys:List (List Int)):List (List Int):=if ns∈kys then kys.erase ns else kys++[ns]
theorem zMN(hA:A.units<cLine)(hS:ST prog w P s.heap a kys)(hb:TK prog w P s.heap ns b)(room:kys.length<=60)
  (h:∀ h' kys',dW a s.heap h'->ST prog w P h' a kys'->kys'.Perm (zF3 ns kys)->Q () { s with heap:=h' }) :
  wpAny (model prog w) A (holding [.ref b] do
   if !(<-setDiscardHashed a (.ref b) (hT prog w ns)) then
    let _ <-setAddHashed a (.ref b) (hT prog w ns)) Q E s:=by
 refine dZ (cN (zG1 hA hS hb fun h1 kys1 sb1 st1 p1=>?_));by_cases hin:ns∈kys
 ·rw[decide_eq_true hin]
  simp only[fQ,cQ,↓reduceIte];exact cS (h h1 kys1 sb1 st1 (by unfold zF3;rw[if_pos hin];exact p1))
 ·rw[decide_eq_false hin]
  simp only[Bool.not_false,↓reduceIte];rw[List.erase_of_not_mem hin] at p1;have hb1:TK prog w P h1 ns b:=by
   obtain⟨⟨o,i,n,e,c,d,r⟩,qp⟩:=hb;obtain⟨os,es,ep,t,g1,g2,g3,u0⟩:=hS;exact⟨⟨o,i,n,by rw[sb1.2 b (fun q=>by subst q;rw[g1] at e;cases e;rw[g3] at d;cases d)];exact e,c,d,r⟩,qp⟩
  refine cN (zKc (s:={ s with heap:=h1 }) hA st1 hb1 (by rw[p1.length_eq];exact room) fun h2 kys2 r sb2 st2 p2=>cS ?_);have hin1:ns∉kys1:=fun q=>hin (p1.mem_iff.mp q);rw[if_neg hin1] at p2;exact h h2 kys2 (sb1.trans sb2) st2 (by unfold zF3;rw[if_neg hin];exact p2.trans (p1.append_right _))
end
open HI (Ris wG wc)
section
variable {prog:Program} {w:World} {P:Addr->Prop} {A:Around} {E:Value->Shared->Prop} {s:Shared}
theorem zKd(n:Nat)(h:n<=60):Msk (dG ((0+n)*2)-1)/\(n=0\/n*5<(dG ((0+n)*2)-1)*3)/\dG ((0+n)*2)<=256:=by
 have:∀ n,n<61->((dG ((0+n)*2)-1==7||dG ((0+n)*2)-1==15||dG ((0+n)*2)-1==31||dG ((0+n)*2)-1==63||dG ((0+n)*2)-1==127||dG ((0+n)*2)-1==255)&&decide (n=0\/n*5<(dG ((0+n)*2)-1)*3)&&decide (dG ((0+n)*2)<=256))=true:=by decide +kernel
 have:=this n (by omega);simp only[fm,Bool.or_eq_true,beq_iff_eq,decide_eq_true_eq] at this;refine⟨?_,this.1.2,this.2⟩;unfold Msk;omega
structure New (w:World) (h:Heap) (a:Addr) (n:Nat):Prop where
 ex:∃(o:Obj) (ep:Nat) (t:SetTable),h.get? a=some o/\o.ExactSet/\o.data=.set #[] ep t/\Tab t #[]/\t.plain=true/\t.led=wc w/\t.fill=0/\(n=0\/n*5<t.mask*3)
theorem zMO:Tab (.fresh 0 0 (wc w)) #[]:=⟨.inl rfl,rfl,fX.nil,fX.nil,fun j hj=>(by simp[gm] at hj),fun j hj=>(by simp[gm] at hj),eY _,fun j h x he=>(by
 obtain⟨i,e,u0⟩:=he;simp[gm] at e),fun j hj=>(by simp[gm] at hj)⟩
theorem zPS{a:Addr}{n:Nat}{Q:Unit->Shared->Prop}(hn:n<=60)(h0:s.heap.get? a=some (wG w))(h:∀ h',dW a s.heap h'->New w h' a n->Q () { s with heap:=h' }):wpAny (model prog w) A (setRoomFor a n) Q E s:=by
 unfold setRoomFor;refine cN (ef h0 rfl (fits_of zMO) ?_);have rf:(gm 0 0 (wc w)).roomFor n=if n*5≥21 then some ((0+n)*2) else none:=by
  unfold SetTable.roomFor;show(if (0+n)*5≥7*3 then some ((0+n)*2) else none)=_;rw[Nat.zero_add]
 dsimp only;rw[rf];have so:=zKd n hn;split
 ·rename_i wanted hw
  split at hw
  ·cases hw
   refine zM2 h0 rfl zMO so.1 (eY _) so.2.2 fun es' t' T' p pl ld mk fl=>?_;have:es'=#[]:=by
    have:=p.length_eq;simpa using this
   subst this;exact h _ (dW.update ..) ⟨_,_,t',zCS h0 rfl,⟨rfl,rfl,rfl⟩,rfl,T',pl,ld,fl,by rw[mk];exact so.2.1⟩
  ·cases hw
 ·rename_i hw
  refine cS (h s.heap ⟨rfl,fun u0 u0=>rfl⟩ ⟨_,_,_,h0,⟨rfl,rfl,rfl⟩,rfl,zMO,rfl,rfl,rfl,.inr ?_⟩);show n*5<7*3;rcases eM (n*5) 21 with z | z
  ·exact z
  ·exact(hw _ (if_pos z)).elim
theorem zIo(har:a≠r)(h0:s.heap.get? a=some (wG w))(hS:ST prog w P s.heap r kys)(hn:kys.length<=60)
  (h:∀ h',dW a s.heap h'->ST prog w P h' a kys->Q () { s with heap:=h' }):wpAny (model prog w) A (setMerge a r each) Q E s:=by
 obtain⟨o,es,ep,t,h1,h2,h3,h4,h5,h6,h7,h8,h9,h10⟩:=id hS;have esz:es.size=kys.length:=by have:=h9.length_eq;simp at this;omega
 unfold setMerge;rw[if_neg (by simpa using har)];refine cN (ef h1 h3 (fits_of h4) ?_);dsimp only;have nt:∀ {h':Heap},dW a s.heap h'->∀ c o' its n,s.heap.get? c=some o'->o'.data=.seq its n->h'.get? c=some o':=fun {h'} sb c o' its n e1 e2=>by
  rw[sb.2 c (fun q=>by subst q;rw[h0] at e1;cases e1;cases e2)];exact e1
 by_cases he:es.isEmpty=true
 ·rw[if_pos he]
  have e0:es=#[]:=by simpa using he
  subst e0;have k0:kys=[]:=by simpa using esz.symm
  subst k0;exact cS (h s.heap ⟨rfl,fun u0 u0=>rfl⟩ ⟨_,#[],_,_,h0,⟨rfl,rfl,rfl⟩,rfl,zMO,fun i e q=>(by simp at q),rfl,rfl,(by show 0*5<7*3;decide),.refl _,List.nodup_nil⟩)
 ·rw[if_neg he]
  refine cN (zPS (n:=es.size) (by omega) h0 fun h' sb nw=>?_);obtain⟨on,epn,tn,g1,g2,g3,g4,g5,g6,g7,g8⟩:=nw.ex;have hpos:0<es.size:=by
   rcases Nat.eq_zero_or_pos es.size with z | z
   ·exact(he (by simpa using z)).elim
   ·exact z
  have g8:es.size*5<tn.mask*3:=by rcases g8 with z | z<;>omega
  refine cN (ef (s:={ s with heap:=h' }) g1 g3 (fits_of g4) ?_);dsimp only;obtain⟨k1,k2⟩:=h5.keep (nt sb);have fin:∀(es2:Array (Int×Value)) (t2:SetTable),Tab t2 es2->es2.toList.Perm es.toList->t2.plain=true->t2.led=wc w->t2.fill*5<t2.mask*3->es2.size<=sizeLine/\Q () { s with heap:=h'.update a (Obj.putSet es2 t2) }:=fun es2 t2 T2 p2 pl2 ld2 fl2=>by
   have s2:es2.size=es.size:=by have:=p2.length_eq;simpa using this
   refine⟨by rw[s2,sizeLine_eq];omega,?_⟩;have sb2:dW a s.heap (h'.update a (Obj.putSet es2 t2)):=sb.trans (dW.update ..);obtain⟨j1,j2⟩:=(h5.perm p2).keep (nt sb2);refine h _ sb2 ⟨_,es2,_,t2,zCS g1 g3,g2,rfl,T2,j1,pl2,ld2,fl2,?_,h10⟩;rw[j2];exact h9.trans (p2.map _).symm
  have rd:tn.road t=if (tn.mask==t.mask&&t.dummies.isEmpty)=true then .slotForSlot else .clean:=by
   unfold SetTable.road;rw[g7];rfl
  rw[rd];by_cases hs:(tn.mask==t.mask&&t.dummies.isEmpty)=true
  ·rw[if_pos hs]
   dsimp only;obtain⟨f1,f2⟩:=fin es { t with finger:=tn.finger,led:=tn.led&&t.led,moves:=tn.moves,plain:=tn.plain&&t.plain } ⟨h4.msk,h4.size,h4.ris,h4.risD,h4.le,h4.leD,h4.room,h4.way,h4.dis⟩ (.refl _) (by show(tn.plain&&t.plain)=true;rw[g5,h6];rfl) (by show(tn.led&&t.led)=_;rw[g6,h7];simp) h8;exact wpAny_storeSet_of (s:={ s with heap:=h' }) g1 g3 f2 f1
  ·rw[if_neg hs]
   dsimp only;obtain⟨t',order,l1,l2,l3,l4,l5,l6,l7,l8⟩:=zHq (mask:=tn.mask) (finger:=tn.finger) (moves:=tn.moves) (led:=tn.led&&t.led) (plain:=tn.plain&&t.plain) (es:=es) g4.msk (by omega);have sz:(order.filterMap (es[·]?)).size=es.size:=by
    have:=l3.length_eq;rw[dg,dg] at this;exact this
   refine cN (gX (a:=(order.filterMap (es[·]?),t')) ?_ ?_)
   ·rw[l1]
    show(if ((order.filterMap (es[·]?)).size != es.size)=true then _ else _)=_;rw[if_neg (by rw[sz];simp)]
   ·dsimp only
    obtain⟨f1,f2⟩:=fin (order.filterMap (es[·]?)) t' l2 l3 (by rw[l6,g5,h6];rfl) (by rw[l5,g6,h7];simp) (by
     rw[l4];have:t'.fill=t'.place.size+t'.dummies.size:=rfl;rw[this,l7,l8];simpa using g8)
    exact wpAny_storeSet_of (s:={ s with heap:=h' }) g1 g3 f2 f1
end
end HT2
namespace HT2
open HI (Ris wG wc zA1 zBb)
theorem zKe:isSubtype (.type "set") (.type "set")=pure true:=by rw[isSubtype_type];kernel_rfl
section
variable {prog:Program} {w:World} {P:Addr->Prop} {A:Around} {E:Value->Shared->Prop} {s:Shared}
theorem zFD(ho:s.heap.get? a=some o)(hc:o.cls=.type "set")(h:Q true s):wpAny (model prog w) A (Builtin.Frozenset.isAnySet (.ref a)) Q E s:=by
 unfold Builtin.Frozenset.isAnySet;unfold orM;refine cN (fV (T:="set") (b:=true) ⟨o,ho,hc⟩ zKe ?_);exact cS h
theorem zKf(hS:ST prog w P s.heap r kys)(hn:kys.length<=60)
  (h:∀ h',(∀ b o,s.heap.get? b=some o->h'.get? b=some o)->ST prog w P h' s.heap.objs.size kys->Q (.ref s.heap.objs.size) { s with heap:=h' }):wpAny (model prog w) A (Builtin.Frozenset.newFrom nm (.type "set") (.ref r)) Q E s:=by
 obtain⟨o,es,ep,t,h1,h2,h3,h4,u0⟩:=id hS;have lr:r<s.heap.objs.size:=d7 h1;unfold Builtin.Frozenset.newFrom newSet;refine cN (cN (zA1 ?_));dsimp only;refine eR ?_;refine cN (m:=Builtin.Frozenset.addrOf _) (cS ?_);show wpAny _ _ (holding [Value.ref s.heap.objs.size] (Builtin.Frozenset.updateFrom nm s.heap.objs.size (.ref r))>>=fun u0=>pure (Value.ref s.heap.objs.size)) _ _ { s with heap:=s.heap.push (wG w) };have h0:(s.heap.push (wG w)).get? s.heap.objs.size=some (wG w):=d9 _ rfl;have h1':(s.heap.push (wG w)).get? r=some o:=cP _ h1;refine cN (dZ ?_);unfold Builtin.Frozenset.updateFrom;refine cN (zFD (s:={ s with heap:=s.heap.push (wG w) }) h1' h2.1 ?_);rw[if_pos rfl];show wpAny _ _ (Builtin.Frozenset.merge nm s.heap.objs.size r) _ _ _;unfold Builtin.Frozenset.merge;refine cN (wpAny_setEpoch_of (s:={ s with heap:=s.heap.push (wG w) }) h1' h3 (fits_of h4) ?_);refine zIo (s:={ s with heap:=s.heap.push (wG w) }) (gB lr) h0 (hS.keep fun b o e=>cP _ e) hn fun h' sb st=>cS ?_;refine h h' (fun b o e=>?_) st;rw[sb.2 b (dP (d7 e))];exact cP _ e
theorem zKg{a c:Addr}{o:Obj}{es:Array (Int×Value)}{ep:Nat}{t:SetTable}{Q:Array (Int×Value)->Shared->Prop}(ho:s.heap.get? a=some o)(hd:o.data=.set es ep t)(hf:t.fits es.size=true)(pl:t.plain=true)(ld:t.led=wc w)
  (h:∀ xs:Array (Int×Value),xs.toList.Perm es.toList->Q xs s):wpAny (model prog w) A (setWalkUnseen a [c] (some c)) Q E s:=by
 unfold setWalkUnseen;refine cN (ef ho hd hf (cN (zA1 ?_)));dsimp only;have hc:(w.params.followText "set-order"||(t.led&&t.plain)||decide (es.size<=1))=true:=by
  rw[pl,ld];unfold HI.wc;cases w.params.followText "set-order"<;>rfl
 rw[if_pos hc];unfold setWalk;refine cN (ef ho hd hf (cN (zA1 ?_)));cases bt:w.params.followText "set-order" with
 | true =>
  simp only[↓reduceIte];refine cN (wpAny_askSetting (cS (h _ (zBb _ es))))
 | false =>
  simp only[cQ,↓reduceIte];have ld':t.led=true:=by rw[ld];unfold HI.wc;rw[bt];rfl
  refine gu (fun q=>absurd (show(!t.plain&&decide (es.size>1))=true from q) (by rw[pl];simp)) (fun u0=>?_);refine cN (gu (fun q=>absurd q (by rw[ld'];simp)) (fun u0=>cS (cS (h es (.refl _)))))
theorem ST.but(hS:ST prog w P h r kys)(hra:r≠a)(ha:∃ o es ep t,h.get? a=some o/\o.data=.set es ep t)(sb:dW a h h'):ST prog w P h' r kys:=by
 obtain⟨o,es,ep,t,h1,h2,h3,h4,h5,h6,h7,h8,h9,h10⟩:=hS;obtain⟨oa,ea,epa,ta,g1,g2⟩:=ha;obtain⟨k1,k2⟩:=h5.keep fun c o' its n e1 e2=>by
  rw[sb.2 c (fun q=>by subst q;rw[g1] at e1;cases e1;rw[g2] at e2;cases e2)];exact e1
 exact⟨o,es,ep,t,by rw[sb.2 r hra];exact h1,h2,h3,h4,k1,h6,h7,h8,by rw[k2];exact h9,h10⟩
theorem zKh(nd:kys.Nodup)(x:List Int):x∈zF3 ns kys↔(if x=ns then x∉kys else x∈kys):=by
 unfold zF3;by_cases hin:ns∈kys
 ·rw[if_pos hin,nd.mem_erase_iff]
  by_cases e:x=ns
  ·subst e;simp[hin]
  ·simp[e]
 ·rw[if_neg hin,dQ,dt]
  by_cases e:x=ns
  ·subst e;simp[hin]
  ·simp[e]
theorem zMP{nm:String}{a l:Addr}{K0 kl U:List (List Int)}{Q:Unit->Shared->Prop}(hA:A.units<cLine)(hal:l≠a)(hS:ST prog w P s.heap a K0)(hL:ST prog w P s.heap l kl)(hU:U.length<=60)(u1:∀ x∈K0,x∈U)(u2:∀ x∈kl,x∈U)
  (h:∀ h' kys,dW a s.heap h'->ST prog w P h' a kys->(∀ x,x∈kys↔¬ (x∈K0↔x∈kl))->kys.length<=60->Q () { s with heap:=h' }) :
  wpAny (model prog w) A (Builtin.Frozenset.symmetricDifferenceUpdate nm a (.ref l)) Q E s:=by
 obtain⟨o,es,ep,t,h1,h2,h3,h4,h5,h6,h7,h8,h9,h10⟩:=id hL;obtain⟨oa,ea,epa,ta,g1,g2,g3,u0⟩:=id hS;unfold Builtin.Frozenset.symmetricDifferenceUpdate;rw[if_neg (by simpa using hal)];refine cN (wpAny_typeOf (T:="set") ⟨o,h1,h2.1⟩ ?_);rw[if_neg (by decide)];refine cN (zFD h1 h2.1 ?_);rw[if_pos rfl];refine cN (cS (cN (m:=Builtin.Frozenset.addrOf _) (cS ?_)));refine cN (wpAny_setEpoch_of h1 h3 (fits_of h4) (dZ ?_));refine cN (zKg h1 h3 (fits_of h4) h6 h7 fun xs pm=>?_);rw[<-Array.forIn_toList];have key:∀ e∈xs.toList,∃ c,e=(hT prog w (kyT s.heap e),.ref c)/\TK prog w P s.heap (kyT s.heap e) c:=fun e he=>h5.mem e (pm.mem_iff.mp he);have kperm:(xs.toList.map (kyT s.heap)).Perm kl:=(pm.map _).trans h9.symm;have knd:(xs.toList.map (kyT s.heap)).Nodup:=kperm.nodup_iff.mpr h10;refine cN (gf _ (fun rest r s'=>∃ done h' kys,xs.toList=done++rest/\s'={ s with heap:=h' }/\dW a s.heap h'/\ST prog w P h' a kys/\∀ x,x∈kys↔¬ (x∈K0↔x∈done.map (kyT s.heap))) _ ?_ ?_ _ _ ⟨[],s.heap,K0,rfl,rfl,⟨rfl,fun u0 u0=>rfl⟩,hS,fun x=>by simp⟩)
 ·rintro e rest r s' ⟨done,h',kys,e1,rfl,sb,st,mem⟩
  have he:e∈xs.toList:=by rw[e1];simp
  obtain⟨c,e2,e3⟩:=key e he;generalize hns:kyT s.heap e=ns at e2 e3;subst e2;have e3':TK prog w P h' ns c:=by
   obtain⟨⟨o',i,n,q1,q2,q3,q4⟩,qp⟩:=e3;exact⟨⟨o',i,n,by rw[sb.2 c (fun q=>by subst q;rw[g1] at q1;cases q1;rw[g3] at q3;cases q3)];exact q1,q2,q3,q4⟩,qp⟩
  have hl':=hL.but hal ⟨oa,ea,epa,ta,g1,g3⟩ sb;have nd:kys.Nodup:=let ⟨_,_,_,_,_,_,_,_,_,_,_,_,_,q⟩:=st;q;have sub:∀ x∈kys,x∈U:=fun x hx=>by
   by_cases q:x∈K0
   ·exact u1 x q
   ·have:=(mem x).mp hx
    have:x∈done.map (kyT s.heap):=Classical.byContradiction fun z=>this ⟨fun y=>(q y).elim,fun y=>(z y).elim⟩;exact u2 x (kperm.mem_iff.mp (by rw[e1,ig];exact eW _ this))
  have len:kys.length<=60:=eN (List.Nodup.length_le_of_subset nd sub) hU;dsimp only;refine cN (zMN (s:={ s with heap:=h' }) hA st e3' len fun h2 kys2 sb2 st2 p2=>?_);unfold Builtin.Frozenset.unchanged;have g1':h2.get? l=some o:=by rw[sb2.2 l hal,sb.2 l hal];exact h1
  refine cN (cN (wpAny_setEpoch_of (s:={ s with heap:=h2 }) g1' h3 (fits_of h4) ?_));rw[if_neg (by simp)];refine cS (cS ⟨done++[(hT prog w ns,.ref c)],h2,kys2,by rw[e1];simp,rfl,sb.trans sb2,st2,fun x=>?_⟩);have nn:ns∉done.map (kyT s.heap):=fun q=>by
   rw[e1,ig,eA,hns] at knd;exact(List.nodup_append.mp knd).2.2 ns q ns (dH) rfl
  rw[p2.mem_iff,zKh nd,ig,dQ,List.map_singleton,hns,dt];by_cases e:x=ns
  ·subst e
   rw[if_pos rfl,mem x];simp only[nn,or_true,iff_true,iff_false,Classical.not_not,false_or]
  ·rw[if_neg e,mem x]
   simp only[e,or_false]
 ·rintro r s' ⟨done,h',kys,e1,rfl,sb,st,mem⟩
  rw[fU] at e1;have nd:kys.Nodup:=let ⟨_,_,_,_,_,_,_,_,_,_,_,_,_,q⟩:=st;q;have mm:∀ x,x∈kys↔¬ (x∈K0↔x∈kl):=fun x=>by rw[mem x,<-e1,kperm.mem_iff]
  have sub:∀ x∈kys,x∈U:=fun x hx=>by
   by_cases q:x∈K0
   ·exact u1 x q
   ·have:=(mm x).mp hx
    exact u2 x (Classical.byContradiction fun z=>this ⟨fun y=>(q y).elim,fun y=>(z y).elim⟩)
  exact cS (h h' kys sb st mm (eN (List.Nodup.length_le_of_subset nd sub) hU))
end
open HI (Ris wG wc zCQ)
section
variable {prog:Program} {w:World} {P:Addr->Prop} {A:Around} {E:Value->Shared->Prop} {s:Shared}
theorem zKi{h:Heap}:ST prog w P (h.push (wG w)) h.objs.size []:=by
 refine⟨wG w,#[],0,.fresh 0 0 (wc w),d9 _ rfl,⟨rfl,rfl,rfl⟩,rfl,⟨.inl rfl,rfl,fX.nil,fX.nil,fun j hj=>(by simp[gm] at hj),fun j hj=>(by simp[gm] at hj),eY _,fun j h x he=>?_,fun j hj=>(by simp[gm] at hj)⟩,fun i e he=>by simp at he,rfl,rfl,(by show 0*5<7*3;decide),.refl _,List.nodup_nil⟩;obtain⟨i,e,u0⟩:=he;simp[gm] at e
theorem zIp{l:Addr}{its:Array Value}{val:Nat->List Int}{Q:Value->Shared->Prop}(hh:A.handled=none)(hA:A.in1.in1.in1.units<cLine)(hl:s.heap.IsList l its)(ht:∀ i v,its[i]?=some v->∃ c,v=.ref c/\TK prog w P s.heap (val i) c)(hb:its.size<=60)
  (h:∀(h':Heap) (tk:Nat) (kys:List (List Int)),ST prog w P h' s.heap.objs.size kys->kys.length<=its.size->(∀ x,x∈kys↔∃ m,m<its.size/\val m=x)->Kp s.heap h'->Q (.ref s.heap.objs.size) { s with heap:=h',toks:=tk }) :
  wpAny (model prog w) A (call (.type "set") [.ref l]) Q E s:=by
 obtain⟨c,tl,hmro⟩:=F.called_set.mro;have hmade:=F.called_set.made;have hsub:=F.called_set.sub;refine wpAny_call (codeAny_of_tree (show wpAny _ _ (callAny (.type "set") _) _ _ _ from cS ⟨Code.quiet_builtin _ (by decide +kernel),fS F.entry_type_call ?_⟩));rw[Around.under_plain (weight_type_call_type "set" [.ref l] []) rfl];have h1:=F.called_set.notType;have h2:=F.called_set.canCreate;have hct:=F.typeCall_set_1 (.ref l)
 (repeat (any_goals (first | assumption | wp_step)))
 refine fu (zCQ (.ref l) (E:=E) (Q1:=fun obj z=>obj=.ref s.heap.objs.size/\z={ s with heap:=s.heap.push (wG w) }) ⟨rfl,rfl⟩) fun r z hr=>?_;cases r with
 | error e=>exact hr
 | ok fl =>
  cases fl with
  | ret obj =>
   obtain⟨rfl,rfl⟩:=hr;have hT:Shared.TypeIs { s with heap:=s.heap.push (wG w) } (.ref s.heap.objs.size) "set":=⟨_,d9 _ rfl,rfl⟩
   have hli:=F.called_set.init.lookup;have hbi:=F.called_set.init.bind (.ref s.heap.objs.size)
   (repeat (any_goals (first | assumption | wp_step)))
   refine fu (codeAny_call_builtin (R:=wants (fun r z2=>r=.none/\∃ h' tk kys,z2={ s with heap:=h',toks:=tk }/\ST prog w P h' s.heap.objs.size kys/\kys.length<=its.size/\(∀ x,x∈kys↔∃ m,m<its.size/\val m=x)/\Kp s.heap h') E) F.called_set.init.plain F.entry_set_init (check_set_init_1 hT ?_)) fun r2 z2 hr2=>?_
   ·obtain⟨ol,hol,hcl,nl,hdl⟩:=hl
    obtain⟨ocls,odict,odata,oslots⟩:=ol;simp only at hcl hdl;subst hcl;subst hdl;have hol':(s.heap.push (wG w)).get? l=some { cls:=.type "list",dict:=odict,data:=.seq its nl,slots:=oslots }:=cP _ hol;have hsls:isSubtype (.type "list") (.type "set")=pure false:=by rw[isSubtype_type];kernel_rfl
    have hslf:isSubtype (.type "list") (.type "frozenset")=pure false:=by rw[isSubtype_type];kernel_rfl
    have hne:(Value.type "list"==Value.type "dict")=false:=by decide
    have hl1:(s.heap.push (wG w)).IsList l its:=⟨_,hol',rfl,nl,rfl⟩
    unfold Builtin.«set.__init__» noKeywords Builtin.Frozenset.updateFrom;generalize hPI:pyIter=PI
    wp_walk
    subst hPI;refine wpAny_pyIter_list hl1 (cN (wpAny_runValue ?_));have lS:l<s.heap.objs.size:=d7 hol;have hh3:A.in1.in1.in1.handled=none:=by simp[hh]
    have neI:l≠(s.heap.push (wG w)).objs.size:=by rw[eE];exact dP (Nat.lt_succ_of_lt lS)
    have hSf:s.heap.objs.size∉[(s.heap.push (wG w)).objs.size,l]:=by
     rw[eE];simp only[dN,dt,eO,or_false,not_or];exact⟨dP (Nat.lt_succ_self _),gB lS⟩
    have st0:ST prog w P ((s.heap.push (wG w)).push { cls:=.type "list_iterator",data:=.fields #[.ref l,.int 0 0] }) s.heap.objs.size []:=zKi.keep fun b o e=>cP _ e;refine zEk (h0:=s.heap) (Walks.list hh3 _ l neI its) hA hSf (gS (da _)) (fun b hb'=>by
     rw[dt] at hb';rw[hb',eE];exact gS (Nat.le_succ _)) (fun i h st b hb' o e its n q=>by
     rw[dt] at hb';subst hb';obtain⟨o2,e2,c2,d2⟩:=st.1;rw[e2] at e;cases e;rw[d2] at q;cases q) hb ht (its.size-0) 0 _ _ [] (by omega) (eY _) (fun b o e=>cP _ (cP _ e)) ⟨⟨_,d9 _ rfl,rfl,rfl⟩,hl1.push _⟩ st0 (da _) (fun x=>⟨fun q=>(by simp at q),fun⟨m,q,_⟩=>absurd q (hV _)⟩) ?_
    intro h' tk' kys' kp st len mem;show wpAny _ _ _ _ _ _;refine cS ?_;show wpAny _ _ (ret Value.none) _ _ _;exact cS ⟨rfl,h',tk',kys',rfl,st,len,mem,kp⟩
   ·cases r2 with
    | error e=>exact hr2
    | ok fl2 =>
     cases fl2 with
     | ret r =>
      obtain⟨rfl,h',tk,kys,rfl,st,len,mem,kp⟩:=hr2
      (repeat (any_goals (first | assumption | wp_step)))
      exact h _ _ kys st len mem kp
     | _=>exact hr2.elim
  | _=>exact hr.elim
theorem zIq{l:Addr}{its:Array Value}{val:Nat->List Int}{Q:Value->Shared->Prop}(hh:A.handled=none)(hA:A.in1.in1.in1.units<cLine)(hl:s.heap.IsTuple l its)(ht:∀ i v,its[i]?=some v->∃ c,v=.ref c/\TK prog w P s.heap (val i) c)(hb:its.size<=60)
  (h:∀(h':Heap) (tk:Nat) (kys:List (List Int)),ST prog w P h' s.heap.objs.size kys->kys.length<=its.size->(∀ x,x∈kys↔∃ m,m<its.size/\val m=x)->Kp s.heap h'->Q (.ref s.heap.objs.size) { s with heap:=h',toks:=tk }) :
  wpAny (model prog w) A (call (.type "set") [.ref l]) Q E s:=by
 obtain⟨c,tl,hmro⟩:=F.called_set.mro;have hmade:=F.called_set.made;have hsub:=F.called_set.sub;refine wpAny_call (codeAny_of_tree (show wpAny _ _ (callAny (.type "set") _) _ _ _ from cS ⟨Code.quiet_builtin _ (by decide +kernel),fS F.entry_type_call ?_⟩));rw[Around.under_plain (weight_type_call_type "set" [.ref l] []) rfl];have h1:=F.called_set.notType;have h2:=F.called_set.canCreate;have hct:=F.typeCall_set_1 (.ref l)
 (repeat (any_goals (first | assumption | wp_step)))
 refine fu (zCQ (.ref l) (E:=E) (Q1:=fun obj z=>obj=.ref s.heap.objs.size/\z={ s with heap:=s.heap.push (wG w) }) ⟨rfl,rfl⟩) fun r z hr=>?_;cases r with
 | error e=>exact hr
 | ok fl =>
  cases fl with
  | ret obj =>
   obtain⟨rfl,rfl⟩:=hr;have hT:Shared.TypeIs { s with heap:=s.heap.push (wG w) } (.ref s.heap.objs.size) "set":=⟨_,d9 _ rfl,rfl⟩
   have hli:=F.called_set.init.lookup;have hbi:=F.called_set.init.bind (.ref s.heap.objs.size)
   (repeat (any_goals (first | assumption | wp_step)))
   refine fu (codeAny_call_builtin (R:=wants (fun r z2=>r=.none/\∃ h' tk kys,z2={ s with heap:=h',toks:=tk }/\ST prog w P h' s.heap.objs.size kys/\kys.length<=its.size/\(∀ x,x∈kys↔∃ m,m<its.size/\val m=x)/\Kp s.heap h') E) F.called_set.init.plain F.entry_set_init (check_set_init_1 hT ?_)) fun r2 z2 hr2=>?_
   ·obtain⟨ol,hol,hcl,nl,hdl⟩:=hl
    obtain⟨ocls,odict,odata,oslots⟩:=ol;simp only at hcl hdl;subst hcl;subst hdl;have hol':(s.heap.push (wG w)).get? l=some { cls:=.type "tuple",dict:=odict,data:=.seq its nl,slots:=oslots }:=cP _ hol;have hsls:isSubtype (.type "tuple") (.type "set")=pure false:=by rw[isSubtype_type];kernel_rfl
    have hslf:isSubtype (.type "tuple") (.type "frozenset")=pure false:=by rw[isSubtype_type];kernel_rfl
    have hne:(Value.type "tuple"==Value.type "dict")=false:=by decide
    have hl1:(s.heap.push (wG w)).IsTuple l its:=⟨_,hol',rfl,nl,rfl⟩
    unfold Builtin.«set.__init__» noKeywords Builtin.Frozenset.updateFrom;generalize hPI:pyIter=PI
    wp_walk
    subst hPI;refine wpAny_pyIter_tuple hl1 (cN (wpAny_runValue ?_));have lS:l<s.heap.objs.size:=d7 hol;have hh3:A.in1.in1.in1.handled=none:=by simp[hh]
    have neI:l≠(s.heap.push (wG w)).objs.size:=by rw[eE];exact dP (Nat.lt_succ_of_lt lS)
    have hSf:s.heap.objs.size∉[(s.heap.push (wG w)).objs.size,l]:=by
     rw[eE];simp only[dN,dt,eO,or_false,not_or];exact⟨dP (Nat.lt_succ_self _),gB lS⟩
    have st0:ST prog w P ((s.heap.push (wG w)).push { cls:=.type "tuple_iterator",data:=.fields #[.ref l,.int 0 0] }) s.heap.objs.size []:=zKi.keep fun b o e=>cP _ e;refine zEk (h0:=s.heap) (Walks.tuple hh3 _ l neI its) hA hSf (gS (da _)) (fun b hb'=>by
     rw[dt] at hb';rw[hb',eE];exact gS (Nat.le_succ _)) (fun i h st b hb' o e its n q=>by
     rw[dt] at hb';subst hb';obtain⟨o2,e2,c2,d2⟩:=st.1;rw[e2] at e;cases e;rw[d2] at q;cases q) hb ht (its.size-0) 0 _ _ [] (by omega) (eY _) (fun b o e=>cP _ (cP _ e)) ⟨⟨_,d9 _ rfl,rfl,rfl⟩,hl1.push _⟩ st0 (da _) (fun x=>⟨fun q=>(by simp at q),fun⟨m,q,_⟩=>absurd q (hV _)⟩) ?_
    intro h' tk' kys' kp st len mem;show wpAny _ _ _ _ _ _;refine cS ?_;show wpAny _ _ (ret Value.none) _ _ _;exact cS ⟨rfl,h',tk',kys',rfl,st,len,mem,kp⟩
   ·cases r2 with
    | error e=>exact hr2
    | ok fl2 =>
     cases fl2 with
     | ret r =>
      obtain⟨rfl,h',tk,kys,rfl,st,len,mem,kp⟩:=hr2
      (repeat (any_goals (first | assumption | wp_step)))
      exact h _ _ kys st len mem kp
     | _=>exact hr2.elim
  | _=>exact hr.elim
end
open HI (Ris Sx Tells zBM zFw zHn zFy zA1 zAG zFv zDs zCz zBb zDt)
section
variable {prog:Program} {w:World} {P:Addr->Prop} {A:Around} {E:Value->Shared->Prop} {s:Shared}
theorem zPT(hh:A.handled=none)(T:Tells prog w a es ep t sl xs)(hf:t.fits es.size=true)(hx:xs.length=es.size)(hne:a≠it) :
  Walks prog w A it [it,a] [it] es.size (fun i v=>xs[i]?=some v) (fun i h=>h.get? it=some (zBM (rawInt (sl i)) i a es.size ep)/\Sx h a es ep t) where
 sub:=fun b hb=>by simp at hb ⊢;exact .inl hb
 frame:=fun i h h' st k=>⟨k it (by simp) _ st.1,st.2.keep fun o e=>k a (by simp) o e⟩
 item:=fun i s Q E hi st hQ=>zFw T hf hx hi st.1 st.2 hne fun h' v hxv e kp=>hQ _ h' s.toks hxv ⟨e,st.2.keep fun o q=>kp a o hne q⟩ fun b o hb q=>kp b o (by simpa using hb) q
 done:=fun s Q E st hQ=>zHn hh T hf hx st.1 st.2 fun h' kp=>hQ h' s.toks fun b o hb q=>kp b o (by simpa using hb) q
 self:=fun i s Q E st hQ=>zFy st.1 hQ
noncomputable def Mem(prog:Program)(w:World)(P:Addr->Prop)(h:Heap)(xs:List Value)(kys:List (List Int)):Prop:=(∀ v∈xs,∃ c ns,v=.ref c/\TK prog w P h ns c)/\(xs.map fun v=>kyT h (0,v)).Perm kys
theorem zIr(hS:ST prog w P s.heap a kys)
  (h:∀(h1:Heap) (it:Addr) (fp:List Addr) (St:Nat->Heap->Prop) (xs:List Value),(∀ b o,s.heap.get? b=some o->h1.get? b=some o)->(∀ b∈fp,b=a\/s.heap.objs.size<=b)->s.heap.objs.size<=it ->
   (∀ B:Around,B.handled=none->Walks prog w B it fp [it] xs.length (fun i v=>xs[i]?=some v) St)->St 0 h1->Mem prog w P s.heap xs kys->xs.length=kys.length->Q (.ref it) { s with heap:=h1 }):wpAny (model prog w) A (pyIter (.ref a)) Q E s:=by
 obtain⟨o,es,ep,t,ho,hex,hd,T0,ok,pl,hl,fl,pk,nd⟩:=hS;have hf:=fits_of T0;have hr:=T0.ris;have hT:s.TypeIs (.ref a) "set":=⟨o,ho,hex.1⟩
 have la:a<s.heap.objs.size:=d7 ho;refine wpAny_pyIter_slot hT F.slot_set_iter (dY F.slot_set_iter hT zFv ?_ (F.args_set_iter_1 _));unfold Builtin.«frozenset.__iter__» Builtin.Frozenset.slot0;refine cN (m:=do Builtin.Frozenset.addrOf (<-slotArgs "__iter__" 0 _).1) (show wpAny _ _ (pure a) _ _ _ from cS ?_);unfold Builtin.Frozenset.sizeOf;refine cN (cN (wpAny_setEntries_of ho hd hf (cS ?_)));unfold setDrawn;refine cN (cN (ef ho hd hf (cN (zA1 (cS ?_)))));dsimp only;have fin:∀(sl:Nat->Nat) (xs:List Value),sl 0=0->Tells prog w a es ep t sl xs->xs.Perm (es.toList.map (·.2))->wpAny (model prog w) A.in1 (do let e <-setEpoch a;let r <-newFields "set_iterator" [rawInt 0,rawInt 0,.ref a,rawInt es.size,rawInt e];ret r) (fun fin s'=>∃ v,fin=.done (.ret v)/\∃ T' r,s'.TypeIs v T'/\typeLookup (.type T') "__next__"=pure (some r)/\Q v s') E s:=fun sl xs h0 T pm=>by
  have hx:xs.length=es.size:=by rw[pm.length_eq];simp
  refine cN (wpAny_setEpoch_of ho hd hf (cN (eR (cS ⟨_,rfl,"set_iterator",_,⟨_,d9 _ rfl,rfl⟩,zAG.lookup,?_⟩))));refine h (s.heap.push (zBM (rawInt 0) 0 a es.size ep)) s.heap.objs.size [s.heap.objs.size,a] (fun i h=>h.get? s.heap.objs.size=some (zBM (rawInt (sl i)) i a es.size ep)/\Sx h a es ep t) xs (fun b o e=>cP _ e) (fun b hb=>?_) (da _) (fun B hB=>by rw[hx];exact zPT hB T hf hx (dP la)) ⟨?_,⟨o,cP _ ho,hex,hd⟩⟩ ⟨fun v hv=>?_,?_⟩ ?_
  ·simp only[dN,eO,or_false] at hb
   rcases hb with e | e
   ·exact .inr (Nat.le_of_eq e.symm)
   ·exact .inl e
  ·rw[h0];exact d9 _ rfl
  ·obtain⟨e,he,rfl⟩:=dL.mp (pm.mem_iff.mp hv)
   obtain⟨c,e1,e2⟩:=ok.mem e he;exact⟨c,_,by rw[e1],e2⟩
  ·refine(pm.map _).trans ?_
   rw[gh];exact pk.symm
  ·rw[hx]
   have:=pk.length_eq;simp at this;omega
 cases bt:w.params.followText "set-order" with
 | true =>
  rw[if_neg (by simp)];exact fin (fun u0=>0) _ rfl (zDs hf bt) ((zBb (w.params.setOrder a ep) es).map _)
 | false =>
  have hl':t.led=true:=by rw[hl];unfold HI.wc;rw[bt];rfl
  have hp:(!t.plain&&decide (es.size>1))=false:=by rw[pl];rfl
  refine gu (fun q=>absurd q (show ¬ (!false&&(!t.plain&&decide (es.size>1)))=true by rw[hp];simp)) (fun u0=>?_);exact fin _ _ rfl (zCz hf hr bt hl' hp) (.refl _)
end
open HI (zDt)
open HS (TI tAt ltI zEf)
section
variable {prog:Program} {w:World} {P:Addr->Prop} {A:Around} {E:Value->Shared->Prop} {s:Shared}
theorem zG2(h:ItemsAre (intKind prog w) ns vs):IntsAre vs ns:=by
 induction h with
 | nil=>exact .nil
 | cons h1 _ ih =>
  obtain⟨t,rfl⟩:=Value.isInt_shape h1;exact .cons _ _ ih
theorem zF4{R:Result->Shared->Prop}{a:Addr}{kys:List (List Int)}(hh:A.handled=none)(hS:ST prog w P s.heap a kys)(hlen:kys.length<=1000)(L:Addr)(res:Value)(c0:Nat)(hL:s.heap.get? L=some { cls:=.type "list",data:=.seq #[] c0 })
  (hR:∀ h' tk acc c,(∀ b o,b≠L->s.heap.get? b=some o->h'.get? b=some o)->h'.get? L=some { cls:=.type "list",dict:=none,data:=.seq acc c,slots:=#[] }->Mem prog w P s.heap acc.toList kys->acc.size=kys.length->R (.ok (.ret res)) { s with heap:=h',toks:=tk }) :
  wpAny (model prog w) A.in1 (Builtin.List.listExtendWith (.ref L) (.ref a) res)
   (fun fin s'=>match fin with | .done f=>R (.ok f) s' | .again c'=>c'.quiet=true/\codeAny (model prog w) A c' R s') (fun e s'=>R (.error e) s') s:=by
 obtain⟨o,es,ep,t,ho,hex,hrest⟩:=id hS;have La:L≠a:=fun e=>by rw[e,ho] at hL;cases hL;have:=hex.1;simp at this
 have lL:L<s.heap.objs.size:=d7 hL;unfold Builtin.List.listExtendWith;refine cN (wpAny_typeOf (T:="set") ⟨o,ho,hex.1⟩ ?_);have h1:Builtin.List.listSameRef (.ref L) (.ref a)=false:=by simp[Builtin.List.listSameRef,La]
 have h2:(Value.type "set"==Value.type "list")=false:=by decide
 have h3:(Value.type "set"==Value.type "tuple")=false:=by decide
 simp only[h1,h2,h3,Bool.or_false,cQ,if_false];refine cN (zIr hS fun g it fp St xs kp hfp hit W st me xl=>?_);have hSf:L∉fp:=fun q=>by
  rcases hfp L q with e | e
  ·exact La e
  ·exact absurd lL (Nat.not_lt.mpr e)
 have W1:=(W A.in1 (by simpa using hh)).toS;refine cN (dZ (zDt (s:={ s with heap:=g }) (kp a o ho) hex.1 ?_));have hL1:=kp L _ hL;refine gu (fun u0=>?_) (fun q=>absurd (by decide +kernel) q);refine cN (fY (cN ?_));show wpAny _ _ (updateSeq L (·.push .none)>>=fun u0=>updateSeq L (·.pop)) _ _ _;refine cN (wpAny_updateSeq hL1 rfl ?_);have hL2:=gi (Obj.mapSeq (·.push Value.none)) hL1 rfl;refine wpAny_updateSeq (hz:=by seq_fits) hL2 rfl ?_;have hL3:=gi (Obj.mapSeq (·.pop)) hL2 rfl;refine cS ⟨plainId_quiet F.plain_extend_loop _,?_⟩;have old:∀ b ob,b≠L->g.get? b=some ob->((g.update L (Obj.mapSeq (·.push Value.none))).update L (Obj.mapSeq (·.pop))).get? b=some ob:=fun b ob hb e=>by
  rw[ge _ _ _ _ hb,ge _ _ _ _ hb];exact e
 refine codeAny_extend_loopS W1 (by rw[sizeLine_eq];omega) L hSf res xs.length 0 _ #[] _ rfl (eY _) ?_ hL3 (ItemsOf.nil _) fun s' acc c hm hL' hacc=>?_
 ·exact(W A.in1 (by simpa using hh)).frame 0 _ _ st fun b hb ob e=>old b ob (fun z=>hSf (by rw[<-z];exact hb)) e
 ·have ea:acc.toList=xs:=by
   refine List.ext_getElem (by simp[hacc.1]) fun i h1 h2=>?_;have hi:i<acc.size:=by simpa using h1
   have:xs[i]?=some acc[i]:=hacc.2 i acc[i] (getElem?_pos acc i hi);rw[fw h2] at this;have:=Option.some.inj this;rw[this];simp
  rw[Moved.eq_with hm];refine hR s'.heap s'.toks acc c (fun b ob hb e=>hm.heap b ob (fun hmem=>?_) (old b ob hb (kp b ob e))) hL' (by rw[ea];exact me) (by rw[hacc.1];exact xl);rcases dN.mp hmem with e' | hmem
  ·exact hb e'
  ·exact absurd (d7 e) (by rw[dt.mp hmem];exact Nat.not_lt.mpr hit)
theorem zFE(hh:A.handled=none)(hS:ST prog w P s.heap a kys)(hlen:kys.length<=1000)
  (hQ:∀ h' tk vs,(∀ b o,s.heap.get? b=some o->h'.get? b=some o)->s.heap.objs.size<=h'.objs.size->Mem prog w P s.heap vs kys->vs.length=kys.length->Q vs { s with heap:=h',toks:=tk }):wpAny (model prog w) A (collect (.ref a)) Q E s:=by
 unfold collect;refine cN (wpAny_runValue (fS PySem.F.entry_proto_collect ?_));rw[Around.under_plainId PySem.F.plain_proto_collect _];show wpAny _ A.in1 (newList []>>=fun l=>again (.builtin "list.__iadd__" ⟨[l,.ref a],[]⟩)) _ _ s;refine cN (eR (cS ⟨plainId_quiet PySem.F.plain_list_iadd _,fS PySem.F.entry_list_iadd ?_⟩));rw[Around.under_plainId PySem.F.plain_list_iadd _];show wpAny _ A.in1 (Builtin.List.listExtendWith (.ref s.heap.objs.size) (.ref a) (.ref s.heap.objs.size)) _ _ _;have hL:(s.heap.push { cls:=.type "list",data:=.seq ([]:List Value).toArray }).get? s.heap.objs.size=some { cls:=.type "list",data:=.seq #[] 0 }:=d9 _ rfl;have memb:∀ {vs:List Value},Mem prog w P (s.heap.push { cls:=.type "list",data:=.seq ([]:List Value).toArray }) vs kys->Mem prog w P s.heap vs kys:=fun {vs} m=>by
  have back:∀ {ns c},TK prog w P (s.heap.push { cls:=.type "list",data:=.seq ([]:List Value).toArray }) ns c->TK prog w P s.heap ns c:=fun {ns c} q=>by
   obtain⟨⟨ob,its,n,e,hc,r⟩,qp⟩:=q;refine⟨⟨ob,its,n,?_,hc,r⟩,qp⟩;by_cases z:c=s.heap.objs.size
   ·rw[z,d9 _ rfl] at e
    cases e;simp at hc
   ·rw[Heap.get?_push_ne _ _ _ z] at e
    exact e
  refine⟨fun v hv=>?_,?_⟩
  ·obtain⟨c,ns,rfl,q⟩:=m.1 v hv
   exact⟨c,ns,rfl,back q⟩
  ·refine fW.trans (.of_eq (g9 fun v hv=>?_)) m.2
   obtain⟨c,ns,rfl,q⟩:=m.1 v hv;rw[zBn (back q),zBn q]
 let Pst:Result->Shared->Prop:=fun res s'=>∃(h':Heap) (tk:Nat) (acc:Array Value) (c:Nat),res=.ok (.ret (.ref s.heap.objs.size))/\s'={ s with heap:=h',toks:=tk }/\(∀ b o,s.heap.get? b=some o->h'.get? b=some o)/\h'.get? s.heap.objs.size=some { cls:=.type "list",dict:=none,data:=.seq acc c,slots:=#[] }/\Mem prog w P s.heap acc.toList kys/\acc.size=kys.length;refine ft (zF4 (A:=A) (R:=Pst) (s:={ s with heap:=s.heap.push { cls:=.type "list",data:=.seq ([]:List Value).toArray } }) hh (hS.keep fun b o e=>cP _ e) hlen s.heap.objs.size (.ref s.heap.objs.size) 0 hL fun h' tk acc c kp q1 q2 q3=>?_) (fun fin s' h=>?_) (fun e s' h=>?_)
 ·exact⟨h',tk,acc,c,rfl,rfl,fun b o e=>kp b o (dP (d7 e)) (cP _ e),q1,memb q2,q3⟩
 ·have fin':∀ {r' s''},Pst r' s''->wpAny (model prog w) A (match Value.ref s.heap.objs.size with
     | Value.ref a=>do
      match (<-load a).data with
       | Data.seq xs _=>pure xs.toList
       | _=>unsupported "internal:collect"
     | _=>unsupported "internal:collect") Q E s'':=by
   rintro r' s'' ⟨h',tk,acc,c,rfl,rfl,kp,q1,q2,q3⟩;show wpAny _ A (load s.heap.objs.size>>=_) _ _ _;exact cN (wpAny_load q1 (cS (hQ h' tk _ kp (gL (d7 q1)) q2 (by simpa using q3))))
  cases fin with
  | done f =>
   have hf:=h;obtain⟨h',tk,acc,c,e,u0⟩:=h;cases e;exact fin' hf
  | again c'=>exact⟨h.1,fu h.2 fun r s'' hr=>by
    have hf:=hr;obtain⟨h',tk,acc,c,e,u0⟩:=hr;subst e;exact fin' hf⟩
 ·obtain⟨u0,u0,u0,u0,e,u0⟩:=h
  cases e
theorem zF5(hh:A.handled=none)(hS:ST prog w P s.heap a kys)(h64:kys.length<64)(hne:∀ ns∈kys,ns≠[])
  (h:∀ h' tk l (out:List Value) e,(∀ b o,s.heap.get? b=some o->h'.get? b=some o)->s.heap.objs.size<=l->h'.get? l=some (seqObj "list" out.toArray e)->Mem prog w P s.heap out kys->(out.map fun v=>kyT s.heap (0,v)).Pairwise (fun a b=>ltI b a=false)->Q (.ref l) { s with heap:=h',toks:=tk }) :
  wpAny (model prog w) A (call (.builtin "sorted") [.ref a]) Q E s:=by
 refine Calls.call_function_entry kind_sorted plain_sorted entry_sorted (args_sorted1 _) ?_;unfold Builtin.«sorted»;refine cN (m:=checkCount "sorted" 1 1 _) (cS (cN (zFE (by simpa using hh) hS (by omega) fun g tk vs kp lg me vl=>cN (wpAny_newList ?_ (by rw[sizeLine_eq];omega)))));have hoL:(g.push (seqObj "list" vs.toArray 0)).get? g.objs.size=some (seqObj "list" vs.toArray 0):=d9 _ rfl;have up:∀ b o,s.heap.get? b=some o->(g.push (seqObj "list" vs.toArray 0)).get? b=some o:=fun b o e=>cP _ (kp b o e);show wpAny _ _ _ _ _ { s with heap:=g.push (seqObj "list" vs.toArray 0),toks:=tk };have ti:∀ v∈vs,TI (g.push (seqObj "list" vs.toArray 0)) v (kyT s.heap (0,v))/\v≠.ref g.objs.size:=fun v hv=>by
  obtain⟨c,ns,rfl,q⟩:=me.1 v hv;have ek:=zBn q 0;rw[ek];obtain⟨⟨o,its,n,e,hc,hd,hi⟩,u0⟩:=q;refine⟨⟨⟨c,o,its,n,rfl,up c o e,hc,hd,zG2 hi⟩,hne ns (me.2.mem_iff.mp (dL.mpr ⟨_,hv,ek⟩))⟩,fun z=>?_⟩;cases z;exact absurd (d7 (kp _ _ e)) (fb _)
 refine cN (dZ (dY slot_list_sort ⟨_,hoL,rfl⟩ entry_list_sort (zEf (s:={ s with heap:=g.push (seqObj "list" vs.toArray 0),toks:=tk }) hoL (fun v hv=>⟨⟨_,(ti v hv).1⟩,(ti v hv).2⟩) (by omega) fun out a2 a3=>⟨_,rfl,cS ⟨_,rfl,?_⟩⟩) (args_list_sort _)));have at1:((g.push (seqObj "list" vs.toArray 0)).update g.objs.size (Obj.mapSeq fun u0=>#[])).get? g.objs.size=some (seqObj "list" #[] _):=get?_update_seq hoL (fun u0=>#[]);have at2:((((g.push (seqObj "list" vs.toArray 0)).update g.objs.size (Obj.mapSeq fun u0=>#[])).push (seqObj "tuple" vs.toArray 0)).push (seqObj "list" #[] 0)).get? g.objs.size=some (seqObj "list" #[] _):=cP _ (cP _ at1);have at3:=get?_update_seq at2 (fun u0=>out);refine h _ tk g.objs.size out.toList _ (fun b o e=>?_) lg at3 ⟨fun v hv=>me.1 v (a2.mem_iff.mp hv),(a2.map _).trans me.2⟩ ?_
 ·have hb:b≠g.objs.size:=dP (d7 (kp b o e))
  unfold sortedHeap;rw[ge _ _ _ _ hb];exact cP _ (cP _ (by rw[ge _ _ _ _ hb];exact cP _ (kp b o e)))
 ·rw[fi]
  intro i j hi hj ij;have hj':j<out.size:=by simpa using hj
  have hi':i<out.size:=by omega
  have q:=a3 i j (gL ij) hj';have gt:∀ k,(hk:k<out.size)->(tAt (g.push (seqObj "list" vs.toArray 0)) (out.getD k .none)).getD []=kyT s.heap (0,out[k]):=fun k hk=>by
   have e:out.getD k .none=out[k]:=by simp[gA,hk]
   rw[e,(ti out[k] (a2.mem_iff.mp (by simp))).1.items];rfl
  rw[gt i hi',gt j hj'] at q;simpa using q
end
theorem zM3:entryFor table "set.__xor__"=some Builtin.«frozenset.__xor__»:=entryFor_alias (id':="frozenset.__xor__") (by kernel_rfl) (by first | rfl | decide +kernel) (by decide +kernel) (by kernel_rfl)
section
variable {prog:Program} {w:World} {P:Addr->Prop} {A:Around} {E:Value->Shared->Prop} {s:Shared}
theorem zKj{l r:Addr}{kl kr U:List (List Int)}{Q:Value->Shared->Prop}(hA:A.in1.units<cLine)(hL:ST prog w P s.heap l kl)(hR:ST prog w P s.heap r kr)(hU:U.length<=60)(u1:∀ x∈kl,x∈U)(u2:∀ x∈kr,x∈U)
  (h:∀ h' kys,(∀ b o,s.heap.get? b=some o->h'.get? b=some o)->ST prog w P h' s.heap.objs.size kys->(∀ x,x∈kys↔¬ (x∈kr↔x∈kl))->kys.length<=60->Q (.ref s.heap.objs.size) { s with heap:=h' }) :
  wpAny (model prog w) A (binaryOp .BitXor (.ref l) (.ref r)) Q E s:=by
 obtain⟨ol,esl,epl,tl,l1,l2,l3,l4,u0⟩:=id hL;obtain⟨or,esr,epr,tr,r1,r2,r3,r4,u0⟩:=id hR;have hTl:s.TypeIs (.ref l) "set":=⟨ol,l1,l2.1⟩
 have hTr:s.TypeIs (.ref r) "set":=⟨or,r1,r2.1⟩
 have ll:l<s.heap.objs.size:=d7 l1;have lr:kr.length<=60:=by
  have nd:kr.Nodup:=let ⟨_,_,_,_,_,_,_,_,_,_,_,_,_,q⟩:=hR;q;exact eN (List.Nodup.length_le_of_subset nd u2) hU
 refine wpAny_binaryOp_same hTl hTr F.fills_set_xor F.slot_set_xor (dY F.slot_set_xor hTl zM3 ?_ (F.args_set_xor_2 _ _));show wpAny _ _ (Builtin.Frozenset.slot1 "__xor__" ⟨[.ref l,.ref r],[]⟩>>=_) _ _ _;refine cN (m:=Builtin.Frozenset.slot1 "__xor__" _) (show wpAny _ _ (pure (Value.ref l,Value.ref r)) _ _ _ from cS ?_);dsimp only;simp only[cQ,↓reduceIte];unfold andM;refine cN (cN (zFD l1 l2.1 ?_));refine zFD r1 r2.1 ?_;simp only[fQ,cQ,↓reduceIte];refine cN (m:=Builtin.Frozenset.addrOf _) (cS ?_);refine cN ?_;show wpAny _ _ (Builtin.Frozenset.baseOf l>>=_) _ _ _;unfold Builtin.Frozenset.baseOf;refine cN (cN (fV (T:="set") (b:=true) hTl zKe (cS ?_)));simp only[↓reduceIte];refine cN (zKf hR lr fun h1 kp st=>?_);have hL1:ST prog w P h1 l kl:=hL.keep kp;show wpAny _ _ (holding [Value.ref s.heap.objs.size] (Builtin.Frozenset.symmetricDifferenceUpdate _ s.heap.objs.size (.ref l))>>=_) _ _ _;refine cN (dZ (zMP (s:={ s with heap:=h1 }) hA (dP ll) st hL1 hU u2 u1 fun h2 kys sb st2 mem len=>?_));refine cS (cS ⟨_,rfl,by simp,h h2 kys (fun b o e=>?_) st2 mem len⟩);rw[sb.2 b (dP (d7 e))];exact kp b o e
end
end HT2
namespace L2
theorem zOP{X:Cx}{pins:List (Addr×Obj)}{σ:St}{H:Hp}{s:Shared}{i:Nat}{x:Str}{pos:Pos}{v:V}{Q:Value->Shared->Prop}(hN:X.N[i]?=some x)(hv:Vis X.env.scope x)(I:zP X pins σ H s)(e:σ[i]?=some (some v))(h:∀ u,RelV v u->Q u s)
  (hd:autoParam ((x==("__debug__":Str))=false) Zq2._auto_1) (hcd:autoParam ((x==("__classdict__":Str))=false) Zq2._auto_1):wpAny (model X.prog X.w) X.A (eval (.Name x pos) X.env) Q X.xe s:=by
 obtain⟨m,hn,hl⟩:=I.loc;obtain⟨u,r,l⟩:=hl i x v hN e hv;have fin:=h u r;rcases l with ⟨hk,hm⟩ | ⟨hk,c,hc,hcell⟩
 ·exact wpAny_Name (wpAny_loadName_local I.ok.kind hk hn hm fin) hd
 ·rcases hk with hk | hk
  ·exact wpAny_Name (wpAny_loadName_cell I.ok.kind hk hc hcell fin) hd
  ·exact wpAny_Name (wpAny_loadName_free I.ok.kind hk hc hcell fin hcd) hd
end L2
namespace L3
open L2 HT2 HS
theorem zKk(h:IntsAre vs ns):ItemsAre (intKind prog w) ns vs:=by
 induction h with
 | nil=>exact .nil
 | cons n t _ ih=>exact .cons (intKind_is _ _ _ _) ih
section
variable {X:Cx} {pins:List (Addr×Obj)} {σ:L2.St} {H:Hp} {s:Shared}
noncomputable def Pd(K:PySem.W.Frag)(H:Hp)(c:Addr):Prop:=∃ ms,zM K H (tI ms) (.ref c)
theorem zM4(I:zP X pins σ H s)(d:zM X.K H (tI ns) (.ref c)):TK X.prog X.w (Pd X.K H) s.heap ns c:=by
 refine⟨?_,ns,d⟩;unfold tI zM at d;obtain⟨a,zs,e,hs,hd⟩:=d;cases e;have hz:=hd.ints_inv;subst hz;obtain⟨its,rv,⟨o,h1,h2,n,h3⟩,u0⟩:=I.tuple hs;exact⟨o,its.toArray,n,h1,h2,h3,zKk (by simpa using intsAre_of rv)⟩
theorem zKl(I:zP X pins σ H s){nss:List (List Int)}{ys:List V}{its:List Value}(d:Dens X.K H (nss.map tI) ys)(rv:zW ys its):∀ i v,its.toArray[i]?=some v->∃ c,v=.ref c/\TK X.prog X.w (Pd X.K H) s.heap (nss.getD i []) c:=fun i v hv=>by
 have hv:its[i]?=some v:=by simpa using hv
 have hi:=(di.mp hv).1;have l1:=rv.length;have l2:=d.length;rw[db] at l2;have hn:i<nss.length:=by omega
 obtain⟨y,e1,e2⟩:=d.get (i:=i) (d:=tI nss[i]) (by rw[eU];simp[hn]);obtain⟨u,e3,e4⟩:=rv.get e1;rw[hv] at e3;cases e3;have e5:=e2;unfold tI zM at e5;obtain⟨a,zs,rfl,u0,u0⟩:=e5;cases (show v=Value.ref a from e4);have eg:nss.getD i []=nss[i]:=by simp[gc,hn]
 rw[eg];exact⟨a,rfl,zM4 I e2⟩
theorem zPU{h:Heap}(I:zP X pins σ H s):∀ {out:List Value},(∀ v∈out,∃ c ns,v=.ref c/\TK X.prog X.w (Pd X.K H) s.heap ns c)->∃ ys:List V,zW ys out/\Dens X.K H ((out.map fun v=>kyT s.heap (0,v)).map tI) ys
 | [],_=>⟨[],.nil,.nil⟩
 | v::out,hh=>by
  obtain⟨ys,r,d⟩:=zPU (h:=h) I (out:=out) fun v hv=>hh v (dC _ hv);obtain⟨c,ns,rfl,tk⟩:=hh v dH;obtain⟨ms,dm⟩:=tk.2;have:=(zM4 I dm).1.inj tk.1;subst this;refine⟨.ref c::ys,.cons rfl r,?_⟩;simp only[eA];rw[zBn tk 0];exact .cons dm d
end
noncomputable def tXS(K:PySem.W.Frag)(j:Nat)(t:TA):TE:=fun σ H Q=>t σ H fun vs H1=>∃(p:Addr) (ys:List V) (nl:List (List Int)) (q:Addr) (zs:List V) (nr U:List (List Int)),vs=[.ref p]/\SqT K H1 p ys/\Dens K H1 (nl.map tI) ys/\σ[j]?=some (some (.ref q))/\SqL K H1 q zs/\Dens K H1 (nr.map tI) zs/\nl.length<=60/\nr.length<=60/\U.length<=60/\(∀ x∈nl,x∈U)/\(∀ x∈nr,x∈U)/\(∀ x∈U,x≠[]) /\
 ∀(l:Addr) (ys':List V) (nss':List (List Int)),H1 l=none->nss'.Nodup->(∀ x,x∈nss'↔¬ (x∈nr↔x∈nl))->nss'.Pairwise (fun a b=>ltI b a=false)->Dens K H1 (nss'.map tI) ys'->Q (.ref l) (yT H1 l (.lst ys'))
theorem zG3(hr:yE k X.A)(hc:X.calm=true)(hg:Gl X "sorted")(hm:X.mg "sorted"=none)(hg2:Gl X "set")(hm2:X.mg "set"=none)(ha:PA X [e] t)(hN:X.N[j]?=some x)(hv:Vis X.env.scope x)(hd:(x==("__debug__":Str))=false)(hcd:(x==("__classdict__":Str))=false)
  (he:starEach [.BinOp (.Call (.Name "set" p1) [e] [] pos1) .BitXor (.Call (.Name "set" p2) [.Name x p3] [] pos2) pos3] X.env=(false,eval (.BinOp (.Call (.Name "set" p1) [e] [] pos1) .BitXor (.Call (.Name "set" p2) [.Name x p3] [] pos2) pos3) X.env)::starEach [] X.env) (hpl:(backTo pos (starEach [] X.env)).any (·.1)=false)
  (he1:starEach [e] X.env=(false,eval e X.env)::starEach [] X.env) (hpl1:(backTo pos1 (starEach [] X.env)).any (·.1)=false)
  (he2:starEach [.Name x p3] X.env=(false,eval (.Name x p3) X.env)::starEach [] X.env) (hpl2:(backTo pos2 (starEach [] X.env)).any (·.1)=false) :
  PE X (.Call (.Name "sorted" p) [.BinOp (.Call (.Name "set" p1) [e] [] pos1) .BitXor (.Call (.Name "set" p2) [.Name x p3] [] pos2) pos3] [] pos) (tXS X.K j t):=by
 intro pins s σ H Q I h;have hu:=hr.units;have uA:∀ n,n<=50->X.A.units+n<cLine:=fun n hn=>by omega
 refine fC (zAX I hg hm boot_sorted (PyProof.Rows.callWith_builtin1 ?_ he hpl));rw[he];refine Calls.spliced_cons (wpAny_BinOp (fC (zAX I hg2 hm2 boot_set (PyProof.Rows.callWith_type1 (yq (ha pos1 pins s σ H _ I h) fun us s1 ⟨vs,H1,I1,r1,q1⟩=>?_) he1 hpl1))));obtain⟨p0,ys,nl,q,zs,nr,U,rfl,hp,dl,hj,hq,dr,n1,n2,nu,ul,ur,une,fin⟩:=q1;obtain⟨u,rfl,rx⟩:=vals1 r1;cases rx;obtain⟨its,rv,pt,u0⟩:=I1.tuple hp;have l1:=rv.length;have l2:=dl.length;rw[db] at l2;refine zIq (P:=Pd X.K H1) (val:=fun i=>nl.getD i []) (I1.ok.hd hc) (by show X.A.units+3<cLine;exact uA 3 (by omega)) (show s1.heap.IsTuple p0 its.toArray from pt) (zKl I1 dl rv) (by rw[dD];omega) fun h1 tk1 kl stl u0 meml kp1=>?_;have I2:zP X pins σ H1 { s1 with heap:=h1,toks:=tk1 }:=I1.kept (t':=tk1) kp1;refine fC (zAX I2 hg2 hm2 boot_set (PyProof.Rows.callWith_type1 ?_ he2 hpl2));rw[he2];refine Calls.spliced_cons (zOP hN hv I2 hj (fun u ru=>Calls.spliced_nil ?_) hd hcd);cases ru;obtain⟨its2,rv2,pl2,u0⟩:=I2.list hq;have l3:=rv2.length;have l4:=dr.length;rw[db] at l4;refine zIp (P:=Pd X.K H1) (s:={ s1 with heap:=h1,toks:=tk1 }) (val:=fun i=>nr.getD i []) (I1.ok.hd hc) (by show X.A.units+3<cLine;exact uA 3 (by omega)) pl2.isList (zKl I2 dr rv2) (by rw[dD];omega) fun h2 tk2 kr str u0 memr kp2=>?_;have stl2:ST X.prog X.w (Pd X.K H1) h2 s1.heap.objs.size kl:=stl.keep kp2;have ml:∀ x,x∈kl↔x∈nl:=fun x=>by
  rw[meml x];constructor
  ·rintro⟨m,hm',rfl⟩
   rw[dD] at hm';have:m<nl.length:=by omega
   simp[gc,this]
  ·intro hx
   obtain⟨m,hm',rfl⟩:=fJ hx;exact⟨m,by rw[dD];omega,by simp[gc,hm']⟩
 have mr:∀ x,x∈kr↔x∈nr:=fun x=>by
  rw[memr x];constructor
  ·rintro⟨m,hm',rfl⟩
   rw[dD] at hm';have:m<nr.length:=by omega
   simp[gc,this]
  ·intro hx
   obtain⟨m,hm',rfl⟩:=fJ hx;exact⟨m,by rw[dD];omega,by simp[gc,hm']⟩
 refine zKj (s:={ s1 with heap:=h2,toks:=tk2 }) (P:=Pd X.K H1) (by show X.A.units+1<cLine;exact uA 1 (by omega)) stl2 str nu (fun x hx=>ul x ((ml x).mp hx)) (fun x hx=>ur x ((mr x).mp hx)) fun h3 kys kp3 st3 mem3 len3=>?_;refine Calls.spliced_nil ?_;have I3:zP X pins σ H1 { s1 with heap:=h3,toks:=tk2 }:=I1.kept (t':=tk2) fun b o e=>kp3 b o (kp2 b o (kp1 b o e));have mk:∀ x,x∈kys↔¬ (x∈nr↔x∈nl):=fun x=>by rw[mem3 x,ml x,mr x]
 have kne:∀ ns∈kys,ns≠[]:=fun ns hns=>une ns (by
  by_cases z:ns∈nr
  ·exact ur ns z
  ·exact ul ns (Classical.byContradiction fun y=>(mk ns).mp hns ⟨fun a=>(z a).elim,fun a=>(y a).elim⟩))
 refine zF5 (s:={ s1 with heap:=h3,toks:=tk2 }) (P:=Pd X.K H1) (I1.ok.hd hc) st3 (by omega) kne fun h4 tk4 l out ee kp4 hl4 hget me so=>?_;have sz:s1.heap.objs.size<=h3.objs.size:=by
  have g1:s1.heap.objs.size<h1.objs.size:=by obtain⟨o,u0,u0,u0,ho,u0⟩:=stl;exact d7 ho
  have g2:s1.heap.objs.size<h2.objs.size:=by obtain⟨o,u0,u0,u0,ho,u0⟩:=stl2;exact d7 ho
  have g3:h2.objs.size<h3.objs.size:=by obtain⟨o,u0,u0,u0,ho,u0⟩:=st3;exact d7 ho
  omega
 have sl:s1.heap.objs.size<=l:=eN sz hl4;obtain⟨ys',rv',d'⟩:=zPU (h:=h4) I3 me.1;have hn:H1 l=none:=I1.hok.fresh sl;have nd:kys.Nodup:=let ⟨_,_,_,_,_,_,_,_,_,_,_,_,_,q⟩:=st3;q;have ol:out.length=kys.length:=by have:=me.2.length_eq;simpa using this
 refine⟨.ref l,_,I3.laid (t':=tk4) (o:=.lst ys') kp4 hl4 ⟨by have:=rv'.length;rw[sizeLine_eq];omega,out,ee,rv',by rw[hget]⟩,rfl,fin l ys' _ hn (me.2.nodup_iff.mpr nd) (fun x=>(me.2.mem_iff).trans (mk x)) so d'⟩
noncomputable def xXS(j:Nat)(t:yj):TL2:=fun σ G R=>t σ G fun ds G1=>match ds with
 | [.tup xs]=>∃(nl nr U:List (List Int)) (q:Addr),xs=nl.map tI/\σ[j]?=some (some (.adr q))/\Ls G1 q (nr.map tI)/\nl.length<=60/\nr.length<=60/\U.length<=60/\(∀ x∈nl,x∈U)/\(∀ x∈nr,x∈U)/\(∀ x∈U,x≠[]) /\
  ∀ nss':List (List Int),nss'.Nodup->(∀ x,x∈nss'↔¬ (x∈nr↔x∈nl))->nss'.Pairwise (fun a b=>ltI b a=false)->R (nss'.map tI) G1
 | _=>False
theorem zIs(j:Nat)(hr:yE k X.A)(hc:X.calm=true)(hg:Gl X "sorted")(hm:X.mg "sorted"=none)(hg2:Gl X "set")(hm2:X.mg "set"=none)(ha:A2 X [e] t)(hN:autoParam (X.N[j]?=some x) Zq4._auto_1)(hv:autoParam (Vis X.env.scope x) Zq5._auto_1)(hd:autoParam ((x==("__debug__":Str))=false) Zq2._auto_1)(hcd:autoParam ((x==("__classdict__":Str))=false) Zq2._auto_1)
  (he:autoParam (starEach [.BinOp (.Call (.Name "set" p1) [e] [] pos1) .BitXor (.Call (.Name "set" p2) [.Name x p3] [] pos2) pos3] X.env=(false,eval (.BinOp (.Call (.Name "set" p1) [e] [] pos1) .BitXor (.Call (.Name "set" p2) [.Name x p3] [] pos2) pos3) X.env)::starEach [] X.env) Zq4._auto_1) (hpl:autoParam ((backTo pos (starEach [] X.env)).any (·.1)=false) Zq4._auto_1)
  (he1:autoParam (starEach [e] X.env=(false,eval e X.env)::starEach [] X.env) Zq4._auto_1) (hpl1:autoParam ((backTo pos1 (starEach [] X.env)).any (·.1)=false) Zq4._auto_1)
  (he2:autoParam (starEach [.Name x p3] X.env=(false,eval (.Name x p3) X.env)::starEach [] X.env) Zq4._auto_1) (hpl2:autoParam ((backTo pos2 (starEach [] X.env)).any (·.1)=false) Zq4._auto_1) :
  F2 X (.Call (.Name "sorted" p) [.BinOp (.Call (.Name "set" p1) [e] [] pos1) .BitXor (.Call (.Name "set" p2) [.Name x p3] [] pos2) pos3] [] pos) (xXS j t):=by
 refine PE.mono (zG3 hr hc hg hm hg2 hm2 ha hN hv hd hcd he hpl he1 hpl1 he2 hpl2) ?_;rintro σ1 H Q ⟨σ,G,R,rl,q,k'⟩;refine⟨σ,G,_,rl,q,fun ds G1 q1 vs H1 g1 r1 d1=>?_⟩;split at q1
 ·rename_i xs
  obtain⟨nl,nr,U,qa,rfl,hj,hls,b1,b2,b3,b4,b5,b6,q1⟩:=q1;obtain⟨v,rfl,d2⟩:=zBh d1;unfold zM at d2;obtain⟨a,us,rfl,h1,h2⟩:=d2;obtain⟨v2,e2,d3⟩:=rl.val j _ hj;unfold zM at d3;subst d3;obtain⟨zs,s1,t1⟩:=r1.sq hls;exact⟨a,us,nl,qa,zs,nr,U,rfl,h1,h2,e2,s1,t1,b1,b2,b3,b4,b5,b6,fun l' ys' nss' n' c1 c2 c3 c4=>k' _ G1 (q1 nss' c1 c2 c3) l' _ _ (g1.trans (.fresh n')) (r1.fresh n') (r1.free n') zb (c4.grow (.fresh n'))⟩
 ·exact q1.elim
end L3
namespace L3
open L2
section
variable {X:Cx} {elt iter:Expr} {pos:Pos} {te:zi} {ifs:List Expr} {sc:Scope} {N0:List Str} {wi:TI2} {tc:TT2}
theorem zMQ(i:Nat)(x y:Str)(hc:X.calm=true)(T:zFf X sc N0 [x,y])(hi:I2 X (.Tuple [.Name x px,.Name y py] kk pt) iter wi)
  (ht:∀ C s H fp pins,Ts2 (X.comp (N0++[x,y]) sc C s H fp pins) ifs tc) (he:∀ C s H fp pins,E2 (X.comp (N0++[x,y]) sc C s H fp pins) elt te)
  (hN:X.N.Nodup) (hy:autoParam (X.N[i]?=some z) Zq4._auto_1) (hl:autoParam (X.env.scope.names.lookup z=some .local) Zq4._auto_1)
  (hsw:autoParam (swapsWith (.ListComp elt [⟨.Tuple [.Name x px,.Name y py] kk pt,iter,ifs,0⟩] sc pos) (some (.Name z pz)) spos.line X.env=pure true) Zq4._auto_1)
  (hs:autoParam (∀ x,foldedSetIterable iter X.env x=pure x) Zq3._auto_1):P2 X (.Assign [.Name z pz] (.ListComp elt [⟨.Tuple [.Name x px,.Name y py] kk pt,iter,ifs,0⟩] sc pos) spos) (zBF i (yV wi bd2 tc te)):=by
 have T':=T.ok;have hx:=T.loc x (by simp);have hy':=T.loc y (by simp);refine PS.at (zDP (own:=[x,y]) (g:=zLX X.K 2 (zDK (zBB X.N.length) (zDK (zBB (X.N.length+1)) zLW))) (tc:=lT X.K tc) (te:=lE X.K te) hc T' hi (fun C s H fp pins=>?_) ht he hN hy hl hsw hs) fun E σ1 H hl h=>?_
 ·have e1:(X.comp (N0++[x,y]) sc C s H fp pins).N[X.N.length]?=some x:=by
   show(N0++[x,y])[X.N.length]?=some x;rw[<-T'.len];simp
  have e2:(X.comp (N0++[x,y]) sc C s H fp pins).N[X.N.length+1]?=some y:=by
   show(N0++[x,y])[X.N.length+1]?=some y;rw[<-T'.len];simp
  exact zGR (X:=X.comp (N0++[x,y]) sc C s H fp pins) (n:=2) hc (zAZ (wj T.nd e1 (.inl hx) (.inr hx)) (zAZ (wj T.nd e2 (.inl hy') (.inr hy')) zEx))
 ·obtain⟨σ,G,D2,r,q,k⟩:=h
  refine zBT (n:=2) (N:=X.N.length) zMr (fun d us e=>?_) hl ⟨σ,G,_,r,q,fun ds G' q' l xs H' g' r' n e d=>?_⟩
  ·unfold bd2 at e
   split at e<;>first | (cases e;rfl) | (cases e;done)
  ·exact k.nx _ _ (q' l n) _ H' g' ((r.to g' (r'.own e d)).set i (by unfold zM;rfl))
end
end L3
namespace K
open L2 L3 HS
noncomputable def toI(p:Nat×Nat):List Int:=[(p.1:Int),(p.2:Int)]
theorem zHr(h:toI p=toI q):p=q:=by
 unfold toI at h;simp only[List.cons.injEq,and_true] at h;exact Prod.ext (by omega) (by omega)
theorem zFF(l:List (Nat×Nat)):l.map yf=(l.map toI).map tI:=by
 rw[gh];rfl
noncomputable def inB(q:Nat×Nat->Bool)(i:Nat)(p:Nat×Nat):Bool:=adj q i p.1&&adj q i p.2
noncomputable def tq(q:Nat×Nat->Bool)(i:Nat)(p:Nat×Nat):Bool:=q p != inB q i p
noncomputable abbrev arL(n:Nat)(q:Nat×Nat->Bool)(i:Nat):List Nat:=(dq n).filter (adj q i)
noncomputable abbrev zDw(ar:List Nat):List (Nat×Nat):=(yX ar.length).map fun p=>(ar.getD p.1 0,ar.getD p.2 0)
theorem zKm(hr:ar.Pairwise (·<·)):p∈zDw ar↔p.1<p.2/\p.1∈ar/\p.2∈ar:=by
 constructor
 ·intro h
  obtain⟨c,hc,rfl⟩:=dL.mp h;obtain⟨c1,c2⟩:=zAu.mp hc;have h1:c.1<ar.length:=by omega
  have e1:ar.getD c.1 0=ar[c.1]:=by simp[gc,h1]
  have e2:ar.getD c.2 0=ar[c.2]:=by simp[gc,c2]
  simp only;rw[e1,e2];exact⟨fi.mp hr c.1 c.2 h1 c2 c1,fH _,fH _⟩
 ·rintro⟨h0,h1,h2⟩
  obtain⟨i,hi,e1⟩:=fJ h1;obtain⟨j,hj,e2⟩:=fJ h2;have hij:i<j:=by
   rcases Nat.lt_trichotomy i j with z | z | z
   ·exact z
   ·subst z;omega
   ·have:=fi.mp hr j i hj hi z
    omega
  refine dL.mpr ⟨(i,j),zAu.mpr ⟨hij,hj⟩,?_⟩;have g1:ar.getD i 0=ar[i]:=by simp[gc,hi]
  have g2:ar.getD j 0=ar[j]:=by simp[gc,hj]
  simp only;rw[g1,g2,e1,e2]
theorem zFG:p∈zDw (arL n q i)↔p∈yX n/\inB q i p=true:=by
 rw[zKm (List.pairwise_lt_range.filter _),zAu];unfold inB;simp only[fj,eS,fm];constructor
 ·rintro⟨a,⟨b,c⟩,d,e⟩
  exact⟨⟨a,d⟩,c,e⟩
 ·rintro⟨⟨a,d⟩,c,e⟩
  exact⟨a,⟨by omega,c⟩,d,e⟩
theorem zPV(h:ltP a b):ltI (toI b) (toI a)=false:=by
 unfold ltP at h;unfold toI;simp only[ltI];split
 ·split
  ·rfl
  ·simp only[decide_eq_false_iff_not];omega
 ·simp only[decide_eq_false_iff_not];omega
theorem zHs:∀ n,n<10->(yX n).length<=60:=by decide +kernel
theorem zIt(nd:nss.Nodup)(hm:∀ x,x∈nss↔¬ (x∈(zDw (arL n q i)).map toI↔x∈((yX n).filter q).map toI))(hs:nss.Pairwise (fun a b=>ltI b a=false)):nss=((yX n).filter (tq q i)).map toI:=by
 have rs:((yX n).filter (tq q i)).Pairwise ltP:=(zKE n).filter _;refine fW.eq_of_pairwise (fun a b u0 u0 h1 h2=>zE7 a b h2 h1) hs ?_ ?_
 ·rw[List.pairwise_map]
  exact rs.imp zPV
 ·have nd2:(((yX n).filter (tq q i)).map toI).Nodup:=by
   unfold List.Nodup;rw[List.pairwise_map];refine rs.imp fun h e=>?_;have:=zHr e;subst this;unfold ltP at h;omega
  refine(List.perm_ext_iff_of_nodup nd nd2).mpr fun x=>?_;rw[hm x];have m1:x∈(zDw (arL n q i)).map toI↔∃ p∈yX n,inB q i p=true/\toI p=x:=by
   rw[dL];constructor
   ·rintro⟨p,hp,e⟩;obtain⟨a,b⟩:=zFG.mp hp;exact⟨p,a,b,e⟩
   ·rintro⟨p,a,b,e⟩;exact⟨p,zFG.mpr ⟨a,b⟩,e⟩
  have m2:∀ f:Nat×Nat->Bool,x∈((yX n).filter f).map toI↔∃ p∈yX n,f p=true/\toI p=x:=fun f=>by
   rw[dL];constructor
   ·rintro⟨p,hp,e⟩;obtain⟨a,b⟩:=fj.mp hp;exact⟨p,a,b,e⟩
   ·rintro⟨p,a,b,e⟩;exact⟨p,fj.mpr ⟨a,b⟩,e⟩
  rw[m1,m2 q,m2 (tq q i)];by_cases hx:∃ p∈yX n,toI p=x
  ·obtain⟨p,hp,rfl⟩:=hx
   have s:∀ f:Nat×Nat->Bool,(∃ p'∈yX n,f p'=true/\toI p'=toI p)↔f p=true:=fun f=>by
    constructor
    ·rintro⟨p',u0,b,e⟩;rw[<-zHr e];exact b
    ·intro b;exact⟨p,hp,b,rfl⟩
   rw[s (inB q i),s q,s (tq q i)];unfold tq;cases q p<;>cases inB q i p<;>simp
  ·constructor
   ·intro h
    exact(h ⟨fun⟨p,a,_,e⟩=>(hx ⟨p,a,e⟩).elim,fun⟨p,a,_,e⟩=>(hx ⟨p,a,e⟩).elim⟩).elim
   ·rintro⟨p,a,u0,e⟩
    exact(hx ⟨p,a,e⟩).elim
noncomputable def yN:Sp2:=fun ds G R=>∃(n:Nat) (q:Nat×Nat->Bool) (i:Nat),ds=[zK n q,nD i]/\i<n/\n<=9/\R (zK n (tq q i)) G
noncomputable def wo:yd:=(zU (zk (zj (yQ yg (zA (zO zAf (zA (zB 0) (zA (zB 1) zI))) zI))) (gN 2)) (zy (yx (zA (zY yr (zB 0) (xC (.int 0))) (zA (yB yb (xXS 2 (zA (zY yr (zB 0) (xC (.int 1))) zI))) zI)))))
theorem zQD(h:yC ta σ G d)(h':tb σ G fun d2 G2=>[d,d2].length<=sizeLine/\E.rt (.tup [d,d2]) G2):zy (yx (zA ta (zA tb zI))) E σ G:=h G (.refl G) _ h'
theorem zKn{σ:S2}{G:Gp}{tl:TL2}{R:Q2}(h:tl σ G fun ds G1=>R (.tup ds) G1):yB yb tl σ G R:=h
theorem zQE(h:PuA t σ G [.tup xs])(h':∃(nl nr U:List (List Int)) (q:Addr),xs=nl.map tI/\σ[j]?=some (some (.adr q))/\Ls G q (nr.map tI)/\nl.length<=60/\nr.length<=60/\U.length<=60/\(∀ x∈nl,x∈U)/\(∀ x∈nr,x∈U)/\(∀ x∈U,x≠[]) /\
  ∀ nss':List (List Int),nss'.Nodup->(∀ x,x∈nss'↔¬ (x∈nr↔x∈nl))->nss'.Pairwise (fun a b=>ltI b a=false)->R (nss'.map tI) G):xXS j t σ G R:=h G (.refl G) _ h'
theorem zFH(ds:List D)(G:Gp)(R:Q2)(h:yN ds G R):ds.length=2/\wo (zn R) (zV ["web","place","near"] ds) G:=by
 obtain⟨n,q,i,rfl,hi,hn,h⟩:=h;refine⟨rfl,?_⟩;unfold wo;have hal:(arL n q i).length<=n:=by
  have:=gM (adj q i) (dq n);simpa using this
 refine yI (zBm (ds:=(zDw (arL n q i)).map yf) (zDZ (zF (yJ (d:=.tup ((arL n q i).map nD)) (zF (zH (d:=zK n q) rfl) (zF (zH (d:=nD i) rfl) zR)) fun u0 u0 u0 hh=>⟨n,q,i,rfl,hi,by omega,hh⟩) zR) fun u0 u0 u0 hh=>⟨arL n q i,rfl,by omega,hh⟩) fun l hl=>?_);show zy _ _ [some (zK n q),some (nD i),some (.adr l)] (zS G l ((zDw (arL n q i)).map yf));refine zQD (zAg (zH (i:=0) rfl)) (zKn (zQE (xs:=((yX n).filter q).map yf) (zF (zJ5 (zH (i:=0) rfl)) zR) ⟨((yX n).filter q).map toI,(zDw (arL n q i)).map toI,(yX n).map toI,l,zFF _,rfl,.inl (by rw[zG,zFF]),?_,?_,?_,?_,?_,?_,fun nss c1 c2 c3=>⟨by rw[sizeLine_eq];simp,?_⟩⟩))
 ·rw[db]
  have:=gM q (yX n);have:=zHs n (by omega);omega
 ·rw[db,db]
  exact zHs _ (by omega)
 ·rw[db]
  exact zHs n (by omega)
 ·intro x hx
  obtain⟨p,hp,rfl⟩:=dL.mp hx;exact dL.mpr ⟨p,(fj.mp hp).1,rfl⟩
 ·intro x hx
  obtain⟨p,hp,rfl⟩:=dL.mp hx;exact dL.mpr ⟨p,(zFG.mp hp).1,rfl⟩
 ·intro x hx
  obtain⟨p,u0,rfl⟩:=dL.mp hx;unfold toI;simp
 ·rw[zIt c1 c2 c3,<-zFF]
  exact⟨G,.new hl,h⟩
noncomputable def wd:Sp2:=yN
noncomputable def zA2:yd:=(zU (zBF 2 (yV (iV (zY yr (zB 0) (xC (.int 1)))) bd2 (xB (zY (fIn false) (zB 1) (yx (zA (zB 6) (zA (zB 7) zI))))) (zY (fII fun i j=>.int (i-j)) (zY wa (zB 6) (zB 7)) (zB 1)))) (zU (zk (zj (yk zI)) (gN 3)) (zU (yw (iF (yQ zu (zA (zY yr (zB 0) (xC (.int 0))) zI))) (gN 4) (zU (zk (zJl (zY (fIn false) (zY yr (zB 4) (xC (.int 0))) (zB 2)) (zY (fIn false) (zY yr (zB 4) (xC (.int 1))) (zB 2))) (gN 5)) (xIf (xB (zY (fEq true) (zY (fIn false) (zB 4) (zY yr (zB 0) (xC (.int 1)))) (zB 5))) (ye (zB8 (zB 3) (zA (zB 4) zI))) yH))) (zy (yx (zA (zY yr (zB 0) (xC (.int 0))) (zA (zO zB7 (zA (zB 3) zI)) zI)))))))
theorem zKo(h:PuL tl σ G ds)(h':∀ l,G.m l=none->u E (σ.set i (some (.adr l))) (zS G l ds)):zU (zBF i tl) u E σ G:=h G (.refl G) _ h'
theorem zMR(ha:yC ta σ G (.bl a))(hb:yC tb σ G (.bl b)):yC (zJl ta tb) σ G (.bl (a&&b)):=fun G2 e R q=>ha G2 e _ (by
 cases a with
 | true =>
  show if true=true then _ else _;rw[if_pos rfl];exact hb G2 e R q
 | false =>
  show if false=true then _ else _;rw[if_neg (by simp)];exact q)
theorem zMS(h:te σ G fun u0 G1=>E.nx σ G1):ye te E σ G:=h
theorem zG4(ds:List D)(G:Gp)(R:Q2)(h:wd ds G R):ds.length=2/\zA2 (zn R) (zV ["web","place","near","found","pair","inside"] ds) G:=by
 obtain⟨n,q,i,rfl,hi,hn,h⟩:=h;refine⟨rfl,?_⟩;unfold zA2;have c1:=zCA (bd:=bd2) (tc:=(xB (zY (fIn false) (zB 1) (yx (zA (zB 6) (zA (zB 7) zI)))))) (te:=(zY (fII fun i j=>.int (i-j)) (zY wa (zB 6) (zB 7)) (zB 1))) (fun d=>decide ((zBJ d).1=i)||decide ((zBJ d).2=i)) (fun d=>.int (((zBJ d).1:Int)+(zBJ d).2-i)) (fun d=>[nD (zBJ d).1,nD (zBJ d).2])
  (zEW (σ:=zV ["web","place","near","found","pair","inside"] [zK n q,nD i]) (G:=G) (zJ5 (zH (i:=0) rfl))) fun x hx=>by
   obtain⟨p,hp,rfl⟩:=dL.mp hx;rw[zEY];refine⟨rfl,zAM (zGq (zH (d:=nD i) rfl) (zBv (zF (zH (d:=nD p.1) rfl) (zF (zH (d:=nD p.2) rfl) zR)) (by simp)) rfl (zDg [p.1,p.2]) ?_),fun u0=>zMy (zJ8 (zH rfl) (zH rfl)) (zH rfl)⟩;have:=zGp [p.1,p.2] i;simp only[dB] at this;simp only[cQ,if_false,this];rw[eD];simp only[dN,eO,or_false,decide_eq_true_eq,Bool.or_eq_true];constructor<;>(rintro(h | h)<;>simp[h])
 have ec:dB (fun d=>D.int (((zBJ d).1:Int)+(zBJ d).2-i)) (List.filter (fun d=>decide ((zBJ d).1=i)||decide ((zBJ d).2=i)) (((yX n).filter q).map yf))=(lar n q i).map nD:=by
  unfold lar;rw[List.filter_map,gh,gh];refine g9 fun p hp=>?_;have hp:=(fj.mp hp).2;simp only[Function.comp,zEY,Bool.or_eq_true,decide_eq_true_eq] at hp ⊢;show D.int _=D.int _;congr 1
  first | omega | (rcases hp with hp | hp<;>(have hp:=of_decide_eq_true hp;omega))
 rw[ec] at c1;refine zKo c1 fun l1 hl1=>?_;refine yI (zBm (ds:=[]) (fun G2 e R q=>zDj (zEb ⟨by rw[sizeLine_eq];simp,q⟩)) fun f hf=>?_);show zU _ _ _ [some (zK n q),some (nD i),some (.adr l1),some (.adr f),none,none] (zS (zS G l1 ((lar n q i).map nD)) f []);have lf:l1≠f:=fun e=>by rw[<-e,zG] at hf;cases hf
 have hfG:G.m f=none:=by rw[zT (Ne.symm lf)] at hf;exact hf
 refine zCl (zP9 (zDZ (ls:=(yX n).map yf) (zF (zAg (zH (i:=0) rfl)) zR) (fun u0 u0 u0 hh=>⟨n,rfl,by omega,hh⟩) _ (.refl _) _ fun a ha=>?_));have af:a≠f:=fun e=>by rw[e,zG] at ha;cases ha
 have al:a≠l1:=fun e=>by rw[e,zT lf,zG] at ha;cases ha
 have gaG:G.m a=none:=by rw[zT af,zT al] at ha;exact ha
 refine wm (fun k G'=>G'.m f=some ((((yX n).take k).filter (tq q i)).map yf)/\G'.m a=some ((yX n).map yf)/\G'.m l1=some ((lar n q i).map nD)/\Sub G G') ⟨?_,zG,?_,?_⟩ (fun u0 u0 h=>.inl h.2.1) ?_ ?_
 ·rw[zT (Ne.symm af)];exact zG
 ·rw[zT (Ne.symm al),zT lf];exact zG
 ·exact(((Sub.refl G).put hl1).put hfG).put gaG
 ·rintro k x hx G2 ⟨h1,h2,h3,h4⟩
  obtain⟨p,hpk,rfl⟩:=zBP hx;have hp':=dS hpk;obtain⟨p1,p2⟩:=zAu.mp hp';have hc:(((yX n).take (k+1)).filter (tq q i))=(((yX n).take k).filter (tq q i))++(if tq q i p=true then [p] else []):=by
   rw[wO hpk,List.filter_append];congr 1;simp[gW]
  have hz:((((yX n).take k).filter (tq q i)).map yf).length<=1000000:=by
   rw[db];have:=gM (tq q i) ((yX n).take k);rw[eK] at this;have:=zHs n (by omega);omega
  show zU _ _ _ [some (zK n q),some (nD i),some (.adr l1),some (.adr f),some (yf p),none] G2;have nin:∀ {t:zi} {y:Nat},yC t [some (zK n q),some (nD i),some (.adr l1),some (.adr f),some (yf p),none] G2 (nD y)->y<n->yC (zY (fIn false) t (zB 2)) [some (zK n q),some (nD i),some (.adr l1),some (.adr f),some (yf p),none] G2 (.bl (adj q i y)):=fun {t y} ht hy=>zAE ht (zH (d:=.adr l1) rfl) fun G3 e R q'=>⟨(lar n q i).map nD,e.ls (.inl h3),rfl,zDg _,by
   rw[if_neg (by simp),zGp];have:decide (y∈lar n q i)=adj q i y:=by
    rw[eD,decide_eq_true_eq,zL9 hi];exact⟨fun h=>h.2,fun h=>⟨hy,h⟩⟩
   rw[this];exact q'⟩
  refine zL8 (d:=.bl (inB q i p)) (zMR (nin (zPI (zH (d:=yf p) rfl)) (by omega)) (nin (zPJ (zH (d:=yf p) rfl)) p2)) ?_;show xIf _ _ _ _ [some (zK n q),some (nD i),some (.adr l1),some (.adr f),some (yf p),some (.bl (inB q i p))] G2;have hin:yC (zY (fIn false) (zB 4) (zY yr (zB 0) (xC (.int 1)))) [some (zK n q),some (nD i),some (.adr l1),some (.adr f),some (yf p),some (.bl (inB q i p))] G2 (.bl (q p)):=zGq (zH (d:=yf p) rfl) (zJ5 (zH rfl)) (zBH p) (fun d hd=>by obtain⟨x,u0,rfl⟩:=dL.mp hd;exact zBH x) (by
   rw[if_neg (by simp),List.any_map];rw[eD,List.any_eq_true];constructor
   ·rintro⟨y,hy,e⟩
    simp only[Function.comp,zE3,decide_eq_true_eq] at e;rw[<-e];exact(fj.mp hy).2
   ·intro e
    exact⟨p,fj.mpr ⟨hp',e⟩,by simp[zE3]⟩)
  have hne:yC (zY (fEq true) (zY (fIn false) (zB 4) (zY yr (zB 0) (xC (.int 1)))) (zB 5)) [some (zK n q),some (nD i),some (.adr l1),some (.adr f),some (yf p),some (.bl (inB q i p))] G2 (.bl (tq q i p)):=zBl hin (zH (d:=.bl (inB q i p)) rfl) rfl rfl rfl;cases ht:tq q i p with
  | true =>
   rw[ht] at hne;refine zGt (zAM hne) (zMS (zDB (d:=yf p) rfl h1 (fun Q q'=>zF (zH rfl) zR G2 (.refl _) _ q') hz ⟨.keep (.keep (.keep (.keep (.skip (.skip .nil))))),_,.refl _,?_,?_,?_,h4.put hfG⟩))
   ·rw[zG,hc,ht];simp
   ·rw[zT af];exact h2
   ·rw[zT lf];exact h3
  | false =>
   rw[ht] at hne;refine zCJ (zAM hne) ⟨.keep (.keep (.keep (.keep (.skip (.skip .nil))))),G2,.refl _,?_,h2,h3,h4⟩;rw[hc,ht];simpa using h1
 ·rintro G2 ⟨h1,h2,h3,h4⟩
  rw[db,gE] at h1;dsimp only;exact zHW (d:=zK n (tq q i)) (zBv (zF (zAg (zH (i:=0) rfl)) (zF (yJ (zF (zH (d:=.adr f) rfl) zR) fun G3 e R q'=>⟨_,e.ls (.inl h1),q'⟩) zR)) (by simp)) ⟨G,h4,h⟩
end K
namespace HW
open PySem
section
variable {prog:Program} {w:World} {A:Around} {E:Value->Shared->Prop} {s:Shared}
theorem zMT(hu:A.units+4<cLine)(hk:(zBs prog w).is s.heap k a)(hd:(d==sysModules)=false)(hm:s.heap.DictOfH (zBs prog w) d xs)
  (h:Q (atKey xs k).isSome { s with toks:=s.toks+(zBs prog w).draws k }):wpAny (model prog w) A (contains (.ref d) (.ref a)) Q E s:=by
 have ty:=hm.typeIs;have rm:(zBs prog w).room A.in1:=by rw[zAc,Around.in1_units];omega
 unfold contains
 try with_reducible refine dZ ?_
 refine cN (hJ ty slot_dict_contains.lookup ?_);rw[if_neg (fun z=>by rw[beq_builtin_none] at z;cases z)];refine cN (wpAny_callSpecialUnlessNone?_slot (name:=Str.ofString "__contains__") ty slot_dict_contains (dY slot_dict_contains ty entry_dict_contains ?_ (args_dict_contains _ _)));show wpAny _ _ (dictGet d (.ref a)>>=_) _ _ s;refine cN (wpAny_dictGet_heap rm hk hm ?_);cases q:atKey xs k with
 | some p=>rw[q] at h;exact cS ⟨.bool true,rfl,fq h⟩
 | none =>
  rw[q] at h;show wpAny _ _ (Builtin.Dict.pendingKey? d (.ref a)>>=_) _ _ _;exact cN (wpAny_pendingKey_other hd (cS ⟨_,rfl,fq h⟩))
theorem zOQ(hu:A.units+4<cLine)(hk:(zBs prog w).is s.heap k a)(hd:(d==sysModules)=false)(hm:s.heap.DictOfH (zBs prog w) d xs)
  (h:Q (.bool (!(atKey xs k).isSome)) { s with toks:=s.toks+(zBs prog w).draws k }):wpAny (model prog w) A (compareOp .NotIn (.ref a) (.ref d)) Q E s:=by
 show wpAny _ _ (do return .bool (!(<-contains (.ref d) (.ref a)))) Q E s;exact cN (zMT hu hk hd hm (cS h))
noncomputable def DE(h:Heap)(d:Addr)(es:Array DictEntry)(ep:Nat):Prop:=∃ o,h.get? d=some o/\o.ExactDict/\o.data=.dict es ep
theorem zIu(hd:(d==sysModules)=false)(hm:DE s.heap d es ep)
  (h:Q (.ref s.heap.objs.size) { s with heap:=s.heap.push { cls:=.type "dict_keyiterator",data:=.fields #[.ref d,.int 0 0,.int es.size 0,.int ep 0] } }):wpAny (model prog w) A (pyIter (.ref d)) Q E s:=by
 obtain⟨o,ho,hc,he⟩:=hm;have ty:s.TypeIs (.ref d) "dict":=⟨o,ho,hc.1⟩
 refine wpAny_pyIter_slot ty F.slot_dict_iter (dY F.slot_dict_iter ty F.entry_dict_iter ?_ (F.args_dict_iter_1 _));unfold Builtin.«dict.__iter__»;refine cN ?_;unfold Builtin.Dict.dictSlotNone;refine cN (wpAny_notOrdered_dict ty (show wpAny _ _ (pure (Value.ref d)) _ _ s from cS ?_));unfold Builtin.Dict.showsAll;show wpAny _ _ ((if (d==sysModules)=true then _ else _)>>=_) _ _ s;rw[if_neg (by rw[hd];exact eH)];refine cN (cS (cN (wpAny_dictEntries ho he (cN (wpAny_dictEpoch ho he ?_)))));refine cN (eR (cS ⟨_,rfl,"dict_keyiterator",_,⟨_,d9 _ rfl,rfl⟩,F.slot_dict_keyiterator_next.lookup,?_⟩));simpa[rawInt] using h
theorem zEl(hh:A.handled=none)(hit:s.heap.IsKeyIter it d i es.size ep)(hm:DE s.heap d es ep)
  (hI:∀ e h',es[i]?=some e->h'.IsKeyIter it d (i+1) es.size ep->Heap.ExtBut it s.heap h'->Q (some e.key) { s with heap:=h' })
  (hE:es[i]?=none->∀ h',Heap.ExtBut it s.heap h'->Q none { s with heap:=h' }):wpAny (model prog w) A (pyNext (.ref it)) Q E s:=by
 have ty:=hit.typeIs;obtain⟨o,ho,hc,hd⟩:=hit;obtain⟨od,hod,u0,hdd⟩:=hm;unfold pyNext;refine cN (gO (wpAny_callSpecial?_slot (name:=Str.ofString "__next__") ty F.slot_dict_keyiterator_next (dY F.slot_dict_keyiterator_next ty F.entry_dict_keyiterator_next ?_ (F.args_dict_keyiterator_next_1 _))));refine cN (cS (cN (cN ?_)))
 first | refine cN (wpAny_typeNameOfWhole_keyiter ty (cS ?_)) | refine cN (wpAny_typeNameOf_keyiter ty (cS ?_))
 refine cN (wpAny_fieldsOf ho hd ?_);simp only[show Builtin.Dict_items.ownsTuple "dict_keyiterator"=false by decide,cQ,if_false];show wpAny _ _ (if (Value.ref d==Value.none)=true then _ else _) _ _ s;rw[if_neg (fun z=>by cases z)];refine cN (cS (cN (wpAny_dictEntries hod hdd ?_)));rw[if_neg (by simp)];refine cN (cS (cN (wpAny_dictEpoch hod hdd ?_)));rw[if_neg (by simp)];refine cS ?_;cases hx:es[i]? with
 | some e =>
  simp only[show ¬ ((i:Int)<0) from by omega,if_false,gR,hx];refine cN ?_
  first | refine cN (wpAny_typeNameOfWhole_keyiter ty (cS ?_)) | refine cN (wpAny_typeNameOf_keyiter ty (cS ?_))
  refine cN (wpAny_isOneOf_keyiter ty ?_);show wpAny _ _ (setField (.ref it) 1 (rawInt ((i:Int)+1))>>=_) _ _ s;refine cN (wpAny_setField ho hd (by simp) ?_);have hit':(s.heap.update it (Obj.mapFields (·.setIfInBounds 1 (rawInt ((i:Int)+1))))).IsKeyIter it d (i+1) es.size ep :=
   ⟨_,gi _ ho (Obj.isFreed_of_fields (Obj.data_mapFields hd _)),(Obj.cls_mapFields ..).trans hc,by rw[Obj.data_mapFields hd];simp[rawInt]⟩
  refine cN (dZ (cN (wpAny_isOneOf_keyiter (s:={ s with heap:=s.heap.update it (Obj.mapFields (·.setIfInBounds 1 (rawInt ((i:Int)+1)))) }) hit'.typeIs ?_)));show wpAny _ _ (pure e.key) _ _ _;exact cS (cS ⟨_,rfl,cS (hI e _ hx hit' (dW.update ..).extBut)⟩)
 | none =>
  simp only[show ¬ ((i:Int)<0) from by omega,if_false,gR,hx];refine cN ?_
  first | refine cN (wpAny_typeNameOfWhole_keyiter ty (cS ?_)) | refine cN (wpAny_typeNameOf_keyiter ty (cS ?_))
  show wpAny _ _ (setField (.ref it) 0 .none>>=_) _ _ s;refine cN (wpAny_setField ho hd (by simp) ?_);show wpAny _ _ (newExc (.type "StopIteration") []>>=_) _ _ _;refine cN ?_;simp only[newExc,newTuple];refine cN (eR (cN (m:=firstArgMember _ _) (gX (a:=Value.none) (by first | rfl | (simp only[firstArgMember];rfl)) (eR ?_ (by size_fits)))) (by size_fits));simp only[raiseNew];refine cN (wpAny_handled ?_);rw[show A.in1.handled=none from hh];refine cN (cS (wpAny_throw ?_));refine cN (fV (b:=true) (T:="StopIteration") ⟨_,d9 _ rfl,rfl⟩ isSubtype_stop ?_);exact cS (hE hx _ (((dW.update ..).extBut.push _).push _))
theorem DE.at{h h':Heap}{d:Addr}{es:Array DictEntry}{ep:Nat}(x:DE h d es ep)(e:∀ o,h.get? d=some o->h'.get? d=some o):DE h' d es ep:=let ⟨o,ho,r⟩:=x;⟨o,e _ ho,r⟩
theorem zPW(hh:A.handled=none)(it d:Addr)(hne:d≠it)(es:Array DictEntry)(ep:Nat) :
  Walks prog w A it [it,d] [it] es.size (fun i v=>∃ e,es[i]?=some e/\v=e.key) (fun i h=>h.IsKeyIter it d i es.size ep/\DE h d es ep) where
 sub:=fun b hb=>by simp at hb;simp[hb]
 frame:=fun u0 u0 u0 st hk=>⟨st.1.at fun o e=>hk it (by simp) o e,st.2.at fun o e=>hk d (by simp) o e⟩
 item:=fun i s Q E hi st hQ=>zEl hh st.1 st.2 (fun e h' q t k=>hQ _ h' s.toks ⟨e,q,rfl⟩ ⟨t,st.2.at fun o z=>k d o hne z⟩ fun b o hb z=>k b o (fun y=>hb (by simp[y])) z) (fun q=>by rw[getElem?_pos es i hi] at q;cases q)
 done:=fun s Q E st hQ=>zEl hh st.1 st.2 (fun e h' q=>by rw[Array.getElem?_eq_none (da _)] at q;cases q) fun u0 h' k=>hQ h' s.toks fun b o hb z=>k b o (fun y=>hb (by simp[y])) z
 self:=fun u0 u0 u0 u0 st hQ=>wpAny_pyIter_keyiter st.1 hQ
end
end HW
namespace HW
open PySem PyProof.Rows HS
structure Ord {α:Type} (lt:α->α->Bool):Prop where
 irr:∀ a,lt a a=false
 trs:∀ a b c,lt a b=true->lt b c=true->lt a c=true
 neg:∀ a b c,lt a c=true->lt a b=true\/lt b c=true
 tot:∀ a b,lt a b=false->lt b a=false->a=b
section
variable {α:Type} [DecidableEq α] {lt:α->α->Bool}
noncomputable def wQ(lt:α->α->Bool):List α->List α->Bool
 | [],[]=>false
 | [],_::_=>true
 | _::_,[]=>false
 | a::r,b::t=>if a=b then wQ lt r t else lt a b
theorem zAH(o:Ord lt):Ord (wQ lt) where
 irr:=fun a=>by
  induction a with
  | nil=>rfl
  | cons x r ih=>simpa[wQ] using ih
 trs:=fun a=>by
  induction a with
  | nil=>intro b c h h';cases b<;>cases c<;>simp_all [wQ]
  | cons x a ih =>
   intro b c h h';cases b with
   | nil=>simp[wQ] at h
   | cons y b =>
    cases c with
    | nil=>simp[wQ] at h'
    | cons z c =>
     simp only[wQ] at h h' ⊢;by_cases e1:x=y
     ·subst e1
      rw[if_pos rfl] at h;by_cases e2:x=z
      ·rw[if_pos e2] at h' ⊢;exact ih b c h h'
      ·rw[if_neg e2] at h' ⊢;exact h'
     ·rw[if_neg e1] at h
      by_cases e2:y=z
      ·subst e2;rw[if_neg e1];exact h
      ·rw[if_neg e2] at h'
       have q:=o.trs _ _ _ h h';rw[if_neg (fun e=>by subst e;rw[o.irr] at q;cases q)];exact q
 neg:=fun a=>by
  induction a with
  | nil=>intro b c h;cases b<;>cases c<;>simp_all [wQ]
  | cons x a ih =>
   intro b c h;cases c with
   | nil=>simp[wQ] at h
   | cons z c =>
    cases b with
    | nil=>exact .inr rfl
    | cons y b =>
     simp only[wQ] at h ⊢;by_cases e1:x=y
     ·subst e1
      rw[if_pos rfl];by_cases e2:x=z
      ·rw[if_pos e2] at h ⊢;exact ih b c h
      ·rw[if_neg e2] at h ⊢;exact .inr h
     ·rw[if_neg e1]
      by_cases e2:y=z
      ·subst e2;rw[if_neg e1] at h;exact .inl h
      ·rw[if_neg e2]
       by_cases e3:x=z
       ·subst e3
        cases q:lt x y with
        | true=>exact .inl rfl
        | false =>
         cases q':lt y x with
         | true=>exact .inr rfl
         | false=>exact absurd (o.tot _ _ q q') e1
       ·rw[if_neg e3] at h;exact o.neg _ _ _ h
 tot:=fun a=>by
  induction a with
  | nil=>intro b h h';cases b<;>simp_all [wQ]
  | cons x a ih =>
   intro b h h';cases b with
   | nil=>simp[wQ] at h'
   | cons y b =>
    simp only[wQ] at h h';by_cases e:x=y
    ·subst e
     rw[if_pos rfl] at h h';rw[ih b h h']
    ·rw[if_neg e] at h;rw[if_neg (Ne.symm e)] at h'
     exact absurd (o.tot _ _ h h') e
end
noncomputable def ltZ(a b:Int):Bool:=decide (a<b)
theorem zHt:Ord ltZ:=⟨fun a=>by simp[ltZ],fun a b c h h'=>by simp only[ltZ,decide_eq_true_eq] at *;omega,fun a b c h=>by simp only[ltZ,decide_eq_true_eq] at *;omega,fun a b h h'=>by simp only[ltZ,decide_eq_false_iff_not] at *;omega⟩
noncomputable abbrev lt2:List (List Int)->List (List Int)->Bool:=wQ (wQ ltZ)
noncomputable def ltS:Int ⊕ List (List Int)->Int ⊕ List (List Int)->Bool
 | .inl a,.inl b=>ltZ a b
 | .inl _,.inr _=>true
 | .inr _,.inl _=>false
 | .inr a,.inr b=>lt2 a b
theorem zCT:Ord ltS:=by
 have z:=zHt;have l:Ord lt2:=zAH (zAH zHt);refine⟨fun a=>?_,fun a b c h h'=>?_,fun a b c h=>?_,fun a b h h'=>?_⟩
 ·cases a
  ·exact z.irr _
  ·exact l.irr _
 ·cases a<;>cases b<;>cases c<;>first | rfl | (exact z.trs _ _ _ h h') | (exact l.trs _ _ _ h h') | (cases h;done) | cases h'
 ·cases a<;>cases b<;>cases c<;>first | (exact .inl rfl) | (exact .inr rfl) | (exact z.neg _ _ _ h) | (exact l.neg _ _ _ h) | cases h
 ·cases a<;>cases b<;>first | (cases h;done) | (cases h';done) | (exact congrArg _ (z.tot _ _ h h')) | exact congrArg _ (l.tot _ _ h h')
noncomputable abbrev ltW:Wb->Wb->Bool:=wQ ltS
section
variable {prog:Program} {w:World} {κ:Type} [DecidableEq κ] {e:EK prog w κ} {A:Around} {E:Value->Shared->Prop} {s:Shared} {lt:κ->κ->Bool}
theorem zKp(lo:∀ {A:Around} {E:Value->Shared->Prop} {s:Shared} {x y:κ} {u v:Value} {Q:Value->Shared->Prop},A.units+e.lv<cLine->e.is s.heap x u->e.is s.heap y v->Q (.bool (lt x y)) s->wpAny (model prog w) A (richCompare .Lt u v) Q E s)
     (hu:A.units+(e.lv+1)<cLine) (ta:zAa e s.heap xs a) (tb:zAa e s.heap ys b) (h:Q (.bool (wQ lt xs ys)) s):wpAny (model prog w) A (richCompare .Lt (.ref a) (.ref b)) Q E s:=by
 refine wpAny_richCompare_same_room (op:=.Lt) ta.typ tb.typ F.slot_tuple_lt (dY F.slot_tuple_lt ta.typ F.entry_tuple_lt ?_ (F.args_tuple_lt_2 _ _)) (by omega);have ty:=tb.typ;obtain⟨oa,ia,na,a1,u0,a2,a3⟩:=ta;obtain⟨ob,ib,nb,b1,u0,b2,b3⟩:=tb;show wpAny _ _ (isInstance (.ref b) (.type "tuple")>>=_) _ _ s;refine cN (fV ty isSubtype_tuple_tuple ?_);simp only[fQ,cQ,if_false];refine cN (gZ a1 a2 (cN (gZ b1 b2 (cN ?_))));refine gf _ (fun rest r s'=>r.1=none/\s'=s/\∃ p q ps qs,rest=List.zip ps qs/\Its (e.is s.heap) p ps/\Its (e.is s.heap) q qs/\wQ lt p q=wQ lt xs ys/\(decide (ps.length<qs.length))=decide (ia.size<ib.size)) _ ?_ ?_ _ _ ⟨rfl,rfl,xs,ys,ia.toList,ib.toList,rfl,a3,b3,rfl,by simp⟩
 ·rintro⟨u,v⟩ rest r s' ⟨hr,rfl,p,q,ps,qs,z,hp,hq,hd,hl⟩
  cases hp with
  | nil=>simp at z
  | @cons k1 _ p' ps' m1 m2 =>
   cases hq with
   | nil=>simp at z
   | @cons k2 _ q' qs' n1 n2 =>
    simp only[hW,List.cons.injEq,Prod.mk.injEq] at z;obtain⟨⟨rfl,rfl⟩,rfl⟩:=z;refine cN (e.eq (by rw[Around.in1_units];omega) m1 n1 ?_);by_cases c:k1=k2
    ·subst c
     rw[decide_eq_true rfl];simp only[fQ,cQ,if_false];exact cS ⟨rfl,rfl,p',q',ps',qs',rfl,m2,n2,by rw[<-hd];simp[wQ],by simpa using hl⟩
    ·rw[decide_eq_false c]
     simp only[Bool.not_false,if_true];have hf:wQ lt xs ys=lt k1 k2:=by rw[<-hd];simp[wQ,c]
     rw[hf] at h;exact cN (fY (cN (lo (by rw[Around.in1_units];omega) m1 n1 (cN (cS (cS (cS ⟨_,rfl,(fun z=>by cases z),h⟩)))))))
 ·rintro⟨r1,r2⟩ s' ⟨hr,rfl,p,q,ps,qs,z,hp,hq,hd,hl⟩
  cases (show r1=none from hr);refine cS ⟨.bool (decide (ia.size<ib.size)),rfl,(fun z=>by cases z),?_⟩;rw[<-hl];have hz:decide (ps.length<qs.length)=wQ lt p q:=by cases hp<;>cases hq<;>simp[wQ] at z ⊢
  rw[hz,hd];exact h
theorem lt_int(hi:(ekI prog w).is s.heap i u)(hj:(ekI prog w).is s.heap j v)(h:Q (.bool (ltZ i j)) s):wpAny (model prog w) A (richCompare .Lt u v) Q E s:=by
 obtain⟨t,rfl⟩:=isI.mp hi;obtain⟨t',rfl⟩:=isI.mp hj;exact wpAny_lt_int h
theorem zOR(hu:A.units+2<cLine)(hi:(zAb (zAb (ekI prog w))).is s.heap l u)(hj:(zAb (zAb (ekI prog w))).is s.heap k v)(h:Q (.bool (lt2 l k)) s):wpAny (model prog w) A (richCompare .Lt u v) Q E s:=by
 obtain⟨a,rfl,ta⟩:=hi;obtain⟨b,rfl,tb⟩:=hj;refine zKp (lt:=wQ ltZ) (fun hu hx hy q=>?_) hu ta tb h;obtain⟨c,rfl,tc⟩:=hx;obtain⟨d,rfl,td⟩:=hy;exact zKp (lt:=ltZ) (fun u0 hx hy q=>lt_int hx hy q) hu tc td q
end
end HW
namespace HW
open HS
section
variable {prog:Program} {w:World} {A:Around} {E:Value->Shared->Prop} {s:Shared}
theorem zQF(lo:(d==sysModules)=false):PySem.W.KdlSrc prog w "dict" d d es.size (fun i v=>∃ e,es[i]?=some e/\v=e.key) (fun h=>DE h d es ep) where
 type:=fun _ ⟨o,h1,h2,_⟩=>⟨o,h1,h2.1⟩
 there:=fun _ ⟨o,h1,_⟩=>⟨d7 h1,d7 h1⟩
 keep:=fun u0 u0 m k=>m.at fun o e=>k d (.inl rfl) o e
 notList:=by decide
 notTuple:=by decide
 hint:=fun _ _ _ _ ⟨o,h1,h2,_⟩ q=>PySem.W.kdl_hint_dict ⟨o,h1,h2.1⟩ q
 iter:=fun u0 u0 hh m=>⟨_,_,(fun u0 u0 q=>zIu lo m q),zPW hh _ d (let ⟨_,h1,_⟩:=m;dP (d7 h1)) es ep,⟨⟨_,d9 _ rfl,rfl,rfl⟩,m.at fun o e=>cP _ e⟩⟩
theorem zKq(hh:A.handled=none)(lo:(d==sysModules)=false)(hm:DE s.heap d es ep)(hn:es.size<=sizeLine)
  (hQ:∀ h' tk,(∀ b o,s.heap.get? b=some o->h'.get? b=some o)->s.heap.objs.size<=h'.objs.size->Q (es.toList.map (·.key)) { s with heap:=h',toks:=tk }):wpAny (model prog w) A (collect (.ref d)) Q E s:=by
 have ld:d<s.heap.objs.size:=let ⟨_,h1,_⟩:=hm;d7 h1;unfold collect;refine cN (wpAny_runValue (fS PySem.F.entry_proto_collect ?_));rw[Around.under_plainId PySem.F.plain_proto_collect _];show wpAny _ A.in1 (newList []>>=fun l=>again (.builtin "list.__iadd__" ⟨[l,.ref d],[]⟩)) _ _ s;refine cN (eR (cS ⟨plainId_quiet PySem.F.plain_list_iadd _,fS PySem.F.entry_list_iadd ?_⟩));rw[Around.under_plainId PySem.F.plain_list_iadd _];show wpAny _ A.in1 (Builtin.List.listExtendWith (.ref s.heap.objs.size) (.ref d) (.ref s.heap.objs.size)) _ _ _;have hL:(s.heap.push { cls:=.type "list",data:=.seq ([]:List Value).toArray }).get? s.heap.objs.size=some { cls:=.type "list",data:=.seq #[] 0 }:=d9 _ rfl;let Pst:Result->Shared->Prop:=fun res s'=>∃(h':Heap) (tk:Nat) (acc:Array Value) (c:Nat),res=.ok (.ret (.ref s.heap.objs.size))/\s'={ s with heap:=h',toks:=tk }/\(∀ b o,s.heap.get? b=some o->h'.get? b=some o)/\h'.get? s.heap.objs.size=some { cls:=.type "list",dict:=none,data:=.seq acc c,slots:=#[] }/\ItemsOf (fun i v=>∃ e,es[i]?=some e/\v=e.key) acc es.size;refine ft (PySem.W.kdl_extend (A:=A) (R:=Pst) (s:={ s with heap:=s.heap.push { cls:=.type "list",data:=.seq ([]:List Value).toArray } }) (zQF lo) hh (hm.at fun o e=>cP _ e) s.heap.objs.size (gB ld) (gB ld) (.ref s.heap.objs.size) 0 hL (fun h' tk acc c kp q1 q2=>?_) hn) (fun fin s' h=>?_) (fun e s' h=>?_)
 ·exact⟨h',tk,acc,c,rfl,rfl,fun b o e=>kp b o (dP (d7 e)) (cP _ e),q1,q2⟩
 ·have fin':∀ {r' s''},Pst r' s''->wpAny (model prog w) A (match Value.ref s.heap.objs.size with
     | Value.ref a=>do
      match (<-load a).data with
       | Data.seq xs _=>pure xs.toList
       | _=>unsupported "internal:collect"
     | _=>unsupported "internal:collect") Q E s'':=by
   rintro r' s'' ⟨h',tk,acc,c,rfl,rfl,kp,q1,ac⟩;show wpAny _ A (load s.heap.objs.size>>=_) _ _ _;refine cN (wpAny_load q1 (cS ?_));have ea:acc.toList=es.toList.map (·.key):=by
    refine List.ext_getElem (by have:=ac.1;simp[this]) fun i h1 h2=>?_;have hi:i<acc.size:=by simpa using h1
    obtain⟨e,q1,q2⟩:=ac.2 i acc[i] (getElem?_pos acc i hi);have hj:i<es.size:=by simpa using h2
    rw[getElem?_pos es i hj] at q1;cases q1;simpa using q2
   show Q acc.toList _;rw[ea];exact hQ h' tk kp (gL (d7 q1))
  cases fin with
  | done f =>
   have hf:=h;obtain⟨h',tk,acc,c,e,u0⟩:=h;cases e;exact fin' hf
  | again c'=>exact⟨h.1,fu h.2 fun r s'' hr=>by
    have hf:=hr;obtain⟨h',tk,acc,c,e,u0⟩:=hr;subst e;exact fin' hf⟩
 ·obtain⟨u0,u0,u0,u0,e,u0⟩:=h
  cases e
open Classical in
noncomputable def wAt (prog:Program) (w:World) (h:Heap) (v:Value):Option Wb:=if q:∃ k,(ekW prog w).is h k v then some (Classical.choose q) else none
theorem zG5(p:(ekW prog w).is h k v):wAt prog w h v=some k:=by
 have q:∃ k,(ekW prog w).is h k v:=⟨k,p⟩
 unfold wAt;rw[dif_pos q,(ekW prog w).inj (Classical.choose_spec q) p]
noncomputable abbrev zM5 (prog:Program) (w:World) (h:Heap):KeyKind where
 α:=Wb
 blt:=ltW
 irrefl:=(zAH zCT).irr
 trans:=(zAH zCT).trs
 negTrans:=(zAH zCT).neg
 total:=(zAH zCT).tot
 keyOf:=wAt prog w h
 dflt:=[]
noncomputable def Wf(k:Wb):Prop:=∃ n l,k=[.inl n,.inr l]
theorem zCq(p:(ekW prog w).is h [.inl n,.inr l] v):∃ a o k t u,v=.ref a/\h.get? a=some o/\o.cls=.type "tuple"/\o.data=.seq #[.int n t,u] k/\(zAb (zAb (ekI prog w))).is h l u:=by
 obtain⟨a,rfl,o,its,k,h1,h2,h3,h4⟩:=p;obtain⟨its⟩:=its;cases h4 with
 | cons p1 p2 =>
  cases p2 with
  | cons p3 p4 =>
   cases p4;obtain⟨t,rfl⟩:=(isI (h:=h)).mp p1;exact⟨a,o,k,t,_,rfl,h1,h2,h3,p3⟩
theorem zIv(f:Wf k)(p:(ekW prog w).is s.heap k v):zPL prog w A E s v:=by
 intro Q h;obtain⟨n,l,rfl⟩:=f;obtain⟨a,o,m,t,u,rfl,e,c,d,u0⟩:=zCq p;show wpAny _ _ (do
  if (<-typeOf (.ref a)) != .type "tuple" then return none
  return (<-Builtin.List.listItems (.ref a))[0]?) _ _ _
 refine cN (wpAny_typeOf (T:="tuple") ⟨o,e,c⟩ ?_);rw[if_neg (by decide)];exact cN (listItems_at e d (cS (h n t)))
theorem zIw(hu:A.units+3<cLine)(fk:Wf k)(fl:Wf l)(hx:(ekW prog w).is s.heap k x)(hy:(ekW prog w).is s.heap l y)(h:Q (ltW k l) s):wpAny (model prog w) A (keyLt' (tuples' b) x y) Q E s:=by
 obtain⟨n,r,rfl⟩:=fk;obtain⟨m,t,rfl⟩:=fl;obtain⟨a,o,u0,t1,u,rfl,e,u0,d,q⟩:=zCq hx;obtain⟨a',o',u0,t2,u',rfl,e',u0,d',q'⟩:=zCq hy;rw[zCP];refine cN (listItems_at e d (cN (listItems_at e' d' (cN ?_))));simp only[hW,List.zip_nil_left,List.zipIdx_cons,List.zipIdx_nil,List.forIn_cons,List.forIn_nil];refine cN (cN (wpAny_eqBool_int ?_));by_cases c:n=m
 ·subst c
  rw[if_neg (by simp)];refine cS (cN (cN ((zAb (zAb (ekI prog w))).eq (show A.units+2<cLine by omega) q q' ?_)));by_cases c2:r=t
  ·subst c2
   rw[if_neg (by simp)];refine cS (cS (cS ?_));have:ltW [.inl n,.inr r] [.inl n,.inr r]=false:=(zAH zCT).irr _;rw[this] at h;exact h
  ·rw[if_pos (by simp[c2])]
   have:ltW [.inl n,.inr r] [.inl n,.inr t]=lt2 r t:=by simp[wQ,c2,ltS]
   rw[this] at h;rw[oneLt'_eq];simp only[Nat.zero_add,Nat.reduceBEq,Bool.and_false,cQ,if_false];exact cN (cN (m:=richCompare .Lt u u') (zOR (by omega) q q' (fq (cS (cS (cS h))))))
 ·rw[if_pos (by simp[c])]
  have:ltW [.inl n,.inr r] [.inl m,.inr t]=decide (n<m):=by simp[wQ,c,ltS,ltZ]
  rw[this] at h;exact cN (zDo (cS (cS (cS h))))
theorem zF6(hh:A.handled=none)(hu:A.units+10<cLine)(lo:(d==sysModules)=false)(hm:DE s.heap d es ep)(hw:∀ v∈es.toList.map (·.key),∃ k,Wf k/\(ekW prog w).is s.heap k v)(h64:es.size<10000)
  (h:∀ h' tk l (out:List Value) e,(∀ b o,s.heap.get? b=some o->h'.get? b=some o)->s.heap.objs.size<=l->h'.get? l=some (seqObj "list" out.toArray e)->out.Perm (es.toList.map (·.key)) ->
   out.Pairwise (fun a b=>ltW ((wAt prog w s.heap b).getD []) ((wAt prog w s.heap a).getD [])=false)->Q (.ref l) { s with heap:=h',toks:=tk }):wpAny (model prog w) A (call (.builtin "sorted") [.ref d]) Q E s:=by
 refine Calls.call_function_entry kind_sorted plain_sorted entry_sorted (args_sorted1 _) ?_;unfold Builtin.«sorted»;refine cN (m:=checkCount "sorted" 1 1 _) (cS (cN (zKq (A:=A.in1) (by simpa using hh) lo hm (by rw[sizeLine_eq];omega) fun g tk kp lg=>cN (wpAny_newList ?_ (by rw[sizeLine_eq];simp;omega)))));generalize hvs:es.toList.map (·.key)=vs at *;have hl:vs.length<10000:=by rw[<-hvs];simpa using h64
 have hoL:(g.push (seqObj "list" vs.toArray 0)).get? g.objs.size=some (seqObj "list" vs.toArray 0):=d9 _ rfl;have up:∀ b o,s.heap.get? b=some o->(g.push (seqObj "list" vs.toArray 0)).get? b=some o:=fun b o e=>cP _ (kp b o e);show wpAny _ _ _ _ _ { s with heap:=g.push (seqObj "list" vs.toArray 0),toks:=tk };refine cN (dZ (dY slot_list_sort ⟨_,hoL,rfl⟩ entry_list_sort (zFt (κ:=zM5 prog w s.heap) (s:={ s with heap:=g.push (seqObj "list" vs.toArray 0),toks:=tk }) hoL hl (fun g2 up2=>?_) fun out a2 a3=>⟨_,rfl,cS ⟨_,rfl,?_⟩⟩) (args_list_sort _)))
 ·have hv':∀ v∈vs,∃ k,Wf k/\(ekW prog w).is g2 k v/\kOf (zM5 prog w s.heap) v=k:=fun v hv=>by
   obtain⟨k,f,p⟩:=hw v hv;refine⟨k,f,(ekW prog w).mono p fun c o e hc=>up2 c o (fun z=>?_) (up c o e),?_⟩
   ·subst z
    exact absurd (d7 e) (Nat.not_lt.mpr lg)
   ·show(wAt prog w s.heap v).getD []=k
    rw[zG5 p];rfl
  refine⟨fun Q h1 q=>zCy (s:={ s with heap:=g2,toks:=tk }) h1 (fun v hv=>by obtain⟨k,f,p,u0⟩:=hv' v hv;exact zIv f p) q,fun x hx y hy E' Q q=>?_⟩;obtain⟨k,f1,p1,e1⟩:=hv' x hx;obtain⟨l,f2,p2,e2⟩:=hv' y hy;rw[e1,e2] at q;exact zIw (s:={ s with heap:=g2,toks:=tk }) (by simp only[Around.in1_units];omega) f1 f2 p1 p2 q
 have at1:((g.push (seqObj "list" vs.toArray 0)).update g.objs.size (Obj.mapSeq fun u0=>#[])).get? g.objs.size=some (seqObj "list" #[] _):=get?_update_seq hoL (fun u0=>#[]);have at2:((((g.push (seqObj "list" vs.toArray 0)).update g.objs.size (Obj.mapSeq fun u0=>#[])).push (seqObj "tuple" vs.toArray 0)).push (seqObj "list" #[] 0)).get? g.objs.size=some (seqObj "list" #[] _):=cP _ (cP _ at1);refine h _ tk g.objs.size out.toList _ (fun b o e=>?_) lg (get?_update_seq at2 (fun u0=>out)) a2 ?_
 ·have hb:b≠g.objs.size:=dP (d7 (kp b o e))
  unfold sortedHeap;rw[ge _ _ _ _ hb];exact cP _ (cP _ (by rw[ge _ _ _ _ hb];exact cP _ (kp b o e)))
 ·rw[fi]
  intro i j hi hj ij;have hj':j<out.size:=by simpa using hj
  have q:=a3 i j (gL ij) hj';have gt:∀ k,(hk:k<out.size)->out.getD k .none=out[k]:=fun k hk=>by simp[gA,hk]
  rw[gt i (by omega),gt j hj'] at q;simpa using q
end
end HW
namespace L3
open L2
section
variable {X:Cx} {pins:List (Addr×Obj)} {σ1:L2.St} {H:Hp} {s:Shared} {κ:Type} [DecidableEq κ]
theorem zHu{K:PySem.W.Frag}{p:κ->Value->Prop}{f:κ->D}(g:∀ x v u,zM K H (f x) v->RelV v u->p x u):∀ {xs:List κ} {vs:List V} {us:List Value},Dens K H (xs.map f) vs->zW vs us->HW.Its p xs us
 | [],vs,us,d,r=>by
  rw[List.map_nil] at d;unfold Dens at d;subst d;cases r;exact .nil
 | x::xs,vs,us,d,r=>by
  rw[eA] at d;unfold Dens at d;obtain⟨v,t,rfl,d1,d2⟩:=d;cases r with
  | cons r1 r2=>exact .cons (g _ _ _ d1 r1) (zHu g d2 r2)
theorem zFI(I:zP X pins σ1 H s){e:HW.EK X.prog X.w κ}{f:κ->D}(g:∀ x v u,zM X.K H (f x) v->RelV v u->e.is s.heap x u){xs:List κ}{v:V}{u:Value}(d:zM X.K H (.tup (xs.map f)) v)(r:RelV v u):(HW.zAb e).is s.heap xs u:=by
 unfold zM at d;obtain⟨a,vs,rfl,sq,ds⟩:=d;cases r;obtain⟨its,rv,⟨o,h1,h2,n,h3⟩,u0⟩:=I.tuple sq;exact⟨a,rfl,o,_,n,h1,h2,h3,by simpa using zHu g ds rv⟩
theorem zHv(d:zM X.K H (.int i) v)(r:RelV v u):(HW.ekI X.prog X.w).is s.heap i u:=by
 unfold zM at d;subst d;exact HW.isI.mpr r
theorem wp(I:zP X pins σ1 H s)(d:zM X.K H (wbD k) v)(r:RelV v u):(HW.ekW X.prog X.w).is s.heap k u :=
 zFI I (e:=HW.ekX X.prog X.w) (f:=wbI) (fun x v u d r=>by
  cases x with
  | inl i=>exact zHv (s:=s) d r
  | inr l=>exact zFI I (e:=HW.zAb (HW.ekI X.prog X.w)) (f:=fun p=>.tup (p.map D.int)) (fun p v u d r=>zFI I (f:=D.int) (fun i v u d r=>zHv d r) d r) d r) d r
theorem zCU{K:PySem.W.Frag}{k:HW.Wb}{v:V}(d:zM K H (wbD k) v):∃ a,v=.ref a:=by
 unfold wbD zM at d;obtain⟨a,u0,e,u0⟩:=d;exact⟨a,e⟩
theorem zKr(P:Program)(w:World)(k:HW.Wb):(HW.zBs P w).hash k=wbH k:=by
 unfold wbH;show reduceHash (Builtin.Tuple.tupleHashOf (k.map (HW.ekX P w).hash))=_;congr 2;refine g9 fun x u0=>?_;cases x<;>rfl
theorem _root_.PySem.Paired.memR{α β:Type}{F:α->β->Prop}{l:List α}{l':List β}(h:Paired F l l'){b:β}(hb:b∈l'):∃ a∈l,F a b:=by
 induction h with
 | nil=>cases hb
 | cons r _ ih =>
  rcases dN.mp hb with e | e
  ·subst e;exact⟨_,dH,r⟩
  ·obtain⟨a,h1,h2⟩:=ih e;exact⟨a,dC _ h1,h2⟩
noncomputable abbrev lk{α:Type}(xs:List (HW.Wb×α))(k:HW.Wb):Option (HW.Wb×α):=xs.find? fun x=>decide (x.1=k)
theorem zAT{α β:Type}{F:HW.Wb×α->HW.Wb×β->Prop}(hF:∀ a b,F a b->a.1=b.1){xs:List (HW.Wb×α)}{ys:List (HW.Wb×β)}(h:Paired F xs ys)(k:HW.Wb):(lk xs k=none/\lk ys k=none)\/∃ a b,lk xs k=some a/\lk ys k=some b/\F a b:=by
 induction h with
 | nil=>exact .inl ⟨rfl,rfl⟩
 | @cons a b _ _ r _ ih =>
  have e:=hF _ _ r;by_cases c:a.1=k
  ·exact .inr ⟨a,b,by simp[lk,c],by simp[lk,<-e,c],r⟩
  ·have c':b.1≠k:=by rw[<-e];exact c
   simpa[lk,c,c'] using ih
noncomputable abbrev Xy:HW.Wb×Addr×V->HW.Wb×Addr×Value->Prop:=fun x y=>x.1=y.1/\x.2.1=y.2.1/\RelV x.2.2 y.2.2
noncomputable abbrev Kx(K:PySem.W.Frag)(H:Hp):HW.Wb×D->HW.Wb×Addr×V->Prop:=fun kv x=>kv.1=x.1/\zM K H (wbD x.1) (.ref x.2.1)/\zM K H kv.2 x.2.2
theorem zA3(I:zP X pins σ1 H s)(e:H d=some (.ext (DW d xs)))(hd:∀ x∈xs,zM X.K H (wbD x.1) (.ref x.2.1)) :
  (d==sysModules)=false/\xs.length<=sizeLine/\∃ ys,Paired Xy xs ys/\s.heap.DictOfH (HW.zBs X.prog X.w) d ys/\∃ es ep,HW.DE s.heap d es ep/\es.toList=ys.map fun y=>(⟨wbH y.1,.ref y.2.1,y.2.2⟩:DictEntry):=by
 obtain⟨⟨h1,h2,ys,h3,h4,o,es,ep,h5,h6,h7,h8⟩,u0⟩:=(show yY X.prog X.w H s.heap d (.ext (DW d xs)) from I.hok d _ e)
 refine⟨h1,h2,ys,h3,⟨o,es,ep,h5,h6,h7,?_,fun y hy=>?_,h4⟩,es,ep,⟨o,h5,h6,h7⟩,h8⟩
 ·rw[h8]
  refine g9 fun y u0=>?_;unfold entryOfKey;rw[zKr]
 ·obtain⟨x,hx,e1,e2,u0⟩:=h3.memR hy
  rw[<-e1,<-e2];exact wp I (hd x hx) rfl
theorem zKs(q:DW d xs h):yY P w H h d (.ext (DW d xs)):=by
 refine⟨q,?_,fun h1 h2 z k=>?_⟩
 ·obtain⟨u0,u0,u0,u0,u0,o,u0,u0,e,u0⟩:=q
  exact⟨o,e⟩
 ·obtain⟨a1,a2,ys,a3,a4,o,es,ep,a5,a6⟩:=z
  exact⟨a1,a2,ys,a3,a4,o,es,ep,k o a5,a6⟩
theorem zKt(lo:(d==sysModules)=false)(hl:xs.length<=sizeLine)(p:Paired Xy xs ys)(q:h.DictOfH (HW.zBs P w) d ys):DW d xs h:=by
 obtain⟨o,es,ep,h5,h6,h7,h8,u0,h4⟩:=q;refine⟨lo,hl,ys,p,h4,o,es,ep,h5,h6,h7,?_⟩;rw[h8];refine g9 fun y u0=>?_;unfold entryOfKey;rw[zKr]
theorem zFJ(ys:List (HW.Wb×Addr×Value))(k:HW.Wb):atKey ys k=(lk ys k).map (·.2):=rfl
noncomputable def rNW(K:PySem.W.Frag):R2:=fun x y H Q=>∃ a d xs k,x=.ref a/\y=.ref d/\H d=some (.ext (DW d xs))/\(∀ x∈xs,zM K H (wbD x.1) (.ref x.2.1))/\zM K H (wbD k) (.ref a)/\Q (.bl (lk xs k).isNone) H
theorem zIx(hu:X.A.units+10<cLine):OpR X (compareOp .NotIn) (rNW X.K):=by
 intro pins s σ H x y v u Q I rx ry h;obtain⟨a,d,xs,k,rfl,rfl,e1,e2,e3,q⟩:=h;cases rx;cases ry;obtain⟨lo,u0,ys,pr,dh,u0⟩:=zA3 I e1 e2;refine HW.zOQ (by omega) (wp I e3 rfl) lo dh ⟨.bl _,H,I.tok _,rfl,?_⟩;rw[zFJ];rcases zAT (fun a b z=>z.1) pr k with ⟨z1,z2⟩ | ⟨u0,u0,z1,z2,u0⟩<;>rw[z1] at q<;>rw[z2]<;>exact q
noncomputable def rGW(K:PySem.W.Frag):R2:=fun x y H Q=>∃ d a xs k z,x=.ref d/\y=.ref a/\H d=some (.ext (DW d xs))/\(∀ x∈xs,zM K H (wbD x.1) (.ref x.2.1))/\zM K H (wbD k) (.ref a)/\lk xs k=some z/\Q z.2.2 H
theorem zOS(hu:X.A.units+10<cLine):IxR X (rGW X.K):=by
 intro value slice pins s σ H x y v u Q I rx ry h hs;obtain⟨d,a,xs,k,z,rfl,rfl,e1,e2,e3,e4,q⟩:=h;cases rx;cases ry;obtain⟨lo,u0,ys,pr,dh,u0⟩:=zA3 I e1 e2;rcases zAT (fun a b z=>z.1) pr k with ⟨z1,u0⟩ | ⟨x,y,z1,z2,r⟩
 ·rw[z1] at e4;cases e4
 ·rw[e4] at z1;cases z1
  exact tail_any dh.typeIs slot_dict_getitem.lookup (wpAny_getItem_heap (p:=y.2) (by rw[HW.zAc,Around.in1_units];omega) (wp I e3 rfl) dh (by rw[zFJ,z2];rfl) ⟨z.2.2,H,I.tok _,r.2.2,q⟩) hs
noncomputable def rSW(K:PySem.W.Frag):zLV:=fun o i v H Q=>∃ d a xs k,o=.ref d/\i=.ref a/\H d=some (.ext (DW d xs))/\(∀ x∈xs,zM K H (wbD x.1) (.ref x.2.1))/\zM K H (wbD k) (.ref a)/\lk xs k=none/\xs.length+1<=sizeLine/\Q (yT H d (.ext (DW d (xs++[(k,a,v)]))))
theorem zMU(hu:X.A.units+10<cLine):zNS X (rSW X.K):=by
 intro pins s σ H o i v ov iv u Q I ro ri rv h;obtain⟨d,a,xs,k,rfl,rfl,e1,e2,e3,e4,hl,q⟩:=h;cases ro;cases ri;obtain⟨lo,hl0,ys,pr,dh,u0⟩:=zA3 I e1 e2;have hn:atKey ys k=none:=by
  rcases zAT (fun a b z=>z.1) pr k with ⟨u0,z2⟩ | ⟨u0,u0,z1,u0⟩
  ·rw[zFJ,z2];rfl
  ·rw[e4] at z1;cases z1
 have yl:ys.length=xs.length:=by have:=pr.length;omega
 refine wpAny_setItem_heap (knd:=HW.zBs X.prog X.w) (by rw[HW.zAc,Around.in1_units];omega) (wp I e3 rfl) dh (fun h' dh' sb=>?_) (by omega);rw[storedH_new hn] at dh';have dw:DW d (xs++[(k,a,v)]) h':=zKt lo (by simpa using hl) (pr.snoc ⟨rfl,rfl,rv⟩) dh';exact⟨_,I.write (by rw[e1];trivial) (.inl rfl) (fun b o hb e=>(sb.2 b hb).trans e) (by obtain⟨u0,u0,u0,u0,u0,o,u0,u0,e,u0⟩:=dw;exact⟨o,e⟩) (zKs dw),q⟩
end
section
variable {X:Cx} {a b o:Expr} {pos p:Pos} {ta tb te:zi}
noncomputable def fNW:D->D->Gp->Q2->Prop:=fun x y G R=>match y with
 | .adr d=>∃ k kvs,x=wbD k/\G.dc d=some kvs/\R (.bl (lk kvs k).isNone) G
 | _=>False
noncomputable def fGW:D->D->Gp->Q2->Prop:=fun x y G R=>match x with
 | .adr d=>∃ k kvs z,y=wbD k/\G.dc d=some kvs/\lk kvs k=some z/\R z.2 G
 | _=>False
theorem zCr{K:PySem.W.Frag}{H:Hp}{kvs:List (HW.Wb×D)}{xs:List (HW.Wb×Addr×V)}(h:Paired (Kx K H) kvs xs):∀ x∈xs,zM K H (wbD x.1) (.ref x.2.1):=fun x hx=>by
 obtain⟨u0,u0,z⟩:=h.memR hx;exact z.2.1
theorem zOT{K:PySem.W.Frag}:Fit K (rNW K) fNW:=by
 intro dx dy G R x y H Q h r d1 d2 kk;unfold fNW at h;split at h
 ·rename_i d
  obtain⟨k,kvs,rfl,e,h⟩:=h;obtain⟨xs,e1,e2⟩:=r.dc d kvs e;obtain⟨a,rfl⟩:=zCU d1;unfold zM at d2;refine⟨a,d,xs,k,rfl,d2,e1,zCr e2,d1,kk (.bl (lk xs k).isNone) G ?_ _ H (.refl H) r (by unfold zM;rfl)⟩;rcases zAT (fun a b z=>z.1) e2 k with ⟨z1,z2⟩ | ⟨u0,u0,z1,z2,u0⟩<;>rw[z1] at h<;>rw[z2]<;>exact h
 ·exact h.elim
theorem zOU{K:PySem.W.Frag}:Fit K (rGW K) fGW:=by
 intro dx dy G R x y H Q h r d1 d2 kk;unfold fGW at h;split at h
 ·rename_i d
  obtain⟨k,kvs,z,rfl,e,e4,h⟩:=h;obtain⟨xs,e1,e2⟩:=r.dc d kvs e;obtain⟨a,rfl⟩:=zCU d2;unfold zM at d1;rcases zAT (fun a b z=>z.1) e2 k with ⟨z1,u0⟩ | ⟨x,y,z1,z2,q⟩
  ·rw[z1] at e4;cases e4
  ·rw[e4] at z1;cases z1
   exact⟨d,a,xs,k,y,d1,rfl,e1,zCr e2,d2,z2,kk _ G h _ H (.refl H) r q.2.2⟩
 ·exact h.elim
theorem zF7(hr:yE n X.A)(ha:E2 X a ta)(hb:E2 X b tb)(hm:autoParam (behindInMarks .NotIn b=false) Zq4._auto_1):T2 X (.Compare a [.NotIn] [b] pos) (xB (zY fNW ta tb)):=zB3 (zIx (by have:=hr.units;omega)) zOT ha hb hm
theorem zM6(hr:yE n X.A)(ha:E2 X a ta)(hb:E2 X b tb)(hs:autoParam (zEy b) Zq7._auto_1):E2 X (.Subscript a b pos) (zY fGW ta tb) :=
 PE.mono (zMn (zOS (by have:=hr.units;omega)) ha hb hs) fun σ1 H Q h=>zFZ zOU h
theorem zf.dput{K:PySem.W.Frag}{G:Gp}{H:Hp}{d:Addr}{kvs:List (HW.Wb×D)}{xs:List (HW.Wb×Addr×V)}{φ:Heap->Prop}(h:H d=some (.ext φ))(r:zf K G H)(p:Paired (Kx K H) kvs xs):zd H (yT H d (.ext (DW d xs)))/\zf K (zC5 G d kvs) (yT H d (.ext (DW d xs))):=by
 have g:zd H (yT H d (.ext (DW d xs))):=⟨fun a ys e=>by rw[zc (zEH e h (by intro z;cases z))];exact e,fun a o u e=>by rw[zc (zEH e h (by intro z;cases z))];exact e⟩
 refine⟨g,fun a ds e=>?_,fun a ds e=>?_,fun a ds e=>?_⟩
 ·obtain⟨ys,e1,e2⟩:=r.m a ds e
  exact⟨ys,by rw[zc (zEH e1 h (by intro z;cases z))];exact e1,e2.grow g⟩
 ·obtain⟨ys,e1,e2⟩:=r.ro a ds e
  exact⟨ys,g.roL e1,e2.grow g⟩
 ·by_cases c:a=d
  ·subst c
   rw[zBS] at e;cases e;exact⟨xs,zb,L2.Paired.mapP p fun u0 u0 z=>⟨z.1,z.2.1.grow g,z.2.2.grow g⟩⟩
  ·rw[zC8 c] at e
   obtain⟨ys,e1,e2⟩:=r.dc a ds e;exact⟨ys,by rw[zc c];exact e1,L2.Paired.mapP e2 fun u0 u0 z=>⟨z.1,z.2.1.grow g,z.2.2.grow g⟩⟩
noncomputable def zIy(to ti:zi):TG2:=fun d σ G R=>to σ G fun o G1=>ti σ G1 fun i G2=>match o with
 | .adr a=>∃ k kvs,i=wbD k/\G2.dc a=some kvs/\lk kvs k=none/\kvs.length+1<=sizeLine/\R σ (zC5 G2 a (kvs++[(k,d)]))
 | _=>False
theorem zM7(hr:yE n X.A)(ho:E2 X o to)(hi:E2 X i ti)
  (ha:autoParam (∀ v,assign (.Subscript o i pos) X.env v=(do
   let ov <-holding [v] (eval o X.env);let iv <-holding [v,ov] (eval i X.env)
   standAt pos
   holding [v,ov,iv] (setItem ov iv v)
   release [v,ov,iv] [])) Zq3._auto_1):G2 X (.Subscript o i pos) (zIy to ti):=by
 refine PG.mono (zJS ho hi (zMU (by have:=hr.units;omega)) ha) ?_;rintro v σ1 H Q ⟨σ,G,d,R,r,dv,q,k⟩;refine⟨σ,G,_,r,q,fun dx G1 q1 x H1 g1 r1 d1=>⟨σ,G1,_,r.to g1 r1,q1,fun dy G2' q2 y H2 g2 r2 d2=>?_⟩⟩;split at q2
 ·rename_i l
  obtain⟨w,kvs,rfl,e1,e2,e3,q2⟩:=q2;have d1':=d1.grow g2;unfold zM at d1';subst d1';obtain⟨a,rfl⟩:=zCU d2;obtain⟨xs,h1,h2⟩:=r2.dc l kvs e1;have hl:=h2.length;have h3:lk xs w=none:=by
   rcases zAT (fun a b z=>z.1) h2 w with ⟨u0,z2⟩ | ⟨u0,u0,z1,u0⟩
   ·exact z2
   ·rw[e2] at z1;cases z1
  obtain⟨g3,r3⟩:=zf.dput h1 r2 (h2.snoc (a:=(w,d)) (b:=(w,a,v)) ⟨rfl,d2,dv.grow (g1.trans g2)⟩);exact⟨l,a,xs,w,rfl,rfl,h1,zCr h2,d2,h3,by omega,k _ _ q2 _ _ ((g1.trans g2).trans g3) ((r.to (g1.trans g2) r2).to g3 r3)⟩
 ·exact q2.elim
noncomputable def zFK(tk tv:zi):zi:=fun σ G R=>∀ p,G.m p=none->G.dc p=none->tk σ (zC5 G p []) fun dk G1=>tv σ G1 fun dv G2=>∃ k,dk=wbD k/\G2.dc p=some []/\R (.adr p) (zC5 G2 p [(k,dv)])
theorem zf.dnew{K:PySem.W.Frag}{G:Gp}{H:Hp}{d:Addr}(h:H d=none)(r:zf K G H):zd H (yT H d (.ext (DW d [])))/\zf K (zC5 G d []) (yT H d (.ext (DW d []))):=by
 have g:zd H (yT H d (.ext (DW d []))):=.fresh h;obtain⟨g',r'⟩:=zf.dput (φ:=DW d []) (kvs:=[]) (xs:=[]) zb (r.fresh (o:=.ext (DW d [])) h) .nil;rw[zLO] at r';exact⟨g,r'⟩
theorem zf.dfree{K:PySem.W.Frag}{G:Gp}{H:Hp}{p:Addr}(r:zf K G H)(h:H p=none):G.dc p=none:=by
 cases q:G.dc p with
 | none=>rfl
 | some ds=>obtain⟨xs,e1,u0⟩:=r.dc p _ q;rw[h] at e1;cases e1
theorem zHw(hr:yE n X.A)(hk:E2 X k tk)(hv:E2 X v tv):E2 X (.Dict [some k] [v] pos) (zFK tk tv):=by
 intro pins s σ1 H Q I h;obtain⟨σ,G,R,rl,q,kk⟩:=h;have hb:=zME I;have hp:H s.heap.objs.size=none:=I.hok.fresh (da _);obtain⟨g0,r0⟩:=zf.dnew hp rl.g;have lo:(s.heap.objs.size==sysModules)=false:=beq_eq_false_iff_ne.mpr fun z=>absurd hb (by rw[show s.heap.objs.size=1 from z];decide);have I1:zP X pins σ1 (yT H s.heap.objs.size (.ext (DW s.heap.objs.size []))) { s with heap:=s.heap.push { cls:=.type "dict",data:=.dict #[] } } :=
  I.laid (t':=s.toks) (fun b u e=>cP _ e) (da _) (zKs (zKt lo (eY _) .nil (Heap.DictOfH.new (knd:=HW.zBs X.prog X.w) s.heap)))
 rw[arm_eval_Dict,zip_pairTrees [some k] [v] X.env pos rfl rfl,dictDisplay_pairs _ (by simp[pairTrees]) (by simp[pairTrees])];refine cN (wpAny_standAt (cN ?_));unfold subDict;refine cN (wpAny_alloc (cN (dZ ?_)));rw[if_pos (by simp[pairTrees])];refine cN (pairTrees_cons_walk (yq (hk pins _ σ1 _ (fun x H1=>∃ dk G1,zd H H1/\zf X.K G1 H1/\zM X.K H1 dk x/\tv σ G1 fun dv G2=>∃ k,dk=wbD k/\G2.dc s.heap.objs.size=some []/\R (.adr s.heap.objs.size) (zC5 G2 s.heap.objs.size [(k,dv)])) I1 ⟨σ,_,_,rl.to g0 r0,q _ (rl.g.free hp) (rl.g.dfree hp),fun d G' z v H' g r d'=>⟨d,G',g0.trans g,r,d',z⟩⟩) fun u1 s1 u9=>?_));obtain⟨x1,H1,I2,rx1,dk,G1,g1,r1,d1,q1⟩:=u9;refine yq (hv pins _ σ1 _ (fun y H2=>∃ dv G2,zd H1 H2/\zf X.K G2 H2/\zM X.K H2 dv y/\∃ k,dk=wbD k/\G2.dc s.heap.objs.size=some []/\R (.adr s.heap.objs.size) (zC5 G2 s.heap.objs.size [(k,dv)])) I2 ⟨σ,_,_,rl.to g1 r1,q1,fun d G' z v H' g r d'=>⟨d,G',g,r,d',z⟩⟩) fun u2 s2 u9=>?_;obtain⟨x2,H2,I3,rx2,dv,G2,g2,r2,d2,w,hw,hd,q2⟩:=u9;refine pairTrees_nil_walk (dZ ?_);subst hw;have d1':=d1.grow g2;obtain⟨a,rfl⟩:=zCU d1';cases rx1;obtain⟨xs,e1,e2⟩:=r2.dc _ _ hd;cases e2;obtain⟨u0,u0,ys,pr,dh,u0⟩:=zA3 I3 e1 (fun x hx=>by cases hx);cases pr;refine cN ?_;simp only[List.forIn_cons,List.forIn_nil];refine cN (cN (wpAny_dictSet_heap (knd:=HW.zBs X.prog X.w) (by rw[HW.zAc];have:=hr.units;omega) (wp I3 d1' rfl) dh (fun h' dh' sb=>cS (cS (cS (cS ?_)))) (eY _)));rw[storedH_new rfl] at dh';have dw:DW s.heap.objs.size [(w,a,x2)] h':=zKt lo (by rw[sizeLine_eq];simp) (.cons ⟨rfl,rfl,rx2⟩ .nil) dh';obtain⟨g3,r3⟩:=zf.dput e1 r2 (kvs:=[(w,dv)]) (xs:=[(w,a,x2)]) (.cons ⟨rfl,d1',d2⟩ .nil);exact cS ⟨.ref s.heap.objs.size,_,I3.write (by rw[e1];trivial) (.inl rfl) (fun b o hb e=>(sb.2 b hb).trans e) (by obtain⟨u0,u0,u0,u0,u0,o,u0,u0,e,u0⟩:=dw;exact⟨o,e⟩) (zKs dw),rfl,kk _ _ q2 _ _ ((g1.trans g2).trans g3) r3 (by unfold zM;rfl)⟩
end
end L3
namespace HZ
section
variable {prog:Program} {w:World} {A:Around} {E:Value->Shared->Prop} {s:Shared} {e it l:Addr} {xs:Array Value} (Z:Zs prog w it l xs)
end
end HZ
namespace L2
open HZ
end L2
namespace L3
open L2
end L3
namespace HZ
end HZ
namespace L2
open HZ
end L2
namespace L3
open L2
end L3
namespace HI
section
variable {prog:Program} {w:World} {A:Around} {E:Value->Shared->Prop} {s:Shared}
end
end HI
namespace L2
open HI
variable {X:Cx} {e:Expr} {t:TA} {p p2 pos pos2:Pos}
end L2
namespace L3
open L2
section
variable {X:Cx} {e:Expr} {p p2 pos pos2:Pos}
end
end L3
namespace L2
section
variable {X:Cx} {pos:Pos}
end
end L2
namespace L3
open L2
section
variable {X:Cx} {e o:Expr} {te to:zi} {t:yj} {tl:TL2} {pos p apos cpos:Pos}
theorem zQG{st:Stmt}:P2 X st (fun u0 u0 u0=>False):=by
 rintro pins s σ H E I ⟨σ',G,D2,r,q,k⟩;exact q.elim
end
end L3
namespace L3
open L2 HS
section
variable {X:Cx} {e:Expr} {p pos:Pos}
theorem zEm{pins:List (Addr×Obj)}{σ:L2.St}{H:Hp}{s:Shared}(I:zP X pins σ H s):∀ {us:List Value},(∀ u∈us,∃ a k,u=.ref a/\zM X.K H (wbD k) (.ref a)) ->
  ∃ ys:List V,zW ys us/\Dens X.K H ((us.map fun u=>(HW.wAt X.prog X.w s.heap u).getD []).map wbD) ys
 | [],_=>⟨[],.nil,.nil⟩
 | u::us,h=>by
  obtain⟨ys,v,d⟩:=zEm I (us:=us) fun w hw=>h w (dC _ hw);obtain⟨a,k,rfl,d1⟩:=h u (by simp);refine⟨.ref a::ys,.cons rfl v,?_⟩;simp only[eA];rw[HW.zG5 (wp I d1 rfl)];exact .cons d1 d
theorem zIz{pins:List (Addr×Obj)}{σ:L2.St}{H:Hp}{s:Shared}(I:zP X pins σ H s){zs:List (HW.Wb×Addr×V)}{ys:List (HW.Wb×Addr×Value)}(pr:Paired Xy zs ys)(h:∀ x∈zs,zM X.K H (wbD x.1) (.ref x.2.1)) :
  (ys.map ((fun u=>(HW.wAt X.prog X.w s.heap u).getD [])∘fun y=>Value.ref y.2.1))=zs.map (·.1):=by
 induction pr with
 | nil=>rfl
 | @cons x y _ _ z _ ih =>
  simp only[eA];rw[ih fun x hx=>h x (dC _ hx)];congr 1;show(HW.wAt X.prog X.w s.heap (.ref y.2.1)).getD []=x.1;rw[<-z.2.1,HW.zG5 (wp I (h x dH) rfl)];rfl
theorem zFL(hc:X.calm=true)(hu:X.A.units+20<cLine):yt X (.builtin "sorted") (fun xs H Q=>∃(d:Addr) (zs:List (HW.Wb×Addr×V)),xs=[.ref d]/\H d=some (.ext (DW d zs))/\(∀ x∈zs,zM X.K H (wbD x.1) (.ref x.2.1))/\(∀ x∈zs,HW.Wf x.1)/\zs.length<10000 /\
  ∀(l:Addr) (ys':List V) (ks:List HW.Wb),H l=none->ks.Perm (zs.map (·.1))->Dens X.K H (ks.map wbD) ys'->ks.Pairwise (fun a b=>HW.ltW b a=false)->Q (.ref l) (yT H l (.lst ys'))):=by
 intro pins s σ H xs us Q I r h;obtain⟨d,zs,rfl,e1,e2,e3,hl,q⟩:=h;obtain⟨u,rfl,rx⟩:=vals1 r;cases rx;obtain⟨lo,hl0,ys,pr,dh,es,ep,de,ee⟩:=zA3 I e1 e2;have yl:zs.length=ys.length:=pr.length;have keys:es.toList.map (·.key)=ys.map fun y=>Value.ref y.2.1:=by rw[ee,gh];rfl
 have hk:∀ v∈es.toList.map (·.key),∃ a k,v=.ref a/\HW.Wf k/\zM X.K H (wbD k) (.ref a):=fun v hv=>by
  rw[keys] at hv;obtain⟨y,hy,rfl⟩:=dL.mp hv;obtain⟨x,hx,z1,z2,u0⟩:=pr.memR hy;exact⟨_,x.1,rfl,e3 x hx,by rw[<-z2];exact e2 x hx⟩
 have es':es.size=ys.length:=by rw[<-dg,ee,db]
 refine HW.zF6 (I.ok.hd hc) (by omega) lo de (fun v hv=>by obtain⟨a,k,rfl,f,dn⟩:=hk v hv;exact⟨k,f,wp I dn rfl⟩) (by omega) fun h' tk l out ec kp hL at' pm so=>?_;obtain⟨vs',rv',d'⟩:=zEm I (us:=out) fun w hw=>by obtain⟨a,k,z,u0,dn⟩:=hk w (pm.mem_iff.mp hw);exact⟨a,k,z,dn⟩
 have hn:H l=none:=I.hok.fresh hL;refine⟨.ref l,_,I.laid (t':=tk) (o:=.lst vs') kp hL ?_,rfl,q l vs' _ hn ?_ d' ?_⟩
 ·refine⟨?_,out,ec,rv',at'⟩
  have l1:=rv'.length;have l2:=pm.length_eq;rw[keys,db] at l2;rw[sizeLine_eq];omega
 ·refine(pm.map _).trans (.of_eq ?_)
  rw[keys,gh];exact zIz I pr e2
 ·rw[List.pairwise_map]
  exact so
noncomputable def zCV(t:yj):TL2:=fun σ G R=>t σ G fun ds G1=>match ds with
 | [.adr d]=>∃ kvs:List (HW.Wb×D),G1.dc d=some kvs/\(∀ x∈kvs,HW.Wf x.1)/\kvs.length<10000/\∀ ks:List HW.Wb,ks.Perm (kvs.map (·.1))->ks.Pairwise (fun a b=>HW.ltW b a=false)->R (ks.map wbD) G1
 | _=>False
theorem zMV{K:PySem.W.Frag}{H:Hp}{kvs:List (HW.Wb×D)}{xs:List (HW.Wb×Addr×V)}(h:Paired (Kx K H) kvs xs):xs.map (·.1)=kvs.map (·.1):=by
 induction h with
 | nil=>rfl
 | cons r _ ih=>rw[eA,eA,ih,r.1]
theorem zI0(hr:yE n X.A)(hc:X.calm=true)(hg:Gl X "sorted")(hm:X.mg "sorted"=none)(ha:A2 X [e] t)(he:autoParam (starEach [e] X.env=(false,eval e X.env)::starEach [] X.env) Zq4._auto_1)(hpl:autoParam ((backTo pos (starEach [] X.env)).any (·.1)=false) Zq4._auto_1) :
  F2 X (.Call (.Name "sorted" p) [e] [] pos) (zCV t):=by
 refine PE.mono (zAA (zFL hc (by have:=hr.units;omega)) hg hm boot_sorted ha (by decide) (by decide) he hpl) ?_;rintro σ1 H Q ⟨σ,G,R,rl,q,k⟩;refine⟨σ,G,_,rl,q,fun ds G1 q1 vs H1 g1 r1 d1=>?_⟩;split at q1
 ·rename_i d
  obtain⟨kvs,e1,hf,hl,q1⟩:=q1;obtain⟨v,rfl,d2⟩:=zBh d1;obtain⟨xs,h1,h2⟩:=r1.dc d kvs e1;unfold zM at d2;subst d2;have hl2:kvs.length=xs.length:=h2.length;refine⟨d,xs,rfl,h1,zCr h2,fun x hx=>?_,by omega,fun l' ys' ks n' z1 z2 z3=>?_⟩
  ·obtain⟨kv,hkv,z,u0⟩:=h2.memR hx
   rw[<-z];exact hf kv hkv
  ·rw[zMV h2] at z1
   exact k _ G1 (q1 ks z1 z3) l' _ _ (g1.trans (.fresh n')) (r1.fresh n') (r1.free n') zb (z2.grow (.fresh n'))
 ·exact q1.elim
noncomputable def zM8(t:zi):TT2:=fun σ G R=>t σ G fun d G1=>match d with | .adr l=>∃ xs,Ls G1 l xs/\R (!xs.isEmpty) G1 | _=>False
theorem zOV(h:E2 X e te)(he:autoParam (∀ whole,isTrue e X.env whole=(do let v <-whole;standAt e.pos;holding [v] (truthy v))) Zq3._auto_1):T2 X e (zM8 te):=by
 refine PT.mono (zJY h he) ?_;rintro σ1 H Q ⟨σ,G,R,r,q,k⟩;refine⟨σ,G,_,r,q,fun d G1 q1 v H1 g1 r1 d1=>?_⟩;split at q1
 ·obtain⟨xs,e1,q1⟩:=q1
  unfold zM at d1;subst d1;obtain⟨us,hs,hd⟩:=r1.sq e1;refine⟨_,.inl ⟨us,hs,rfl⟩,?_⟩;have:us.isEmpty=xs.isEmpty:=by
   have:=hd.length;cases us<;>cases xs<;>simp_all
  rw[this];exact k _ G1 q1 H1 g1 r1
 ·exact q1.elim
end
end L3
namespace L3
open L2
section
variable {X:Cx} {e o:Expr} {to:zi} {t:yj} {apos cpos:Pos}
theorem zMW(hu:X.A.units+10<cLine):MtR X "dict.get" (fun x vs H Q=>∃ d a xs k,x=.ref d/\vs=[.ref a]/\H d=some (.ext (DW d xs))/\(∀ x∈xs,zM X.K H (wbD x.1) (.ref x.2.1))/\zM X.K H (wbD k) (.ref a)/\Q (((lk xs k).map fun z=>z.2.2).getD .non) H):=by
 intro pins s σ H x vs v us Q I rx rv h;obtain⟨d,a,xs,k,rfl,rfl,e1,e2,e3,q⟩:=h;cases rx;obtain⟨u,rfl,ru⟩:=vals1 rv;cases ru;obtain⟨lo,u0,ys,pr,dh,u0⟩:=zA3 I e1 e2;refine dY PySem.F.slot_dict_get dh.typeIs PySem.F.entry_dict_get ?_ (PySem.F.args_dict_get_2 _ _);show wpAny _ _ (dictGet d (.ref a)>>=_) _ _ s;refine cN (wpAny_dictGet_heap (knd:=HW.zBs X.prog X.w) (by rw[HW.zAc,Around.in1_units];omega) (wp I e3 rfl) dh ?_);rw[zFJ];rcases zAT (fun a b z=>z.1) pr k with ⟨z1,z2⟩ | ⟨x,y,z1,z2,r⟩
 ·rw[z1] at q
  rw[z2];show wpAny _ _ (Builtin.Dict.missed d (.ref a)>>=_) _ _ _;exact cN (wpAny_missed_other lo (cS ⟨_,rfl,.non,H,I.tok _,rfl,q⟩))
 ·rw[z1] at q
  rw[z2];exact cS ⟨_,rfl,x.2.2,H,I.tok _,r.2.2,q⟩
noncomputable def zEn(to:zi)(t:yj):zi:=fun σ G R=>to σ G fun d G1=>match d with
 | .adr a=>(∃ kvs,G1.dc a=some kvs)/\t σ G1 fun ds G2=>∃ k kvs,ds=[wbD k]/\G2.dc a=some kvs/\R (((lk kvs k).map fun z=>z.2).getD .non) G2
 | _=>False
theorem zKu(hr:yE n X.A)(ho:E2 X o to)(ha:A2 X [e] t)
  (hbase:autoParam (attributeBase o "get" X.env (eval o X.env)=eval o X.env) Zq4._auto_1)
  (hfew:autoParam (((backTo cpos (starEach [e] X.env)).all (fun x=>!x.1)&&(backToKw cpos (keywordEach [] X.env)).all (fun x=>x.1.isSome)
   && decide ([e].length+([]:List Keyword).length+(if ([]:List Keyword).isEmpty then 0 else 1)<30))=true) Zq4._auto_1)
  (hline:autoParam ((apos.endLine==cpos.line)=true) Zq4._auto_1) (hs:autoParam (starEach [e] X.env=(false,eval e X.env)::starEach [] X.env) Zq4._auto_1) (hplain:autoParam ((backTo cpos (starEach [] X.env)).any (·.1)=false) Zq4._auto_1) :
  E2 X (.Call (.Attribute o "get" apos) [e] [] cpos) (zEn to t):=by
 intro pins s σ1 H Q I h;obtain⟨σ,G,R,r,q,k⟩:=h;refine wpAny_Call_method_late hbase hfew hline rfl (yq (ho pins s σ1 H (fun v H1=>∃ d G1,zd H H1/\zf X.K G1 H1/\v=.ref d/\(∃ kvs,G1.dc d=some kvs)/\t σ G1 fun ds G2=>∃ k kvs,ds=[wbD k]/\G2.dc d=some kvs/\R (((lk kvs k).map fun z=>z.2).getD .non) G2) I ⟨σ,G,_,r,q,fun d G1 q1 v H1 g1 r1 d1=>by
  split at q1
  ·rename_i a
   unfold zM at d1;exact⟨a,G1,g1,r1,d1,q1.1,q1.2⟩
  ·exact q1.elim⟩) fun v s1 ⟨x,H1,I1,r1,d,G1,g1,rg,hx,⟨kvs0,hk0⟩,q1⟩=>?_)
 subst hx;cases r1;obtain⟨xs0,e0,p0⟩:=rg.dc d kvs0 hk0;obtain⟨lo,u0,ys,pr,dh,es,ep,⟨ob,hob,hex,u0⟩,u0⟩:=zA3 I1 e0 (zCr p0);refine⟨"dict","dict.get",PySem.F.plainAttrs_dict,PySem.F.slot_dict_get,PySem.F.type_dict_get,dh.typeIs,fun b eb=>by cases eb;exact⟨ob,hob,hex.2.1⟩,?_⟩;have hA:=ha cpos pins s1 σ1 H1 (fun vs H2=>∃ d' a xs k,V.ref d=.ref d'/\vs=[.ref a]/\H2 d'=some (.ext (DW d' xs))/\(∀ x∈xs,zM X.K H2 (wbD x.1) (.ref x.2.1))/\zM X.K H2 (wbD k) (.ref a)/\Q (((lk xs k).map fun z=>z.2.2).getD .non) H2) I1 ⟨σ,G1,_,r.to g1 rg,q1,fun ds G2 q2 vs H2 g2 r2 d2=>?_⟩
 ·rw[hs] at hA ⊢
  refine Calls.callWith_builtin (by show(false||(backTo cpos (starEach [] X.env)).any (·.1))=false;rw[hplain]<;>rfl) (Calls.evalArgs_plain ?_);exact yq hA fun us s2 ⟨vs,H2,I2,r2,q2⟩=>zMW (by have:=hr.units;omega) pins s2 σ1 H2 (.ref d) vs _ us Q I2 rfl r2 q2
 ·obtain⟨w,kvs,rfl,hk,q2⟩:=q2
  obtain⟨v,rfl,d3⟩:=zBh d2;obtain⟨a,rfl⟩:=zCU d3;obtain⟨xs,e1,p1⟩:=r2.dc d kvs hk;refine⟨d,a,xs,w,rfl,rfl,e1,zCr p1,d3,?_⟩;rcases zAT (fun a b z=>z.1) p1 w with ⟨z1,z2⟩ | ⟨x,y,z1,z2,z⟩
  ·rw[z1] at q2
   rw[z2];exact k _ G2 q2 _ H2 (g1.trans g2) r2 (by show zM X.K H2 .non .non;unfold zM;rfl)
  ·rw[z1] at q2
   rw[z2];exact k _ G2 q2 _ H2 (g1.trans g2) r2 z.2.2
end
end L3
namespace K
open L2 L3 HS
noncomputable abbrev Qs:=Nat×Nat->Bool
noncomputable abbrev Pw:=List (Qs×List Nat)
noncomputable def kyW(n:Nat)(q:Qs):HW.Wb:=[.inl (n:Int),.inr (((yX n).filter q).map toI)]
theorem kyD(n:Nat)(q:Qs):zK n q=wbD (kyW n q):=by
 unfold zK;rw[zFF];rfl
noncomputable def fnd(n:Nat)(P:Pw)(q:Qs):Option (Qs×List Nat):=P.find? fun p=>decide (kyW n p.1=kyW n q)
noncomputable def vis(n:Nat)(x:Qs)(s:Pw×List Qs)(i:Nat):Pw×List Qs :=
 if (fnd n s.1 (tq x i)).isSome then s else (s.1++[(tq x i,((fnd n s.1 x).map (·.2)).getD []++[i])],s.2++[tq x i])
noncomputable def visA(n:Nat)(x:Qs)(s:Pw×List Qs)(k:Nat):Pw×List Qs:=(dq k).foldl (vis n x) s
noncomputable def zA4(n:Nat)(P:Pw)(E:List Qs)(k:Nat):Pw×List Qs:=(E.take k).foldl (fun s x=>visA n x s n) (P,[])
noncomputable abbrev spr(n:Nat)(P:Pw)(E:List Qs):Pw×List Qs:=zA4 n P E E.length
set_option genInjectivity true in
inductive Bfs (n:Nat):Pw->List Qs->Pw->Prop
 | done {P:Pw}:Bfs n P [] P
 | more {P R:Pw} {E:List Qs}:E≠[]->Bfs n (spr n P E).1 (spr n P E).2 R->Bfs n P E R
theorem Bfs.det(h:Bfs n P E R):∀ {R':Pw},Bfs n P E R'->R=R':=by
 induction h with
 | done =>
  intro R' h';cases h' with
  | done=>rfl
  | more e _=>exact absurd rfl e
 | more e _ ih =>
  intro R' h';cases h' with
  | done=>exact absurd rfl e
  | more _ h2=>exact ih h2
structure Good (n:Nat) (P:Pw):Prop where
 nd:(P.map fun p=>kyW n p.1).Nodup
 wl:∀ p∈P,p.2.length<P.length
theorem zKv(h:fnd n P q=none):∀ p∈P,kyW n p.1≠kyW n q:=fun p hp e=>by
 have:=List.find?_eq_none.mp h p hp;simp[e] at this
theorem zHx:fnd n (P++R) q=(fnd n P q).or (fnd n R q):=List.find?_append
theorem zFM(h:fnd n P q=some p):p∈P:=List.mem_of_find?_eq_some h
structure Sti (n:Nat) (P0:Pw) (s:Pw×List Qs):Prop where
 good:Good n s.1
 f:∀ y∈s.2,(fnd n s.1 y).isSome=true
 len:s.1.length=P0.length+s.2.length
 mono:∀ y,(fnd n P0 y).isSome=true->(fnd n s.1 y).isSome=true
theorem Sti.vis(h:Sti n P0 s)(hx:(fnd n P0 x).isSome=true):Sti n P0 (vis n x s i):=by
 unfold K.vis;by_cases c:(fnd n s.1 (tq x i)).isSome=true
 ·rw[if_pos c];exact h
 ·rw[if_neg c]
  have up:∀ y,(fnd n s.1 y).isSome=true->(fnd n (s.1++[(tq x i,((fnd n s.1 x).map (·.2)).getD []++[i])]) y).isSome=true:=fun y hy=>by
   rw[zHx];cases q:fnd n s.1 y with
   | none=>rw[q] at hy;cases hy
   | some _=>rfl
  have no:fnd n s.1 (tq x i)=none:=by simpa using c
  have hx':=h.mono x hx;refine⟨⟨?_,fun p hp=>?_⟩,fun y hy=>?_,?_,fun y hy=>up y (h.mono y hy)⟩
  ·rw[ig,List.nodup_append]
   refine⟨h.good.nd,by simp,fun a ha b hb e=>?_⟩;obtain⟨p,hp,rfl⟩:=dL.mp ha;simp only[eA,List.map_nil,dt] at hb;exact zKv no p hp (e.trans hb)
  ·simp only[dO,cW,cZ]
   rcases dQ.mp hp with hp | hp
   ·have:=h.good.wl p hp;omega
   ·rw[dt] at hp
    subst hp;cases q:fnd n s.1 x with
    | none=>rw[q] at hx';cases hx'
    | some z =>
     have:=h.good.wl z (zFM q);simp;omega
  ·rcases dQ.mp hy with hy | hy
   ·exact up y (h.f y hy)
   ·rw[dt] at hy
    subst hy;rw[zHx,no];simp[fnd]
  ·have:=h.len
   simp;omega
theorem Sti.visA(h:Sti n P0 s)(hx:(fnd n P0 x).isSome=true):∀ k,Sti n P0 (visA n x s k)
 | 0=>h
 | k+1=>by
  unfold K.visA;rw[i8,List.foldl_append];exact(Sti.visA h hx k).vis hx
theorem zCs:visA n x s (k+1)=vis n x (visA n x s k) k:=by
 unfold visA;rw[i8,List.foldl_append];rfl
theorem zBc(h:E[k]?=some x):zA4 n P E (k+1)=visA n x (zA4 n P E k) n:=by
 unfold zA4;rw[wO h,List.foldl_append];rfl
theorem Sti.spr(g:Good n P)(hE:∀ x∈E,(fnd n P x).isSome=true):∀ k,k<=E.length->Sti n P (zA4 n P E k)
 | 0,_=>⟨g,fun y hy=>by simp[zA4] at hy,rfl,fun u0 h=>h⟩
 | k+1,hk=>by
  obtain⟨x,hx⟩:∃ x,E[k]?=some x:=⟨E[k],by simp[show k<E.length by omega]⟩
  rw[zBc hx];exact(Sti.spr g hE k (by omega)).visA (hE x (dS hx)) n
noncomputable def allB:Nat->List (List Bool)
 | 0=>[[]]
 | m+1=>(allB m).map (true::·)++(allB m).map (false::·)
theorem zF8:∀ m,(allB m).length=2 ^ m
 | 0=>rfl
 | m+1=>by simp[allB,zF8 m,Nat.pow_succ];omega
theorem zF9:∀(l:List Bool),l∈allB l.length
 | []=>by simp[allB]
 | b::l=>by
  have:=zF9 l;cases b<;>simp[allB,this]
theorem zPX(h:n<=5):(yX n).length<=10:=by
 have:∀ m,m<=5->(yX m).length<=10:=by decide
 exact this n h
theorem zGA{l:List (Nat×Nat)}{q r:Qs}(h:l.map q=l.map r):l.filter q=l.filter r:=by
 induction l with
 | nil=>rfl
 | cons a l ih =>
  simp only[eA,List.cons.injEq] at h;simp only[gW,h.1,ih h.2]
theorem Good.few(g:Good n P)(hn:n<=5):P.length<=1024:=by
 have nd:(P.map fun p=>(yX n).map p.1).Nodup:=by
  have h:=g.nd;unfold List.Nodup at h ⊢;rw[List.pairwise_map] at h ⊢;exact h.imp fun hne e=>hne (by unfold kyW;rw[zGA e])
 have:=List.Nodup.length_le_of_subset nd (l₂:=allB (yX n).length) fun x hx=>by
  obtain⟨p,u0,rfl⟩:=dL.mp hx;have:=zF9 ((yX n).map p.1);rwa [db] at this
 rw[db,zF8] at this;have h2:2 ^ (yX n).length<=2 ^ 10:=Nat.pow_le_pow_right (by omega) (zPX hn);omega
noncomputable def Rl(n:Nat)(G:Gp)(X:Addr->Prop):HW.Wb×D->Qs×List Nat->Prop:=fun kv p=>kv.1=kyW n p.1/\∃ l,kv.2=.adr l/\¬ X l/\G.m l=some (p.2.map nD)
noncomputable def Dw(n:Nat)(P:Pw)(G:Gp)(d:Addr)(X:Addr->Prop):Prop:=∃ kvs,G.dc d=some kvs/\Paired (Rl n G X) kvs P
structure zA9 (d:Addr) (G G':Gp):Prop where
 m:∀ a o,G.m a=some o->G'.m a=some o
 ro:∀ a o,G.ro a=some o->G'.ro a=some o
 dc:∀ a o,a≠d->G.dc a=some o->G'.dc a=some o
theorem zA9.refl(d:Addr)(G:Gp):zA9 d G G:=⟨fun u0 u0 e=>e,fun u0 u0 e=>e,fun u0 u0 u0 e=>e⟩
theorem zA9.trans{d:Addr}{G G1 G2:Gp}(h:zA9 d G G1)(h':zA9 d G1 G2):zA9 d G G2:=⟨fun a o e=>h'.m a o (h.m a o e),fun a o e=>h'.ro a o (h.ro a o e),fun a o n e=>h'.dc a o n (h.dc a o n e)⟩
theorem _root_.L3.Sub.x(d:Addr)(h:Sub G G'):zA9 d G G':=⟨h.m,h.ro,fun a o u0 e=>h.dc a o e⟩
theorem zA9.sub(h:zA9 d G G')(n:G.dc d=none):Sub G G':=⟨h.m,h.ro,fun a o e=>h.dc a o (fun z=>by rw[z,n] at e;cases e) e⟩
theorem Dw.sub(h:Dw n P G d X)(s:Sub G G'):Dw n P G' d X:=by
 obtain⟨kvs,e,p⟩:=h;exact⟨kvs,s.dc _ _ e,L2.Paired.mapP p fun _ _ ⟨z1,l,z2,z3,z4⟩=>⟨z1,l,z2,z3,s.m _ _ z4⟩⟩
theorem Dw.put(h:Dw n P G d X)(hl:X l\/G.m l=none):Dw n P (zS G l o) d X:=by
 obtain⟨kvs,e,p⟩:=h;refine⟨kvs,e,L2.Paired.mapP p fun _ _ ⟨z1,l',z2,z3,z4⟩=>⟨z1,l',z2,z3,?_⟩⟩;rw[zT (fun z=>by
  subst z;rcases hl with hl | hl
  ·exact z3 hl
  ·rw[hl] at z4;cases z4)]
 exact z4
theorem Dw.to(h:Dw n P G d X)(f:∀ l,Y l->X l\/G.m l=none):Dw n P G d Y:=by
 obtain⟨kvs,e,p⟩:=h;refine⟨kvs,e,L2.Paired.mapP p fun _ _ ⟨z1,l',z2,z3,z4⟩=>⟨z1,l',z2,fun y=>?_,z4⟩⟩;rcases f _ y with hl | hl
 ·exact z3 hl
 ·rw[hl] at z4;cases z4
theorem zCW{n:Nat}{G:Gp}{X:Addr->Prop}{kvs:List (HW.Wb×D)}{P:Pw}(h:Paired (Rl n G X) kvs P)(q:Qs):(lk kvs (kyW n q)=none/\fnd n P q=none)\/∃ z p,lk kvs (kyW n q)=some z/\fnd n P q=some p/\Rl n G X z p:=by
 induction h with
 | nil=>exact .inl ⟨rfl,rfl⟩
 | @cons a b _ _ r _ ih =>
  have e:=r.1;by_cases c:kyW n b.1=kyW n q
  ·exact .inr ⟨a,b,by simp[lk,e,c],by simp[fnd,c],r⟩
  ·have c':a.1≠kyW n q:=by rw[e];exact c
   simpa[lk,fnd,c,c'] using ih
theorem Dw.len(h:Dw n P G d X):∃ kvs,G.dc d=some kvs/\kvs.length=P.length:=by
 obtain⟨kvs,e,p⟩:=h;exact⟨kvs,e,p.length⟩
theorem zm{σ:S2}{i:Nat}{d:D}{G:Gp}{R:Q2}(h:look σ i=some d)(q:R d G):zB i σ G R:=by
 unfold zB;rw[h];exact q
structure zI1 (d f:Addr) (G G':Gp):Prop where
 m:∀ a o,G.m a=some o->a≠f->G'.m a=some o
 ro:∀ a o,G.ro a=some o->G'.ro a=some o
 dc:∀ a o,a≠d->G.dc a=some o->G'.dc a=some o
theorem zI1.x{d f:Addr}{G G1 G2:Gp}(h:zA9 d G G1)(n:G.m f=none)(h':zI1 d f G1 G2):zA9 d G G2:=⟨fun a o e=>h'.m a o (h.m a o e) (fun z=>by rw[z,n] at e;cases e),fun a o e=>h'.ro a o (h.ro a o e),fun a o n e=>h'.dc a o n (h.dc a o n e)⟩
theorem zKw{a b c t f:Nat}{σ:S2}{G:Gp}{E:zz}{n i:Nat}{d fa:Addr}{P:Pw}{F:List Qs}{x:Qs}{p:Qs×List Nat}(ha:look σ a=some (.adr d))(hb:look σ b=some (zK n x))(hc:look σ c=some (nD i))(ht:look σ t=some (zK n (tq x i)))(hf:look σ f=some (.adr fa))
  {X:Addr->Prop} (hXf:X fa) (hX:∀ l,X l->∃ o,G.m l=some o) (D:Dw n P G d X) (hF:G.m fa=some (F.map (zK n))) (hx:fnd n P x=some p) (hn:fnd n P (tq x i)=none) (hl:P.length<=2000) (hlF:F.length<=2000) (hp:p.2.length<=2000)
  (k:∀ G',zI1 d fa G G'->Dw n (P++[(tq x i,p.2++[i])]) G' d X->G'.m fa=some ((F++[tq x i]).map (zK n))->E.nx σ G') :
  zU (zk (zj (zCw (zY fGW (zB a) (zB b)) (zj (yk (zA (zB c) zI))))) (zIy (zB a) (zB t))) (ye (zB8 (zB f) (zA (zB t) zI))) E σ G:=by
 obtain⟨kvs,e,pr⟩:=D;have kl:kvs.length=P.length:=pr.length;rcases zCW pr x with ⟨u0,z⟩ | ⟨z,p',z1,z2,z3,l,z4,z5,z6⟩
 ·rw[hx] at z;cases z
 rw[hx] at z2;cases z2;rcases zCW pr (tq x i) with ⟨y1,u0⟩ | ⟨u0,u0,u0,y2,u0⟩
 rotate_left
 ·rw[hn] at y2;cases y2
 unfold zU zk zj zCw;refine zm ha ?_;refine zm hb ?_;refine⟨kyW n x,kvs,z,kyD n x,e,z1,?_⟩;refine zm hc ?_;refine⟨by rw[sizeLine_eq];simp,fun m hm=>?_⟩;rw[z4];have nlm:l≠m:=fun y=>by rw[y,hm] at z6;cases z6
 have nfm:fa≠m:=fun y=>by rw[y,hm] at hF;cases hF
 refine⟨p.2.map nD,[nD i],by rw[zT nlm];exact z6,zG,by simp;omega,fun v hv=>?_⟩;have hv':G.m v=none/\v≠m:=by
  by_cases y:v=m
  ·subst y;rw[zG] at hv;cases hv
  ·rw[zT y] at hv;exact⟨hv,y⟩
 have nfv:fa≠v:=fun y=>by rw[y,hv'.1] at hF;cases hF
 unfold zIy;refine zm ha ?_;refine zm ht ?_;refine⟨kyW n (tq x i),kvs,kyD n _,e,y1,by rw[kl,sizeLine_eq];omega,?_⟩;generalize hG1:zC5 (zS (zS G m [nD i]) v (p.2.map nD++[nD i])) d (kvs++[(kyW n (tq x i),.adr v)])=G1;have m1:∀ a,a≠m->a≠v->G1.m a=G.m a:=fun a n1 n2=>by
  rw[<-hG1];show(zS (zS G m [nD i]) v _).m a=_;rw[zT n2,zT n1]
 have hf1:G1.m fa=some (F.map (zK n)):=by rw[m1 fa nfm nfv];exact hF
 have hv1:G1.m v=some (p.2.map nD++[nD i]):=by rw[<-hG1];exact zG
 have hd1:G1.dc d=some (kvs++[(kyW n (tq x i),.adr v)]):=by rw[<-hG1];exact zBS
 have hd2:∀ a,a≠d->G1.dc a=G.dc a:=fun a na=>by rw[<-hG1,zC8 na];rfl
 have hr1:G1.ro=G.ro:=by rw[<-hG1];rfl
 show zB8 (zB f) (zA (zB t) zI) σ G1 fun u0 G1=>E.nx σ G1;refine zDB (t:=zA (zB t) zI) (d:=zK n (tq x i)) hf hf1 (fun Q q=>zm ht q) (by rw[db];omega) ?_;refine k _ ⟨fun a o q=>?_,fun a o q=>?_,fun a o y q=>?_⟩ ⟨kvs++[(kyW n (tq x i),L3.D.adr v)],hd1,?_⟩ ?_
 ·intro na
  rw[zT na,m1 a (fun y=>by rw[y,hm] at q;cases q) (fun y=>by rw[y,hv'.1] at q;cases q)];exact q
 ·show G1.ro a=_
  rw[hr1];exact q
 ·show G1.dc a=_
  rw[hd2 a y];exact q
 ·refine Paired.snoc (L2.Paired.mapP pr fun _ _ ⟨w1,l',w2,w3,w4⟩=>⟨w1,l',w2,w3,?_⟩) ⟨rfl,v,rfl,(fun y=>by obtain⟨o,y⟩:=hX v y;rw[hv'.1] at y;cases y),?_⟩
  ·rw[zT (fun y=>w3 (by rw[y];exact hXf)),m1 l' (fun y=>by rw[y,hm] at w4;cases w4) (fun y=>by rw[y,hv'.1] at w4;cases w4)]
   exact w4
  ·rw[zT (Ne.symm nfv),hv1]
   simp
 ·rw[zG]
  simp
noncomputable def zKx(G:Gp)(f:Addr):Gp:={ G with m:=fun b=>if b=f then none else G.m b }
theorem zI2:(zKx G f).m f=none:=if_pos rfl
theorem zFN(h:b≠f):(zKx G f).m b=G.m b:=if_neg h
theorem zMX(h:G.m f=some o):Sub (zS (zKx G f) f o) G:=⟨fun a u e=>by
 by_cases c:a=f
 ·subst c;rw[zG] at e;cases e;exact h
 ·rw[zT c,zFN c] at e;exact e,fun u0 u0 e=>e,fun u0 u0 e=>e⟩
theorem Dw.del(h:Dw n P G d (fun l=>X l\/l=f)):Dw n P (zKx G f) d X:=by
 obtain⟨kvs,e,p⟩:=h;exact⟨kvs,e,L2.Paired.mapP p fun _ _ ⟨z1,l',z2,z3,z4⟩=>⟨z1,l',z2,fun y=>z3 (.inl y),by rw[zFN (fun y=>z3 (.inr y))];exact z4⟩⟩
theorem zEo{a b c t f:Nat}{σ:S2}{G:Gp}{E:zz}{n i:Nat}{d fa:Addr}{P0:Pw}{s:Pw×List Qs}{x:Qs}(ha:look σ a=some (.adr d))(hb:look σ b=some (zK n x))(hc:look σ c=some (nD i))(ht:look σ t=some (zK n (tq x i)))(hf:look σ f=some (.adr fa))(hn:n<=5)
  {X:Addr->Prop} (hXf:X fa) (hX:∀ l,X l->∃ o,G.m l=some o) (D:Dw n s.1 G d X) (hF:G.m fa=some (s.2.map (zK n))) (S:Sti n P0 s) (hx:(fnd n P0 x).isSome=true)
  (k:∀ G',zI1 d fa G G'->Dw n (vis n x s i).1 G' d X->G'.m fa=some ((vis n x s i).2.map (zK n))->E.nx σ G') :
  xIf (xB (zY fNW (zB t) (zB a))) (zU (zk (zj (zCw (zY fGW (zB a) (zB b)) (zj (yk (zA (zB c) zI))))) (zIy (zB a) (zB t))) (ye (zB8 (zB f) (zA (zB t) zI)))) yH E σ G:=by
 have D0:=D;obtain⟨kvs,e,pr⟩:=D;have hl:=S.good.few hn;have hlen:=S.len;unfold xIf xB;refine zm ht ?_;refine zm ha ?_;refine⟨kyW n (tq x i),kvs,kyD n _,e,?_⟩;rcases zCW pr (tq x i) with ⟨y1,y2⟩ | ⟨u0,u0,y1,y2,u0⟩
 ·rw[y1]
  show if true=true then _ else _;rw[if_pos rfl];obtain⟨p,hp⟩:∃ p,fnd n s.1 x=some p:=Option.isSome_iff_exists.mp (S.mono x hx);have e2:vis n x s i=(s.1++[(tq x i,p.2++[i])],s.2++[tq x i]):=by unfold vis;rw[y2,hp];rfl
  rw[e2] at k;exact zKw ha hb hc ht hf hXf hX D0 hF hp y2 (by omega) (by omega) (by have:=S.good.wl p (zFM hp);omega) k
 ·rw[y1]
  show if false=true then _ else _;rw[if_neg (by simp)];have e2:vis n x s i=s:=by unfold vis;rw[y2];rfl
  rw[e2] at k;exact k G ⟨fun a o q u0=>q,fun a o q=>q,fun a o u0 q=>q⟩ D0 hF
theorem zM9(h:yC te σ G d)(h':u E (σ.set j (some d)) G):zU (zk te (gN j)) u E σ G:=h G (.refl G) _ h'
theorem zGB{σ:S2}{G:Gp}{b c:Nat}{n i:Nat}{x:Qs}(hb:look σ b=some (zK n x))(hc:look σ c=some (nD i))(hi:i<n)(hn:n<=5):yC (zO yN (zA (zB b) (zA (zB c) zI))) σ G (zK n (tq x i)) :=
 yJ (zF (zH hb) (zF (zH hc) zR)) fun u0 u0 u0 hh=>⟨n,x,i,rfl,hi,by omega,hh⟩
noncomputable def wR:List D->Gp->(List D->Gp->Prop)->Prop:=fun ds G R=>∃(n:Nat) (P:Pw) (E:List Qs) (d e:Addr) (X:Addr->Prop),(∀ l,X l->∃ o,G.m l=some o)/\ds=[.adr d,.adr e]/\n<=5/\Good n P/\Dw n P G d X/\G.m e=some (E.map (zK n))/\(∀ x∈E,(fnd n P x).isSome=true) /\
 ∀ G',zA9 d G G'->Dw n (spr n P E).1 G' d X->R ((spr n P E).2.map (zK n)) G'
theorem zGC:∀ ds G R R',(∀ ls G',R ls G'->R' ls G')->wR ds G R->wR ds G R':=by
 rintro ds G R R' h ⟨n,P,E,d,e,X,e0,e1,e2,e3,e4,e5,e6,q⟩;exact⟨n,P,E,d,e,X,e0,e1,e2,e3,e4,e5,e6,fun G' s w=>h _ _ (q G' s w)⟩
noncomputable def zCX:yd:=(zU (zk (zj (yk zI)) (gN 2)) (zU (yw (iV (zB 1)) (gN 3) (yw (iR1 (zA (zY yr (zB 3) (xC (.int 0))) zI)) (gN 4) (zU (zk (zO yN (zA (zB 3) (zA (zB 4) zI))) (gN 5)) (xIf (xB (zY fNW (zB 5) (zB 0))) (zU (zk (zj (zCw (zY fGW (zB 0) (zB 3)) (zj (yk (zA (zB 4) zI))))) (zIy (zB 0) (zB 5))) (ye (zB8 (zB 2) (zA (zB 5) zI)))) yH)))) (zy (zB 2))))
theorem zKy(ds:List D)(G:Gp)(R:Q2)(h:spL wR ds G R):ds.length=2/\zCX (zn R) (zV ["lists","edge","farther","web","place","turned"] ds) G:=by
 obtain⟨n,P,E,d,e,X,hX,rfl,hn,g,D,hE,hfn,h⟩:=h;refine⟨rfl,?_⟩;unfold zCX;refine yI (zBm (ds:=[]) (fun G2 e R q=>zDj (zR G2 e _ ⟨by rw[sizeLine_eq];simp,q⟩)) fun f hf=>?_);show zU _ _ _ [some (.adr d),some (.adr e),some (.adr f),none,none,none] (zS G f []);have nef:e≠f:=fun z=>by rw[z,hf] at hE;cases hE
 have S:=fun k hk=>Sti.spr g hfn k hk;refine zCl ?_;refine zm (i:=1) rfl ?_;refine⟨E.map (zK n),.inl (by rw[zT nef];exact hE),?_⟩;refine wm (fun k G'=>zA9 d G G'/\Dw n (zA4 n P E k).1 G' d (fun l=>X l\/l=f)/\G'.m f=some ((zA4 n P E k).2.map (zK n))) ⟨(Sub.new hf).x d,(D.to (Y:=fun l=>X l\/l=f) fun l z=>z.elim .inl fun z=>.inr (by rw[z];exact hf)).put (.inl (.inr rfl)),zG⟩ (fun u0 u0 h=>.inl (h.1.m _ _ hE)) ?_ ?_
 ·rintro k y hy G2 ⟨i1,i2,i3⟩
  obtain⟨x,hx,rfl⟩:=zBP hy;have hk:k<E.length:=(di.mp hx).1;have hxs:=hfn x (dS hx);show yw _ _ _ _ [some (.adr d),some (.adr e),some (.adr f),some (zK n x),none,none] G2;refine zE6 (n:=n) (zF (zAg (zH rfl)) zR) (by omega) ?_;refine wm (fun j G'=>zA9 d G G'/\Dw n (visA n x (zA4 n P E k) j).1 G' d (fun l=>X l\/l=f)/\G'.m f=some ((visA n x (zA4 n P E k) j).2.map (zK n))) ⟨i1,i2,i3⟩ (fun u0 u0 u0=>trivial) ?_ ?_
  ·rintro i y hy G3 ⟨j1,j2,j3⟩
   obtain⟨rfl,hi⟩:=zDf hy;show zU _ _ _ [some (.adr d),some (.adr e),some (.adr f),some (zK n x),some (nD i),none] G3;refine zM9 (zGB (b:=3) (c:=4) rfl rfl hi hn) ?_;refine zEo (a:=0) (b:=3) (c:=4) (t:=5) (f:=2) (s:=visA n x (zA4 n P E k) i) rfl rfl rfl rfl rfl hn (X:=fun l=>X l\/l=f) (.inr rfl) (fun l z=>z.elim (fun z=>by obtain⟨o,z⟩:=hX l z;exact⟨o,j1.m _ _ z⟩) fun z=>⟨(visA n x (zA4 n P E k) i).2.map (zK n),by rw[z];exact j3⟩) j2 j3 ((S k (by omega)).visA hxs i) hxs fun G' s1 s2 s3=>⟨.keep (.keep (.keep (.keep (.skip (.skip .nil))))),G',.refl _,zI1.x j1 hf s1,?_⟩
   rw[zCs];exact⟨s2,s3⟩
  ·rintro G3 ⟨j1,j2,j3⟩
   rw[db,eT] at j2 j3;refine⟨.keep (.keep (.keep (.skip (.skip (.skip .nil))))),G3,.refl _,j1,?_⟩;rw[zBc hx];exact⟨j2,j3⟩
 ·rintro G2 ⟨i1,i2,i3⟩
  rw[db] at i2 i3;show FgR R (.adr f) G2;exact⟨_,zMX i3,h (zKx G2 f) ⟨fun a o q=>by rw[zFN (fun z=>by rw[z,hf] at q;cases q)];exact i1.m a o q,i1.ro,i1.dc⟩ i2.del f zI2⟩
noncomputable def yO:Sp2:=fun ds G R=>∃(n:Nat) (q:Qs),ds=[zK n q]/\n<=5/\∀ d G' P,Sub G G'->Bfs n [(q,[])] [q] P->Good n P->Dw n P G' d (fun l=>∃ o,G.m l=some o)->R (.adr d) G'
noncomputable def wS:Sp2:=yO
theorem zNA(n:Nat)(q:Qs):Good n [(q,[])]:=⟨by simp,fun p hp=>by rw[dt] at hp;subst hp;simp⟩
theorem zPY(n:Nat)(q:Qs):∀ x∈[q],(fnd n [(q,[])] x).isSome=true:=fun x hx=>by
 rw[dt] at hx;subst hx;simp[fnd]
theorem zEp{j:Nat}{σ:S2}{G:Gp}{E:zz}{n:Nat}{q:Qs}{u:yd}(hw:look σ j=some (zK n q))(k:∀ d G',G.dc d=none->Sub G G'->Dw n [(q,[])] G' d (fun l=>∃ o,G.m l=some o)->u E (σ.set 1 (some (.adr d))) G') :
  zU (zk (zFK (zB j) (zj (yk zI))) (gN 1)) u E σ G:=by
 intro d hm hd;refine zm hw ?_;refine⟨by rw[sizeLine_eq];simp,fun l hl=>⟨kyW n q,kyD n q,zBS,?_⟩⟩;have hl':G.m l=none:=hl;refine k d _ hd ⟨fun a o e=>?_,fun a o e=>e,fun a o e=>?_⟩ ⟨[(kyW n q,.adr l)],zBS,.cons ⟨rfl,l,rfl,(fun⟨o,y⟩=>by rw[hl'] at y;cases y),?_⟩ .nil⟩
 ·show(zS (zC5 G d []) l []).m a=some o
  rw[zT (fun z=>by rw[z,hl'] at e;cases e)];exact e
 ·have na:a≠d:=fun z=>by rw[z,hd] at e;cases e
  rw[zC8 na];show(zC5 G d []).dc a=some o;rw[zC8 na];exact e
 ·exact zG
theorem zMY(g:Good n P)(hE:∀ x∈E,(fnd n P x).isSome=true):(spr n P E).1.length=P.length+(spr n P E).2.length:=(Sti.spr g hE E.length (da _)).len
noncomputable def msr(P:Pw)(E:List Qs):Nat:=1025-P.length+(if E.isEmpty then 0 else 1)
theorem zKz(g:Good n P)(hE:∀ x∈E,(fnd n P x).isSome=true)(hn:n<=5)(h:E≠[]):msr (spr n P E).1 (spr n P E).2<msr P E:=by
 have l1:=zMY g hE;have l2:=(Sti.spr g hE E.length (da _)).good.few hn;have l3:=g.few hn;unfold msr;have e:E.isEmpty=false:=by cases E<;>simp_all
 rw[e];cases q:(spr n P E).2 with
 | nil=>rw[q] at l1;simp at l1 ⊢;omega
 | cons a r=>rw[q] at l1;simp at l1 ⊢;omega
noncomputable def wq:yd:=(zU (zk (zFK (zB 0) (zj (yk zI))) (gN 1)) (zU (zk (zj (yk (zA (zB 0) zI))) (gN 2)) (zU (zE2 (zM8 (zB 2)) (zk (zj (yQ wR (zA (zB 1) (zA (zB 2) zI)))) (gN 2))) (zy (zB 1)))))
theorem zFO(ds:List D)(G:Gp)(R:Q2)(h:yO ds G R):ds.length=1/\wq (zn R) (zV ["web","lists","edge"] ds) G:=by
 obtain⟨n,q,rfl,hn,h⟩:=h;refine⟨rfl,?_⟩;unfold wq;refine zEp (j:=0) (n:=n) (q:=q) rfl fun d G1 hd s1 D1=>?_;show zU _ _ _ [some (zK n q),some (.adr d),none] G1;refine yI (zBm (ds:=[zK n q]) (fun G2 e R z=>zDj (zF (zH rfl) zR G2 e _ ⟨by rw[sizeLine_eq];simp,z⟩)) fun l hl=>?_);show zU _ _ _ [some (zK n q),some (.adr d),some (.adr l)] (zS G1 l [zK n q]);refine Fg.of ⟨fun m σ G'=>∃(P:Pw) (E:List Qs) (e:Addr),σ=[some (zK n q),some (.adr d),some (.adr e)]/\m=msr P E/\Good n P/\(∀ x∈E,(fnd n P x).isSome=true)/\Dw n P G' d (fun l=>∃ o,G.m l=some o)/\G'.m e=some (E.map (zK n))/\zA9 d G G'/\∀ R,Bfs n P E R->Bfs n [(q,[])] [q] R,
  ⟨_,[(q,[])],[q],l,rfl,rfl,zNA n q,zPY n q,D1.put (.inr hl),zG,(s1.trans (.new hl)).x d,fun u0 z=>z⟩,?_⟩
 rintro m σ G2 ⟨P,E,e,rfl,rfl,g,hE,D,he,sx,hb⟩;refine zm (i:=2) rfl ?_;refine⟨E.map (zK n),.inl he,?_⟩;by_cases c:E=[]
 ·subst c
  show if false=true then _ else _;rw[if_neg (by simp)];exact⟨G2,.refl _,h d G2 P (sx.sub hd) (hb P .done) g D⟩
 ·have e0:(E.map (zK n)).isEmpty=false:=by cases E<;>simp_all
  rw[e0];show if true=true then _ else _;rw[if_pos rfl];have S:=Sti.spr g hE E.length (da _);unfold zk zj yQ;refine zm (show look [some (zK n q),some (.adr d),some (.adr e)] 1=some (.adr d) from rfl) ?_;refine zm (show look [some (zK n q),some (.adr d),some (.adr e)] 2=some (.adr e) from rfl) ?_;refine⟨n,P,E,d,e,fun l=>∃ o,G.m l=some o,fun l ⟨o,z⟩=>⟨o,sx.m _ _ z⟩,rfl,hn,g,D,he,hE,fun G3 sx3 D3 l3 hl3=>?_⟩;exact .of ⟨msr (spr n P E).1 (spr n P E).2,zKz g hE hn c,_,_,l3,rfl,rfl,S.good,S.f,D3.put (.inr hl3),zG,(sx.trans sx3).trans ((Sub.new hl3).x d),fun R z=>hb R (.more c z)⟩
noncomputable def zBd:yd:=(zU (zk (zFK (zB 0) (zj (yk zI))) (gN 1)) (zU (zk (zj (yk (zA (zB 0) zI))) (gN 2)) (zU (zE2 (xB (zY (fEq true) (zB 2) (zj (yk zI)))) (zU (zk (zj (yk zI)) (gN 3)) (zU (yw (iV (zB 2)) (gN 4) (yw (iR1 (zA (zY yr (zB 0) (xC (.int 0))) zI)) (gN 5) (zU (zk (zO wd (zA (zB 4) (zA (zB 5) zI))) (gN 6)) (xIf (xB (zY fNW (zB 6) (zB 1))) (zU (zk (zj (zCw (zY fGW (zB 1) (zB 4)) (zj (yk (zA (zB 5) zI))))) (zIy (zB 1) (zB 6))) (ye (zB8 (zB 3) (zA (zB 6) zI)))) yH)))) (zk (zB 3) (gN 2))))) (zy (zB 1)))))
theorem zI3(ds:List D)(G:Gp)(R:Q2)(h:wS ds G R):ds.length=1/\zBd (zn R) (zV ["web","found","ring","fresh","one","place","later"] ds) G:=by
 obtain⟨n,q,rfl,hn,h⟩:=h;refine⟨rfl,?_⟩;unfold zBd;refine zEp (j:=0) (n:=n) (q:=q) rfl fun d G1 hd s1 D1=>?_;show zU _ _ _ [some (zK n q),some (.adr d),none,none,none,none,none] G1;refine yI (zBm (ds:=[zK n q]) (fun G2 e R z=>zDj (zF (zH rfl) zR G2 e _ ⟨by rw[sizeLine_eq];simp,z⟩)) fun l hl=>?_);show zU _ _ _ [some (zK n q),some (.adr d),some (.adr l),none,none,none,none] (zS G1 l [zK n q]);refine Fg.of ⟨fun m σ G'=>∃(P:Pw) (E:List Qs) (e:Addr) (o:Option D),σ=[some (zK n q),some (.adr d),some (.adr e),o,none,none,none]/\m=msr P E/\Good n P/\(∀ x∈E,(fnd n P x).isSome=true)/\Dw n P G' d (fun l=>∃ o,G.m l=some o)/\G'.m e=some (E.map (zK n))/\zA9 d G G'/\∀ R,Bfs n P E R->Bfs n [(q,[])] [q] R,
  ⟨_,[(q,[])],[q],l,none,rfl,rfl,zNA n q,zPY n q,D1.put (.inr hl),zG,(s1.trans (.new hl)).x d,fun u0 z=>z⟩,?_⟩
 rintro m σ G2 ⟨P,E,e,o,rfl,rfl,g,hE,D,he,sx,hb⟩;have hfl:∀ z∈E.map (zK n),flat 8 z=true:=fun z hz=>by
  obtain⟨x,u0,rfl⟩:=dL.mp hz;exact zCj
 unfold xB;refine zm (show look [some (zK n q),some (.adr d),some (.adr e),o,none,none,none] 2=some (.adr e) from rfl) ?_;refine⟨by rw[sizeLine_eq];simp,fun b hb2=>⟨E.map (zK n),[],.inl (by rw[zT (fun z=>by rw[z,hb2] at he;cases he)];exact he),.inl zG,hfl,by simp,?_⟩⟩;have s2:Sub G2 (zS G2 b []):=.new hb2;by_cases c:E=[]
 ·subst c
  show if (!eqDs [] [])=true then _ else _;rw[if_neg (by simp[eqDs])];exact⟨G2,s2,h d G2 P (sx.sub hd) (hb P .done) g D⟩
 ·have e0:(!eqDs (E.map (zK n)) [])=true:=by
   cases E with
   | nil=>exact absurd rfl c
   | cons a r=>simp[eqDs]
  show if (!eqDs (E.map (zK n)) [])=true then _ else _;rw[e0,if_pos rfl];generalize hG3:zS G2 b []=G3 at s2 ⊢;have D3:=D.sub s2;have he3:=s2.m _ _ he;have sx3:=sx.trans (s2.x d);refine yI (zBm (ds:=[]) (fun G2 e R q=>zDj (zR G2 e _ ⟨by rw[sizeLine_eq];simp,q⟩)) fun f hf=>?_);show zU _ _ _ [some (zK n q),some (.adr d),some (.adr e),some (.adr f),none,none,none] (zS G3 f []);have nef:e≠f:=fun z=>by rw[z,hf] at he3;cases he3
  have S:=fun k hk=>Sti.spr g hE k hk;refine zCl ?_;refine zm (show look [some (zK n q),some (.adr d),some (.adr e),some (.adr f),none,none,none] 2=some (.adr e) from rfl) ?_;refine⟨E.map (zK n),.inl (by rw[zT nef];exact he3),?_⟩;refine wm (fun k G'=>zA9 d G3 G'/\Dw n (zA4 n P E k).1 G' d (fun l=>(∃ o,G.m l=some o)\/l=f)/\G'.m f=some ((zA4 n P E k).2.map (zK n))) ⟨(Sub.new hf).x d,(D3.to (Y:=fun l=>(∃ o,G.m l=some o)\/l=f) fun l z=>z.elim .inl fun z=>.inr (by rw[z];exact hf)).put (.inl (.inr rfl)),zG⟩ (fun u0 u0 h=>.inl (h.1.m _ _ he3)) ?_ ?_
  ·rintro k y hy G2 ⟨i1,i2,i3⟩
   obtain⟨x,hx,rfl⟩:=zBP hy;have hk:k<E.length:=(di.mp hx).1;have hxs:=hE x (dS hx);show yw _ _ _ _ [some (zK n q),some (.adr d),some (.adr e),some (.adr f),some (zK n x),none,none] G2;refine zE6 (n:=n) (zF (zAg (zH (i:=0) rfl)) zR) (by omega) ?_;refine wm (fun j G'=>zA9 d G3 G'/\Dw n (visA n x (zA4 n P E k) j).1 G' d (fun l=>(∃ o,G.m l=some o)\/l=f)/\G'.m f=some ((visA n x (zA4 n P E k) j).2.map (zK n))) ⟨i1,i2,i3⟩ (fun u0 u0 u0=>trivial) ?_ ?_
   ·rintro i y hy G4 ⟨j1,j2,j3⟩
    obtain⟨rfl,hi⟩:=zDf hy;show zU _ _ _ [some (zK n q),some (.adr d),some (.adr e),some (.adr f),some (zK n x),some (nD i),none] G4;refine zM9 (zGB (b:=4) (c:=5) rfl rfl hi hn) ?_;refine zEo (a:=1) (b:=4) (c:=5) (t:=6) (f:=3) (s:=visA n x (zA4 n P E k) i) rfl rfl rfl rfl rfl hn (X:=fun l=>(∃ o,G.m l=some o)\/l=f) (.inr rfl) (fun l z=>z.elim (fun⟨o,z⟩=>⟨o,j1.m _ _ (sx3.m _ _ z)⟩) fun z=>⟨(visA n x (zA4 n P E k) i).2.map (zK n),by rw[z];exact j3⟩) j2 j3 ((S k (by omega)).visA hxs i) hxs fun G' s1 s2 s3=>⟨.keep (.keep (.keep (.keep (.keep (.skip (.skip .nil)))))),G',.refl _,zI1.x j1 hf s1,?_⟩
    rw[zCs];exact⟨s2,s3⟩
   ·rintro G4 ⟨j1,j2,j3⟩
    rw[db,eT] at j2 j3;refine⟨.keep (.keep (.keep (.keep (.skip (.skip (.skip .nil)))))),G4,.refl _,j1,?_⟩;rw[zBc hx];exact⟨j2,j3⟩
  ·rintro G4 ⟨i1,i2,i3⟩
   rw[db] at i2 i3;have S':=S E.length (da _);dsimp only;unfold zk;refine zm (show look [some (zK n q),some (.adr d),some (.adr e),some (.adr f),none,none,none] 3=some (.adr f) from rfl) ?_;exact .of ⟨msr (spr n P E).1 (spr n P E).2,zKz g hE hn c,_,_,f,_,rfl,rfl,S'.good,S'.f,i2.to (fun u0 z=>.inl (.inl z)),i3,sx3.trans i1,fun R z=>hb R (.more c z)⟩
end K
namespace L3
open L2
section
variable {X:Cx} {a b e:Expr} {ta tb te:zi} {t:yj} {p pos:Pos}
theorem zGD(h:RelV v u):(u==Value.none)=decide (v=V.non):=by
 cases v with
 | non=>cases h;rfl
 | bl b=>cases h;rfl
 | int i=>obtain⟨u0,rfl⟩:=h;rfl
 | str i=>obtain⟨u0,rfl⟩:=h;rfl
 | byt i=>obtain⟨u0,rfl⟩:=h;rfl
 | flt i=>obtain⟨u0,rfl⟩:=h;rfl
 | ref i=>cases h;rfl
 | ty i=>cases h;rfl
theorem zJX:OpR X (compareOp .Is) (fun x y H Q=>y=.non/\Q (.bl (decide (x=.non))) H):=by
 intro pins s σ H x y v u Q I rx ry h;obtain⟨rfl,q⟩:=h;cases ry;refine is_none_gen ?_;rw[zGD rx];exact⟨.bl _,H,I,rfl,q⟩
theorem zI4:OpR X (compareOp .IsNot) (fun x y H Q=>y=.non/\Q (.bl (!decide (x=.non))) H):=by
 intro pins s σ H x y v u Q I rx ry h;obtain⟨rfl,q⟩:=h;cases ry;refine isnot_none_gen ?_;rw[zGD rx];exact⟨.bl _,H,I,rfl,q⟩
noncomputable def zK0:D->Bool
 | .non=>true
 | _=>false
theorem zMZ{K:PySem.W.Frag}{H:Hp}{d:D}{v:V}(h:zM K H d v):decide (v=V.non)=zK0 d:=by
 cases d with
 | non=>unfold zM at h;subst h;rfl
 | tup xs=>unfold zM at h;obtain⟨a,us,rfl,u0⟩:=h;rfl
 | dic a=>unfold zM at h;obtain⟨rfl,u0⟩:=h;rfl
 | _=>unfold zM at h;subst h;rfl
noncomputable def zED(ng:Bool):D->D->Gp->Q2->Prop:=fun x y G R=>match y with | .non=>R (.bl (if ng then !zK0 x else zK0 x)) G | _=>False
theorem zHy{K:PySem.W.Frag}{ng:Bool}:Fit K (fun x y H Q=>y=V.non/\Q (.bl (if ng then !decide (x=V.non) else decide (x=V.non))) H) (zED ng):=by
 intro dx dy G R x y H Q h r d1 d2 k;unfold zED at h;split at h
 ·unfold zM at d2
  refine⟨d2,k _ G h _ H (.refl H) r ?_⟩;rw[zMZ d1];unfold zM;rfl
 ·exact h.elim
theorem zPZ(ha:E2 X a ta)(hb:E2 X b tb):T2 X (.Compare a [.Is] [b] pos) (xB (zY (zED false) ta tb)):=zB3 zJX (zHy (ng:=false)) ha hb (zBC _)
theorem zDx(ha:E2 X a ta)(hb:E2 X b tb):T2 X (.Compare a [.IsNot] [b] pos) (xB (zY (zED true) ta tb)):=zB3 zI4 (zHy (ng:=true)) ha hb (zBC _)
end
end L3
namespace L3
open L2 HT2 HS
end L3
namespace L3
open L2
section
variable {X:Cx} {e:Expr} {p pos:Pos}
end
section
variable {X:Cx} {a b:Expr} {ta tb:zi} {pos:Pos}
theorem zM3(ha:E2 X a ta)(hb:E2 X b tb):E2 X (.BinOp a .BitXor b pos) (zY (fII fun i j=>.int (Builtin.bitXor i j)) ta tb):=zGY zNg (zDS fun u0 u0=>⟨rfl,rfl⟩) ha hb
end
end L3
namespace L2
section
variable {X:Cx} {z:Str} {tg elt iter:Expr} {ifs:List Expr} {sc:Scope} {pos:Pos} {N0 own:List Str} {wi:TI} {g:TG} {tc:TT} {te:TE}
end
end L2
namespace L3
open L2
section
variable {X:Cx} {elt iter:Expr} {pos:Pos} {te:zi} {ifs:List Expr} {sc:Scope} {N0:List Str} {wi:TI2} {tc:TT2}
end
end L3
namespace HT
section
variable {prog:Program} {w:World} {A:Around} {E:Value->Shared->Prop} {s:Shared}
end
end HT
namespace L3
open L2
section
variable {X:Cx} {a b c d e o:Expr} {es:List Expr} {pos p:Pos} {ta tb tc td te:zi} {tl:TL2}
end
section
variable {X:Cx} {a b e o:Expr} {pos p apos cpos:Pos} {ta tb te:zi} {tl:TL2} {t:yj}
end
end L3
namespace L2
theorem yY.obj(x:yY P w H h a o):∃ u,h.get? a=some u:=by
 cases o with
 | lst xs=>obtain⟨u0,u0,u0,u0,e⟩:=x;exact⟨_,e⟩
 | tup xs=>obtain⟨u0,u0,u0,u0,e,u0⟩:=x;exact⟨_,e⟩
 | dK kvs=>obtain⟨u0,u0,u0,u0,o,u0,u0,e,u0⟩:=x;exact⟨_,e⟩
 | dT kvs=>obtain⟨u0,u0,u0,u0,o,u0,u0,e,u0⟩:=x;exact⟨_,e⟩
 | set S n=>obtain⟨o,u0,u0,u0,e,u0⟩:=x;exact⟨_,e⟩
 | ins C dx fs=>obtain⟨u0,u0,u0,e,u0⟩:=x;exact⟨_,e⟩
 | own y=>obtain⟨o,e⟩:=x;exact⟨_,e⟩
 | xd fs=>obtain⟨u0,⟨u0,u0,u0,e,u0⟩,u0⟩:=x;exact⟨_,e⟩
 | rng lo hi=>obtain⟨u0,u0,u0,e⟩:=x;exact⟨_,e⟩
 | frz ob u=>obtain⟨e,u0⟩:=x;exact⟨_,e⟩
 | tbl ps=>obtain⟨u0,u0,u0,u0,e,u0⟩:=x;exact⟨_,e⟩
 | met f y=>exact⟨_,(show h.get? a=some _ from x)⟩
 | ext φ=>obtain⟨u0,⟨u0,e⟩,u0⟩:=x;exact⟨_,e⟩
theorem zK1(hf:env.frame=some L):L∈wf (env::r):=by
 unfold wf;rw[fK,hf];exact dH
theorem zBN(h:b∈wf r):b∈wf (env::r):=by
 unfold wf;rw[fK];cases env.frame with
 | none=>exact h
 | some L=>exact dC _ h
theorem zI5(hf:env.frame=some L)(h:b∈wf (env::r)):b=L\/b∈wf r:=by
 unfold wf at h;rw[fK,hf] at h;exact dN.mp h
theorem zK2{h base h' B:Heap}:∀ {l:List Env},h.FunFrames base l->(∀ L∈wf l,B.get? L=none)->(∀ L∈wf l,∀ o,h.get? L=some o->∃ sl,h'.get? L=some { o with slots:=sl })->h'.FunFrames B l
 | [],_,_,_=>trivial
 | env::r,⟨hk,⟨L,o,hf,hn,ho,hd⟩,hr⟩,hB,hs=>by
  have hL:L∈wf (env::r):=zK1 hf;obtain⟨sl,e⟩:=hs L hL o ho;exact⟨hk,⟨L,_,hf,hB L hL,e,hd⟩,zK2 hr (fun b hb=>hB b (zBN hb)) fun b hb=>hs b (zBN hb)⟩
noncomputable def Tr(h B:Heap)(e C:Addr):Prop:=(∃ a0,h.TracedW B e (.ref C) a0)\/∃ oe vs a0,h.get? e=some oe/\oe.cls=.ref C/\oe.data=.fields vs/\vs[1]?=some .none/\vs[0]?=some a0
structure XE (P:Program) (w:World) (outer:List Env) (H:Hp) (s:Shared) (C e:Addr) (H':Hp) (B:Heap) (s':Shared):Prop where
 os:s'.os=s.os
 bare:AllBare s'.gens
 un:Un (wf outer) [] H H' s.heap s'.heap
 hok:HOk P w H' s'.heap
 new:s.heap.get? e=none
 free:H' e=none
 stay:Heap.StaysIn B s'.heap
 eB:B.get? e=none
 frB:∀ L∈wf outer,B.get? L=none
 has1:∀ b u,H' b=some u->∃ o,B.get? b=some o
 has0:∀ b o,s.heap.get? b=some o->H b=none->b∉wf outer->B.get? b=some o
 th:∀ b o,s.heap.get? b=some o->b∉wf outer->∃ o',B.get? b=some o'
 tr:∃ a0,s'.heap.TracedW B e (.ref C) a0
structure XB (X:Cx) (C e:Addr) (H':Hp) (B:Heap) (s':Shared):Prop where
 ok:X.Ok
 stk:X.stack=X.env::X.outer
 frm:X.env.frame=some X.env.locals
 ex:X.ex=[]
 os:s'.os=X.s₀.os
 bare:AllBare s'.gens
 un:Un X.fs [] X.H₀ H' X.s₀.heap s'.heap
 hok:HOk X.prog X.w H' s'.heap
 new:X.s₀.heap.get? e=none
 free:H' e=none
 stay:Heap.StaysIn B s'.heap
 eB:B.get? e=none
 frB:∀ L∈wf X.stack,B.get? L=none
 funs:s'.heap.FunFrames B X.stack
 has1:∀ b u,H' b=some u->∃ o,B.get? b=some o
 has0:∀ b o,X.s₀.heap.get? b=some o->X.H₀ b=none->b∉wf X.stack->B.get? b=some o
 th:∀ b o,X.s₀.heap.get? b=some o->b∉wf X.stack->∃ o',B.get? b=some o'
 tr:Tr s'.heap B e C
section
variable {X:Cx} {C e:Addr} {H':Hp} {B:Heap} {s':Shared}
theorem XB.outL(x:XB X C e H' B s')(q:X.s₀.heap.get? b=some o)(hb:b∉X.fs):b∉wf X.stack:=fun z=>by
 rw[x.stk] at z;rcases zI5 x.frm z with r | r
 ·exact absurd (dM (d7 q) x.ok.above) (by rw[r];exact fb _)
 ·exact hb r
theorem XB.left(x:XB X C e H' B s')(l:Heap.LeftW B X.stack e (.ref C) a0 s'.heap h''):XE X.prog X.w X.outer X.H₀ X.s₀ C e H' B { s' with heap:=h'' }:=by
 obtain⟨l1,l2,l3,l4⟩:=l;have keep:∀ b o,X.s₀.heap.get? b=some o->X.H₀ b=none->b∉X.fs->h''.get? b=some o:=fun b o q n hb=>l1 b o (x.has0 b o q n (x.outL q hb));have slot:∀ b o,X.s₀.heap.get? b=some o->X.H₀ b=none->b∈X.fs->∃ sl,h''.get? b=some { o with slots:=sl }:=fun b o q n hb=>by
  obtain⟨sl,q1⟩:=x.un.slot b o q n hb (by simp);have hd:∀ vs,o.data≠.fields vs:=by
   obtain⟨u0,o1,ho,hd⟩:=x.ok.funs.mem hb;rw[q] at ho;cases ho;exact hd
  obtain⟨sl2,q2⟩:=l4 b _ q1 hd;exact⟨sl2,q2⟩
 have th:∀ b o,X.s₀.heap.get? b=some o->∃ o',h''.get? b=some o':=fun b o q=>by
  by_cases hb:b∈X.fs
  ·obtain⟨sl,z⟩:=slot b o q (x.ok.frf b hb) hb
   exact⟨_,z⟩
  ·obtain⟨o',z⟩:=x.th b o q (x.outL q hb)
   exact⟨o',l1 b o' z⟩
 refine⟨x.os,x.bare,⟨fun b o q n hb u0=>keep b o q n hb,fun b o q n hb u0=>slot b o q n hb,fun b o q n u0=>x.un.free b o q n (by simp),fun b o q u0=>th b o q,x.un.tups,x.un.frzs,x.un.tbls⟩,?_,x.new,x.free,l1,x.eB,fun L hL=>x.frB L (by rw[x.stk];exact zBN hL),x.has1,fun b o q n hb=>x.has0 b o q n (x.outL q hb),fun b o q hb=>x.th b o q (x.outL q hb),⟨a0,l3⟩⟩;intro b u q;refine(x.hok b u q).stay (fun c v hc r=>?_) (fun u0 r=>r) (fun u0 u0 r=>r) fun u0 u0 u0 r=>r;have:∃ o,B.get? c=some o:=by
  rcases hc with z | z
  ·subst z;exact x.has1 _ _ q
  ·exact x.has1 _ _ z
 obtain⟨o2,z⟩:=this;have z2:=x.stay c o2 z;rw[r] at z2;obtain rfl:v=o2:=Option.some.inj z2;exact l1 c v z
theorem XB.leave(x:XB X C e H' B s')(hQ:∀ h'',XE X.prog X.w X.outer X.H₀ X.s₀ C e H' B { s' with heap:=h'' }->Q () { s' with heap:=h'' }):wpAny M X.A (leaving X.env (.ref e)) Q E s':=by
 have fr:X.A.frames=some (X.env::X.outer):=by rw[x.ok.frames,x.stk]
 have ff:=x.funs;rw[x.stk] at ff;rcases x.tr with ⟨a0,t⟩ | ⟨oe,vs,a0,t1,t2,t3,t4,t5⟩
 ·exact wpAny_leaving_nextW fr ff x.frm t x.stay x.eB fun h' l=>hQ h' (x.left (a0:=a0) (by rw[x.stk];exact l))
 ·exact wpAny_leaving_firstW fr ff x.frm t1 x.stay x.eB t3 t4 t5 fun h' l=>hQ h' (x.left (a0:=a0) (by rw[x.stk,<-t2];exact l))
theorem XE.body{pins:List (Addr×Obj)}{σ:St}{H:Hp}{s:Shared}(stk:X.stack=X.env::X.outer)(frm:X.env.frame=some X.env.locals)(ex:X.ex=[])(I:zP X pins σ H s)(x:XE X.prog X.w X.stack H s C e H' B s'):XB X C e H' B s':=by
 have I2:zP X pins σ H' s':=I.call' x.os x.un x.hok x.bare (fun b hb=>absurd hb (by simp));have nex:∀ b,b∉X.ex:=fun b z=>by rw[ex] at z;exact absurd z (by simp)
 have un:=I2.base;rw[ex] at un;refine⟨I.ok,stk,frm,ex,x.os.trans I.os,x.bare,un,x.hok,?_,x.free,x.stay,x.eB,x.frB,?_,x.has1,fun b o q n hb=>?_,fun b o q hb=>?_,.inl x.tr⟩
 ·cases q:X.s₀.heap.get? e with
  | none=>rfl
  | some o =>
   obtain⟨o',z⟩:=I.base.there e o q (nex _);rw[x.new] at z;cases z
 ·exact zK2 I.stack x.frB fun L hL o ho=>x.un.slot L o ho (I.stkFree L hL) hL (by simp)
 ·exact x.has0 b o (I.base.keep b o q n (fun z=>hb (by rw[stk];exact zBN z)) (nex _)) (I.base.free b o q n (nex _)) hb
 ·obtain⟨o',z⟩:=I.base.there b o q (nex _)
  exact x.th b o' z hb
theorem XB.made{pins:List (Addr×Obj)}{σ:St}{H:Hp}{s:Shared}{h':Heap}{args:List Value}(stk:X.stack=X.env::X.outer)(frm:X.env.frame=some X.env.locals)(ex:X.ex=[])(I:zP X pins σ H s)(m:s.heap.MadeExcOf h' e (.ref C) args) :
  XB X C e H (PySem.W.hideAll s.heap (wf X.stack)) { s with heap:=h' }:=by
 have nex:∀ b,b∉X.ex:=fun b z=>by rw[ex] at z;exact absurd z (by simp)
 have I2:zP X pins σ H { s with heap:=h' }:=I.kept (t':=s.toks) m.keeps;have un:=I2.base;rw[ex] at un;have hid:∀ b o,(PySem.W.hideAll s.heap (wf X.stack)).get? b=some o->s.heap.get? b=some o/\b∉wf X.stack:=fun b o q=>⟨PySem.W.of_hideAll _ q,fun hb=>by rw[PySem.W.hideAll_none _ hb] at q;cases q⟩
 have get:∀ b o,s.heap.get? b=some o->b∉wf X.stack->(PySem.W.hideAll s.heap (wf X.stack)).get? b=some o:=fun b o q n=>PySem.W.hideAll_get (wf X.stack) q n;have none_of:∀ b,b∈wf X.stack->(PySem.W.hideAll s.heap (wf X.stack)).get? b=none:=fun b hb=>by
  cases q:(PySem.W.hideAll s.heap (wf X.stack)).get? b with
  | none=>rfl
  | some o=>exact absurd hb (hid b o q).2
 refine⟨I.ok,stk,frm,ex,I.os,I.bare,un,I2.hok,?_,?_,fun b o q=>m.keeps b o (hid b o q).1,?_,none_of,?_,fun b u q=>?_,fun b o q n hb=>?_,fun b o q hb=>?_,.inr ?_⟩
 ·cases q:X.s₀.heap.get? e with
  | none=>rfl
  | some o =>
   obtain⟨o',z⟩:=I.base.there e o q (nex _);rw[m.new] at z;cases z
 ·cases q:H e with
  | none=>rfl
  | some u =>
   obtain⟨o,z⟩:=(I.hok e u q).obj;rw[m.new] at z;cases z
 ·cases q:(PySem.W.hideAll s.heap (wf X.stack)).get? e with
  | none=>rfl
  | some o =>
   have z:=(hid e o q).1;rw[m.new] at z;cases z
 ·exact zK2 I.stack none_of fun L hL o ho=>⟨o.slots,m.keeps L o ho⟩
 ·obtain⟨o,z⟩:=(I.hok b u q).obj
  exact⟨o,get b o z fun w=>by rw[I.stkFree b w] at q;cases q⟩
 ·exact get b o (I.base.keep b o q n (fun z=>hb (by rw[stk];exact zBN z)) (nex _)) hb
 ·obtain⟨o',z⟩:=I.base.there b o q (nex _)
  exact⟨o',get b o' z hb⟩
 ·obtain⟨t,h1,u0,u0⟩:=m.there
  exact⟨_,_,.ref t,h1,rfl,rfl,rfl,rfl⟩
end
noncomputable abbrev bmV:List Value:=[.type "ValueError",.type "Exception",.type "BaseException",.type "object"]
theorem zMa{K:PySem.W.Frag}{h:Heap}{C:Addr}{bmB:List Value}{newId:String}(X:K.In h)(q:PySem.W.excIn K C bmB newId=true) :
  ∃ bm N nm qn bs hdct sn sub ab col dd k0 k1 k2 k3 k5 mN,h.get? C=some (excClassObj nm qn C N bs bm hdct sn sub ab col dd k0 k1 k2 k3 k5 newId)/\h.Ns N mN/\mN "__init__"=none/\OwnTail h bmB bm:=by
 unfold PySem.W.excIn at q;split at q
 ·rename_i dict cd sl heq
  split at q
  ·rename_i C' bm a0 a1 a2 a3 n a5 hm hs
   simp only[fm,beq_iff_eq,fL] at q;obtain⟨⟨⟨⟨⟨q1,q2⟩,q3⟩,q4⟩,q5⟩,q6⟩:=q;subst q1 q2;have hg:=X _ _ heq;obtain⟨mN,e1,e2⟩:∃ mN,h.Ns cd.ns mN/\mN "__init__"=none:=by
    exact⟨_,Heap.Ns.of_isNs (PySem.W.isNs_of_in X q5),PySem.W.nsMap_none_of_in X q5 q6⟩
   obtain⟨nm,bs,mro,ns,qn,hd,sn,sub,ab,col,del⟩:=cd;dsimp only at hm q3 e1 hg;subst hm q3;have hsl:sl=#[a0,a1,a2,a3,some (.builtin n),a5]:=by
    cases sl with
    | mk l=>dsimp only at hs;rw[hs]
   subst hsl;exact⟨bm,ns,nm,qn,bs,hd,sn,sub,ab,col,dict,a0,a1,a2,a3,a5,mN,hg,e1,e2,PySem.W.tail_of_in X q4⟩
  ·cases q
 ·cases q
end L2
namespace L3
open L2
noncomputable def Rz(P:Program)(w:World)(K:PySem.W.Frag)(mg:Str->Option Value)(base:Heap)(k:Nat)(x:Str)(ps:List Str)(cond:List D->Gp->(Gp->Prop)->Prop)(C:Addr):Prop :=
 ∃ f fd,mg x=some (.ref f)/\PySem.W.keepIn K (.ref f)=true/\Binds K fd ps []/\(∀ ds G E,cond ds G E->ds.length=ps.length) /\
  ∀(A:Around) (outer:List Env) (s:Shared) (H:Hp) (args:Args) (us:List Value) (vs:List V) (ds:List D) (G:Gp) (E:Gp->Prop),yE k A->zGV P w K mg base A outer s H->BindsTo s fd args (ps.zip us)->zW vs us->Dens K H ds vs->zf K G H->cond ds G E ->
   codeAny (model P w) A (.call (.ref f) args) (fun r s'=>∃ e H' B,r=.error (.ref e)/\XE P w outer H s C e H' B s'/\zd H H'/\∃ G',zf K G' H'/\E G') s
noncomputable def Xs(X:Cx)(C:Addr)(sts:List Stmt)(t:(Gp->Prop)->S2->Gp->Prop):Prop :=
 ∀(pins:List (Addr×Obj)) (s:Shared) (σ1:L2.St) (H:Hp) (σ:S2) (G:Gp) (E:Gp->Prop),zP X pins σ1 H s->Rel X.K σ G σ1 H->t E σ G ->
  wpAny (model X.prog X.w) X.A (execs sts X.env) (fun u0 u0=>False) (fun v s'=>∃ e H' B,v=.ref e/\XB X C e H' B s'/\zd H H'/\∃ G',zf X.K G' H'/\E G') s
noncomputable def Xe(X:Cx)(C:Addr)(ex:Expr)(t:(Gp->Prop)->S2->Gp->Prop):Prop :=
 ∀(pins:List (Addr×Obj)) (s:Shared) (σ1:L2.St) (H:Hp) (σ:S2) (G:Gp) (E:Gp->Prop),zP X pins σ1 H s->Rel X.K σ G σ1 H->t E σ G ->
  wpAny (model X.prog X.w) X.A (eval ex X.env) (fun u0 u0=>False) (fun v s'=>∃ e H' B,v=.ref e/\XB X C e H' B s'/\zd H H'/\∃ G',zf X.K G' H'/\E G') s
structure Own (X:Cx):Prop where
 no:∀ v s,¬ X.xe v s
 stk:X.stack=X.env::X.outer
 frm:X.env.frame=some X.env.locals
 ex:X.ex=[]
 calm:X.calm=true
section
variable {X:Cx} {C:Addr} {st:Stmt} {rest body els:List Stmt} {t:(Gp->Prop)->S2->Gp->Prop}
theorem zPa(O:Own X)(h1:P2 X st t1)(h2:Xs X C rest t):Xs X C (st::rest) (fun E σ G=>t1 { nx:=t E,rt:=fun u0 u0=>False } σ G):=by
 intro pins s σ1 H σ G E I r h;refine fG (ft (h1 pins s σ1 H { nx:=fun σ1' H'=>zd H H'/\∃ σ' G',Rel X.K σ' G' σ1' H'/\t E σ' G',rt:=fun u0 u0=>False } I ⟨σ,G,_,r,h,⟨fun σ' G' q σ1' H' g r'=>⟨g,σ',G',r',q⟩,fun u0 u0 q=>q.elim,fun u0 u0 q=>q.elim,fun u0 u0 q=>q.elim⟩⟩) (fun f s' q=>?_) fun v s' q=>(O.no v s' q).elim);cases f with
 | next=>obtain⟨σ1',H',I',g,σ',G',r',q'⟩:=q;exact ft (h2 pins s' σ1' H' σ' G' E I' r' q') (fun u0 u0 z=>z) fun v s2 ⟨e,H2,B,e1,e2,g2,e3⟩=>⟨e,H2,B,e1,e2,g.trans g2,e3⟩
 | brk=>obtain⟨u0,u0,u0,q⟩:=q;exact q
 | cont=>obtain⟨u0,u0,u0,q⟩:=q;exact q
 | ret u=>obtain⟨u0,u0,u0,u0,u0,q⟩:=q;exact q
theorem zQH(O:Own X)(hc:T2 X c tt)(hb:Xs X C body t):Xs X C (.If c body els pos::rest) (fun E σ G=>tt σ G fun b G'=>b=true/\t E σ G'):=by
 intro pins s σ1 H σ G E I r h;refine fG (wpAny_If (ft (hc pins s σ1 H (fun b H'=>b=true/\zd H H'/\∃ G',Rel X.K σ G' σ1 H'/\t E σ G') I ⟨σ,G,_,r,h,fun b G' q H' g r'=>⟨q.1,g,G',r.to g r',q.2⟩⟩) (fun b s' q=>?_) fun v s' q=>(O.no v s' q).elim));obtain⟨H',I',rfl,g,G',r',q'⟩:=q;exact ft (hb pins s' σ1 H' σ G' E I' r' q') (fun u0 u0 z=>z.elim) fun v s2 ⟨e,H2,B,e1,e2,g2,e3⟩=>⟨e,H2,B,e1,e2,g.trans g2,e3⟩
theorem zHz{F:Str}{ps:List Str}{cond:List D->Gp->(Gp->Prop)->Prop}{k k':Nat}{e:Expr}{es:List Expr}{ta:yj}{p pos:Pos}(O:Own X)(R:Rz X.prog X.w X.K X.mg X.base k F ps cond C)(hr:yE k' X.A)(hk:k<=k')(hg:Gl X F)(ha:A2 X (e::es) ta)
  (hdb:autoParam ((F==("__debug__":Str))=false) Zq2._auto_1) (he:autoParam (starEach (e::es) X.env=(false,eval e X.env)::starEach es X.env) Zq4._auto_1) (hpl:autoParam ((backTo pos (starEach es X.env)).any (·.1)=false) Zq4._auto_1) :
  Xe X C (.Call (.Name F p) (e::es) [] pos) (fun E σ G=>ta σ G fun ds G'=>cond ds G' E):=by
 intro pins s σ1 H σ G E I r h;obtain⟨f,fd,hm,hkp,hb,hl,run⟩:=R;refine fC (zB0 I hg hm ?_ hdb);refine PySem.W.callWith_K (h₀:=X.base) I.ok.mod.kin hkp (ft (ha pos pins s σ1 H (fun vs H'=>zd H H'/\∃ ds G',Dens X.K H' ds vs/\zf X.K G' H'/\cond ds G' E) I ⟨σ,G,_,r,h,fun ds G' q vs H' g r' d'=>⟨g,ds,G',d',r',q⟩⟩) (fun us s1 q=>?_) fun v s' q=>(O.no v s' q).elim) he hpl;obtain⟨vs,H1,I1,rv,g,ds,G',d',r',q'⟩:=q;refine⟨I1.kIn,wpAny_call (fu (run X.A X.stack s1 H1 ⟨us,[]⟩ us vs ds G' E (hr.mono hk) I1.env0 ?_ rv d' r' q') fun rr s' ⟨ee,H',B,e1,e2,g2,e3⟩=>?_)⟩
 ·have:=hb s1 us I1.kIn (by rw[fU,<-rv.length,<-d'.length];exact hl ds G' E q')
  rw[fU] at this;exact this
 ·subst e1
  exact⟨ee,H',B,rfl,e2.body O.stk O.frm O.ex I1,g.trans g2,e3⟩
theorem zOW(h:Xe X C ex t)(hs:autoParam (swapsWith ex none pos.line X.env=pure false) Zq4._auto_1):Xs X C (.Expr ex pos::rest) t:=by
 intro pins s σ1 H σ G E I r q;exact fG (wpAny_Expr_any (ft (h pins s σ1 H σ G E I r q) (fun u0 u0 z=>z.elim) fun u0 u0 z=>z) I.quiet hs)
theorem cL(O:Own X)(hg:Gl X cn)(hm:X.mg cn=some (.ref C))(hc:PySem.W.excIn X.K C bmV "ValueError.__new__"=true)(he:E2 X m tm)
  (hdb:autoParam ((cn==("__debug__":Str))=false) Zq2._auto_1) (hst:autoParam (starEach [m] X.env=(false,eval m X.env)::starEach [] X.env) Zq4._auto_1):Xs X C (.Raise (some (.Call (.Name cn np) [m] [] cpos)) none pos::rest) (fun E σ G=>tm σ G fun u0 G'=>E G'):=by
 intro pins s σ1 H σ G E I r h;have ha:PA X [m] (zJZ (lE X.K tm) zNj):=yP he wz hst;obtain⟨bm,N,nm,qn,bs,hdct,sn,sub,ab,col,dd,k0,k1,k2,k3,k5,mN,c1,c2,c3,c4⟩:=zMa I.ok.mod.kin hc;refine fG (wpAny_Raise_call_subT (C:=C) (N:=N) (bm:=bm) (mN:=mN) (nm:=nm) (q:=qn) (bs:=bs) (hdct:=hdct) (sn:=sn) (sub:=sub) (ab:=ab) (col:=col) (dd:=dd) (k0:=k0) (k1:=k1) (k2:=k2) (k3:=k3) (k5:=k5) F.excBase_ValueError (c4.hasType F.excBase_ValueError.hasBase) (I.ok.hd O.calm) (by rw[hst];rfl) c3 (zB0 I hg hm ⟨rfl,?_⟩ hdb));rw[hst];refine Calls.evalArgs_plain ?_;have h2:=ha cpos pins s σ1 H (fun vs H'=>vs.length=1/\zd H H'/\∃ G',zf X.K G' H'/\E G') I ⟨σ,G,fun u0 G'=>E G',r,h,fun d G' q v H' g r' dv=>⟨rfl,g,G',r',q⟩⟩;rw[hst] at h2;refine ft h2 (fun us s1 ⟨vs,H1,I1,rv,hl,hgr,hG⟩=>?_) fun v s' q=>(O.no v s' q).elim;refine⟨rfl,?_,I1.bk _ _ c1,c2.keeps I1.bk,c4.keeps I1.bk,fun h' e mm=>⟨e,H1,_,rfl,XB.made O.stk O.frm O.ex I1 mm,hgr,hG⟩⟩;show us.length<=sizeLine;rw[<-rv.length,hl];decide
end
section
variable {P:Program} {w:World} {K:PySem.W.Frag} {mg:Str->Option Value} {base:Heap}
theorem zFP:Own (zBD CX0 P w K mg base N qual scope f cd A outer s H E).nox:=⟨fun u0 u0 h=>h,rfl,rfl,rfl,rfl⟩
theorem zNB{x qual:Str}{st:Stmt}{f:Addr}{fd:FuncData}{N ps:List Str}{k:Nat}{C:Addr}{cond:List D->Gp->(Gp->Prop)->Prop}(t:(Gp->Prop)->S2->Gp->Prop)(F:Fun K x qual st f fd)(S:za N ps (zE st))(hm:mg x=some (.ref f))(hb:Binds K fd ps [])
  (ht:∀(cdv:Value) (A:Around) (outer:List Env) (s:Shared) (H:Hp) (E:XK),yE k (A.deeper (envOfC qual (zE st) s.heap.objs.size f cdv))->Xs (zBD CX0 P w K mg base N qual (zE st) f cdv A outer s H E).nox C (zX st) t)
  (hs:∀ ds G E,cond ds G E->ds.length=ps.length/\t E (zV N ds) G):Rz P w K mg base (k+1) x ps cond C:=by
 refine⟨f,fd,hm,F.kp,hb,fun ds G E h=>(hs ds G E h).1,fun A outer s H args us vs ds G EE hr e0 hbd rv d r h=>?_⟩;obtain⟨oc,od,kV,doc,pm,an,cdv,ct,osl,rfl,lk,hcd⟩:=F.ex;obtain⟨hl,hq⟩:=hs ds G EE h;have hlv:vs.length=ps.length:=by rw[<-d.length];exact hl
 have KX:K.In s.heap:=e0.mod.kin.keeps fun b o e=>(e0.bs b o e).1;have lim:s.heap.NoLimit:=e0.mod.nolimit.keeps fun b o e=>(e0.bs b o e).1;have hkind:∀ y∈ps.zip us,(zE st).names.lookup y.1=some .local\/((zE st).names.lookup y.1=some .cell/\((cellsFrom (s.heap.objs.size+1) (zE st).names []).lookup y.1).isSome=true):=fun⟨n,v⟩ hy=>by
  rcases S.par n (List.of_mem_zip hy).1 with q | q
  ·exact .inl q
  ·exact .inr ⟨q,PySem.W.cellsFrom_some _ _ _ (.inl q)⟩
 refine codeAny_call_function hr.depth (KX _ _ lk) rfl S.co S.gen rfl (PySem.W.codeRec_of KX hcd) (hbd _ _ _ _ ?_);refine wpAny_newFunctionEnv_cells S.kind hkind fun env he s1 x=>?_;subst he;refine⟨lim.keeps x.toInCall.keep,codeAny_func ?_⟩;have I:zP (zBD CX0 P w K mg base N qual (zE st) f cdv A outer s H E0) [] (start N vs) H s1:=zCd S hr.hd e0 hlv rv x;refine ft (ht cdv A outer s H E0 (hr.deeper _) [] s1 (start N vs) H (zV N ds) G EE (I.wish _) (zCi r d) hq) (fun fl s' z=>z.elim) fun v s' z=>?_;obtain⟨e,H',B,rfl,xb,g,hG⟩:=z;exact xb.leave fun h'' q=>⟨e,H',B,rfl,q,g,hG⟩
end
end L3
namespace L2
theorem zH0:∀ {l:List Value},TriplesOk l->TriplesOk (l++[.int a t,.int b u,c])/\∀ pos x,codeAmong pos (l++[.int a t,.int b u,c])=some x->codeAmong pos l=some x\/x=c
 | [],_=>⟨trivial,fun pos x e=>by
   have e':(if (a==↑pos.line&&b==↑pos.col)=true then some c else none)=some x:=e;split at e'
   ·cases e';exact .inr rfl
   ·cases e'⟩
 | .int i _::.int j _::z::r,h=>by
  obtain⟨h1,h2⟩:=zH0 (a:=a) (b:=b) (t:=t) (u:=u) (c:=c) (l:=r) h;refine⟨h1,fun pos x e=>?_⟩;have e':(if (i==↑pos.line&&j==↑pos.col)=true then some z else codeAmong pos (r++[.int a t,.int b u,c]))=some x:=e;show(if (i==↑pos.line&&j==↑pos.col)=true then some z else codeAmong pos r)=some x\/x=c;split at e'
  ·rename_i hc;rw[if_pos hc];exact .inl e'
  ·rename_i hc;rw[if_neg hc];exact h2 pos x e'
noncomputable def BMn(h:Heap)(mg:Str->Option Value):Prop:=∃ bm ob,mg "__builtins__"=some (.ref bm)/\bm≠builtinsNs/\h.get? bm=some ob/\ob.cls=.type "module"/\ob.dict=some builtinsNs/\ob.data=.plain
noncomputable def zH1(H:Hp)(cv:Value)(q:Str):Prop:=∃(c:Addr) (o:Obj) (us:Array Value) (t':Tok),cv=.ref c/\H c=some (.frz o (.own 0))/\o.data=.fields us/\us[1]?=some (.str q t')
theorem zI6{X:Cx}{pins:List (Addr×Obj)}{σ:St}{H:Hp}{s:Shared}{params:Arguments}{body:Expr}{sc:Scope}{pos:Pos}{c P:Addr}{q:Str}{tq:Tok}{Q:Value->Shared->Prop}{E:Value->Shared->Prop}{A:Around}
  (I:zP X pins σ H s) (hcap:∀ y∈sc.names,y.2=.free->X.env.kindOf y.1=some .cell\/X.env.kindOf y.1=some .free) (hdf:defaultsOf params X.env=([],[])) (hcode:X.env.code=.ref c) (hC:PySem.W.CodeHd X.base c P) (hB:BMn X.base X.mg)
  (hq:X.env.qual++"<lambda>"=q) (hP:H P=some (.tbl #[.str q tq]))
  (h:∀(g:Addr) (H':Hp) (s':Shared) (cv ctv pm:Value),zP X pins σ H' s'->zBq H H'->Un X.fs [] H H' s.heap s'.heap->s.heap.objs.size<=g->H' g=none->s'.heap.get? g=some { cls:=.type "function",data:=.func (PySem.W.kla_fn "<lambda>" q params body sc (zAo sc X.env) pm cv ctv) }->zH1 H' cv q->Q (.ref g) s') :
  wpAny (model X.prog X.w) A (eval (.Lambda params body sc pos) X.env) Q E s:=by
 have hfree:∀ y∈sc.names,y.2=.free->∃ c,X.env.cells.lookup y.1=some c:=fun y hy hf=>I.ok.has _ (hcap y hy hf);obtain⟨q',t',vs,e0,e1,e2,e3⟩:=(show yY X.prog X.w H s.heap P (.tbl #[.str q tq]) from I.hok P _ hP)
 cases e0;have hns:s.heap.Ns mainGlobals X.mg:=I.mod.glob.keeps I.bk;have hCh:PySem.W.CodeHd s.heap c P:=hC.keeps I.bk;have hBh:s.heap.BuiltinsAt X.mg P:=by
  obtain⟨bm,o,b1,b2,b5,b6,b7,b8⟩:=hB;obtain⟨g1,g2⟩:=I.bs _ _ b5;refine⟨bm,o,b1,b2,fun z=>?_,fun z=>?_,g1,b6,b7,b8⟩
  ·obtain⟨o',es,ep,n1,n2,u0⟩:=hns
   rw[z,n1] at g1;cases g1;rw[n2] at b8;cases b8
  ·rw[z,hP] at g2;cases g2
 have hnP:mainGlobals≠P:=fun z=>by
  obtain⟨o,es,ep,n1,n2,u0⟩:=hns;rw[z,e1] at n1;cases n1;cases n2
 refine PySem.W.kla_eval hdf ?_;rw[hq];cases hc:codeAmong pos vs.toList with
 | some cv =>
  refine PySem.W.kla_makeFunctionHit (wX hfree) I.ok.glob hns hcode hCh e1 e2 hc hBh fun ctv h' tk kp hs=>?_;have kp2:∀ b u,s.heap.get? b=some u->(h'.push { cls:=.type "function",data:=.func (PySem.W.kla_fn "<lambda>" q params body sc (zAo sc X.env) ((X.mg "__name__").getD .none) cv ctv) }).get? b=some u:=fun b u z=>cP _ (kp b u z);exact h _ H _ cv ctv _ (I.kept (t':=tk) kp2) (.refl H) (Un.kept kp2) hs (I.hok.fresh hs) (d9 _ rfl) (e3 pos cv hc)
 | none =>
  refine PySem.W.kla_makeFunction (wX hfree) I.ok.glob hns hcode hCh e1 e2 hc hnP hBh fun c' ctv h' tk eb hs1 hs2 cr eP=>?_;obtain⟨c1,oc,us,tt,z1,z2,z3,z4⟩:=cr;cases z1;have nc:H c'=none:=I.hok.fresh hs1;have hcP:c'≠P:=fun z=>by rw[z,hP] at nc;cases nc
  have hs:s.heap.objs.size<=h'.objs.size:=gL (Nat.lt_of_le_of_lt hs1 hs2);generalize hfo:PySem.W.kla_obj "<lambda>" q params body sc (zAo sc X.env) ((X.mg "__name__").getD .none) c' ctv=fo;have sm:zBq H (yT H c' (.frz oc (.own 0))):=fun b o z=>by rw[zc (yG z nc)];exact z
  have kp:∀ b u,b≠P->s.heap.get? b=some u->(h'.push fo).get? b=some u:=fun b u n z=>cP _ (eb b u n z);have nP:∀ b,H b=none->b≠P:=fun b n z=>by rw[z,hP] at n;cases n
  obtain⟨t1,t2⟩:=zH0 (a:=↑pos.line) (b:=↑pos.col) (t:=0) (u:=0) (c:=.ref c') e2;have gP:(h'.push fo).get? P=some (PySem.W.tabObj (vs++#[rawInt ↑pos.line,rawInt ↑pos.col,.ref c'])):=cP _ eP;have un:Un X.fs [] H (yT H c' (.frz oc (.own 0))) s.heap (h'.push fo):=by
   refine⟨fun b o z n u0 u0=>kp b o (nP b n) z,fun b o z n u0 u0=>⟨o.slots,kp b o (nP b n) z⟩,fun b o z n u0=>?_,fun b o z u0=>?_,fun b xs z=>sm _ _ z,fun b o u z=>sm _ _ z,fun b ps z=>sm _ _ z⟩
   ·rw[zc (dP (dM (d7 z) hs1))];exact n
   ·by_cases hb:b=P
    ·exact⟨_,by rw[hb];exact gP⟩
    ·exact⟨o,kp b o hb z⟩
  have hok:HOk X.prog X.w (yT H c' (.frz oc (.own 0))) (h'.push fo):=by
   intro b u z;by_cases hb:b=c'
   ·subst hb
    rw[zb] at z;cases z;exact⟨cP _ z2,_,cP _ z2⟩
   ·rw[zc hb] at z
    by_cases hb2:b=P
    ·subst hb2
     rw[hP] at z;cases z;refine⟨q,tq,_,rfl,gP,?_,fun pos' cv e=>?_⟩
     ·rw[el];exact t1
     ·rw[el] at e
      rcases t2 pos' cv e with r | r
      ·obtain⟨c2,o2,us2,tt2,w1,w2,w3⟩:=e3 pos' cv r
       exact⟨c2,o2,us2,tt2,w1,sm _ _ w2,w3⟩
      ·exact⟨c',oc,us,tt,r,zb,z3,z4⟩
    ·refine(I.hok b u z).stay (fun d v hd r=>kp d v ?_ r) (fun u0 r=>sm _ _ r) (fun u0 u0 r=>sm _ _ r) fun u0 u0 u0 r=>sm _ _ r
     rcases hd with w | w
     ·rw[w];exact hb2
     ·intro w2;rw[w2,hP] at w;cases w
  refine h _ _ _ (.ref c') ctv ((X.mg "__name__").getD .none) (I.un (t':=tk) un hok) sm un hs ?_ ?_ ⟨c',oc,us,tt,rfl,zb,z3,z4⟩
  ·rw[zc (gB hs2)];exact I.hok.fresh hs
  ·rw[<-hfo];exact d9 _ rfl
noncomputable def zDy(sc:Scope)(cl:List (Str×Addr))(q:Str)(g:Addr)(cv:Value)(L:Addr):Env:=newEnv sc L mainGlobals cl (q++".<locals>.") (some g) cv none builtinsNs
noncomputable def zI7(X:Cx)(sc:Scope)(q:Str)(g:Addr)(cv:Value)(A:Around)(outer:List Env)(s:Shared)(H:Hp):Cx where
 prog:=X.prog
 w:=X.w
 K:=X.K
 mg:=X.mg
 base:=X.base
 A:=A.deeper (zDy sc (zAo sc X.env) q g cv s.heap.objs.size)
 N:=X.N
 s₀:=s
 H₀:=H
 env:=zDy sc (zAo sc X.env) q g cv s.heap.objs.size
 outer:=outer
 stack:=zDy sc (zAo sc X.env) q g cv s.heap.objs.size::outer
 ex:=[]
 calm:=true
 fn:=fun u0=>false
 pn:=[]
 xe:=fun u0 u0=>False
structure zH2 (env:Env) (sc:Scope):Prop where
 kind:sc.kind=.function
 co:sc.isCoroutine=false
 gen:sc.isGenerator=false
 nocell:∀ y∈sc.names,y.2≠.cell
 noloc:∀ y∈sc.names,y.2≠.local
 cap:∀ y∈sc.names,y.2=.free->env.kindOf y.1=some .cell\/env.kindOf y.1=some .free
theorem zMb{X:Cx}{pins:List (Addr×Obj)}{σ:St}{H1 H2:Hp}{s1 s2:Shared}{sc:Scope}{q:Str}{g:Addr}{cv:Value}{A:Around}{outer:List Env}{k:Nat}{h':Heap}{tk:Nat}
  (I:zP X pins σ H1 s1) (T:zH2 X.env sc) (un:Un (wf X.stack) [] H1 H2 s1.heap s2.heap) (e0:zGV X.prog X.w X.K X.mg X.base A outer s2 H2) (hr:yE (k+1) A)
  (ns:h'.Ns s2.heap.objs.size fun u0=>none) (kp:∀ b o,s2.heap.get? b=some o->h'.get? b=some o):zP (zI7 X sc q g cv A outer s2 H2) [] σ H2 { s2 with heap:=h',toks:=tk }:=by
 have cellK:∀ x c,X.env.cells.lookup x=some c->∀ v,s1.heap.IsCell c v->h'.IsCell c v:=fun x c e v ⟨o,ho,hd⟩=>by
  obtain⟨sl,z⟩:=un.any ho (I.freeC x c e) (by simp);exact⟨_,kp _ _ z,hd⟩
 have free_of:∀ x,(sc.names.lookup x=some .local\/sc.names.lookup x=some .cell\/sc.names.lookup x=some .free)->sc.names.lookup x=some .free:=fun x hx=>by
  rcases hx with z | z | z
  ·exact absurd rfl (T.noloc _ (PySem.mem_of_lookup z))
  ·exact absurd rfl (T.nocell _ (PySem.mem_of_lookup z))
  ·exact z
 have hfree:∀ y∈sc.names,y.2=.free->∃ c,X.env.cells.lookup y.1=some c:=fun y hy hf=>I.ok.has _ (T.cap y hy hf);have has:∀ x,sc.names.lookup x=some .free->∃ c,(zAo sc X.env).lookup x=some c:=fun x hx=>zB2 (env:=X.env) (ns:=sc.names) (cs:=[]) (x:=x) hfree (.inr (PySem.mem_of_lookup hx));have noA:∀ b:Addr,b∉(zI7 X sc q g cv A outer s2 H2).ex:=fun b z=>absurd (show b∈([]:List Addr) from z) (by simp);refine⟨⟨e0.mod,T.kind,rfl,rfl,da _,fun x y c h1 h2=>I.ok.inj x y c (wt h1) (wt h2),fun x hx=>?_,fun x c z=>(by cases z),fun u0=>(hr.deeper _).hd,Around.frames_deeper e0.frames,.inr ⟨rfl,rfl⟩,fun b z=>absurd z (noA b),e0.bs,e0.bsz,fun b u0 u0=>noA b,fun b z=>absurd z (noA b),e0.funs,e0.frf,e0.tb⟩,
  rfl,e0.bare,Un.kept kp,⟨_,ns,fun i x v h1 h2 h3=>?_⟩,fun x c e=>?_,e0.hok.fresh (da _),fun x c e=>?_,fun p hp=>absurd (show p∈([]:List (Addr×Obj)) from hp) (by simp),e0.hok.kept kp,I.len⟩
 ·exact has x (free_of x (.inr hx))
 ·have hf:=free_of x h3
  obtain⟨m,hn,hl⟩:=I.loc;have cp:=T.cap _ (PySem.mem_of_lookup hf) rfl;have vis:Vis X.env.scope x:=by
   rcases cp with z | z
   ·exact .inr (.inl z)
   ·exact .inr (.inr z)
  obtain⟨u,r,l⟩:=hl i x v h1 h2 vis;refine⟨u,r,?_⟩;obtain⟨c',hc'⟩:=has x hf;have hc2:=wt hc';rcases l with ⟨z,u0⟩ | ⟨u0,c,e,z⟩
  ·rcases cp with z' | z'<;>(rw[z] at z';cases z')
  ·rw[e] at hc2
   have ec:c=c':=Option.some.inj hc2;rw[<-ec] at hc';exact .inr ⟨.inr hf,c,hc',cellK x c e _ z⟩
 ·have e':=wt (show(zAo sc X.env).lookup x=some c from e)
  obtain⟨v,z⟩:=I.cell x c e';exact⟨v,cellK x c e' v z⟩
 ·have e':=wt (show(zAo sc X.env).lookup x=some c from e)
  obtain⟨v,o,ho,u0⟩:=I.cell x c e';exact un.free c o ho (I.freeC x c e') (by simp)
end L2
namespace L3
open L2
theorem zMc:Own (zI7 X sc q g cv A outer s H):=⟨fun u0 u0 h=>h,rfl,rfl,rfl,rfl⟩
theorem zMd{X:Cx}{pins:List (Addr×Obj)}{σ1:L2.St}{σ:S2}{G:Gp}{E:Gp->Prop}{H1 H2:Hp}{s1 s2:Shared}{sc:Scope}{q:Str}{g C:Addr}{cv ctv pm:Value}{A:Around}{outer:List Env}{k:Nat}{params:Arguments}{body:Expr}{t:(Gp->Prop)->S2->Gp->Prop}
  (I:L2.zP X pins σ1 H1 s1) (T:zH2 X.env sc) (un:Un (wf X.stack) [] H1 H2 s1.heap s2.heap) (e0:zGV X.prog X.w X.K X.mg X.base A outer s2 H2) (hr:yE (k+1) A)
  (hbd:bindArgs (PySem.W.kla_fn "<lambda>" q params body sc (zAo sc X.env) pm cv ctv) ⟨[],[]⟩=pure [])
  (hg:s2.heap.get? g=some { cls:=.type "function",data:=.func (PySem.W.kla_fn "<lambda>" q params body sc (zAo sc X.env) pm cv ctv) }) (lc:zH1 H2 cv q)
  (hx:Xe (zI7 X sc q g cv A outer s2 H2) C body t) (r:Rel X.K σ G σ1 H2) (ht:t E σ G) :
  codeAny (model X.prog X.w) A (.call (.ref g) ⟨[],[]⟩) (fun r s'=>∃ e H' B,r=.error (.ref e)/\XE X.prog X.w outer H2 s2 C e H' B s'/\zd H2 H'/\∃ G',zf X.K G' H'/\E G') s2:=by
 obtain⟨c,o,us,t',rfl,z2,z3,z4⟩:=lc;have hcr:s2.heap.CodeRec (.ref c) q:=⟨c,o,us,t',rfl,(e0.hok c _ z2).1,z3,z4⟩
 have lim:s2.heap.NoLimit:=e0.mod.nolimit.keeps fun b o e=>(e0.bs b o e).1;refine PySem.W.kla_callFunE hr.depth hg rfl T.co T.gen rfl hcr ?_;rw[hbd];refine cS (wpAny_newFunctionEnv T.nocell (fun y hy=>absurd hy (by simp)) (fun h' ns sb=>?_) T.kind);have kp:∀ b o,s2.heap.get? b=some o->h'.get? b=some o:=fun b o e=>by
  rw[sb.2 b (dP (d7 e))];exact cP _ e
 refine⟨lim.keeps kp,PySem.W.kla_codeExpr ?_⟩;have I2:=zMb (q:=q) (g:=g) (cv:=.ref c) (tk:=s2.toks+0) I T un e0 hr ns kp;refine ft (hx [] _ σ1 H2 σ G E I2 r ht) (fun v s' z=>z.elim) fun v s' z=>?_;obtain⟨e,H',B,rfl,xb,gr,hG⟩:=z;exact xb.leave fun h'' xe=>⟨e,H',B,rfl,xe,gr,hG⟩
end L3
namespace L2
theorem zG6{prog:Program}{w:World}{A:Around}{K:PySem.W.Frag}{x C:Addr}{R:Result->Shared->Prop}{tp:Value}{hh:Heap}{g:Array GenState}{dr:Drawn}{t:Nat}{os:OsState}(X:K.In hh)(L0:∀ M,PySem.W.Looks M hh (typeOf (.ref x)) (.ref C))(hm:PySem.W.mroIn K C (.type "object")=some true)
  (h:R (.ok (.ret (.ref C))) ⟨hh,g,dr,t,os⟩):codeAny (model prog w) A (.call (.builtin "getset_descriptor.__get__") ⟨[.builtin "object.__class__",.ref x,tp],[]⟩) R ⟨hh,g,dr,t,os⟩:=by
 have L1:∀ M,PySem.W.Looks M hh (isSubtype (.ref C) (.type "object")) true:=fun M=>PySem.W.looks_mroIn X hm;refine codeAny_call_builtin PySem.W.KF.slot_gs.plain PySem.W.KF.entry_gs (PySem.W.KF.slot_gs.check _ _ _ _ _ _ _ _ PySem.W.KF.type_class (PySem.W.KF.args_gs _ _ _) ?_);unfold Builtin.«getset_descriptor.__get__» Builtin.Getset_descriptor.descrGet;rw[PySem.W.dga_obj];refine cN (cS ?_);show wpAny _ _ (Builtin.Getset_descriptor.descrGetter (.builtin "object.__class__") (some (.ref x))) _ _ _;unfold Builtin.Getset_descriptor.descrGetter;dsimp only;unfold Builtin.Getset_descriptor.descrCheckInstance;have e1:Builtin.Getset_descriptor.descrNameAndClass (.builtin "object.__class__")=(pure (("__class__":Str),Value.type "object"):Sem (Str×Value)):=by
  unfold Builtin.Getset_descriptor.descrNameAndClass;dsimp only;rw[PySem.W.KF.owner_class]
 refine cN (cN (gX e1 ?_));dsimp only;unfold isInstance;refine cN (cN (PySem.W.Looks.at (L0 _) (PySem.W.Looks.at (L1 _) ?_)));refine gK rfl (cS ?_);unfold again;refine cS ⟨Code.quiet_builtin _ (by decide +kernel),fS PySem.W.KF.entry_class ?_⟩;unfold Builtin.«object.__class__»;dsimp only;unfold shownTypeOf;refine cN (cN (PySem.W.Looks.at (L0 _) ?_));refine gK rfl (cS ?_);unfold ret;exact cS h
theorem zI8{prog:Program}{w:World}{A:Around}{E:Value->Shared->Prop}{K:PySem.W.Frag}{e C:Addr}{o:Obj}{h:Heap}{g:Array GenState}{d:Drawn}{t:Nat}{os:OsState}{Q:Option Value->Shared->Prop}(X:K.In h)(hx:h.get? e=some o)(hc:o.cls=.ref C)
  (k1:PySem.W.findIn K (.ref C) "__getattribute__"=some (some (.builtin "BaseException.__getattribute__"))) (k2:PySem.W.findIn K (.ref C) "__getattr__"=some none) (k3:PySem.W.findIn K (.ref C) "__class__"=some (some (.builtin "object.__class__")))
  (k4:PySem.W.specialIn K (.builtin "object.__class__") "__get__"=some (some (.builtin "getset_descriptor.__get__"))) (k5:PySem.W.takesIn K (.builtin "object.__class__")=some true) (k6:PySem.W.mroIn K C (.type "object")=some true) (k7:PySem.W.mroIn K C (.type "BaseException")=some true)
  (q:Q (some (.ref C)) ⟨h,g,d,t+1,os⟩):wpAny (model prog w) A (getAttr? (.ref e) "__class__") Q E ⟨h,g,d,t,os⟩:=by
 have L0:∀ M,PySem.W.Looks M h (typeOf (.ref e)) (.ref C):=fun M=>hc▸PySem.W.Looks.andThen (PySem.W.Looks.ld hx) PySem.W.Looks.now;have L7:∀ M,PySem.W.Looks M h (isSubtype (.ref C) (.type "BaseException")) true:=fun M=>PySem.W.looks_mroIn X k7;unfold getAttr?;refine cN (wpAny_mkText ?_);unfold getAttrBy?;refine cN (gO ?_);unfold getAttrBy;refine dZ (cN (PySem.W.Looks.at (L0 _) ?_));refine cN (PySem.W.Looks.at (PySem.W.looks_findIn X k1) ?_);dsimp only;refine gK rfl ?_;unfold getAttrByItsOwn;refine cN ?_;unfold hookBefore;refine wpAny_ite_true rfl (PySem.W.Looks.at (PySem.W.looks_findIn X k2) ?_);refine cN (gO (dZ ?_));unfold callGetattribute;refine gK rfl ?_;unfold boundAndCalled;refine cN (gX (F.excAttr_ValueError.ga.bind (.ref e)) ?_);dsimp only;refine wpAny_call (codeAny_call_builtin F.excAttr_ValueError.ga.plain F.entry_bexc_ga ?_);have hk:builtinKind "BaseException.__getattribute__"=some Manifest.AttrKind.slot:=by decide +kernel
 have hsp:splitId "BaseException.__getattribute__"=some ("BaseException","__getattribute__"):=by decide +kernel
 have ha:argsOk "BaseException.__getattribute__" { pos:=[Value.ref e,Value.str "__class__" t] }:=F.args_bexc_ga _ _;unfold checkBuiltinCall;rw[hk,hsp];dsimp only[cX,cY];unfold isInstance;refine cN (cN (PySem.W.Looks.at (L0 _) (PySem.W.Looks.at (L7 _) ?_)));refine gK rfl (gX ha ?_);unfold Builtin.«object.__getattribute__»;refine cN ?_;unfold slotArgs;refine gK rfl (gK rfl (cS ?_));dsimp only;refine cN ?_;unfold Builtin.ObjectAttr.attrName;refine cS ?_;refine cN (PySem.W.Looks.at (L0 _) ?_);refine cN ?_;unfold Builtin.ObjectAttr.find;refine cN (PySem.W.Looks.at (PySem.W.looks_findIn X k3) ?_);refine cN ?_;unfold Builtin.ObjectAttr.getOf;refine PySem.W.Looks.at (PySem.W.looks_specialIn X k4) ?_;refine cN ?_;unfold Builtin.ObjectAttr.dataDescriptor?;refine cN (PySem.W.Looks.at (PySem.W.looks_takesIn X k5) ?_);refine wpAny_ite_true rfl (cS ?_);dsimp only;refine cN (fY (cS ?_));dsimp only;unfold Builtin.ObjectAttr.bindTo;dsimp only;refine cN (dZ (wpAny_call (zG6 X L0 k6 ?_)));unfold ret;refine cS ?_;dsimp only;exact PySem.W.handed_on rfl (cS q)
structure zFQ (K:PySem.W.Frag) (C:Addr):Prop where
 ex0:PySem.W.excIn K C bmV "ValueError.__new__"=true
 cl:(PySem.W.clsIn K C).isSome=true
 k1:PySem.W.findIn K (.ref C) "__getattribute__"=some (some (.builtin "BaseException.__getattribute__"))
 k2:PySem.W.findIn K (.ref C) "__getattr__"=some none
 k3:PySem.W.findIn K (.ref C) "__class__"=some (some (.builtin "object.__class__"))
 k4:PySem.W.specialIn K (.builtin "object.__class__") "__get__"=some (some (.builtin "getset_descriptor.__get__"))
 k5:PySem.W.takesIn K (.builtin "object.__class__")=some true
 k6:PySem.W.mroIn K C (.type "object")=some true
 k7:PySem.W.mroIn K C (.type "BaseException")=some true
theorem zOX{K:PySem.W.Frag}{C:Addr}(h:(PySem.W.clsIn K C).isSome=true):∃ c d cd sl,K.lookup C=some ⟨c,d,.cls cd,sl⟩:=by
 unfold PySem.W.clsIn at h;split at h
 ·rename_i c d cd sl e;exact⟨c,d,cd,sl,e⟩
 ·cases h
theorem zK3{K:PySem.W.Frag}{e C:Addr}(k:zFQ K C):PySem.W.KitX K (.ref e) (.ref C) (fun h=>∃ o,h.get? e=some o/\o.cls=.ref C):=by
 obtain⟨c0,d0,cd,sl,hl⟩:=zOX k.cl;refine⟨fun M h _ ⟨o,hx,hc⟩=>hc▸PySem.W.Looks.andThen (PySem.W.Looks.ld hx) PySem.W.Looks.now,fun M h X u0 A Q E s kp q=>?_,fun h tp dd its n s2 X ht=>?_,fun {prog w A E Q s} X ⟨o,hx,hc⟩ q=>?_⟩
 ·unfold isType
  exact cN (wpAny_loadPart (kp _ _ (X _ _ hl)) (cS q))
 ·refine Bool.eq_false_iff.mpr fun z=>?_
  have z':=Value.ref.inj (beq_iff_eq.mp z);have z2:=X _ _ hl;rw[z',ht] at z2;cases z2
 ·obtain⟨hh,g,d,t,os⟩:=s
  exact zI8 X hx hc k.k1 k.k2 k.k3 k.k4 k.k5 k.k6 k.k7 q
end L2
namespace HD
section
variable {prog:Program} {w:World} {A:Around} {E:Value->Shared->Prop} {s:Shared}
end
section
variable {prog:Program} {w:World} {A:Around} {R:Result->Shared->Prop} {h0:Heap} {S I l:Addr} {its:Array Value} {ks:Nat->Int} {vs:Nat->Value} {g:Array GenState} {d:Drawn} {os:OsState}
noncomputable def Kp(h0 h:Heap):Prop:=∀ b o,h0.get? b=some o->h.get? b=some o
theorem Kp.ne{h0 h h':Heap}{c:Addr}(k:Kp h0 h)(hc:h0.get? c=none)(e:∀ b o,b≠c->h.get? b=some o->h'.get? b=some o):Kp h0 h':=fun b o q=>e b o (fun z=>by subst z;rw[hc] at q;cases q) (k b o q)
end
section
variable {prog:Program} {w:World} {A:Around} {E:Value->Shared->Prop} {s:Shared}
end
end HD
namespace L2
open HD
noncomputable abbrev zI9(X:Cx)(a:Addr)(o:Obj):Cx:={ X with pn:=(a,o)::X.pn }
section
variable {X:Cx} {pins:List (Addr×Obj)} {σ:List (Option V)} {H:Hp} {s:Shared} {a:Addr} {o:Obj}
theorem zP.pinD(I:zP X pins σ H s)(e:s.heap.get? a=some o)(n:H a=none)(l:a≠X.env.locals)(f:a∉X.fs)(c:∀ v,o.data≠.cell v):zP X ((a,o)::pins) σ H s :=
 ⟨I.ok,I.os,I.bare,I.base,I.loc,I.cell,I.free,I.freeC,fun p hp=>by
  rcases dQ.mp hp with hp | hp
  ·exact I.pin p (eW _ hp)
  ·rcases dN.mp hp with rfl | hp
   ·exact⟨e,n,l,f,c⟩
   ·exact I.pin p (dU _ hp),I.hok,I.len⟩
theorem Cx.Ok.pin(k:X.Ok):(zI9 X a o).Ok:=⟨k.mod,k.kind,k.glob,k.blt,k.above,k.inj,k.has,k.cab,k.hd,k.frames,k.stk,k.exf,k.bs,k.bsz,k.noex,k.exfs,k.funs,k.frf,k.tb⟩
theorem zP.into(I:zP X ((a,o)::pins) σ H s):zP (zI9 X a o) pins σ H s :=
 ⟨I.ok.pin,I.os,I.bare,I.base,I.loc,I.cell,I.free,I.freeC,fun p hp=>I.pin p (by
  rcases dQ.mp hp with hp | hp
  ·rcases dN.mp hp with rfl | hp
   ·exact dU _ dH
   ·exact eW _ hp
  ·exact dU _ (dC _ hp)),I.hok,I.len⟩
end
end L2
namespace L3
open L2
end L3
namespace L2
theorem XE.after(x:XE P w outer H s C e H' B s')(ff:s.heap.FunFrames base outer)(frf:∀ b∈wf outer,H b=none)(st:Heap.StaysIn B h'')
  (sl:∀ b o,s'.heap.get? b=some o->(∀ vs,o.data≠.fields vs)->∃ sl,h''.get? b=some { o with slots:=sl }):Un (wf outer) [] H H' s.heap h''/\HOk P w H' h'':=by
 have slot:∀ b o,s.heap.get? b=some o->H b=none->b∈wf outer->∃ sl,h''.get? b=some { o with slots:=sl }:=fun b o q n hb=>by
  obtain⟨s1,q1⟩:=x.un.slot b o q n hb (by simp);have hd:∀ vs,o.data≠.fields vs:=by
   obtain⟨u0,o1,ho,hd⟩:=ff.mem hb;rw[q] at ho;cases ho;exact hd
  obtain⟨s2,q2⟩:=sl b _ q1 hd;exact⟨s2,q2⟩
 refine⟨⟨fun b o q n hb u0=>st b o (x.has0 b o q n hb),fun b o q n hb u0=>slot b o q n hb,fun b o q n u0=>x.un.free b o q n (by simp),fun b o q u0=>?_,x.un.tups,x.un.frzs,x.un.tbls⟩,fun b u q=>?_⟩
 ·by_cases hb:b∈wf outer
  ·obtain⟨s1,z⟩:=slot b o q (frf b hb) hb
   exact⟨_,z⟩
  ·obtain⟨o',z⟩:=x.th b o q hb
   exact⟨o',st b o' z⟩
 ·refine(x.hok b u q).stay (fun c v hc r=>?_) (fun u0 r=>r) (fun u0 u0 r=>r) fun u0 u0 u0 r=>r
  have:∃ o,B.get? c=some o:=by
   rcases hc with z | z
   ·subst z;exact x.has1 _ _ q
   ·exact x.has1 _ _ z
  obtain⟨o2,z⟩:=this;have z2:=x.stay c o2 z;rw[r] at z2;obtain rfl:v=o2:=Option.some.inj z2;exact st c v z
section
variable {X:Cx} {pins:List (Addr×Obj)} {σ:St} {H:Hp} {s:Shared}
theorem zFR(I:zP X pins σ H s)(hN:X.N.Nodup)(hi:X.N[i]?=some x)(hk:X.env.scope.names.lookup x=some .local)
  (h:∀ s',zP X pins (σ.set i none) H s'->Q () s'):wpAny M A (do bindName X.env x Value.none;unbindBehindTheSuite X.env x pos) Q E s:=by
 obtain⟨m,hn,hl⟩:=id I.loc;have hcls:(X.env.scope.kind==.class||(X.env.scope.kind==.module&&X.env.locals != X.env.globals))=false:=by rw[I.ok.kind];rfl
 have hiσ:i<σ.length:=by rw[I.len];exact(di.mp hi).1
 have cne:=I.cne;refine wpAny_nameGoes_keeps hk hn hcls fun h' v hn' hs=>?_;obtain⟨oL,u0,u0,hoL,u0⟩:=id hn;have tracked:HOk X.prog X.w H h':=fun b ob e=>by
  refine(I.hok b ob e).stay (fun c w' hc q=>(hs.2 c ?_).trans q) (fun u0 q=>q) (fun u0 u0 q=>q) fun u0 u0 u0 q=>q;rintro rfl;rcases hc with rfl | hc
  ·rw[I.free] at e;cases e
  ·rw[I.free] at hc;cases hc
 refine h _ ⟨I.ok,I.os,I.bare,⟨fun b o e n hb hx=>?_,fun b o e n hb hx=>?_,I.base.free,fun b o e hx=>?_,I.base.tups,I.base.frzs,I.base.tbls⟩,⟨_,hn',fun j y v' e1 e2 e3=>?_⟩,fun y c e=>?_,I.free,I.freeC,fun p hp=>?_,tracked,by simpa using I.len⟩
 ·exact(hs.2 b (dP (dM (d7 e) I.ok.above))).trans (I.base.keep b o e n hb hx)
 ·obtain⟨sl,e1⟩:=I.base.slot b o e n hb hx
  exact⟨sl,(hs.2 b (dP (dM (d7 e) I.ok.above))).trans e1⟩
 ·obtain⟨o',e1⟩:=I.base.there b o e hx
  exact⟨o',(hs.2 b (dP (dM (d7 e) I.ok.above))).trans e1⟩
 ·by_cases hj:j=i
  ·subst hj
   rw[eJ hiσ] at e2;cases e2
  ·rw[fe (Ne.symm hj)] at e2
   obtain⟨u',r',q⟩:=hl j y v' e1 e2 e3;refine⟨u',r',?_⟩;rcases q with ⟨k,e⟩ | ⟨k,c,e,z⟩
   ·refine .inl ⟨k,?_⟩
    have:y≠x:=fun e=>hj (zDJ hN e1 (e▸hi));simp[this,e]
   ·exact .inr ⟨k,c,e,z.sameBut hs (cne y c e)⟩
 ·obtain⟨w',z⟩:=I.cell y c e
  exact⟨w',z.sameBut hs (cne y c e)⟩
 ·obtain⟨e,n,ne,nf,d⟩:=I.pin p hp
  exact⟨(hs.2 p.1 ne).trans e,n,ne,nf,d⟩
theorem zK4{M:Model}{A:Around}{E:Value->Shared->Prop}{i:Nat}{x:Str}{v:V}{pos:Pos}{Q:Value->Shared->Prop}(I:zP X pins σ H s)(hi:X.N[i]?=some x)(hk:X.env.scope.names.lookup x=some .local)(hv:σ[i]?=some (some v))(hd:(x==("__debug__":Str))=false)
  (h:∀ u,RelV v u->Q u s):wpAny M A (eval (.Name x pos) X.env) Q E s:=by
 obtain⟨m,hn,hl⟩:=I.loc;obtain⟨u,r,l⟩:=hl i x v hi hv (.inl hk);rcases l with ⟨u0,hm⟩ | ⟨z,u0⟩
 ·exact wpAny_Name (wpAny_loadName_local I.ok.kind hk hn hm (h u r)) hd
 ·rcases z with z | z<;>(rw[show X.env.kindOf x=some .local from hk] at z;cases z)
theorem zK5{C Cc g:Addr}{cn xc en er:Str}{ic ie ir:Nat}{p1 p2 p3 p4 p5 p6 p7 hp tp:Pos}{Z:Hp->Prop}{Q:Flow->Shared->Prop}{E:Value->Shared->Prop}(stk:X.stack=X.env::X.outer)(frm:X.env.frame=some X.env.locals)(ex:X.ex=[])
  (I:zP X pins σ H s) (hN:X.N.Nodup) (c1:X.N[ic]?=some cn) (c2:X.env.scope.names.lookup cn=some .local) (c3:σ[ic]?=some (some (.ref g))) (hf:PySem.W.FnAt g s.heap)
  (run:codeAny (model X.prog X.w) X.A (.call (.ref g) ⟨[],[]⟩) (fun r s'=>∃ e H' B,r=.error (.ref e)/\XE X.prog X.w X.stack H s C e H' B s'/\Z H') s)
  (hg:Gl X xc) (hm:X.mg xc=some (.ref Cc)) (hx:PySem.W.exmOne X.K (.ref C) (.ref Cc)=some true)
  (e1:X.N[ie]?=some en) (e2:X.env.scope.names.lookup en=some .local) (r1:X.N[ir]?=some er) (r2:X.env.scope.names.lookup er=some .local)
  (h:∀ e oe H' s',zP (zI9 X e oe) pins (((σ.set ie (some (.ref e))).set ir (some (.ref e))).set ie none) H' s'->Z H'->oe.cls=.ref C->Q .next s')
  (d1:autoParam ((cn==("__debug__":Str))=false) Zq2._auto_1) (d2:autoParam ((xc==("__debug__":Str))=false) Zq2._auto_1) (d3:autoParam ((en==("__debug__":Str))=false) Zq2._auto_1)
  (sw1:autoParam (swapsWith (.Call (.Name cn p1) [] [] p2) none p3.line X.env=pure false) Zq4._auto_1) (sw2:autoParam (swapsWith (.Name en p6) (some (.Name er p5)) p7.line X.env=pure false) Zq4._auto_1) :
  wpAny (model X.prog X.w) X.A (exec (.Try [.Expr (.Call (.Name cn p1) [] [] p2) p3] [.ExceptHandler (some (.Name xc p4)) (some en) [.Assign [.Name er p5] (.Name en p6) p7] hp] [] [] tp) X.env) Q E s:=by
 refine wpAny_Try_except (fG (wpAny_Expr_any (fC (zK4 I c1 c2 c3 d1 fun u r=>?_)) I.quiet sw1));obtain rfl:u=Value.ref g:=r;refine PySem.W.callWith_F0 hf (wpAny_call (fu run fun r s' u9=>?_));obtain⟨e,H',B,z1,x,hZ⟩:=u9;subst z1;dsimp only;have xb:=x.body stk frm ex I;obtain⟨a0,tr⟩:=x.tr;have fr:X.A.frames=some (X.env::X.outer):=by rw[I.ok.frames,stk]
 have ffb:=xb.funs;rw[stk] at ffb;refine wpAny_noteFrame_onW fr ffb frm tr x.stay x.eB fun h1 n1=>?_;obtain⟨n1,n2,n3,n4⟩:=n1;refine wpAny_setFlight_noneW n1 n2 n3 fun h2 s2 f2 t2 k2=>?_;have I2:zP X pins σ H' { s' with heap:=h2 }:=by
  obtain⟨u,hk⟩:=x.after I.stack I.stkFree s2 fun b o q nd=>by
   obtain⟨sl,z⟩:=n4 b o q nd;exact⟨sl,k2 b _ z nd⟩
  exact I.call' (s':={ s' with heap:=h2 }) x.os u hk x.bare fun b hb=>absurd hb (by simp)
 refine wpAny_handleBy_cons (codeAny_handlers_test ?_) (fun q=>by cases q);refine Calls.Name_function_global I.ok.kind hg (Calls.loadGlobal_global (by rw[I.ok.glob];exact I2.mod.glob.keeps I2.bk) hm ?_) d2;have hte:∃ o,h2.get? e=some o/\o.cls=.ref C:=by
  obtain⟨oe,vs,T,oT,ts,w1,⟨w2,u0⟩,u0⟩:=t2;exact⟨oe,w1,w2⟩
 obtain⟨oe2,w1,w2⟩:=hte;refine PySem.W.Looks.at (PySem.W.exm_one I2.kIn (w2▸PySem.W.Looks.andThen (PySem.W.Looks.ld w1) PySem.W.Looks.now) hx) ?_;dsimp only;rw[if_pos rfl];refine codeAny_handlers_suite_as ?_;refine wpAny_setFlight_noneW s2 f2 t2.at fun h3 s3 f3 t3 k3=>?_;have I3:zP X pins σ H' { s' with heap:=h3 }:=by
  obtain⟨u,hk⟩:=x.after I.stack I.stkFree s3 fun b o q nd=>by
   obtain⟨sl,z⟩:=n4 b o q nd;exact⟨sl,k3 b _ (k2 b _ z nd) nd⟩
  exact I.call' (s':={ s' with heap:=h3 }) x.os u hk x.bare fun b hb=>absurd hb (by simp)
 obtain⟨oe,vs,T,oT,ts,v1,⟨v2,u0⟩,v3,u0⟩:=t3;have neL:e≠X.env.locals:=fun z=>by
  obtain⟨m,⟨o,es,ep,ho,u0⟩,u0⟩:=I.loc;have:=x.new;rw[z,ho] at this;cases this
 have neF:e∉X.fs:=fun z=>by
  obtain⟨u0,o,ho,u0⟩:=I.funs.mem z;rw[x.new] at ho;cases ho
 have I3p:=I3.pinD v1 x.free neL neF fun v q=>by rw[v3] at q;cases q
 have hie:ie<σ.length:=by rw[I.len];exact(di.mp e1).1
 refine zBA I3p hN e1 (.inl e2) (show RelV (.ref e) (.ref e) from rfl) (fun s4 I4=>?_) (.inr e2);refine fG (wpAny_Assign_Name (zK4 I4 e1 e2 (eJ hie) d3 fun u r=>?_) sw2);obtain rfl:u=Value.ref e:=r;refine zBA I4 hN r1 (.inl r2) (show RelV (.ref e) (.ref e) from rfl) (fun s5 I5=>?_) (.inr r2);refine wpAny_execs_nil ?_;dsimp only;refine zFR I5 hN e1 e2 fun s6 I6=>?_;exact h e oe H' s6 I6.into hZ v2
end
end L2
namespace L3
open L2
theorem _root_.L2.zBq.grow(h:zBq H H'):zd H H':=⟨fun a xs e=>h a _ e,fun a o u e=>h a _ e⟩
theorem zf.same{K:PySem.W.Frag}{G:Gp}{H H':Hp}(r:zf K G H)(h:zBq H H'):zf K G H' :=
 ⟨fun a ds e=>by obtain⟨xs,e1,e2⟩:=r.m a ds e;exact⟨xs,h _ _ e1,e2.grow h.grow⟩,fun a ds e=>by obtain⟨xs,e1,e2⟩:=r.ro a ds e;exact⟨xs,h.grow.roL e1,e2.grow h.grow⟩,fun a ds e=>by obtain⟨xs,e1,e2⟩:=r.dc a ds e;exact⟨xs,h _ _ e1,L2.Paired.mapP e2 fun u0 u0 z=>⟨z.1,z.2.1.grow h.grow,z.2.2.grow h.grow⟩⟩⟩
structure zK6 (st:Stmt) (N:List Str) (rest:List Stmt):Prop where
 body:∃ j1 p1 p2 p3 p4 p5 p6 p7 p8 p9 p10 p11 p12,zX st=.Assign [.Name "error" p1] (.Constant .none j1 p2) p3::.Try [.Expr (.Call (.Name "call" p4) [] [] p5) p6] [.ExceptHandler (some (.Name "ChordError" p7)) (some "e") [.Assign [.Name "error" p8] (.Name "e" p9) p10] p11] [] [] p12::rest
 n0:N[0]?=some ("call":Str)
 n1:N[1]?=some ("error":Str)
 n2:N[2]?=some ("e":Str)
 l0:(zE st).names.lookup ("call":Str)=some .local
 l1:(zE st).names.lookup ("error":Str)=some .local
 l2:(zE st).names.lookup ("e":Str)=some .local
 gl:(zE st).names.lookup ("ChordError":Str)=some .globalImplicit
structure zK7 (X:Cx) (x:Str) (c P:Addr) (params:Arguments) (body:Expr) (sc:Scope):Prop where
 hsc:zH2 X.env sc
 code:X.env.code=.ref c
 hd:PySem.W.CodeHd X.base c P
 blt:BMn X.base X.mg
 qual:X.env.qual++"<lambda>"=x++".<locals>.<lambda>"
 mem:x∈zAm
 tab:PySem.W.tabIn X.K x=some (c,P)
 df:defaultsOf params X.env=([],[])
 bd:∀(q:Str) (cl:List (Str×Addr)) (pm cv ctv:Value),bindArgs (PySem.W.kla_fn "<lambda>" q params body sc cl pm cv ctv) ⟨[],[]⟩=pure []
theorem zJA{X:Cx}{st:Stmt}{f:Addr}{fd:FuncData}{N:List Str}{k:Nat}{C Cc c P:Addr}{kind:Int}{x:Str}{rest:List Stmt}{params:Arguments}{body:Expr}{sc:Scope}{t:(Gp->Prop)->S2->Gp->Prop}{trest:Addr->yd}{p lp pos:Pos}
  (F:Fun X.K "_law_refused" "_law_refused" st f fd) (S:za N ["call"] (zE st)) (hm:X.mg "_law_refused"=some (.ref f)) (hb:Binds X.K fd ["call"] []) (hr:yE (k+2) X.A) (hgl:Gl X "_law_refused") (B:zK6 st N rest)
  (hCc:X.mg "ChordError"=some (.ref Cc)) (hxm:PySem.W.exmOne X.K (.ref C) (.ref Cc)=some true)
  (hrest:∀(cdv:Value) (A:Around) (outer:List Env) (s:Shared) (H:Hp) (e:Addr) (oe:Obj),yE (k+1) (A.deeper (envOfC "_law_refused" (zE st) s.heap.objs.size f cdv))->oe.cls=.ref C->Ps2 (zI9 (zBD CX0 X.prog X.w X.K X.mg X.base N "_law_refused" (zE st) f cdv A outer s H E0).nox e oe) rest (trest e))
  (hres:∀(e:Addr) (G:Gp) (R:Q2),(∀ l,G.m l=none->R (.adr l) (zS G l [.int kind]))->trest e (zn R) ((dF N.length none).set 1 (some (.adr e))) G)
  (L:zK7 X x c P params body sc) (hlam:∀(g:Addr) (cv:Value) (A:Around) (outer:List Env) (s:Shared) (H:Hp),yE k (A.deeper (zDy sc (zAo sc X.env) (x++".<locals>.<lambda>") g cv s.heap.objs.size))->Xe (zI7 X sc (x++".<locals>.<lambda>") g cv A outer s H) C body t) :
  F2 X (.Call (.Name "_law_refused" p) [.Lambda params body sc lp] [] pos) (fun σ G R=>t (fun G'=>R [.int kind] G') σ G):=by
 intro pins s σ1 H Q I hq;obtain⟨σ,G,R,r,ht,kk⟩:=hq;refine fC (zB0 I hgl hm ?_);refine PySem.W.callWith_K (h₀:=X.base) I.ok.mod.kin F.kp ?_;obtain⟨tq,hP⟩:=I.tabs x L.mem c P L.tab;show wpAny _ _ (spliced ((false,eval (.Lambda params body sc lp) X.env)::backTo pos (starEach [] X.env))) _ _ s;refine Calls.spliced_cons (zI6 I L.hsc.cap L.df L.code L.hd L.blt L.qual hP fun g H1 s1 cv ctv pm I1 sm un1 hsz hg0 hgo lc=>?_);refine Calls.spliced_nil ⟨I1.kIn,wpAny_call ?_⟩;obtain⟨oc,od,kV,doc,pm2,an,cdv,ct,osl,rfl,lk,hcd⟩:=F.ex;have hg3:g∉wf X.stack:=fun z=>by
  obtain⟨u0,o,ho,u0⟩:=I.stack.mem z;exact absurd (dM (d7 ho) hsz) (fb _)
 let Q1:VK:=fun v H'=>∃ l xs G',v=.ref l/\R [.int kind] G'/\zf X.K G' H'/\G'.m l=none/\H' l=some (.lst xs)/\Dens X.K H' [.int kind] xs/\zd H H';have core:codeAny (model X.prog X.w) X.A (.call (.ref f) ⟨[.ref g],[]⟩) (CR CX0 X.stack X.prog X.w H1 s1 Q1 E0) s1:=by
  have e0:=I1.env0;have KX:X.K.In s1.heap:=I1.kIn;have lim:s1.heap.NoLimit:=I1.nolimit;have hkind:∀ y∈[("call":Str)].zip [Value.ref g],(zE st).names.lookup y.1=some .local\/((zE st).names.lookup y.1=some .cell/\((cellsFrom (s1.heap.objs.size+1) (zE st).names []).lookup y.1).isSome=true):=fun⟨n,v⟩ hy=>by
   rcases S.par n (List.of_mem_zip hy).1 with q | q
   ·exact .inl q
   ·exact .inr ⟨q,PySem.W.cellsFrom_some _ _ _ (.inl q)⟩
  have hbd:=hb s1 [.ref g] KX rfl;refine codeAny_call_function hr.depth (KX _ _ lk) rfl S.co S.gen rfl (PySem.W.codeRec_of KX hcd) (hbd _ _ _ _ ?_);refine wpAny_newFunctionEnv_cells S.kind hkind fun env he s2 x2=>?_;subst he;refine⟨lim.keeps x2.toInCall.keep,codeAny_func ?_⟩;have J0:zP (zBD CX0 X.prog X.w X.K X.mg X.base N "_law_refused" (zE st) f cdv X.A X.stack s1 H1 E0).nox [] (start N [.ref g]) H1 s2:=(zCd (vs:=[.ref g]) (us:=[.ref g]) S hr.hd e0 rfl (.cons (show RelV (.ref g) (.ref g) from rfl) .nil) x2).wish _;have hrr:yE (k+1) (X.A.deeper (envOfC "_law_refused" (zE st) s1.heap.objs.size f cdv)):=hr.deeper _;obtain⟨j1,p1,p2,p3,p4,p5,p6,p7,p8,p9,p10,p11,p12,hbody⟩:=B.body;rw[hbody];have hl3:3<=N.length:=by have:=(di.mp B.n2).1;omega
  have st0:(start N [.ref g])[0]?=some (some (.ref g)):=rfl;refine fG (wpAny_Assign_Name (ft (zJQ (X:=(zBD CX0 X.prog X.w X.K X.mg X.base N "_law_refused" (zE st) f cdv X.A X.stack s1 H1 E0).nox) [] s2 _ H1 (fun v H'=>v=.non/\H'=H1) J0 ⟨rfl,rfl⟩) (fun u s3 hz=>?_) (fun u0 u0 z=>z.elim)) rfl);obtain⟨v,H',J1,rv,rfl,hH⟩:=hz;rw[hH] at J1;refine zBA J1 S.nd B.n1 (.inl B.l1) rv (fun s4 J2=>?_) (.inr B.l1);dsimp only;refine fG (zK5 (C:=C) (Cc:=Cc) (Z:=fun H'=>zd H1 H'/\∃ G',zf X.K G' H'/\R [.int kind] G') rfl rfl rfl J2 S.nd B.n0 B.l0 (by rw[fe (by decide)];exact st0) ?fn ?run B.gl hCc hxm B.n2 B.l2 B.n1 B.l1 ?h)
  case fn=>exact⟨_,_,_,_,J2.base.keep g _ hgo hg0 hg3 (by intro z;exact absurd (show g∈([]:List Addr) from z) (by simp))⟩
  case run =>
   exact zMd (X:=X) (pins:=pins) (σ1:=σ1) I1 L.hsc J2.base J2.env0 hrr (L.bd _ _ _ _ _) (J2.base.keep g _ hgo hg0 hg3 (by intro z;exact absurd (show g∈([]:List Addr) from z) (by simp))) lc (hlam g cv _ _ s4 _ (hrr.deeper _)) (r.to sm.grow (r.g.same sm)) ht
  case h =>
   intro e oe H' s' Jp hZ hcl;obtain⟨gr,G',rg,hR⟩:=hZ;dsimp only;let D:Ends:={ nx:=fun u0 H''=>Q1 .non H'',rt:=Q1 }
   let R2:Q2:=fun d G''=>∃ l G0,d=.adr l/\G0.m l=none/\G''=zS G0 l [.int kind]/\R [.int kind] G0;have hG:zd H H':=sm.grow.trans gr;refine ft (hrest cdv X.A X.stack s1 H1 e oe hrr hcl [] s' _ H' D Jp ⟨_,G',zn R2,⟨rg,?_,?_⟩,hres e G' R2 fun l n=>⟨l,G',rfl,n,rfl,hR⟩,⟨?_,?_,?_,?_⟩⟩) (fun fl s'' hs=>?_) (fun u0 u0 z=>z.elim)
   ·simp[L2.start];omega
   ·intro i d e1
    by_cases hi:i=1
    ·subst hi
     rw[eJ (by simp;omega)] at e1;cases e1;refine⟨.ref e,?_,by unfold zM;rfl⟩;rw[fe (by decide),eJ (by simp[L2.start];omega)]
    ·rw[fe (Ne.symm hi),gD] at e1
     split at e1<;>cases e1
   ·rintro σ' G1 ⟨G2,s2',⟨l,G0,z,u0⟩⟩;cases z
   ·intro u0 u0 z;exact z.elim
   ·intro u0 u0 z;exact z.elim
   ·rintro d G1 ⟨G2,s2',⟨l,G0,rfl,n0,rfl,hR0⟩⟩ v H2 g2 r2 dv
    unfold zM at dv;subst dv;obtain⟨xs,w1,w2⟩:=r2.m l _ (s2'.m _ _ zG);exact⟨l,xs,G0,rfl,hR0,r2.sub ((Sub.new n0).trans s2'),n0,w1,w2,hG.trans g2⟩
   ·cases fl with
    | ret u =>
     obtain⟨v,σ',H2,J,rv2,q⟩:=hs;exact⟨v,H2,J.os,J.bare,J.base,J.hok,rv2,q⟩
    | next =>
     obtain⟨σ',H2,J,⟨l,xs,G2,z,u0⟩⟩:=hs;cases z
    | brk=>obtain⟨u0,u0,u0,q⟩:=hs;exact q.elim
    | cont=>obtain⟨u0,u0,u0,q⟩:=hs;exact q.elim
 refine fu core fun rr s' hq'=>?_;cases rr with
 | error e=>exact hq'.elim
 | ok fl =>
  cases fl with
  | ret u =>
   obtain⟨v,H',J,rv,l,xs,G',rfl,a1,a2,a3,a4,a5,a6⟩:=I1.after hq';exact⟨.ref l,H',J,rv,kk _ G' a1 l xs H' a6 a2 a3 a4 a5⟩
  | next=>exact hq'.elim
  | brk=>exact hq'.elim
  | cont=>exact hq'.elim
noncomputable def zGE(i:Nat)(e:Addr)(b:Bool):zi:=fun σ G R=>look σ i=some (.adr e)/\R (.bl b) G
section
variable {X:Cx}
theorem zGF(k:zFQ X.K C)(hp:(e,oe)∈X.pn)(hc:oe.cls=.ref C)(hv:∀ u,RelV vc u->u=c)(hb:PySem.W.kitOne X.K (.ref C) c=some b):yt X (.builtin "isinstance") (fun xs H Q=>xs=[.ref e,vc]/\Q (.bl b) H):=by
 intro pins s σ H xs us Q I rv h;obtain⟨rfl,q⟩:=h;obtain⟨w1,w2,rfl,r1,r2⟩:=vals2 rv;obtain rfl:w1=Value.ref e:=r1;obtain rfl:=hv w2 r2;exact PySem.W.kia_one (zK3 k) I.kIn ⟨oe,(I.pin _ (eW _ hp)).1,hc⟩ hb (fun z=>nomatch z) fun tk=>⟨.bl b,H,I.tok _,rfl,q⟩
theorem zGG(i:Nat){x cn:Str}{e C D:Addr}{oe:Obj}{b:Bool}{p p1 p2 pos:Pos}(k:zFQ X.K C)(hp:(e,oe)∈X.pn)(hc:oe.cls=.ref C)(hg:Gl X "isinstance")(hm:X.mg "isinstance"=none)(hg2:Gl X cn)(hD:X.mg cn=some (.ref D))(hb:PySem.W.kitOne X.K (.ref C) (.ref D)=some b)
  (hN:autoParam (X.N[i]?=some x) Zq4._auto_1) (hv:autoParam (Vis X.env.scope x) Zq5._auto_1) (hd:autoParam ((x==("__debug__":Str))=false) Zq2._auto_1) (hcd:autoParam ((x==("__classdict__":Str))=false) Zq2._auto_1) (hdb:autoParam ((cn==("__debug__":Str))=false) Zq2._auto_1) :
  E2 X (.Call (.Name "isinstance" p) [.Name x p1,.Name cn p2] [] pos) (zGE i e b):=by
 refine PE.mono (zAA (zGF (vc:=.ref D) k hp hc (fun u r=>r) hb) hg hm (by decide +kernel) (yP (zEw hN hv hd hcd) (yP (zHG hg2 hD (v:=.ref D) rfl hdb) wz rfl) rfl)) ?_;rintro σ1 H Q ⟨σ,G,R,r,⟨q1,q2⟩,kk⟩;obtain⟨v,e1,e2⟩:=r.val i _ (zBE q1);unfold zM at e2;subst e2;exact⟨_,e1,rfl,kk _ G q2 _ H (.refl H) r.g (by unfold zM;rfl)⟩
theorem zOY(i:Nat)(k:zFQ X.K C)(hp:(e,oe)∈X.pn)(hc:oe.cls=.ref C)(hg:Gl X "isinstance")(hm:X.mg "isinstance"=none)(hg2:Gl X "ValueError")(hm2:X.mg "ValueError"=none)(hb:PySem.W.kitOne X.K (.ref C) (.type "ValueError")=some true)
  (hN:autoParam (X.N[i]?=some x) Zq4._auto_1) (hv:autoParam (Vis X.env.scope x) Zq5._auto_1) (hd:autoParam ((x==("__debug__":Str))=false) Zq2._auto_1) (hcd:autoParam ((x==("__classdict__":Str))=false) Zq2._auto_1) :
  E2 X (.Call (.Name "isinstance" p) [.Name x p1,.Name "ValueError" p2] [] pos) (zGE i e true):=by
 refine PE.mono (zAA (zGF (vc:=.ty "ValueError") k hp hc (fun u r=>r) hb) hg hm (by decide +kernel) (yP (zEw hN hv hd hcd) (yP (zC7 (v:=.ty "ValueError") hg2 hm2 (by decide +kernel) rfl) wz rfl) rfl)) ?_;rintro σ1 H Q ⟨σ,G,R,r,⟨q1,q2⟩,kk⟩;obtain⟨v,e1,e2⟩:=r.val i _ (zBE q1);unfold zM at e2;subst e2;exact⟨_,e1,rfl,kk _ G q2 _ H (.refl H) r.g (by unfold zM;rfl)⟩
set_option genInjectivity true in
inductive zAI (X:Cx) (is:List Nat):List Expr->Prop
 | nil:zAI X is []
 | con {c:Str} {j:Nat} {p:Pos} {r:List Expr} (h:c.length<=100) (t:zAI X is r):zAI X is (.Constant (.str c) j p::r)
 | fld {i:Nat} {x:Str} {p p2:Pos} {r:List Expr} (hi:i∈is) (h:PE X (.Name x p) (zOn i)) (t:zAI X is r):zAI X is (.FormattedValue (.Name x p) (-1) none p2::r)
theorem zK8(t:zAI X is r)(h:autoParam (c.length<=100) Zq2._auto_1):zAI X is (.Constant (.str c) j p::r):=.con h t
theorem zOZ(i:Nat)(t:zAI X is r)(hi:autoParam (i∈is) Zq2._auto_1)(hN:autoParam (X.N[i]?=some x) Zq4._auto_1)(hv:autoParam (Vis X.env.scope x) Zq5._auto_1)(hd:autoParam ((x==("__debug__":Str))=false) Zq2._auto_1)(hcd:autoParam ((x==("__classdict__":Str))=false) Zq2._auto_1) :
  zAI X is (.FormattedValue (.Name x p) (-1) none p2::r):=.fld hi (zEw hN hv hd hcd) t
theorem zJB:∀ n:Fin 100,(Str.ofString (toString ((n.val:Nat):Int))).length<=100:=by decide +kernel
theorem zDz{is:List Nat}{pins:List (Addr×Obj)}{σ1:L2.St}{H:Hp}(hs:∀ i∈is,∃ n:Nat,n<100/\σ1[i]?=some (some (.int n))){Qq:Str->Shared->Prop}(hq:∀ out s',L2.zP X pins σ1 H s'->out.length<=sizeLine->Qq out s') :
  ∀ {parts:List Expr},zAI X is parts->∀(acc:Str) (s:Shared),L2.zP X pins σ1 H s->acc.length+100*parts.length<=sizeLine->Joins (model X.prog X.w) X.A X.xe (evalEach parts X.env) acc Qq s
 | _,.nil,acc,s,I,hl=>hq acc s I (by simpa using hl)
 | _,.con (c:=c) (r:=r) h t,acc,s,I,hl=>by
  have hl':acc.length+100*(r.length+1)<=sizeLine:=by simpa using hl
  have e:(acc++c).length=acc.length+c.length:=Str.length_append _ _;refine wpAny_Constant_str ⟨c,_,rfl,by omega,zDz hs hq t _ _ (I.tok _) (by omega)⟩
 | _,.fld (i:=i) (r:=r) hi h t,acc,s,I,hl=>by
  have hl':acc.length+100*(r.length+1)<=sizeLine:=by simpa using hl
  obtain⟨n,hn,hv⟩:=hs i hi;refine wpAny_FormattedValue_plain (yq (h pins s σ1 H (fun v H'=>v=.int n/\H'=H) I ⟨_,hv,rfl,rfl⟩) fun u s1 hz=>?_);obtain⟨v,H',I1,rv,rfl,hH⟩:=hz;rw[hH] at I1;obtain⟨tk,rfl⟩:=rv;have hlen:=zJB ⟨n,hn⟩;dsimp only at hlen;have e:(acc++Str.ofString (toString (n:Int))).length=acc.length+(Str.ofString (toString (n:Int))).length:=Str.length_append _ _;refine wpAny_formatField_int ?_ ⟨_,_,rfl,by omega,zDz hs hq t _ _ (I1.tok _) (by omega)⟩;have:((n:Int)).natAbs=n:=by simp
  rw[this];have h2:Nat.log2 n<=n:=Nat.log2_le_self n;omega
noncomputable def xFs(is:List Nat):zi:=fun σ G R=>(∀ i∈is,∃ n:Nat,n<100/\look σ i=some (.int n))/\∀ x,R (.str x) G
theorem zOa(is:List Nat)(h:zAI X is (v1::v2::r))(hl:autoParam (100*(v1::v2::r).length<=sizeLine) Zq2._auto_1):E2 X (.JoinedStr (v1::v2::r) pos) (xFs is):=by
 intro pins s σ1 H Q I hq;obtain⟨σ,G,R,rr,⟨q1,q2⟩,kk⟩:=hq;refine wpAny_JoinedStr (zDz (fun i hi=>?_) (fun out s' I' ho=>?_) h Str.empty s I (by have:Str.empty.length=0:=rfl;omega))
 ·obtain⟨n,hn,hk⟩:=q1 i hi
  obtain⟨v,e1,e2⟩:=rr.val i _ (zBE hk);unfold zM at e2;subst e2;exact⟨n,hn,e1⟩
 ·exact⟨ho,.str out,H,I'.tok _,⟨_,rfl⟩,kk _ G (q2 out) _ H (.refl H) rr.g (by unfold zM;rfl)⟩
end
end L3
namespace L2
noncomputable def zOb:Value->Bool | .str _ _=>true | _=>false
noncomputable def zK9:Value->Bool | .int _ _=>true | _=>false
noncomputable def zPb:Value->Bool | .bool _=>true | _=>false
noncomputable def zOc(P:Addr):Option Value->Bool | some (.ref a)=>a==P | _=>false
noncomputable def zCY(K:PySem.W.Frag)(c P:Addr):Bool:=match K.lookup c with
 | some ⟨.type "code",_,.fields vs,_⟩=>zOc P vs[11]?&&zOb (vs.getD 18 .none)&&zK9 (vs.getD 7 .none)&&zPb (vs.getD 9 .none)&&zK9 (vs.getD 10 .none)&&!(c==P)
 | _=>false
theorem zEq{K:PySem.W.Frag}{c P:Addr}{h:Heap}(X:K.In h)(q:zCY K c P=true):PySem.W.CodeHd h c P/\isCodeTable h P:=by
 unfold zCY at q;split at q
 ·rename_i d vs sl heq
  simp only[fm,fL,beq_eq_false_iff_ne] at q;obtain⟨⟨⟨⟨⟨q1,q2⟩,q3⟩,q4⟩,q5⟩,q6⟩:=q;have h11:vs[11]?=some (.ref P):=by
   generalize vs[11]?=v at q1;cases v with
   | none=>cases q1
   | some v=>cases v<;>first | (have:=beq_iff_eq.mp (show(_==P)=true from q1);rw[this];done) | cases q1
  have hd:∀(b:Value->Bool) (v:Value),b v=true->b v=true:=fun u0 u0 z=>z;obtain⟨s,t,e18⟩:∃ s t,vs.getD 18 .none=.str s t:=by
   generalize vs.getD 18 .none=v at q2;cases v<;>first | exact⟨_,_,rfl⟩ | cases q2
  obtain⟨i,t2,e7⟩:∃ s t,vs.getD 7 .none=.int s t:=by
   generalize vs.getD 7 .none=v at q3;cases v<;>first | exact⟨_,_,rfl⟩ | cases q3
  obtain⟨b,e9⟩:∃ s,vs.getD 9 .none=.bool s:=by
   generalize vs.getD 9 .none=v at q4;cases v<;>first | exact⟨_,rfl⟩ | cases q4
  obtain⟨i2,t3,e10⟩:∃ s t,vs.getD 10 .none=.int s t:=by
   generalize vs.getD 10 .none=v at q5;cases v<;>first | exact⟨_,_,rfl⟩ | cases q5
  have g:=X _ _ heq;refine⟨⟨_,vs,s,t,i,t2,b,i2,t3,g,rfl,rfl,h11,?_,e18,e7,e9,e10,q6⟩,⟨c,_,vs,g,rfl,rfl,h11⟩⟩;rw[Array.getD_eq_getD_getElem?,h11];rfl
 ·cases q
theorem zLA{K:PySem.W.Frag}{x:Str}{c P f:Addr}{oc:Value}{od:Option Addr}{fd:FuncData}{sl:Array (Option Value)}(h:PySem.W.tabIn K x=some (c,P))(h1:PySem.W.nsIn K mainGlobals x=some (some (.ref f)))(h2:K.lookup f=some ⟨oc,od,.func fd,sl⟩):fd.code=.ref c:=by
 unfold PySem.W.tabIn at h;rw[h1] at h;dsimp only at h;rw[h2] at h;dsimp only at h;cases hc:fd.code<;>(rw[hc] at h;dsimp only at h)<;>try cases h
 rename_i c';split at h
 ·split at h
  ·cases h;rfl
  ·cases h
 ·cases h
structure zNC (K:PySem.W.Frag) (as ts:List Addr) (qn:Addr->Str):Prop where
 out:∀ P∈ts,P∉as
 code:∀ P∈ts,∃ c,zCY K c P=true
 name:∀ x∈zAm,∀ c b,PySem.W.tabIn K x=some (c,b)->b∈ts/\qn b=x++".<locals>.<lambda>"
theorem lookup_none{K:PySem.W.Frag}{P:Addr}(h:P∉K.map (·.1)):K.lookup P=none:=by
 induction K with
 | nil=>rfl
 | cons p r ih =>
  rw[eA,dN,not_or] at h;obtain⟨a,o⟩:=p;have hb:(P==a)=false:=by simpa using h.1
  rw[eh,hb];exact ih h.2
theorem zPc{K:PySem.W.Frag}{as ts:List Addr}{x:Str}(h:∃ c P,PySem.W.tabIn K x=some (c,P)/\zCY K c P=true/\ts=[P])(hy:∀ y∈zAm,y=x\/PySem.W.tabIn K y=none)(ho:∀ P∈ts,P∉as):∃ qn,zNC K as ts qn:=by
 obtain⟨c,P,h1,h2,rfl⟩:=h;refine⟨fun u0=>x++".<locals>.<lambda>",ho,fun P' hP=>?_,fun y hyy c' b e=>?_⟩
 ·rw[dt.mp hP];exact⟨c,h2⟩
 ·rcases hy y hyy with rfl | z
  ·rw[h1] at e;cases e;exact⟨dt.mpr rfl,rfl⟩
  ·rw[z] at e;cases e
theorem zJC{P':Program}{w:World}{K:PySem.W.Frag}{mg mb:Str->Option Value}{CX:CXT}{k:Nat}{fa a:Addr}{fd:FuncData}{x:Str}{sp:Sp}{s₁:Shared}{vs:List Value}{ns:List Int}{ts:List Addr}{qn:Addr->Str}
  (TB:TabsAt K s₁.heap ts qn) (KX:K.In s₁.heap) (hns:s₁.heap.Ns mainGlobals mg) (hb:s₁.heap.Ns builtinsNs mb) (hbb:∀ x:Str,x≠"__name__"->mb x=bootBuiltins x) (hlim:s₁.heap.NoLimit) (hg:s₁.gens=#[])
  (ha:s₁.heap.get? a=some { cls:=.type "list",data:=.seq vs.toArray }) (hi:IntsAre vs ns) (hl:ns.length<=sizeLine) (hr:yE k callerA)
  (hbm:BMn s₁.heap mg) (F:∀ base:Heap,K.In base->base.Ns mainGlobals mg->BMn base mg->zB1 P' w K mg base CX k fa fd [x] sp) (hbind:∀(s:Shared) (u:Value),BindsTo s fd ⟨[u],[]⟩ [(x,u)])
  (hsp:∀ H:Hp,zLi H->SqL K H a (ns.map V.int)->sp [.ref a] H (fun v u0=>v=.bl true) fun u0 u0 u0=>False)
  (hCX:∀ H e s',CX [] H s₁ (fun u0 u0 u0=>False) e s'->False) :
  codeAny (model P' w) callerA (.call (.ref fa) ⟨[.ref a],[]⟩) (fun r s'=>r=.ok (.ret (.bool true))/\OldK s₁.heap s'.heap/\s'.os=s₁.os/\AllBare s'.gens) s₁:=by
 have rv:=zEP hi;have lenV:=hi.length
 -- from an abstract heap in which nothing but the script may be tracked
 have core:∀ H:Hp,zLi H->SqL K H a (ns.map V.int)->HOk P' w H s₁.heap->(∀ b,H b≠none->b=a\/b∈ts)->(H a≠none->K.lookup a=none)->(∀ P∈ts,H P=some (.tbl #[.str (qn P) 0])) ->
   codeAny (model P' w) callerA (.call (.ref fa) ⟨[.ref a],[]⟩) (fun r s'=>r=.ok (.ret (.bool true))/\OldK s₁.heap s'.heap/\s'.os=s₁.os/\AllBare s'.gens) s₁:=by
  intro H hO hS hok hA hK hT;have base_of:∀ {b:Addr} {o:Obj},s₁.heap.get? b=some o->H b=none->(zD7 s₁.heap H).get? b=some o:=fun e n=>zJP e n;have noA:∀ {b:Addr} {o:Obj} {es:Array DictEntry} {ep:Nat},s₁.heap.get? b=some o->o.data=.dict es ep->H b=none:=fun {b o es ep} e d=>by
   cases q:H b with
   | none=>rfl
   | some u =>
    rcases hA b (by rw[q];simp) with e' | e'
    ·subst e'
     rw[ha] at e;cases e;have d':Data.seq vs.toArray _=Data.dict es ep:=d;cases d'
    ·rw[TB.obj b e'] at e;cases e
     have d':Data.fields #[]=Data.dict es ep:=d;cases d'
  have nsK:∀ {b:Addr} {m:Str->Option Value},s₁.heap.Ns b m->(zD7 s₁.heap H).Ns b m:=fun {b m} ⟨o,es,ep,e,d,r⟩=>⟨o,es,ep,base_of e (noA e d),d,r⟩
  have hKb:K.In (zD7 s₁.heap H):=fun b o e=>base_of (KX b o e) (by
   cases q:H b with
   | none=>rfl
   | some u =>
    rcases hA b (by rw[q];simp) with e' | e'
    ·subst e'
     rw[hK (by rw[q];simp)] at e;cases e
    ·rw[TB.out b e'] at e;cases e)
  have hM:Mod K mg (zD7 s₁.heap H):=⟨hKb,nsK hns,⟨mb,nsK hb,hbb⟩,let ⟨mc,h1,h2⟩:=hlim;⟨mc,nsK h1,h2⟩⟩
  have e0:zGV P' w K mg (zD7 s₁.heap H) callerA [] s₁ H:=⟨rfl,hM,fun b o e=>zLP e,Nat.le_of_eq (zH8 _ _),trivial,fun b hb=>absurd (show b∈([]:List Addr) from hb) (by simp),hok,.of_eq hg,fun x hx c b e=>by
   obtain⟨z1,z2⟩:=TB.name x hx c b e;exact⟨0,by rw[<-z2];exact hT b z1⟩⟩
  have hbm':BMn (zD7 s₁.heap H) mg:=by
   obtain⟨bm,o,b1,b2,b5,b6,b7,b8⟩:=hbm;refine⟨bm,o,b1,b2,base_of b5 ?_,b6,b7,b8⟩;cases q:H bm with
   | none=>rfl
   | some u =>
    rcases hA bm (by rw[q];simp) with e' | e'
    ·subst e'
     rw[ha] at b5;cases b5;cases b8
    ·rw[TB.obj bm e'] at b5;cases b5;cases b8
  refine fu ((F _ hKb (nsK hns) hbm').run callerA [] s₁ H ⟨[.ref a],[]⟩ [.ref a] [.ref a] _ _ hr e0 (hbind s₁ (.ref a)) (.cons rfl .nil) (hsp H hO hS)) fun r s' h=>?_;cases r with
  | error e=>exact(hCX H e s' h).elim
  | ok fl =>
   cases fl with
   | next=>exact False.elim h
   | brk=>exact False.elim h
   | cont=>exact False.elim h
   | ret u =>
    obtain⟨v,H',os,bare,un,hok',r',q⟩:=h;have q':v=.bl true:=q;subst q';obtain rfl:u=Value.bool true:=r';have K1:∀ b o,b∉ts->s₁.heap.get? b=some o->s'.heap.get? b=some o:=fun b o hb e=>by
     cases q:H b with
     | none=>exact un.keep b o e q (by intro z;exact absurd (show b∈([]:List Addr) from z) (by simp)) (by simp)
     | some u =>
      rcases hO b with z | ⟨ob,xs,z⟩ | ⟨ps,z⟩
      ·rw[q] at z;cases z
      ·have z2:=un.frzs b ob _ z
       obtain⟨e1,u0⟩:=hok b _ z;obtain⟨e2,u0⟩:=hok' b _ z2;rw[e] at e1;cases e1;exact e2
      ·rcases hA b (by rw[q];simp) with e' | e'
       ·obtain⟨u0,u0,u0,u0,w1,u0⟩:=hok b _ z
        rw[e',ha] at w1;cases w1
       ·exact absurd e' hb
    have K2:∀ b,b∈ts->∃ vs,s'.heap.get? b=some (PySem.W.tabObj vs):=fun b hb=>by
     have z2:=un.tbls b _ (hT b hb);obtain⟨u0,u0,vs,u0,w1,u0⟩:=hok' b _ z2;exact⟨vs,w1⟩
    refine⟨rfl,⟨fun b o e=>?_,fun b o e=>?_⟩,os,bare⟩
    ·by_cases hb:b∈ts
     ·obtain⟨vs,w1⟩:=K2 b hb
      rw[TB.obj b hb] at e;cases e;exact .inr (.inl ⟨TB.code b hb,rfl,#[],vs,rfl,by simpa using w1⟩)
     ·exact .inl (K1 b o hb e)
    ·by_cases hb:b∈ts
     ·obtain⟨vs,w1⟩:=K2 b hb
      exact⟨_,w1⟩
     ·exact⟨o,K1 b o hb e⟩
 have naT:∀ P∈ts,P≠a:=fun P hP z=>by
  have e:=TB.obj P hP;rw[z,ha] at e;cases e
 have tok:∀(H:Hp),∀ P∈ts,yY P' w H s₁.heap P (.tbl #[.str (qn P) 0]):=fun H P hP=>⟨qn P,0,#[],rfl,TB.obj P hP,trivial,fun pos cv e=>by cases e⟩
 cases hk:K.lookup a with
 | some o =>
  -- the script is one of the module's own objects
  have e:=KX a o hk;rw[ha] at e;cases e;refine core (fun b=>if b∈ts then some (.tbl #[.str (qn b) 0]) else none) (fun b=>?_) (.inr ⟨_,vs.toArray,_,hk,rfl,rfl,rfl,by rw[dD,lenV];exact hl,by simpa using rv⟩) (fun b u z=>?_) (fun b z=>?_) (fun z=>?_) fun P hP=>if_pos hP
  ·by_cases hb:b∈ts
   ·exact .inr (.inr ⟨_,if_pos hb⟩)
   ·exact .inl (if_neg hb)
  ·by_cases hb:b∈ts
   ·have z':=(if_pos hb).symm.trans z
    cases z';exact tok _ b hb
   ·have z':=(if_neg hb).symm.trans z
    cases z'
  ·by_cases hb:b∈ts
   ·exact .inr hb
   ·exact absurd (if_neg hb) z
  ·by_cases hb:a∈ts
   ·exact absurd rfl (naT a hb)
   ·exact absurd (if_neg hb) z
 | none =>
  refine core (fun b=>if b=a then some (.frz { cls:=.type "list",data:=.seq vs.toArray } (.lst (ns.map V.int))) else if b∈ts then some (.tbl #[.str (qn b) 0]) else none) (fun b=>?_) (.inl (.inr ⟨{ cls:=.type "list",data:=.seq vs.toArray },if_pos rfl⟩)) (fun b u z=>?_) (fun b z=>?_) (fun u0=>hk) fun P hP=>?_
  ·by_cases hb:b=a
   ·exact .inr (.inl ⟨_,_,if_pos hb⟩)
   ·by_cases hb2:b∈ts
    ·exact .inr (.inr ⟨_,(if_neg hb).trans (if_pos hb2)⟩)
    ·exact .inl ((if_neg hb).trans (if_neg hb2))
  ·by_cases hb:b=a
   ·have z':=(if_pos hb).symm.trans z
    cases z';subst hb;exact⟨ha,by rw[db];exact hl,vs,_,rv,ha⟩
   ·by_cases hb2:b∈ts
    ·have z':=((if_neg hb).trans (if_pos hb2)).symm.trans z
     cases z';exact tok _ b hb2
    ·have z':=((if_neg hb).trans (if_neg hb2)).symm.trans z
     cases z'
  ·by_cases hb:b=a
   ·exact .inl hb
   ·by_cases hb2:b∈ts
    ·exact .inr hb2
    ·exact absurd ((if_neg hb).trans (if_neg hb2)) z
  ·exact(if_neg (naT P hP)).trans (if_pos hP)
theorem zLB{l:PySem.W.OpenLaw}{n k:Nat}{q:Program}{loose:List Str}{XP:(Str->Option Value)->Heap->Prop}{YP:World->Heap->Prop}{d:DefRec}{K:Params->PySem.W.Frag}{CX:World->CXT}{sp:World->Sp}{x:Str}
  (hn:l.most=some n) (hn2:n<=sizeLine) (hdf:d.params.defaults=[]) (hr:yE k callerA)
  (hY:∀(w:World) (h:Heap),YP w h->(K w.params).In h/\∃ ts qn,TabsAt (K w.params) h ts qn)
  (F:∀(w:World) (mg:Str->Option Value) (fa:Addr) (h:Heap),(K w.params).In h->h.Ns mainGlobals mg->mg d.name=some (.ref fa) ->
   ∃ fd:FuncData,(∀(s:Shared) (u:Value),BindsTo s fd ⟨[u],[]⟩ [(x,u)]) /\
    ∀ base:Heap,(K w.params).In base->base.Ns mainGlobals mg->BMn base mg->zB1 l.prog w (K w.params) mg base (CX w) k fa fd [x] (sp w))
  (hsp:∀(w:World) (H:Hp) (a:Addr) (ns:List Int),ns.length<=n->zLi H->SqL (K w.params) H a (ns.map V.int)->sp w [.ref a] H (fun v u0=>v=.bl true) fun u0 u0 u0=>False)
  (hCX:∀(w:World) (H:Hp) (s:Shared) (e:Value) (s':Shared),CX w [] H s (fun u0 u0 u0=>False) e s'->False) :
  PySem.W.WalkO q loose XP YP l.row.toRowW d [] (fun f vs=>PySem.call f vs):=by
 refine Att.zFX hn hdf fun w s₀ s₁ mg mb fa o pm cd doc a vs ns G Y ho hd hcd hmg hobj hints hlen hg=>?_;obtain⟨KX,ts,qn,TB⟩:=hY w _ Y;obtain⟨fd,hb,hF⟩:=F w mg fa _ KX G.T.g hmg;exact zJC TB KX G.T.g G.T.b G.T.builtins G.T.nolimit hg hobj hints (eN hlen hn2) hr G.T.bmain hF hb (fun H hO hS=>hsp w H a ns hlen hO hS) fun H e s'=>hCX w H s₁ e s'
end L2
namespace L3
open L2
theorem zJD{l:PySem.W.OpenLaw}{k:Nat}{q:Program}{loose:List Str}{XP:(Str->Option Value)->Heap->Prop}{d:DefRec}{K:Params->PySem.W.Frag}{as:List Addr}{e:∀ P:Params,as=(K P).map (·.1)}{ts:List Addr}(hn:l.most=some 63)(hdf:d.params.defaults=[])(hr:yE k callerA)
  (hT:∀ w:World,∃ qn,zNC (K w.params) as ts qn)
  (F:∀(w:World) (mg:Str->Option Value) (fa:Addr) (h:Heap),(K w.params).In h->h.Ns mainGlobals mg->mg d.name=some (.ref fa) ->
   ∃ fd:FuncData,(∀(s:Shared) (u:Value),BindsTo s fd ⟨[u],[]⟩ [("script",u)])/\∀ base:Heap,(K w.params).In base->base.Ns mainGlobals mg->BMn base mg->zB1 l.prog w (K w.params) mg base CX0 k fa fd ["script"] (lSp (K w.params) zEX)) :
  PySem.W.WalkO q loose XP (PySem.W.kmHook K as e ts).says l.row.toRowW d [] (fun f vs=>PySem.call f vs) :=
 L2.zLB (K:=K) (n:=63) (k:=k) (x:="script") (CX:=fun u0=>CX0) (sp:=fun w=>lSp (K w.params) zEX) hn (by decide) hdf hr (fun w h Y=>⟨PySem.W.km_in_of Y,ts,by
  obtain⟨qn,t⟩:=hT w;have KX:=PySem.W.km_in_of Y;exact⟨qn,PySem.W.km_tabs_of Y,fun P hP=>lookup_none (by rw[<-e w.params];exact t.out P hP),fun P hP=>(zEq KX (t.code P hP).choose_spec).2,t.name⟩⟩) F (fun u0 H a ns hl hO hS=>zN6 hl hO hS) fun u0 u0 u0 u0 u0 z=>z
theorem zOd{P:Program}{w:World}{K:PySem.W.Frag}{mg:Str->Option Value}{base:Heap}{x qual:Str}{st:Stmt}{f:Addr}{fd:FuncData}{N ps:List Str}{k:Nat}{sp:Sp2}(t:yd)(F:Fun K x qual st f fd)(S:za N ps (zE st))
  (ht:∀(cdv:Value) (A:Around) (outer:List Env) (s:Shared) (H:Hp) (E:XK),fd.code=cdv->yE k (A.deeper (envOfC qual (zE st) s.heap.objs.size f cdv))->Ps2 (zBD CX0 P w K mg base N qual (zE st) f cdv A outer s H E).nox (zX st) t)
  (hs:∀ ds G R,sp ds G R->ds.length=ps.length/\t (zn R) (zV N ds) G):zB1 P w K mg base CX0 (k+1) f fd ps (lSp K sp):=by
 have F0:=F.ex;obtain⟨oc,od,kV,doc,pm,an,cdv,ct,osl,rfl,lk,hcd⟩:=F0;refine zMl lk hcd S ?_ ?_
 ·rintro vs H Q E ⟨ds,G,R,d,r,h,u0⟩
  rw[<-d.length];exact(hs ds G R h).1
 ·intro A outer s H vs Q E hr h
  obtain⟨ds,G,R,d,r,h,kk⟩:=h;refine⟨_,(ht cdv A outer s H E rfl hr).nox,zV N ds,G,_,zCi r d,(hs ds G R h).2,⟨?_,?_,?_,?_⟩⟩
  ·rintro σ G' ⟨G'',s',q'⟩ σ1 H' g' r'
   exact kk _ G'' q' _ H' g' (r'.g.sub s') (by unfold zM;rfl)
  ·intro σ G' h;exact h.elim
  ·intro σ G' h;exact h.elim
  ·rintro d' G' ⟨G'',s',q'⟩ v H' g' r' dv
   exact kk _ G'' q' _ H' g' (r'.sub s') dv
noncomputable def zMe(kind:Int)(cond:List D->Gp->(Gp->Prop)->Prop)(ta:yj):TL2:=fun σ G R=>ta σ G fun ds G2=>cond ds G2 fun G3=>R [.int kind] G3
noncomputable def zOe(osc sc:Scope):Bool:=decide (sc.kind=.function)&&!sc.isCoroutine&&!sc.isGenerator&&sc.names.all (fun y=>decide (y.2≠.cell))&&sc.names.all (fun y=>decide (y.2≠.local))&&sc.names.all (fun y=>decide (y.2=.free->osc.names.lookup y.1=some .cell\/osc.names.lookup y.1=some .free))
theorem zLC(h:zOe osc sc=true)(e:env.scope=osc):zH2 env sc:=by
 subst e;unfold zOe at h;simp only[fm,decide_eq_true_eq,gg,fL] at h;obtain⟨⟨⟨⟨⟨h1,h2⟩,h3⟩,h4⟩,h5⟩,h6⟩:=h;exact⟨h1,h2,h3,h4,h5,h6⟩
theorem zPd(h:zOe osc sc=true)(code:X.env.code=.ref c)(hd:PySem.W.CodeHd X.base c P)(blt:BMn X.base X.mg)(tab:PySem.W.tabIn X.K x=some (c,P))(mem:x∈zAm)(qual:X.env.qual++"<lambda>"=x++".<locals>.<lambda>")(df:defaultsOf params X.env=([],[]))
  (bd:∀(q:Str) (cl:List (Str×Addr)) (pm cv ctv:Value),bindArgs (PySem.W.kla_fn "<lambda>" q params body sc cl pm cv ctv) ⟨[],[]⟩=pure []) (e:autoParam (X.env.scope=osc) Zq4._auto_1):zK7 X x c P params body sc :=
 ⟨zLC h e,code,hd,blt,qual,mem,tab,df,bd⟩
theorem zPe{X:Cx}{st:Stmt}{f:Addr}{fd:FuncData}{N:List Str}{k:Nat}{C Cc c P:Addr}{kind:Int}{x:Str}{rest:List Stmt}{params:Arguments}{body:Expr}{sc:Scope}{cond:List D->Gp->(Gp->Prop)->Prop}{ta:yj}{trest:Addr->yd}{p lp pos:Pos}
  (F:Fun X.K "_law_refused" "_law_refused" st f fd) (S:za N ["call"] (zE st)) (hm:X.mg "_law_refused"=some (.ref f)) (hb:Binds X.K fd ["call"] []) (hr:yE (k+2) X.A) (hgl:Gl X "_law_refused") (B:zK6 st N rest)
  (hCc:X.mg "ChordError"=some (.ref Cc)) (hxm:PySem.W.exmOne X.K (.ref C) (.ref Cc)=some true)
  (hrest:∀(cdv:Value) (A:Around) (outer:List Env) (s:Shared) (H:Hp) (e:Addr) (oe:Obj),yE (k+1) (A.deeper (envOfC "_law_refused" (zE st) s.heap.objs.size f cdv))->oe.cls=.ref C->Ps2 (zI9 (zBD CX0 X.prog X.w X.K X.mg X.base N "_law_refused" (zE st) f cdv A outer s H E0).nox e oe) rest (trest e))
  (hres:∀(e:Addr) (G:Gp) (R:Q2),(∀ l,G.m l=none->R (.adr l) (zS G l [.int kind]))->trest e (zn R) ((dF N.length none).set 1 (some (.adr e))) G)
  (L:zK7 X x c P params body sc) (hlam:∀(g:Addr) (cv:Value) (A:Around) (outer:List Env) (s:Shared) (H:Hp),yE k (A.deeper (zDy sc (zAo sc X.env) (x++".<locals>.<lambda>") g cv s.heap.objs.size))->Xe (zI7 X sc (x++".<locals>.<lambda>") g cv A outer s H) C body (fun E σ G=>ta σ G fun ds G2=>cond ds G2 E)) :
  F2 X (.Call (.Name "_law_refused" p) [.Lambda params body sc lp] [] pos) (zMe kind cond ta) :=
 zJA (t:=fun E σ G=>ta σ G fun ds G2=>cond ds G2 E) F S hm hb hr hgl B hCc hxm hrest hres L hlam
end L3
namespace K
open L2 L3
noncomputable def zAj(ex:Addr)(bv bN bw bF bx:Bool):yd:=(zU (zk (zj (yk (zA (zGE 1 ex bv) (zA (zGE 1 ex bN) (zA (zGE 1 ex bw) zI))))) (gN 3)) (zU (zk (zj (zCw (zB 3) (zj (yk (zA (zGE 1 ex bF) (zA (zGE 1 ex bx) zI)))))) (gN 3)) (zU (xIf (zA7 (xB (zGE 1 ex true))) (zy (xC .non)) yH) (zy (zj (yV (iR1 (zA (xC (.int 5)) zI)) bd1 (xB (zY yr (zB 3) (zB 4))) (zB 4)))))))
theorem zQI{σ:S2}{G:Gp}{ta tb:zi}{R:List D->Gp->Prop}(h:ta σ G fun x G1=>tb σ G1 fun y G2=>match x,y with | D.adr l,D.adr m=>∃ xs ys,G2.m l=some xs/\G2.m m=some ys/\xs.length+ys.length<=1000000/\R (xs++ys) G2 | _,_=>False):zCw ta tb σ G R:=h
theorem zOf(h:yC t σ G (.adr l))(h':yC u σ G (.int k))(hl:Ls G l ds)(e:atI ds k=some d):yC (zY yr t u) σ G d:=zAE h h' fun G2 e2 R q=>⟨ds,d,e2.ls hl,e,q⟩
theorem zLD(h:Sub G G'):Sub (zS G l ds) (zS G' l ds):=⟨fun a o e=>by
 by_cases ha:a=l
 ·subst ha;rw[zG] at e ⊢;exact e
 ·rw[zT ha] at e ⊢;exact h.m a o e,fun a o e=>h.ro a o e,fun a o e=>h.dc a o e⟩
theorem zLE(h:Sub G G')(n:G'.m x=none):G.m x=none:=by
 cases q:G.m x with
 | none=>rfl
 | some o=>rw[h.m x o q] at n;cases n
theorem zLF(h:PuL tl σ G ds)(h':∀ l,G.m l=none->u E (σ.set i (some (.adr l))) (zS G l ds)):zU (zk (zj tl) (gN i)) u E σ G:=h G (.refl G) _ h'
theorem zLG(h:tl σ G fun ds G'=>∀ l,G'.m l=none->u E (σ.set i (some (.adr l))) (zS G' l ds)):zU (zk (zj tl) (gN i)) u E σ G:=h
theorem zPf{i:Nat}{σ:S2}{G:Gp}{R:Q2}{d:D}(h:look σ i=some d)(h':R d G):zB i σ G R:=by unfold zB;rw[h];exact h'
theorem zG7(h:xIf tc t u { E with nx:=v E } σ G):zU (xIf tc t u) v E σ G:=h
theorem zLH(h:PuL tl σ G ds)(h':∀ l,G.m l=none->E.rt (.adr l) (zS G l ds)):zy (zj tl) E σ G:=h G (.refl G) _ h'
noncomputable def zPg(bs:List Bool):D->Bool | .int k=>bs.getD k.toNat false | _=>false
theorem zJE(hks:((yM 0 5).filter (zPg [b0,b1,b2,b3,b4])).map id=ks)(h:∀ l,G.m l=none->R (.adr l) (zS G l ks)) :
  zAj e b0 b1 b2 b3 b4 (zn R) ((dF 4 none).set 1 (some (.adr e))) G:=by
 unfold zAj;refine zLF (ds:=[.bl b0,.bl b1,.bl b2]) (fun G2 e2 R2 q=>⟨rfl,rfl,rfl,(show 3<=sizeLine by decide),q⟩) fun l1 n1=>?_;show zU _ _ _ [none,some (.adr e),none,some (.adr l1)] (zS G l1 [.bl b0,.bl b1,.bl b2]);refine zLG (zQI (zPf (d:=.adr l1) rfl ?_));refine zBm (ds:=[.bl b3,.bl b4]) (fun G2 e2 R2 q=>⟨rfl,rfl,(show 2<=sizeLine by decide),q⟩) fun l2 n2=>?_;have n12:l1≠l2:=fun z=>by rw[<-z,zG] at n2;cases n2
 refine⟨[.bl b0,.bl b1,.bl b2],[.bl b3,.bl b4],by rw[zT n12];exact zG,zG,(show 3+2<=1000000 by decide),fun l3 n3=>?_⟩;show zU _ _ _ [none,some (.adr e),none,some (.adr l3)] _;generalize hG3:zS (zS (zS G l1 [.bl b0,.bl b1,.bl b2]) l2 [.bl b3,.bl b4]) l3 ([.bl b0,.bl b1,.bl b2]++[.bl b3,.bl b4])=G3;have hs:Sub G G3:=by rw[<-hG3];exact((Sub.new n1).trans (.new n2)).trans (.new n3)
 have hl:Ls G3 l3 [.bl b0,.bl b1,.bl b2,.bl b3,.bl b4]:=by rw[<-hG3];exact .own
 refine zG7 (zCJ (zE1 (b:=true) (zAM fun G2 e2 R2 q=>⟨rfl,q⟩)) ?_);show zy (zj (yV (iR1 (zA (xC (.int 5)) zI)) bd1 (xB (zY yr (zB 3) (zB 4))) (zB 4))) (zn R) [none,some (.adr e),none,some (.adr l3)] G3;refine zLH (ds:=ks) ?_ fun l4 n4=>⟨zS G l4 ks,zLD hs,h l4 (zLE hs n4)⟩
 rw[<-hks];refine zCA (zPg [b0,b1,b2,b3,b4]) id (fun x=>[x]) (zBU (j:=5) (zF wZ zR) (by decide)) fun x hx=>⟨rfl,zAM ?_,fun u0=>zH rfl⟩
 obtain⟨k,hk,rfl⟩:=dL.mp hx;have hk5:k<5:=eS.mp hk;refine zOf (l:=l3) (zH rfl) (zH rfl) hl ?_
 match k,hk5 with
 | 0,_=>rfl
 | 1,_=>rfl
 | 2,_=>rfl
 | 3,_=>rfl
 | 4,_=>rfl
theorem zGH(e:Addr)(G:Gp)(R:Q2)(h:∀ l,G.m l=none->R (.adr l) (zS G l [.int 0])):zAj e true false false false false (zn R) ((dF 4 none).set 1 (some (.adr e))) G:=zJE rfl h
theorem zPh(h:yC te σ G d)(h':E.rt d G):zy te E σ G:=h G (.refl G) _ h'
theorem zQJ{σ:S2}{G:Gp}{ta tb:zi}{f:D->D->Gp->Q2->Prop}{R:Q2}(h:ta σ G fun x G1=>tb σ G1 fun y G2=>f x y G2 R):zY f ta tb σ G R:=h
theorem zPi{σ:S2}{G:Gp}{kind:Int}{cond:List D->Gp->(Gp->Prop)->Prop}{ta:yj}{ds:List D}{R:Q2}(h:PuA ta σ G ds)(h':∀ E:Gp->Prop,E G->cond ds G E)(h2:∀ l,G.m l=none->R (.adr l) (zS G l [.int kind])):zj (zMe kind cond ta) σ G R:=h G (.refl G) _ (h' _ h2)
theorem zOg{σ:S2}{G:Gp}{k:Int}{cond:List D->Gp->(Gp->Prop)->Prop}{ta:yj}{ds:List D}{ng:Bool}{R:Q2}(h:PuA ta σ G ds)(h':∀ E:Gp->Prop,E G->cond ds G E)(h2:∀ G',Sub G G'->R (.bl (!ng)) G'):zY (fEq ng) (zj (zMe k cond ta)) (zj (yk (zA (xC (.int k)) zI))) σ G R:=by
 refine zQJ (zPi h h' fun l1 n1=>zBm (ds:=[.int k]) (fun G2 e R q=>⟨(show 1<=sizeLine by decide),q⟩) fun l2 n2=>?_);have n12:l1≠l2:=fun z=>by rw[<-z,zG] at n2;cases n2
 have e:eqDs [.int k] [.int k]=true:=by
  simp[eqDs,wN]
 refine⟨[.int k],[.int k],.inl (by rw[zT n12];exact zG),.own,?_,?_,?_⟩
 ·intro d hd;rw[dt.mp hd];rfl
 ·intro d hd;rw[dt.mp hd];rfl
 ·rw[e]
  have:(if ng=true then !true else true)=!ng:=by cases ng<;>rfl
  rw[this];exact h2 _ ((Sub.new n1).trans (.new n2))
noncomputable def yh:Sp2:=fun ds G R=>∃ a b:Nat,ds=[nD a,nD b]/\a<=b/\R .non G
noncomputable def yF:List D->Gp->(Gp->Prop)->Prop:=fun ds G E=>∃ a b:Nat,ds=[nD a,nD b]/\b<a/\b<100/\E G
noncomputable def wY:yd:=(xIf (xB (zY (fII fun i j=>.bl (decide (j<i))) (zB 0) (zB 1))) (fun u0 u0 u0=>False) yH)
noncomputable def wL:(Gp->Prop)->S2->Gp->Prop:=(fun E σ G=>(xB (zY (fII fun i j=>.bl (decide (j<i))) (zB 0) (zB 1))) σ G fun b G2=>b=true/\(fun E σ G=>(xFs [1]) σ G fun u0 G2=>E G2) E σ G2)
theorem zLI(h:yC t σ G (nD a))(h':yC u σ G (nD b))(e:decide (b<a)=c):yC (zY (fII fun i j=>.bl (decide (j<i))) t u) σ G (.bl c):=by
 have:=zMy (g:=fun i j=>.bl (decide (j<i))) h h';have e2:decide ((b:Int)<(a:Int))=c:=by rw[<-e];simp
 rw[e2] at this;exact this
theorem zEE(ds:List D)(G:Gp)(R:Q2)(h:yh ds G R):ds.length=2/\wY (zn R) (zV ["many","most"] ds) G:=by
 obtain⟨a,b,rfl,hab,h⟩:=h;refine⟨rfl,?_⟩;unfold wY;exact zCJ (σ:=[some (nD a),some (nD b)]) (zAM (zLI (a:=a) (b:=b) (zH rfl) (zH rfl) (by simp;omega))) (FgR.of h)
theorem zD0(ds:List D)(G:Gp)(E:Gp->Prop)(h:yF ds G E):ds.length=2/\wL E (zV ["many","most"] ds) G:=by
 obtain⟨a,b,rfl,hab,hb,h⟩:=h;refine⟨rfl,?_⟩;unfold wL;refine(zAM (zLI (σ:=[some (nD a),some (nD b)]) (G:=G) (a:=a) (b:=b) (c:=true) (zH (i:=0) rfl) (zH (i:=1) rfl) (by simp;omega))) G (.refl G) _ ⟨rfl,fun k hk=>?_,fun x=>h⟩;rw[dt.mp hk];exact⟨b,hb,rfl⟩
theorem zPj(h:yC te σ G d)(h':u E σ G):zU (ye te) u E σ G:=h G (.refl G) _ h'
theorem zFS(h:yw wi g tb { E with nx:=u E } σ G):zU (yw wi g tb) u E σ G:=h
theorem zPk(h:te σ G fun u0 G1=>E.nx σ G1):ye te E σ G:=h
theorem zND{σ:S2}{G:Gp}{to:zi}{t:yj}{R:Q2}{l:Addr}{xs:List D}(ho:yC to σ G (.adr l))(h:G.m l=some xs)(ht:t σ G fun ds G2=>match ds with | [d]=>∃ ys,G2.m l=some ys/\ys.length<=1000000/\R .non (zS G2 l (ys++[d])) | _=>False):zB8 to t σ G R:=by
 refine ho G (.refl G) _ ?_;show match G.m l with | some _=>_ | none=>_
 rw[h];have:∀(ds:List D) (G2:Gp),(match ds with | [d]=>∃ ys,G2.m l=some ys/\ys.length<=1000000/\R .non (zS G2 l (ys++[d])) | _=>False)=(match ds with | [d]=>(match G2.m l with | some xs=>xs.length<=1000000/\R .non (zS G2 l (xs++[d])) | none=>False) | _=>False):=fun ds G2=>by
  split
  ·rename_i d
   cases q:G2.m l with
   | none=>simp
   | some ys=>simp
  ·rfl
 simp only[this] at ht;exact ht
end K
namespace HZ
noncomputable abbrev zu1(h:Heap)(p:Addr):Heap:=h.push { cls:=.type "list_iterator",data:=.fields #[.ref p,.int 0 0] }
noncomputable abbrev zu2(h:Heap)(p q:Addr):Heap:=(zu1 h p).push { cls:=.type "list_iterator",data:=.fields #[.ref q,.int 0 0] }
noncomputable abbrev zu3(h:Heap)(p q:Addr):Heap:=(zu2 h p q).push { cls:=.type "tuple",data:=.seq #[.ref h.objs.size,.ref (zu1 h p).objs.size] }
noncomputable abbrev zu4(h:Heap)(p q:Addr):Heap:=(zu3 h p q).push { cls:=.type "tuple",data:=.seq #[.none,.none] }
noncomputable abbrev zu5(h:Heap)(p q:Addr):Heap:=(zu4 h p q).push { cls:=.type "zip",data:=.fields #[.none,.bool false,.bool false,.ref (zu2 h p q).objs.size,.ref (zu3 h p q).objs.size] }
theorem zG8(p q:Addr)(xs ys:Array Value) :
  Meets (Builtin.«zip.__new__» ⟨[.type "zip",.ref p,.ref q],[]⟩) (fun u0 R s=>s.heap.IsList p xs/\s.heap.IsList q ys/\R (.ok (.ret (.ref (zu4 s.heap p q).objs.size))) { s with heap:=zu5 s.heap p q }) :=
 .of_wp fun prog w A R s h=>by
  obtain⟨hp,g,d,tk,os⟩:=s;obtain⟨hl1,hl2,h⟩:=h;have hsub:=sub_zip;have w1:Heap.IsList (Shared.heap ⟨hp,g,d,tk,os⟩) p xs:=hl1;have w2:Heap.IsList (Shared.heap ⟨hp.push { cls:=.type "list_iterator",data:=.fields #[.ref p,.int 0 0] },g,d,tk,os⟩) q ys:=Heap.IsList.at hl2 fun o e=>cP _ e
  wp_walk using wpAny_pyIter_list w1,wpAny_pyIter_list w2
  exact⟨_,rfl,h⟩
theorem zJF{prog:Program}{w:World}{A:Around}{E:Value->Shared->Prop}{s:Shared}{p q:Addr}{xs ys:Array Value}{Q:Value->Shared->Prop}(hl1:s.heap.IsList p xs)(hl2:s.heap.IsList q ys)
  (h:∀ h',IsZip h' (s.heap.objs.size+4) (s.heap.objs.size+2) (s.heap.objs.size+3) .none->IsPair h' (s.heap.objs.size+2) (.ref s.heap.objs.size) (.ref (s.heap.objs.size+1)) ->
   IsPair h' (s.heap.objs.size+3) .none .none->h'.IsListIter s.heap.objs.size p 0->h'.IsListIter (s.heap.objs.size+1) q 0->h'.objs.size=s.heap.objs.size+5 ->
   (∀ c o,s.heap.get? c=some o->h'.get? c=some o)->Q (.ref (s.heap.objs.size+4)) { s with heap:=h' }) :
  wpAny (model prog w) A (call (.type "zip") [.ref p,.ref q]) Q E s:=by
 refine callType_new F.called_zip (by decide) (F.typeCall_zip_2 _ _) (F.newCall_zip_2 _ _) (fun obj=>F.args_object_init_3 obj _ _) F.entry_zip_new (zG8 p q xs ys) ⟨hl1,hl2,?_⟩;have z1:(zu1 s.heap p).objs.size=s.heap.objs.size+1:=eE ..;have z2:(zu2 s.heap p q).objs.size=s.heap.objs.size+2:=by rw[eE,z1]
 have z3:(zu3 s.heap p q).objs.size=s.heap.objs.size+3:=by rw[eE,z2]
 have z4:(zu4 s.heap p q).objs.size=s.heap.objs.size+4:=by rw[eE,z3]
 have z5:(zu5 s.heap p q).objs.size=s.heap.objs.size+5:=by rw[eE,z4]
 have g5:(zu5 s.heap p q).get? (zu4 s.heap p q).objs.size=some _:=d9 _ rfl;have g4:(zu5 s.heap p q).get? (zu3 s.heap p q).objs.size=some _:=cP _ (d9 _ rfl);have g3:(zu5 s.heap p q).get? (zu2 s.heap p q).objs.size=some _:=cP _ (cP _ (d9 _ rfl));have g2:(zu5 s.heap p q).get? (zu1 s.heap p).objs.size=some _:=cP _ (cP _ (cP _ (d9 _ rfl)));have g1:(zu5 s.heap p q).get? s.heap.objs.size=some _:=cP _ (cP _ (cP _ (cP _ (d9 _ rfl))));show _/\_;rw[z2,z3,z4] at g5;rw[z1,z2] at g3;rw[z3] at g4;rw[z1] at g2;rw[z4];exact⟨⟨_,g5,rfl⟩,h _ g5 g3 g4 ⟨_,g1,rfl,rfl⟩ ⟨_,g2,rfl,rfl⟩ z5 fun c o x=>cP _ (cP _ (cP _ (cP _ (cP _ x))))⟩
end HZ
namespace L2
open HZ
noncomputable def zOh(K:PySem.W.Frag)(a b:Addr):It :=
  ⟨fun i H=>∃ xs ys x y,SqL K H a xs/\SqL K H b ys/\xs[i]?=some x/\ys[i]?=some y,
   fun i H v H'=>∃ t,v=.ref t/\H t=none/\∃ x y,(∀ xs,SqL K H a xs->xs[i]?=some x)/\(∀ ys,SqL K H b ys->ys[i]?=some y)/\H'=yT H t (.tup [x,y]),
   fun i H=>∃ xs ys,SqL K H a xs/\SqL K H b ys/\(xs.length<=i\/ys.length<=i)⟩
theorem zJG{P:Program}{w:World}{K:PySem.W.Frag}{es:List Expr}{kk:Nat}{pt:Pos}{z a b i1 i2 l m:Addr}(D:Ap z a b i1 i2 l m) :
  Turn P w K (.Tuple es kk pt) (zOh K l m) [z,a,b,i1,i2] z (fun i h=>IsZip h z a b .none/\IsPair h a (.ref i1) (.ref i2)/\(∃ u v,IsPair h b u v)/\h.IsListIter i1 l i/\h.IsListIter i2 m i) where
 mem:=by simp
 obj:=fun i h st c hc=>by
  obtain⟨h1,h2,⟨u,v,h3⟩,h4,h5⟩:=st;simp only[dN,eO,or_false] at hc;rcases hc with rfl | rfl | rfl | rfl | rfl
  ·exact⟨_,h1,fun v q=>by cases q⟩
  ·exact⟨_,h2,fun v q=>by cases q⟩
  ·exact⟨_,h3,fun v q=>by cases q⟩
  ·obtain⟨o,e,c,d⟩:=h4;exact⟨o,e,fun v q=>by rw[d] at q;cases q⟩
  ·obtain⟨o,e,c,d⟩:=h5;exact⟨o,e,fun v q=>by rw[d] at q;cases q⟩
 keep:=fun i h h' st k=>by
  obtain⟨h1,h2,⟨u,v,h3⟩,h4,h5⟩:=st;exact⟨k z (by simp) _ h1,k a (by simp) _ h2,⟨u,v,k b (by simp) _ h3⟩,h4.at fun o e=>k i1 (by simp) o e,h5.at fun o e=>k i2 (by simp) o e⟩
 item:=by
  intro X hP hw hK hc i pins s σ H E I hf st hg;subst hP hw hK;obtain⟨xs,ys,x,y,q1,q2,hx,hy⟩:=hg;obtain⟨its1,rv1,p1,hz1⟩:=I.list q1;obtain⟨its2,rv2,p2,hz2⟩:=I.list q2;obtain⟨u1,hu1,ru1⟩:=rv1.get hx;obtain⟨u2,hu2,ru2⟩:=rv2.get hy;obtain⟨h1,h2,⟨u,v,h3⟩,h4,h5⟩:=st;have fl:∀ c∈[z,a,b,i1,i2],c<s.heap.objs.size:=fun c hc=>by
   simp only[dN,eO,or_false] at hc;rcases hc with rfl | rfl | rfl | rfl | rfl
   ·exact d7 h1
   ·exact d7 h2
   ·exact d7 h3
   ·obtain⟨o,e,u0⟩:=h4;exact d7 e
   ·obtain⟨o,e,u0⟩:=h5;exact d7 e
  have hfr:H s.heap.objs.size=none:=I.hok.fresh (da _);refine zHZ (zHY X.prog X.w i1 l its1.toArray) (zHY X.prog X.w i2 m its2.toArray) D h1 h2 h3 h4 h5 (show s.heap.IsList l its1.toArray from p1.isList) (show s.heap.IsList m its2.toArray from p2.isList) (x:=u1) (y:=u2) (by simpa using hu1) (by simpa using hu2) fun h' a1 a2 a3 a4 a5 a6 a7=>?_;refine⟨_,rfl,wpAny_letOwnedTupleGo_zip (s:={ s with heap:=h' }) a1 fun h'' z1 sb=>?_⟩;have nT:∀ c∈[z,a,b,i1,i2],c≠s.heap.objs.size:=fun c hc e=>absurd (fl c hc) (by rw[e];exact fb _);have I1:zP X pins σ (yT H s.heap.objs.size (.tup [x,y])) { s with heap:=s.heap.push { cls:=.type "tuple",data:=.seq #[u1,u2] },toks:=s.toks } :=
   I.laid (t':=s.toks) (fun b u e=>cP _ e) (da _) ⟨by show 2<=sizeLine;decide,[u1,u2],.cons ru1 (.cons ru2 .nil),zDI.new _ _⟩
  have hf':∀ c∈[z,a,b,i1,i2],zBf X pins (yT H s.heap.objs.size (.tup [x,y])) c:=fun c hc=>by
   obtain⟨f0,f1⟩:=hf c hc;exact⟨by rw[zc (nT c hc)];exact f0,f1⟩
  have I2:zP X pins σ (yT H s.heap.objs.size (.tup [x,y])) { s with heap:=h'' }:=by
   refine I1.turnedL (t':=s.toks) (h':=h'') (fun c o hc e=>?_) hf';have cz:c≠z:=fun q=>hc (by simp[q]);refine sb.extBut _ _ cz ?_;by_cases hT:c=s.heap.objs.size
   ·subst hT
    have e':(s.heap.push { cls:=.type "tuple",data:=.seq #[u1,u2] }).get? s.heap.objs.size=some o:=e;rw[d9 _ rfl] at e';cases e';exact a5
   ·have e':(s.heap.push { cls:=.type "tuple",data:=.seq #[u1,u2] }).get? c=some o:=e
    have:s.heap.get? c=some o:=by rw[Heap.get?_push_ne _ _ _ hT] at e';exact e'
    exact a7 c o cz (fun q=>hc (by simp[q])) (fun q=>hc (by simp[q])) (fun q=>hc (by simp[q])) this
  refine⟨.ref s.heap.objs.size,_,I2,rfl,⟨s.heap.objs.size,rfl,hfr,x,y,fun zs hzs=>by rw[I.list_inj hzs q1];exact hx,fun zs hzs=>by rw[I.list_inj hzs q2];exact hy,rfl⟩,?_,fun c hc=>(hf' c hc).1⟩;refine⟨z1,sb.extBut _ _ D.az (a7 _ _ D.az D.ab D.ai D.aj h2),⟨_,_,sb.extBut _ _ D.bz a2⟩,Heap.IsListIter.at a3 fun o e=>sb.extBut _ _ D.iz e,Heap.IsListIter.at a4 fun o e=>sb.extBut _ _ D.jz e⟩
 done:=by
  intro X hP hw hK hc i pins s σ H E I hf st hg;subst hP hw hK;obtain⟨xs,ys,q1,q2,hx⟩:=hg;obtain⟨its1,rv1,p1,hz1⟩:=I.list q1;obtain⟨its2,rv2,p2,hz2⟩:=I.list q2;obtain⟨h1,h2,⟨u,v,h3⟩,h4,h5⟩:=st;have l1:=rv1.length;have l2:=rv2.length;refine zKF (zHY X.prog X.w i1 l its1.toArray) (zHY X.prog X.w i2 m its2.toArray) (I.ok.hd hc) D h1 h2 h3 h4 h5 (show s.heap.IsList l its1.toArray from p1.isList) (show s.heap.IsList m its2.toArray from p2.isList) (by
   rcases hx with h | h
   ·left;simp;omega
   ·right;simp;omega) fun h' hk=>⟨rfl,I.turnedL (t':=s.toks) (fun c o hc e=>hk c o (fun q=>hc (by simp[q])) (fun q=>hc (by simp[q])) (fun q=>hc (by simp[q])) (fun q=>hc (by simp[q])) e) hf⟩
 self:=fun u0 u0 u0 u0 u0 st h=>wpAny_pyIter_zip st.1 h
noncomputable def zQK(K:PySem.W.Frag)(ta:TA):TI:=fun σ H R=>ta σ H fun vs H1=>∃ a b xs ys,vs=[.ref a,.ref b]/\((SqT K H1 a xs/\SqT K H1 b ys/\(xs.length<=sizeLine->R (Itz K a b) H1))\/(SqL K H1 a xs/\SqL K H1 b ys/\(xs.length<=sizeLine->R (zOh K a b) H1)))
theorem zMf(hg:Gl X "zip")(hm:X.mg "zip"=none)(ha:PA X [a,b] ta)(hs:autoParam (starEach [a,b] X.env=[(false,eval a X.env),(false,eval b X.env)]) Zq4._auto_1)(hs2:autoParam (starEach [b] X.env=[(false,eval b X.env)]) Zq4._auto_1) :
  PI X (.Tuple es kk pt) (.Call (.Name "zip" p) [a,b] [] pos) (zQK X.K ta):=by
 intro pins s σ H R I h;refine Call_ (zAX I hg hm boot_zip (PyProof.Rows.callWith_type1 (yq (ha pos pins s σ H _ I h) fun us s1 ⟨vs,H1,I1,r1,q1⟩=>?_) (by rw[hs,hs2]) (by rw[hs2];rfl)));obtain⟨a1,b1,xs,ys,e,q⟩:=q1;subst e;cases r1 with
 | cons r rr =>
  cases rr with
  | cons r' rr =>
   cases rr;cases r;cases r';rcases q with ⟨q1,q2,q⟩ | ⟨q1,q2,q⟩
   ·obtain⟨its1,rv1,p1,hz1⟩:=I1.tuple q1
    obtain⟨its2,rv2,p2,hz2⟩:=I1.tuple q2;have lt1:=p1.lt;have lt2:=p2.lt;refine zIb (show s1.heap.IsTuple a1 its1.toArray from p1) (show s1.heap.IsTuple b1 its2.toArray from p2) fun h' z1 z2 z3 z4 z5 z6 z7=>?_;refine wpAny_pyIter_zip z1 ⟨_,[s1.heap.objs.size+4,s1.heap.objs.size+2,s1.heap.objs.size+3,s1.heap.objs.size,s1.heap.objs.size+1],_,_,H1,rfl,I1.kept (t':=s1.toks) z7,zIc (z:=s1.heap.objs.size+4) (a:=s1.heap.objs.size+2) (b:=s1.heap.objs.size+3) (i1:=s1.heap.objs.size) (i2:=s1.heap.objs.size+1) (l:=a1) (m:=b1) ?_,⟨z1,z2,⟨_,_,z3⟩,z4,z5⟩,fun c hc=>?_,q hz1⟩
    ·exact zKG lt1 lt2
    ·have:s1.heap.objs.size<=c:=by
      simp only[dN,eO,or_false] at hc;rcases hc with e | e | e | e | e<;>(rw[e];first | exact Nat.le_add_right _ _ | exact da _)
     exact I1.fpOk this (I1.hok.fresh this)
   ·obtain⟨its1,rv1,p1,hz1⟩:=I1.list q1
    obtain⟨its2,rv2,p2,hz2⟩:=I1.list q2;have lt1:a1<s1.heap.objs.size:=by obtain⟨o,e,u0⟩:=p1.isList;exact d7 e
    have lt2:b1<s1.heap.objs.size:=by obtain⟨o,e,u0⟩:=p2.isList;exact d7 e
    refine zJF (show s1.heap.IsList a1 its1.toArray from p1.isList) (show s1.heap.IsList b1 its2.toArray from p2.isList) fun h' z1 z2 z3 z4 z5 z6 z7=>?_;refine wpAny_pyIter_zip z1 ⟨_,[s1.heap.objs.size+4,s1.heap.objs.size+2,s1.heap.objs.size+3,s1.heap.objs.size,s1.heap.objs.size+1],_,_,H1,rfl,I1.kept (t':=s1.toks) z7,zJG (z:=s1.heap.objs.size+4) (a:=s1.heap.objs.size+2) (b:=s1.heap.objs.size+3) (i1:=s1.heap.objs.size) (i2:=s1.heap.objs.size+1) (l:=a1) (m:=b1) ?_,⟨z1,z2,⟨_,_,z3⟩,z4,z5⟩,fun c hc=>?_,q hz1⟩
    ·exact zKG lt1 lt2
    ·have:s1.heap.objs.size<=c:=by
      simp only[dN,eO,or_false] at hc;rcases hc with e | e | e | e | e<;>(rw[e];first | exact Nat.le_add_right _ _ | exact da _)
     exact I1.fpOk this (I1.hok.fresh this)
end L2
namespace L3
open L2
theorem zJH{K:PySem.W.Frag}{H0:Hp}{a b:Addr}{ds es:List D}:Walk K H0 ((ds.zip es).map fun p=>D.tup [p.1,p.2]) (fun G=>Ls G a ds/\Ls G b es) (zOh K a b) where
 go:=fun i G H q r g hi=>by
  obtain⟨xs,h1,h2⟩:=r.sq q.1;obtain⟨ys,h3,h4⟩:=r.sq q.2;have hl:i<xs.length/\i<ys.length:=by rw[db,ii] at hi;rw[<-h2.length,<-h4.length];omega
  exact⟨xs,ys,xs[i]'hl.1,ys[i]'hl.2,h1,h3,by simp,by simp⟩
 stop:=fun G H q r g=>by
  obtain⟨xs,h1,h2⟩:=r.sq q.1;obtain⟨ys,h3,h4⟩:=r.sq q.2;exact⟨xs,ys,h1,h3,by rw[<-h2.length,<-h4.length,db,ii];omega⟩
 yld:=fun i G H x H' q r g hi y=>by
  obtain⟨xs,h1,h2⟩:=r.sq q.1;obtain⟨ys,h3,h4⟩:=r.sq q.2;obtain⟨t,rfl,hn,u,v,y1,y2,rfl⟩:=y;obtain⟨d1,e1,e2⟩:=h2.got (y1 xs h1);obtain⟨d2,e3,e4⟩:=h4.got (y2 ys h3);have gr:zd H (yT H t (.tup [u,v])):=.fresh hn;refine⟨gr,r.fresh hn,D.tup [d1,d2],by simp[gU,e1,e3],?_⟩;unfold zM;exact⟨t,[u,v],rfl,.inl (.of zb),.cons (e2.grow gr) (.cons (e4.grow gr) .nil)⟩
noncomputable def iZ2(t:yj):TI2:=fun σ G R=>t σ G fun ds G1=>match ds with
 | [.tup xs,.tup ys]=>R ((xs.zip ys).map fun p=>D.tup [p.1,p.2]) (fun u0=>True) G1
 | [.adr a,.adr b]=>∃ xs ys,Ls G1 a xs/\Ls G1 b ys/\R ((xs.zip ys).map fun p=>D.tup [p.1,p.2]) (fun G=>Ls G a xs/\Ls G b ys) G1
 | _=>False
theorem zOi(hg:Gl X "zip")(hm:X.mg "zip"=none)(ha:A2 X [a,b] t)(hs:autoParam (starEach [a,b] X.env=[(false,eval a X.env),(false,eval b X.env)]) Zq4._auto_1)(hs2:autoParam (starEach [b] X.env=[(false,eval b X.env)]) Zq4._auto_1) :
  I2 X (.Tuple es kk pt) (.Call (.Name "zip" p) [a,b] [] pos) (iZ2 t):=by
 refine PI.mono (zMf hg hm ha hs hs2) ?_;rintro σ1 H R ⟨σ,G,R2,r,q,k⟩;refine⟨σ,G,_,r,q,fun ds G1 q1 vs H1 g1 r1 d1=>?_⟩;split at q1
 ·rename_i xs ys
  unfold Dens at d1;obtain⟨x,r',rfl,d1,d2⟩:=d1;unfold Dens at d2;obtain⟨y,r',rfl,d2,d3⟩:=d2;unfold zM at d1 d2;unfold Dens at d3;subst d3;obtain⟨a1,us,rfl,h1,h2⟩:=d1;obtain⟨b1,vs,rfl,h3,h4⟩:=d2;refine⟨a1,b1,us,vs,rfl,.inl ⟨h1,h3,fun hz=>k _ _ G1 q1 _ H1 g1 r1 (zKH h1 h2 h3 h4) ?_⟩⟩;rw[db,ii,h2.length];omega
 ·rename_i a1 b1
  obtain⟨xs,ys,l1,l2,q1⟩:=q1;unfold Dens at d1;obtain⟨x,r',rfl,d1,d2⟩:=d1;unfold Dens at d2;obtain⟨y,r',rfl,d2,d3⟩:=d2;unfold zM at d1 d2;unfold Dens at d3;subst d3 d1 d2;obtain⟨us,h1,h2⟩:=r1.sq l1;obtain⟨vs,h3,h4⟩:=r1.sq l2;refine⟨a1,b1,us,vs,rfl,.inr ⟨h1,h3,fun hz=>k _ _ G1 q1 _ H1 g1 r1 zJH ?_⟩⟩;rw[db,ii,h2.length];omega
 ·exact q1.elim
theorem zMg(h:PuA t σ G [.tup xs,.tup ys]):PuI (iZ2 t) σ G ((xs.zip ys).map fun p=>D.tup [p.1,p.2]):=fun G2 e R q=>h G2 e _ (q _ G2 (.refl _) fun u0 u0=>trivial)
theorem zLJ(h:PuA t σ G [.adr a,.adr b])(h1:Ls G a xs)(h2:Ls G b ys):PuI (iZ2 t) σ G ((xs.zip ys).map fun p=>D.tup [p.1,p.2]):=fun G2 e R q=>h G2 e _ ⟨xs,ys,e.ls h1,e.ls h2,q _ G2 (.refl _) fun G3 s=>⟨s.ls (e.ls h1),s.ls (e.ls h2)⟩⟩
end L3
namespace K
open L2 L3
noncomputable def zg(n:Nat):Sp2:=fun ds G R=>(∃ x,ds=[x,x]/\zEc n x=true/\R (.bl true) G)\/∃(d:Nat) (a b:Addr) (xs:List D),n=d+1/\ds=[.adr a,.adr b]/\Ls G a xs/\Ls G b xs/\(∀ x∈xs,zEc d x=true)/\R (.bl true) G
theorem zG9(h:zg 0 ds G R):False:=by
 rcases h with ⟨x,u0,h,u0⟩ | ⟨d,u0,u0,u0,h,u0⟩
 ·cases h
 ·cases h
noncomputable def wT(d:Nat):yd:=(zU (xIf (xB (zHa (zB 1))) (zU (xIf (zB5 (xB (zY (fEq true) (zEB "tuple" (zB 0)) (zEB "tuple" (zB 1)))) (xB (zY (fEq true) (zEB "list" (zB 0)) (zEB "list" (zB 1))))) (zy (xC (.bl false))) yH) (zU (xIf (xB (zY (fEq true) (zO wB (zA (zB 0) zI)) (zO wB (zA (zB 1) zI)))) (zy (xC (.bl false))) yH) (zy (yB zL1 (yV (iZ2 (zA (zB 0) (zA (zB 1) zI))) bd2 zD9 (zO (zg d) (zA (zB 2) (zA (zB 3) zI)))))))) yH) (zy (zJl (zY (fEq false) (zB 0) (zB 1)) (zY (fEq false) (zEB "bool" (zB 0)) (zEB "bool" (zB 1))))))
theorem zLK(h:yC t σ G (.adr a))(hl:Ls G a xs):yC (zHa t) σ G (.bl true):=fun G2 e R q=>h G2 e _ ⟨⟨xs,e.ls hl⟩,q⟩
theorem zDH(h:yC t σ G (.adr a))(hl:Ls G a xs):yC (zEB T t) σ G (.bl (decide (T="list"))):=fun G2 e R q=>h G2 e _ ⟨⟨xs,e.ls hl⟩,q⟩
theorem zH3(h:yC t σ G (.adr a))(hl:Ls G a xs):yC (zO wB (zA t zI)) σ G (nD xs.length):=yJ (zF h zR) fun u0 e u0 q=>⟨xs,e.ls hl,q⟩
theorem zH4{σ:S2}{G:Gp}{d:Nat}{wi:TI2}{xs:List D}(hw:PuI wi σ G ((xs.zip xs).map fun p=>D.tup [p.1,p.2]))(hs:σ.length=2)(hall:∀ y∈xs,zEc d y=true):yC (yB zL1 (yV wi bd2 zD9 (zO (zg d) (zA (zB 2) (zA (zB 3) zI))))) σ G (.bl true):=by
 have:=zJ1 (bd:=bd2) (te:=zO (zg d) (zA (zB 2) (zA (zB 3) zI))) (fun u0=>D.bl true) (fun p=>match p with | .tup [a,b]=>[a,b] | _=>[]) hw fun y hy=>by
  rw[zFm,gh] at hy;obtain⟨z,hz,rfl⟩:=dL.mp hy;obtain⟨u,v,rfl⟩:∃ u v,σ=[u,v]:=by
   match σ,hs with
   | [u,v],_=>exact⟨u,v,rfl⟩
  exact⟨rfl,yJ (zF (zH rfl) (zF (zH rfl) zR)) fun u0 u0 u0 q=>.inl ⟨z,rfl,hall z hz,q⟩⟩
 have e:dB (fun u0=>D.bl true) ((xs.zip xs).map fun p=>D.tup [p.1,p.2])=(xs.map fun u0=>true).map D.bl:=by
  rw[zFm];simp
 rw[e] at this;have fin:=zOB this;have e2:(xs.map fun u0=>true).all id=true:=by simp
 rw[e2] at fin;exact fin
theorem zJI(d:Nat)(ds:List D)(G:Gp)(R:Q2)(h:zg (d+1) ds G R):ds.length=2/\wT d (zn R) (zV ["found","due"] ds) G:=by
 rcases h with ⟨x,rfl,hx,h⟩ | ⟨d',a,b,xs,hd,rfl,ha,hb,hall,h⟩
 ·refine⟨rfl,?_⟩
  have flatcase:(∀ l,x≠.adr l)->zB9 x "tuple"=false->flat 8 x=true->wN x x=true->wT d (zn R) (zV ["found","due"] [x,x]) G:=by
   intro na nt fx ex;unfold wT;have v0:yC (zB 0) (zV ["found","due"] [x,x]) G x:=zH rfl;have v1:yC (zB 1) (zV ["found","due"] [x,x]) G x:=zH rfl;have c1:=zAM (zHb v1 na);rw[nt] at c1;refine wu c1 ?_;refine zHW (d:=.bl true) (zOC (zBl v0 v1 fx fx (by simp[ex])) (zBl (zBY v0 na) (zBY v1 na) rfl rfl ?_)) (.of h);cases zB9 x "bool"<;>rfl
  cases x with
  | tup xs =>
   unfold wT;have na:∀ l,D.tup xs≠.adr l:=fun l z=>by cases z
   have v0:yC (zB 0) (zV ["found","due"] [.tup xs,.tup xs]) G (.tup xs):=zH rfl;have v1:yC (zB 1) (zV ["found","due"] [.tup xs,.tup xs]) G (.tup xs):=zH rfl;refine zDk (zAM (zHb v1 na)) ?_;refine wu (zGs (zAM (zBl (zBY v0 na) (zBY v1 na) rfl rfl rfl)) (zAM (zBl (zBY v0 na) (zBY v1 na) rfl rfl rfl))) ?_;refine wu (zAM (zEa (zKD v0) (zKD v1) rfl)) ?_;have hall:∀ y∈xs,zEc d y=true:=by
    have:xs.all (zEc d)=true:=hx;exact gg.mp this
   exact zHW (zH4 (zMg (xs:=xs) (ys:=xs) (zF v0 (zF v1 zR))) rfl hall) (.of h)
  | int i=>exact flatcase (fun l z=>by cases z) rfl rfl (by rw[zAv];simp)
  | bl b=>exact flatcase (fun l z=>by cases z) rfl rfl (by cases b<;>rfl)
  | non=>exact flatcase (fun l z=>by cases z) rfl rfl rfl
  | str s=>cases hx
  | adr l=>cases hx
  | dic l=>cases hx
 ·obtain rfl:d'=d:=by omega
  refine⟨rfl,?_⟩;unfold wT;have v0:yC (zB 0) (zV ["found","due"] [.adr a,.adr b]) G (.adr a):=zH rfl;have v1:yC (zB 1) (zV ["found","due"] [.adr a,.adr b]) G (.adr b):=zH rfl;refine zDk (zAM (zLK v1 hb)) ?_;refine wu (zGs (zAM (zBl (zDH v0 ha) (zDH v1 hb) rfl rfl rfl)) (zAM (zBl (zDH v0 ha) (zDH v1 hb) rfl rfl rfl))) ?_;refine wu (zAM (zEa (zH3 v0 ha) (zH3 v1 hb) rfl)) ?_;exact zHW (zH4 (zLJ (zF v0 (zF v1 zR)) ha hb) rfl hall) (.of h)
theorem Dw.keys(h:Dw n P G d X):∃ kvs,G.dc d=some kvs/\kvs.map (·.1)=P.map fun p=>kyW n p.1:=by
 obtain⟨kvs,e,p⟩:=h;refine⟨kvs,e,?_⟩;clear e
 induction p with
 | nil=>rfl
 | cons r _ ih=>rw[eA,eA,ih,r.1]
theorem zJJ{G:Gp}{R:List L3.D->Gp->Prop}{n:Nat}{P:Pw}{d:Addr}(hn:n<=5)(g:Good n P){X:Addr->Prop}(D:Dw n P G d X)(k:∀ ks:List HW.Wb,ks.Perm (P.map fun p=>kyW n p.1)->ks.Pairwise (fun a b=>HW.ltW b a=false)->R (ks.map wbD) G) :
  ∃ kvs:List (HW.Wb×L3.D),G.dc d=some kvs/\(∀ x∈kvs,HW.Wf x.1)/\kvs.length<10000/\∀ ks:List HW.Wb,ks.Perm (kvs.map (·.1))->ks.Pairwise (fun a b=>HW.ltW b a=false)->R (ks.map wbD) G:=by
 obtain⟨kvs,e,ek⟩:=D.keys;have hl:=g.few hn;have kl:kvs.length=P.length:=by have:=congrArg List.length ek;simpa using this
 refine⟨kvs,e,fun x hx=>?_,by omega,fun ks p1 p2=>k ks (by rw[<-ek];exact p1) p2⟩;have:x.1∈kvs.map (·.1):=dL.mpr ⟨x,hx,rfl⟩;rw[ek] at this;obtain⟨p,u0,e⟩:=dL.mp this;exact⟨n,((yX n).filter p.1).map toI,e.symm⟩
theorem zLL(h:yC t σ G (nD i))(h':yC u σ G (nD j)):PuT (xB (zY (fEq true) t u)) σ G (!decide (i=j)):=zAM (zBl h h' rfl rfl (by rw[if_pos rfl,zOA]))
noncomputable def zq:Sp2:=fun ds G R=>∃(n m:Nat) (q q':Qs),ds=[zK n q,zK m q']/\((n≠m/\R .non G)\/(n=m/\n<=5/\∀ P,Bfs n [(q,[])] [q] P->Good n P->(fnd n P q'=none->∀ G',Sub G G'->R .non G')/\∀ p,fnd n P q'=some p->∀ l G',Sub G G'->G.m l=none->G'.m l=some (p.2.map nD)->R (.adr l) G'))
theorem zGI{σ:S2}{G:Gp}{R:Q2}{n a b:Nat}{P:Pw}{d:Addr}{q:Qs}{X:Addr->Prop}(D:Dw n P G d X)(ha:look σ a=some (.adr d))(hb:look σ b=some (zK n q))
  (k1:fnd n P q=none->R .non G) (k2:∀ p l,fnd n P q=some p->¬ X l->G.m l=some (p.2.map nD)->R (.adr l) G):zEn (zB a) (zA (zB b) zI) σ G R:=by
 obtain⟨kvs,e,pr⟩:=D;unfold zEn;refine zm ha ?_;refine⟨⟨kvs,e⟩,?_⟩;refine zm hb ?_;refine⟨kyW n q,kvs,by rw[<-kyD],e,?_⟩;rcases zCW pr q with ⟨y1,y2⟩ | ⟨z,p,y1,y2,y3,l,y4,y5,y6⟩
 ·rw[y1];exact k1 y2
 ·rw[y1]
  show R z.2 G;rw[y4];exact k2 p l y2 y5 y6
noncomputable def zA5:yd:=(zU (xIf (xB (zY (fEq true) (zY yr (zB 0) (xC (.int 0))) (zY yr (zB 1) (xC (.int 0))))) (zy (xC .non)) yH) (zU (ye (zO yh (zA (zY yr (zB 0) (xC (.int 0))) (zA (xC (.int 5)) zI)))) (zy (zEn (zO yO (zA (zB 0) zI)) (zA (zB 1) zI)))))
theorem zHA(ds:List D)(G:Gp)(R:Q2)(h:zq ds G R):ds.length=2/\zA5 (zn R) (zV ["one","other"] ds) G:=by
 obtain⟨n,m,q,q',rfl,h⟩:=h;refine⟨rfl,?_⟩;unfold zA5;show zU _ _ _ [some (zK n q),some (zK m q')] G;have c:=zLL (σ:=[some (zK n q),some (zK m q')]) (G:=G) (zAg (zH (i:=0) rfl)) (zAg (zH (i:=1) rfl));rcases h with ⟨ne,h⟩ | ⟨rfl,hn,h⟩
 ·rw[decide_eq_false ne] at c
  exact zG7 (zGt c (zPh (d:=.non) wZ (FgR.of h)))
 ·rw[decide_eq_true rfl] at c
  refine zG7 (zCJ c ?_);unfold yH;dsimp only;refine zPj (d:=.non) (yJ (zF (zAg (q:=q) (zH (i:=0) rfl)) (zF (wZ (d:=nD 5)) zR)) fun u0 u0 u0 hh=>⟨n,5,rfl,hn,hh⟩) ?_;unfold zy zEn zO zA zI;refine zm (show look [some (zK n q),some (zK n q')] 0=some (zK n q) from rfl) ?_;refine⟨n,q,rfl,hn,fun d G' P s b g D=>?_⟩;obtain⟨h1,h2⟩:=h P b g;exact zGI (σ:=[some (zK n q),some (.adr d),some (zK n q')]) (a:=1) (b:=2) (R:=FgR R) D rfl rfl (fun z=>FgR.of (h1 z G' s)) fun p l z nx y=>FgR.of (h2 p z l G' s (by
   cases w:G.m l with
   | none=>rfl
   | some o=>exact absurd ⟨o,w⟩ nx) y)
noncomputable def yZ:List D->Gp->(Gp->Prop)->Prop:=fun ds G E=>∃(n:Nat) (q q':Qs),ds=[zK n q,zK n q']/\5<n/\E G
noncomputable def zAU:(Gp->Prop)->S2->Gp->Prop:=(fun E σ G=>(xIf (xB (zY (fEq true) (zY yr (zB 0) (xC (.int 0))) (zY yr (zB 1) (xC (.int 0))))) (zy (xC .non)) yH) { nx:=(fun E σ G=>(zA (zY yr (zB 0) (xC (.int 0))) (zA (xC (.int 5)) zI)) σ G fun ds G2=>yF ds G2 E) E,rt:=fun u0 u0=>False } σ G)
theorem zGJ(ds:List D)(G:Gp)(E:Gp->Prop)(h:yZ ds G E):ds.length=2/\zAU E (zV ["one","other"] ds) G:=by
 obtain⟨n,q,q',rfl,hn,h⟩:=h;refine⟨rfl,?_⟩;unfold zAU;have c:=zLL (σ:=[some (zK n q),some (zK n q')]) (G:=G) (zAg (zH (i:=0) rfl)) (zAg (zH (i:=1) rfl));rw[decide_eq_true rfl] at c;exact zCJ (σ:=[some (zK n q),some (zK n q')]) c (show zA (zY yr (zB 0) (xC (.int 0))) (zA (xC (.int 5)) zI) [some (zK n q),some (zK n q')] G (fun ds G2=>yF ds G2 E) from zF (zAg (q:=q) (zH (i:=0) (σ:=[some (zK n q),some (zK n q')]) rfl)) (zF (d:=nD 5) wZ zR) G (.refl _) _ ⟨n,5,rfl,hn,by omega,h⟩)
noncomputable def wU:Sp2:=fun ds G R=>∃(n:Nat) (q q':Qs) (d:Addr) (P:Pw),ds=[.adr d,zK n q,zK n q']/\n<=5/\Good n P/\Bfs n [(q,[])] [q] P/\Dw n P G d (fun u0=>False)/\R (.bl true) G
theorem zCZ(h:yC t σ G d)(e:∀ R G2,R (D.bl b) G2->zED ng d .non G2 R):PuT (xB (zY (zED ng) t (xC .non))) σ G b:=zAM fun G2 e2 R q=>h G2 e2 _ (e _ _ q)
noncomputable def zBe:yd:=(zU (zk (zEn (zB 0) (zA (zB 2) zI)) (gN 3)) (zU (yw (iR1 (zA (zY wa (xC (.int 1)) (zO zDq (zA (zY (fEq false) (zB 1) (zB 2)) zI))) zI)) (gN 4) (zU (zk (zO zq (zA (zB 1) (zA (zB 2) zI))) (gN 5)) (xIf (xB (zY (zED false) (zB 3) (xC .non))) (xIf (xB (zY (zED true) (zB 5) (xC .non))) (zy (xC (.bl false))) yH) (xIf (zA7 (xB (zO (zg 4) (zA (zB 5) (zA (zB 3) zI))))) (zy (xC (.bl false))) (ye (zB8 (zB 5) (zA (xC (.int 0)) zI))))))) (zy (xC (.bl true)))))
theorem zJK(ds:List D)(G:Gp)(R:Q2)(h:wU ds G R):ds.length=3/\zBe (zn R) (zV ["orbit","one","other","due","turn","found"] ds) G:=by
 obtain⟨n,q,q',d,P,rfl,hn,g,b,D,h⟩:=h;refine⟨rfl,?_⟩;unfold zBe;show zU _ _ _ [some (.adr d),some (zK n q),some (zK n q'),none,none,none] G;have rng:∀ {x:Option L3.D},PuI (iR1 (zA (zY wa (xC (.int 1)) (zO zDq (zA (zY (fEq false) (zB 1) (zB 2)) zI))) zI)) [some (.adr d),some (zK n q),some (zK n q'),x,none,none] G (yM 0 ((1:Int)+(if wN (zK n q) (zK n q') then 1 else 0)).toNat):=by
  intro x;refine zBU (zF (zJ8 wZ (yJ (ds:=[.bl (wN (zK n q) (zK n q'))]) (zF (zBl (zH (i:=1) (d:=zK n q) rfl) (zH (i:=2) (d:=zK n q') rfl) zCj zCj (by rw[if_neg (by simp)])) zR) fun u0 u0 u0 z=>z)) zR) ?_;split<;>omega
 refine yI (zGI (n:=n) (q:=q') (a:=0) (b:=2) D rfl rfl (fun z=>?_) fun p ld z u0 y=>?_)
 ·simp only[gN,cT,cR]
  refine zFS (zCB rng (fun x hx G1 e1=>?_) fun G1 e1=>?_)
  ·simp only[gN,cT,cR]
   refine yI (zBx (sp:=zq) (ds:=[zK n q,zK n q']) (zF (zH (i:=1) rfl) (zF (zH (i:=2) rfl) zR)) ⟨n,n,q,q',rfl,.inr ⟨rfl,hn,fun P' b' g'=>?_⟩⟩);obtain rfl:=b.det b';refine⟨fun u0 G2 s2=>?_,fun p z'=>(by rw[z] at z';cases z')⟩;simp only[gN,cT,cR];refine zGt (zCZ (zH (i:=3) (d:=.non) rfl) fun R G2 q=>?_) (zCJ (zCZ (zH (i:=5) (d:=.non) rfl) fun R G2 q=>?_) ⟨.keep (.keep (.keep (.keep (.skip (.skip .nil))))),s2⟩)
   ·exact q
   ·exact q
  ·show FgR R (.bl true) G1
   exact⟨G,e1.sub,h⟩
 ·simp only[gN,cT,cR]
  refine zFS (zCB rng (fun x hx G1 e1=>?_) fun G1 e1=>?_)
  ·simp only[gN,cT,cR]
   refine yI (zBx (sp:=zq) (ds:=[zK n q,zK n q']) (zF (zH (i:=1) rfl) (zF (zH (i:=2) rfl) zR)) ⟨n,n,q,q',rfl,.inr ⟨rfl,hn,fun P' b' g'=>?_⟩⟩);obtain rfl:=b.det b';refine⟨fun z'=>(by rw[z] at z';cases z'),fun p' z' lf G2 s2 n2 y2=>?_⟩;rw[z] at z';cases z';simp only[gN,cT,cR];have y3:G2.m ld=some (p.2.map nD):=s2.m _ _ (e1.sub.m _ _ y);have pl:p.2.length<=1024:=by have:=g.wl p (zFM z);have:=g.few hn;omega
   refine zCJ (zCZ (zH (i:=3) (d:=.adr ld) rfl) fun R G2 q=>q) (zCJ (zE1 (b:=true) (zAM (yJ (sp:=zg 4) (ds:=[.adr lf,.adr ld]) (zF (zH (i:=5) rfl) (zF (zH (i:=3) rfl) zR)) fun u0 e u0 w=>.inr ⟨3,lf,ld,p.2.map nD,rfl,rfl,e.ls (.inl y2),e.ls (.inl y3),fun x hx=>?_,w⟩))) ?_)
   ·obtain⟨i,u0,rfl⟩:=dL.mp hx
    rfl
   ·refine zPk (zND (l:=lf) (xs:=p.2.map nD) (zH (i:=5) rfl) y2 (zF (wZ (d:=.int 0)) zR _ (.refl _) _ ⟨p.2.map nD,y2,by rw[db];omega,?_⟩))
    exact⟨.keep (.keep (.keep (.keep (.skip (.skip .nil))))),s2.put n2⟩
  ·show FgR R (.bl true) G1
   exact⟨G,e1.sub,h⟩
theorem zPl{σ:S2}{G:Gp}{tl:TL2}{R:Q2}(h:tl σ G fun ds G1=>∀ l,G1.m l=none->R (.adr l) (zS G1 l ds)):zj tl σ G R:=h
theorem zOj{σ:S2}{G:Gp}{f:D->D->Gp->Q2->Prop}{ta tb:zi}{R:Q2}(h:ta σ G fun x G1=>tb σ G1 fun y G2=>f x y G2 R):zY f ta tb σ G R:=h
theorem zBy(h:ta σ G fun d G1=>tr σ G1 fun xs G2=>R (d::xs) G2):zA ta tr σ G R:=h
theorem zOk:s.1.length<=(vis n x s i).1.length:=by
 unfold vis;split
 ·exact da _
 ·simp
theorem zH5:∀ k,s.1.length<=(visA n x s k).1.length
 | 0=>da _
 | k+1=>by rw[zCs];exact eN (zH5 k) zOk
theorem zH6:∀ k,k<=E.length->P.length<=(zA4 n P E k).1.length
 | 0,_=>da _
 | k+1,h=>by
  obtain⟨x,hx⟩:∃ x,E[k]?=some x:=⟨E[k],by simp[show k<E.length by omega]⟩
  rw[zBc hx];exact eN (zH6 k (by omega)) (zH5 n)
theorem Bfs.le(h:Bfs n P E R):P.length<=R.length:=by
 induction h with
 | done=>exact da _
 | more _ _ ih=>exact eN (zH6 _ (da _)) ih
theorem zHB{σ:S2}{G:Gp}{R:Q2}{n j:Nat}{P:Pw}{d:Addr}{X:Addr->Prop}(h:look σ j=some (.adr d))(hn:n<=5)(g:Good n P)(D:Dw n P G d X)
  (k:∀(ks:List HW.Wb) l,G.m l=none->ks.Perm (P.map fun p=>kyW n p.1)->R (.adr l) (zS G l (ks.map wbD))):zj (zCV (zA (zB j) zI)) σ G R:=by
 unfold zj zCV zA zI;refine zm h ?_;exact zJJ (R:=fun ds G'=>∀ l,G'.m l=none->R (.adr l) (zS G' l ds)) hn g D fun ks p1 p2 l hl=>k ks l hl p1
theorem Dw.dr(h:Dw n P G d X)(hx:X l)(hd:Dr l G G'):Dw n P G' d X:=by
 obtain⟨s,b,rfl,u0⟩:=hd;exact h.put (.inl hx)
theorem zPm(h:t<4):zK (6+t) (fun p=>decide (p=(0,1)))=.tup [.int (6+(t:Int)),.tup [.tup [.int 0,.int 1]]]:=by
 have:t=0\/t=1\/t=2\/t=3:=by omega
 rcases this with rfl | rfl | rfl | rfl<;>rfl
theorem zNE{σ:S2}{G:Gp}{t:yj}{R:Q2}(h:t σ G fun ds G1=>ds.length<=sizeLine/\R (.tup ds) G1):yx t σ G R:=h
theorem zMh(h:te σ G fun u0 G1=>u E σ G1):zU (ye te) u E σ G:=h
noncomputable def zCa:yd:=(zU (yw (iR1 (zA (zO zAe (zA (xC (.int 1)) (zA (zO zAP (zA (zO wB (zA (zB 0) zI)) (zA (xC (.int 2)) zI))) zI))) zI)) (gN 1) (zU (zk (zj (yQ yW (zA (zB 0) (zA (zB 1) zI)))) (gN 2)) (zU (zk (zO zBK (zA (zB 2) (zA (zY yr (zj (yk (zA (xC (.int 4)) (zA (xC (.int 4)) (zA (xC (.int 3)) (zA (xC (.int 5)) zI)))))) (zO zp (zA (zB 2) (zA (xC (.int 4)) zI)))) zI))) (gN 3)) (zU (zk (zO wS (zA (zB 3) zI)) (gN 4)) (zU (zk (zj (zCV (zA (zB 4) zI))) (gN 5)) (zU (zk (zj (yQ zu (zA (zY yr (zB 3) (xC (.int 0))) zI))) (gN 6)) (zU (zk (zj (yk (zA (zY yr (zB 5) (zO zp (zA (zB 2) (zA (zO wB (zA (zB 5) zI)) zI)))) (zA (zB 3) zI)))) (gN 7)) (zU (ye (zB8 (zB 7) (zA (yx (zA (zY yr (zB 3) (xC (.int 0))) (zA (yB yb (yV (iV (zB 6)) bd1 (xB (zY (fEq false) (zO zp (zA (zB 2) (zA (xC (.int 2)) zI))) (xC (.int 0)))) (zB 10))) zI))) zI))) (zU (yw (iV (zB 7)) (gN 8) (xIf (zA7 (xB (zO wU (zA (zB 4) (zA (zB 3) (zA (zB 8) zI)))))) (zy (xC (.bl false))) yH)) (zU (zk (yx (zA (zY wa (xC (.int 6)) (zO zp (zA (zB 2) (zA (xC (.int 4)) zI)))) (zA (yx (zA (yx (zA (xC (.int 0)) (zA (xC (.int 1)) zI))) zI)) zI))) (gN 9)) (zU (xIf (zB5 (xB (zY (zED true) (zO zq (zA (zB 3) (zA (zB 9) zI))) (xC .non))) (xB (zY (zED true) (zO zq (zA (zB 9) (zA (zB 3) zI))) (xC .non)))) (zy (xC (.bl false))) yH) (xIf (xB (zY (fEq true) (zj (zMe 0 yZ (zA (zB 9) (zA (zB 9) zI)))) (zj (yk (zA (xC (.int 0)) zI))))) (zy (xC (.bl false))) yH)))))))))))) (zy (xC (.bl true))))
theorem zPn(ds:List D)(G:Gp)(R:Q2)(h:zEX ds G R):ds.length=1/\zCa (zn R) (zV ["script","k","state","web","orbit","some","pairs","others","other","wide"] ds) G:=by
 obtain⟨a,ns,rfl,ha,u0,u0,h⟩:=h;refine⟨rfl,?_⟩;unfold zCa;rw[show zV ["script","k","state","web","orbit","some","pairs","others","other","wide"] [.adr a]=[some (.adr a),none,none,none,none,none,none,none,none,none] from rfl];obtain⟨mm,hmm⟩:=zIY (σ:=[some (.adr a),none,none,none,none,none,none,none,none,none]) (G:=G) (c:=2) (by omega) rfl (.inr ha);refine zCB hmm ?_ ?_
 rotate_left
 ·intro G1 e1
  show FgR R (.bl true) G1;exact⟨G,e1.sub,h⟩
 intro x hx G1 e1;obtain⟨k,u0,rfl⟩:=dL.mp hx;simp only[gN,cT,cR];have ha1:Ls G1 a (ns.map D.int):=e1.ls (.inr ha);refine zIa (i:=0) (j:=1) (x:=2) rfl rfl ha1 fun l s b hl ok=>?_;simp only[cT,cR];have st0:zAN (zS G1 l [.int s,.bl b]) l:=⟨s,b,zG,ok⟩
 have sb0:L3.Sub G1 (zS G1 l [.int s,.bl b]):=.new hl;generalize zS G1 l [.int s,.bl b]=G2 at st0 sb0;have drS:∀ {G G':Gp},L3.Sub G1 G->Dr l G G'->L3.Sub G1 G':=fun {G G'} hs hd=>by
  obtain⟨s',b',rfl,u0⟩:=hd;exact hs.put hl
 -- the web
 refine yI (zBy (zH (i:=2) (d:=.adr l) rfl G2 (.refl _) _ (zBy (zOj (zBm (ds:=[4,4,3,5].map nD) (fun G2 e R q=>zDj (zF wZ (zF wZ (zF wZ (zF wZ zR))) G2 e _ ⟨by rw[sizeLine_eq];simp,q⟩)) fun c0 hc0=>zBx (zF (zH (d:=.adr l) rfl) (zF (wZ (d:=.int 4)) zR)) ⟨l,4,rfl,st0.ext (.new hc0),by omega,by omega,fun t0 G3 ht0 d3=>?_⟩)))));have c0l:c0≠l:=st0.ne hc0;have m3:G3.m c0=some ([4,4,3,5].map nD):=by rw[d3.ne c0l];exact zG
 have sb3:L3.Sub G1 G3:=drS (sb0.trans (.new hc0)) d3;have hw0:∃ mo,atI ([4,4,3,5].map nD) (t0:Int)=some (nD mo)/\1<=mo/\mo<=5:=by
  match t0,ht0 with
  | 0,_=>exact⟨4,rfl,by omega,by omega⟩
  | 1,_=>exact⟨4,rfl,by omega,by omega⟩
  | 2,_=>exact⟨3,rfl,by omega,by omega⟩
  | 3,_=>exact⟨5,rfl,by omega,by omega⟩
 obtain⟨mo,hw0,mo1,mo5⟩:=hw0;refine wI m3 hw0 (zEb ⟨l,mo,rfl,d3.st,by omega,by omega,fun n q G4 hn1 hn5 d4=>?_⟩);simp only[gN,cT,cR];have sb4:L3.Sub G1 G4:=drS sb3 d4;have st4:=d4.st;clear m3 hw0 d3 d4 hc0 c0l st0 sb0 sb3;have hn:n<=5:=by omega
 -- all that it comes to
 refine yI (zBx (sp:=wS) (ds:=[zK n q]) (zF (zH (i:=3) rfl) zR) ⟨n,q,rfl,hn,fun d G5 P s5 b5 g5 D5=>?_⟩);simp only[gN,cT,cR];obtain⟨X,hXl,D5⟩:∃ X:Addr->Prop,X l/\Dw n P G5 d X:=⟨_,by obtain⟨x,y,z,u0⟩:=st4;exact⟨_,z⟩,D5⟩
 have sb5:=sb4.trans s5;have st5:=st4.ext s5;refine yI (zHB (j:=4) rfl hn g5 D5 fun ks ls hls p1=>?_);simp only[gN,cT,cR];have s6:L3.Sub G5 (zS G5 ls (ks.map wbD)):=.new hls;have l6:(zS G5 ls (ks.map wbD)).m ls=some (ks.map wbD):=zG;generalize zS G5 ls (ks.map wbD)=G6 at s6 l6;have D6:=D5.sub s6;have sb6:=sb5.trans s6;have st6:=st5.ext s6;refine yI (zBm (ds:=(yX n).map yf) (zDZ (zF (zAg (zH (i:=3) rfl)) zR) fun u0 u0 u0 hh=>⟨n,rfl,by omega,hh⟩) fun lp hlp=>?_);simp only[gN,cT,cR];have s7:L3.Sub G6 (zS G6 lp ((yX n).map yf)):=.new hlp;have l7p:(zS G6 lp ((yX n).map yf)).m lp=some ((yX n).map yf):=zG;generalize zS G6 lp ((yX n).map yf)=G7 at s7 l7p;have D7:=D6.sub s7;have sb7:=sb6.trans s7;have st7:=st6.ext s7;have l7:=s7.m _ _ l6;have kl:ks.length<=1024/\0<ks.length:=by
  have h1:=g5.few hn;have h2:=p1.length_eq;have h3:=b5.le;simp at h2 h3;omega
 have nsl:ls≠l:=fun z=>by
  obtain⟨x,y,w,u0⟩:=st5;rw[z,w] at hls;cases hls
 have npl:lp≠l:=fun z=>by
  obtain⟨x,y,w,u0⟩:=st6;rw[z,w] at hlp;cases hlp
 -- others
 refine yI (zPl (zDj (zBy (zOj (zH (i:=5) (d:=.adr ls) rfl G7 (.refl _) _ (zBx (ds:=[.adr l,nD ks.length]) (zF (zH (i:=2) rfl) (zF (yJ (ds:=[.adr ls]) (zF (zH (i:=5) rfl) zR) fun u0 e u0 z=>⟨ks.map wbD,e.ls (.inl l7),by rw[db];exact z⟩) zR)) ⟨l,ks.length,rfl,st7,by omega,by omega,fun t0 G8 ht0 d8=>?_⟩))))));have l8:G8.m ls=some (ks.map wbD):=by rw[d8.ne nsl];exact l7
 obtain⟨p0,e0⟩:∃ p0:Qs×List Nat,ks[t0]'ht0=kyW n p0.1:=by
  obtain⟨p,u0,e⟩:=dL.mp (p1.mem_iff.mp (fH ht0));exact⟨p,e.symm⟩
 have at0:atI (ks.map wbD) (t0:Int)=some (zK n p0.1):=by
  rw[kyD,<-e0];exact zBR (by simp[ht0])
 refine wI l8 at0 (zKC (zH (i:=3) (d:=zK n q) rfl) (zEb ⟨by rw[sizeLine_eq];simp,fun lo hlo=>?_⟩));simp only[gN,cT,cR];have D8:=(D7.dr hXl d8).to (Y:=fun x=>X x\/x=lo) fun x z=>z.elim .inl fun z=>.inr (by rw[z];exact hlo);have sb8:=drS sb7 d8;have hlo1:G1.m lo=none:=by
  cases w:G1.m lo with
  | none=>rfl
  | some o=>rw[sb8.m _ _ w] at hlo;cases hlo
 have st8:=d8.st;have l8p:G8.m lp=some ((yX n).map yf):=by rw[d8.ne npl];exact l7p
 have nol:lo≠l:=st8.ne hlo;have s9:L3.Sub G8 (zS G8 lo [zK n p0.1,zK n q]):=.new hlo;have l9:(zS G8 lo [zK n p0.1,zK n q]).m lo=some [zK n p0.1,zK n q]:=zG;generalize zS G8 lo [zK n p0.1,zK n q]=G9 at s9 l9;have D9:=D8.sub s9;have sb9:=sb8.trans s9;have st9:=st8.ext s9;have l9p:=s9.m _ _ l8p;clear l8 at0 e0 l8p hlo s9 D8 sb8 st8 l7 l7p l6 hls hlp
 -- a drawn one
 refine zMh (zND (l:=lo) (xs:=[zK n p0.1,zK n q]) (zH (i:=7) rfl) l9 (zBy (zNE (zBy (zAg (n:=n) (q:=q) (zH (i:=3) rfl) G9 (.refl _) _ (zBy (zKn (picked (k:=10) (i0:=2) (i4:=6) (n:=n) rfl rfl rfl st9 npl l9p (.refl st9) (fun p G' Q hp hst hQ=>?_) fun s3 G10 hsub d10=>zEb ⟨by rw[sizeLine_eq];simp,zEb ?_⟩))))))))
 ·exact zBx (ds:=[.adr l,nD 2]) (zF (zH (i:=2) rfl) (zF wZ zR)) ⟨l,2,rfl,hst,by omega,by omega,fun x G3 hx d3=>⟨rfl,rfl,hQ _ G3 d3⟩⟩
 obtain⟨G10',d10a,d10b⟩:=d10;have D10:=(D9.dr (.inl hXl) d10a).sub d10b;have sb10:=(drS sb9 d10a).trans d10b;have st10:=d10a.st.ext d10b;have l10:G10.m lo=some [zK n p0.1,zK n q]:=d10b.m _ _ (by rw[d10a.ne nol];exact l9);refine⟨[zK n p0.1,zK n q],l10,by simp,?_⟩;rw[<-zHV hsub];generalize (fun p=>decide (p∈s3))=q3;have sb11:L3.Sub G1 (zS G10 lo ([zK n p0.1,zK n q]++[zK n q3])):=sb10.put hlo1;have st11:zAN (zS G10 lo ([zK n p0.1,zK n q]++[zK n q3])) l:=by
  obtain⟨x,y,z,w⟩:=st10;exact⟨x,y,by rw[zT (Ne.symm nol)];exact z,w⟩
 have D11:=D10.put (l:=lo) (o:=[zK n p0.1,zK n q]++[zK n q3]) (.inl (.inr rfl));have l11:(zS G10 lo ([zK n p0.1,zK n q]++[zK n q3])).m lo=some [zK n p0.1,zK n q,zK n q3]:=zG;generalize zS G10 lo ([zK n p0.1,zK n q]++[zK n q3])=G11 at sb11 st11 D11 l11;clear d10a d10b D10 sb10 st10 l10 D9 sb9 st9 l9 l9p
 -- each
 refine zFS (zCB (σ:=[some (.adr a),some (nD k),some (.adr l),some (zK n q),some (.adr d),some (.adr ls),some (.adr lp),some (.adr lo),none,none]) (zIR (zH (i:=7) rfl) (.inl l11)) ?_ ?_)
 ·intro y hy G12 e12
  obtain⟨q4,rfl⟩:∃ q4,y=zK n q4:=by
   simp only[dN,eO,or_false] at hy;rcases hy with rfl | rfl | rfl
   ·exact⟨_,rfl⟩
   ·exact⟨_,rfl⟩
   ·exact⟨_,rfl⟩
  simp only[gN,cT,cR];exact zCJ (zE1 (b:=true) (zAM (yJ (sp:=wU) (ds:=[.adr d,zK n q,zK n q4]) (zF (zH (i:=4) rfl) (zF (zH (i:=3) rfl) (zF (zH (i:=8) rfl) zR))) fun u0 e u0 z=>⟨n,q,q4,d,P,rfl,hn,g5,b5,((D11.sub e12.sub).sub e.sub).to (fun u0 w=>w.elim),z⟩))) ⟨.keep (.keep (.keep (.keep (.keep (.keep (.keep (.keep (.skip (.skip .nil))))))))),.refl _⟩
 ·intro G12 e12
  dsimp only;have sb12:=sb11.trans e12.sub;refine yI (zNE (zBy (zOj (wZ (d:=.int 6) G12 (.refl _) _ (zBx (ds:=[.adr l,nD 4]) (zF (zH (i:=2) rfl) (zF wZ zR)) ⟨l,4,rfl,st11.ext e12.sub,by omega,by omega,fun t G13 ht d13=>?_⟩)))));unfold wa;dsimp only;refine zKC (d:=.tup [.tup [.int 0,.int 1]]) (zBv (zF (zBv (zF wZ (zF wZ zR)) (by simp)) zR) (by simp)) (zEb ⟨by rw[sizeLine_eq];simp,?_⟩);have sb13:=drS sb12 d13;show gN 9 (.tup [.int (6+(t:Int)),.tup [.tup [.int 0,.int 1]]]) _ _ _;rw[<-zPm ht];simp only[gN,cT,cR];generalize (fun p:Nat×Nat=>decide (p=(0,1)))=qw;refine wu (zGs (zCZ (b:=false) (yJ (sp:=zq) (d:=.non) (ds:=[zK n q,zK (6+t) qw]) (zF (zH (i:=3) rfl) (zF (zH (i:=9) rfl) zR)) fun u0 u0 u0 z=>⟨n,6+t,q,qw,rfl,.inl ⟨by omega,z⟩⟩) fun R G2 z=>z) (zCZ (b:=false) (yJ (sp:=zq) (d:=.non) (ds:=[zK (6+t) qw,zK n q]) (zF (zH (i:=9) rfl) (zF (zH (i:=3) rfl) zR)) fun u0 u0 u0 z=>⟨6+t,n,qw,q,rfl,.inl ⟨by omega,z⟩⟩) fun R G2 z=>z)) ?_;unfold xIf xB;refine zOg (cond:=yZ) (ds:=[zK (6+t) qw,zK (6+t) qw]) (ng:=true) (zF (zH (i:=9) rfl) (zF (zH (i:=9) rfl) zR)) (fun E hE=>⟨6+t,qw,qw,rfl,by omega,hE⟩) fun G14 s14=>?_;show if false=true then _ else _;rw[if_neg (by simp)];exact⟨.keep (.skip (.skip (.skip (.skip (.skip (.skip (.skip (.skip (.skip .nil))))))))),sb13.trans s14⟩
noncomputable abbrev wV:Stmt:=top 8
theorem zC0:za ["places","found","k","j"] ["places"] (zE wV):=⟨rfl,rfl,rfl,by decide +kernel,rfl,by decide +kernel,by decide +kernel⟩
noncomputable abbrev yD:Stmt:=top 9
theorem wM:za ["many","most"] ["many","most"] (zE yD):=⟨rfl,rfl,rfl,by decide +kernel,rfl,by decide +kernel,by decide +kernel⟩
noncomputable abbrev zCt:Stmt:=top 11
theorem zH7:za ["web","one","other"] ["web","one","other"] (zE zCt):=⟨rfl,rfl,rfl,by decide +kernel,rfl,by decide +kernel,by decide +kernel⟩
noncomputable abbrev zAJ:Stmt:=top 12
theorem zEr:za ["web","place"] ["web","place"] (zE zAJ):=⟨rfl,rfl,rfl,by decide +kernel,rfl,by decide +kernel,by decide +kernel⟩
noncomputable abbrev yo:Stmt:=top 15
theorem zBo:za ["web","place","near"] ["web","place"] (zE yo):=⟨rfl,rfl,rfl,by decide +kernel,rfl,by decide +kernel,by decide +kernel⟩
noncomputable abbrev yi:Stmt:=top 16
theorem zAV:za ["one","other"] ["one","other"] (zE yi):=⟨rfl,rfl,rfl,by decide +kernel,rfl,by decide +kernel,by decide +kernel⟩
noncomputable abbrev yp:Stmt:=top 17
theorem zBp:za ["web","lists","edge"] ["web"] (zE yp):=⟨rfl,rfl,rfl,by decide +kernel,rfl,by decide +kernel,by decide +kernel⟩
noncomputable abbrev zAk:Stmt:=top 18
theorem zEs:za ["lists","edge","farther","web","place","turned"] ["lists","edge"] (zE zAk):=⟨rfl,rfl,rfl,by decide +kernel,rfl,by decide +kernel,by decide +kernel⟩
noncomputable abbrev wE:Stmt:=top 20
theorem zCb:za ["script","k"] ["script","k"] (zE wE):=⟨rfl,rfl,rfl,by decide +kernel,rfl,by decide +kernel,by decide +kernel⟩
noncomputable abbrev ww:Stmt:=top 21
theorem zD1:za ["script","k","cell"] ["script","k"] (zE ww):=⟨rfl,rfl,rfl,by decide +kernel,rfl,by decide +kernel,by decide +kernel⟩
noncomputable abbrev zAl:Stmt:=top 22
theorem zEt:za ["state","many","found","mixed"] ["state","many"] (zE zAl):=⟨rfl,rfl,rfl,by decide +kernel,rfl,by decide +kernel,by decide +kernel⟩
noncomputable abbrev wW:Stmt:=top 23
theorem zD2:za ["many","found","one"] ["many"] (zE wW):=⟨rfl,rfl,rfl,by decide +kernel,rfl,by decide +kernel,by decide +kernel⟩
noncomputable abbrev zAW:Stmt:=top 24
theorem zGK:za ["state","most","many","way","pairs","far"] ["state","most"] (zE zAW):=⟨rfl,rfl,rfl,by decide +kernel,rfl,by decide +kernel,by decide +kernel⟩
noncomputable abbrev zAK:Stmt:=top 25
theorem zEu:za ["state","many","left"] ["state","many"] (zE zAK):=⟨rfl,rfl,rfl,by decide +kernel,rfl,by decide +kernel,by decide +kernel⟩
noncomputable abbrev yz:Stmt:=top 26
theorem zC1:za ["ring","many","found","one","other","some"] ["ring"] (zE yz):=⟨rfl,rfl,rfl,by decide +kernel,rfl,by decide +kernel,by decide +kernel⟩
noncomputable abbrev yK:Stmt:=top 27
theorem zBz:za ["found","due"] ["found","due"] (zE yK):=⟨rfl,rfl,rfl,by decide +kernel,rfl,by decide +kernel,by decide +kernel⟩
noncomputable abbrev zx:Stmt:=top 28
theorem zCc:za ["call","error","e","kinds"] ["call"] (zE zx):=⟨rfl,rfl,rfl,by decide +kernel,rfl,by decide +kernel,by decide +kernel⟩
noncomputable abbrev wA:Stmt:=top 29
theorem zC2:za ["web","place","near","found","pair","inside"] ["web","place"] (zE wA):=⟨rfl,rfl,rfl,by decide +kernel,rfl,by decide +kernel,by decide +kernel⟩
noncomputable abbrev wx:Stmt:=top 30
theorem zD3:za ["web","found","ring","fresh","one","place","later"] ["web"] (zE wx):=⟨rfl,rfl,rfl,by decide +kernel,rfl,by decide +kernel,by decide +kernel⟩
noncomputable abbrev wy:Stmt:=top 31
theorem zD4:za ["orbit","one","other","due","turn","found"] ["orbit","one","other"] (zE wy):=⟨rfl,rfl,rfl,by decide +kernel,rfl,by decide +kernel,by decide +kernel⟩
noncomputable abbrev zBO:Stmt:=top 32
theorem zLM:za ["script","k","state","web","orbit","some","pairs","others","other","wide"] ["script"] (zE zBO):=⟨rfl,rfl,rfl,by decide +kernel,rfl,by decide +kernel,by decide +kernel⟩
section
variable {P:Program} {w:World} {K:PySem.W.Frag} {mg:Str->Option Value} {base:Heap}
theorem zPo:zK6 zx ["call","error","e","kinds"] ((zX zx).drop 2):=⟨⟨_,_,_,_,_,_,_,_,_,_,_,_,_,rfl⟩,rfl,rfl,rfl,by decide +kernel,by decide +kernel,by decide +kernel,by decide +kernel⟩
theorem zMi(ad:mg "isinstance"=none)(aH:mg "ValueError"=none)(ae:mg "range"=none)(aw:mg "TooMany"=some (.ref aa))(bG:mg "NoTie"=some (.ref aO))(aS:mg "NoSplit"=some (.ref aE))(ba:mg "NoName"=some (.ref aK))(aT:mg "BadNote"=some (.ref aF))(xk:zFQ K C0)(hcl:oe.cls=.ref C0)(cm:PySem.W.kitOne K (.ref C0) (.ref aa)=some bv)(cM:PySem.W.kitOne K (.ref C0) (.ref aO)=some bN)(cq:PySem.W.kitOne K (.ref C0) (.ref aE)=some bw)(cw:PySem.W.kitOne K (.ref C0) (.ref aK)=some bF)(cu:PySem.W.kitOne K (.ref C0) (.ref aF)=some bx)(qV:PySem.W.kitOne K (.ref C0) (.type "ValueError")=some true):Ps2 (zI9 (zBD CX0 P w K mg base ["call","error","e","kinds"] "_law_refused" (zE zx) f cdv A outer s H E0).nox e oe) ((zX zx).drop 2) (zAj e bv bN bw bF bx):=by
 have nd:=(zCc).nd;unfold zAj;exact(zL (zr 3 nd (yA (yu (zD (zGG 1 xk dH hcl rfl ad rfl aw cm) (zD (zGG 1 xk dH hcl rfl ad rfl bG cM) (zD (zGG 1 xk dH hcl rfl ad rfl aS cq) zJ)))))) (zL (zr 3 nd (yA (zJ0 (zC 3) (yA (yu (zD (zGG 1 xk dH hcl rfl ad rfl ba cw) (zD (zGG 1 xk dH hcl rfl ad rfl aT cu) zJ))))))) (zL (zAL (zJn (zDV (zOY 1 xk dH hcl rfl ad rfl aH qV))) (zQ (zv zDR)) yR) (zQ (zv (yA (zGi "k" rfl (yv (osc:=zE zx) (N:=["call","error","e","kinds"]) (N0:=["!00","!01","!02","kinds"]) (own:=["k"]) (by decide +kernel)) (wH rfl ae (zD zN zJ)) (fun u0 u0 u0 u0 u0=>(zBu (zDV (yU (zC 3) (zC 4))))) (fun u0 u0 u0 u0 u0=>(zC 4)))))))))
theorem zD5(F:Fun K "refuse_more" "refuse_more" yD f fd)(hm:mg "refuse_more"=some (.ref f))  (aw:mg "TooMany"=some (.ref aa))(aG:zFQ K aa):Rz P w K mg base 1 "refuse_more" ["many","most"] yF aa:=by
 have nd:=(wM).nd;refine zNB wL F wM hm (F.binds fun u0 u0 u0 u0 u0 u0 us hl=>us2 us hl fun u0 u0=>rfl) (fun cdv A outer s H E hr=>?_) zD0;unfold wL;exact(zQH zFP (zPA (zC 0) (zC 1)) (cL zFP rfl aw aG.ex0 (zOa [1] (zK8 (zOZ 1 (zK8 .nil))))))
theorem zGL(F:Fun K "turns_to" "turns_to" yi f fd)(hm:mg "turns_to"=some (.ref f)) (aA:mg "MOST_TURNED"=some (.int 5 aC))(aI:Df P w K mg base 5 "turn_lists" ["web"] yO)(aP:Rz P w K mg base 1 "refuse_more" ["many","most"] yF aa)(aw:mg "TooMany"=some (.ref aa))(aG:zFQ K aa):Rz P w K mg base 6 "turns_to" ["one","other"] yZ aa:=by
 have nd:=(zAV).nd;refine zNB zAU F zAV hm (F.binds fun u0 u0 u0 u0 u0 u0 us hl=>us2 us hl fun u0 u0=>rfl) (fun cdv A outer s H E hr=>?_) zGJ;unfold zAU;exact(zPa zFP (zAL (zEA hr (yU (zC 0) zN) (yU (zC 1) zN)) (zQ (zv zDR)) yR) (zOW (zHz zFP aP hr (by decide) rfl (zD (yU (zC 0) zN) (zD (zHS rfl aA) zJ)))))
theorem zGM(F:Fun K "pairs_of" "pairs_of" wV f fd)(hm:mg "pairs_of"=some (.ref f))(ae:mg "range"=none)(aB:mg "len"=none)   :Df P w K mg base 1 "pairs_of" ["places"] (spL yg):=by
 have nd:=(zC0).nd;refine yS zAx F zC0 hm (F.binds fun u0 u0 u0 u0 u0 u0 us hl=>us1 us hl fun u0=>rfl) (fun cdv A outer s H E hr=>?_) zGo;unfold zAx;exact(zL (zr 1 nd (yA (yu zJ))) (zL (wg PassesOwn.never rfl (wH rfl ae (zD (zB6 rfl aB (zD (zC 0) zJ)) zJ)) (zAC 2 nd) (zQ (wg PassesOwn.never rfl (zFa rfl ae (zD (zBG (zC 2) zN) (zD (zB6 rfl aB (zD (zC 0) zJ)) zJ))) (zAC 3 nd) (zQ (zAp (zAD (zC 1) (zD (zAB (zD (yU (zC 0) (zC 2)) (zD (yU (zC 0) (zC 3)) zJ))) zJ))))))) (zQ (zv (zC 1)))))
theorem zD6(F:Fun K "refuse_more" "refuse_more" yD f fd)(hm:mg "refuse_more"=some (.ref f))    :Df P w K mg base 1 "refuse_more" ["many","most"] yh:=by
 have nd:=(wM).nd;refine yS wY F wM hm (F.binds fun u0 u0 u0 u0 u0 u0 us hl=>us2 us hl fun u0 u0=>rfl) (fun cdv A outer s H E hr=>?_) zEE;unfold wY;exact(zQ (zAL (zPA (zC 0) (zC 1)) (zQ zQG) yR))
theorem zMj(F:Fun K "tied" "tied" zCt f fd)(hm:mg "tied"=some (.ref f))(bU:mg "min"=none)(bV:mg "max"=none)   :Df P w K mg base 1 "tied" ["web","one","other"] zBV:=by
 have nd:=(zH7).nd;refine yS zE4 F zH7 hm (F.binds fun u0 u0 u0 u0 u0 u0 us hl=>us3 us hl fun u0 u0 u0=>rfl) (fun cdv A outer s H E hr=>?_) zN7;unfold zE4;exact(zQ (zv (zLo hr (zAB (zD (zMv rfl rfl bU (zD (zC 1) (zD (zC 2) zJ))) (zD (zMw rfl rfl bV (zD (zC 1) (zD (zC 2) zJ))) zJ))) (yU (zC 0) zN))))
theorem zJL(F:Fun K "around" "around" zAJ f fd)(hm:mg "around"=some (.ref f))(ag:mg "tuple"=none)(ae:mg "range"=none)   (cc:Df P w K mg base 1 "tied" ["web","one","other"] zBV):Df P w K mg base 2 "around" ["web","place"] zAf:=by
 have nd:=(zEr).nd;refine yS zCF F zEr hm (F.binds fun u0 u0 u0 u0 u0 u0 us hl=>us2 us hl fun u0 u0=>rfl) (fun cdv A outer s H E hr=>?_) zJ4;unfold zCF;exact(zQ (zv (zCh rfl ag (zGi "other" rfl (yv (osc:=zE zAJ) (N:=["web","place"]) (N0:=["web","place"]) (own:=["other"]) (by decide +kernel)) (wH rfl ae (zD (yU (zC 0) zN) zJ)) (fun u0 u0 u0 u0 u0=>(zBu (zDV (zw cc hr (by decide) rfl (zD (zC 0) (zD (zC 1) (zD (zC 2) zJ))))))) (fun u0 u0 u0 u0 u0=>(zC 2))))))
theorem zEF(F:Fun K "web_turned" "web_turned" yo f fd)(hm:mg "web_turned"=some (.ref f))(ag:mg "tuple"=none)(aU:mg "sorted"=none)(cx:mg "set"=none)   (bO:Df P w K mg base 2 "around" ["web","place"] zAf)(bA:Df P w K mg base 1 "pairs_of" ["places"] (spL yg)):Df P w K mg base 3 "web_turned" ["web","place"] yN:=by
 have nd:=(zBo).nd;refine yS wo F zBo hm (F.binds fun u0 u0 u0 u0 u0 u0 us hl=>us2 us hl fun u0 u0=>rfl) (fun cdv A outer s H E hr=>?_) zFH;unfold wo;exact(zL (zr 2 nd (yA (zBt bA zEC hr (by decide) rfl (zD (zw bO hr (by decide) rfl (zD (zC 0) (zD (zC 1) zJ))) zJ)))) (zQ (zv (zAB (zD (yU (zC 0) zN) (zD (zCh rfl ag (zIs 2 hr rfl rfl aU rfl cx (zD (yU (zC 0) zN) zJ))) zJ))))))
theorem zGN(F:Fun K "turns_to" "turns_to" yi f fd)(hm:mg "turns_to"=some (.ref f)) (aA:mg "MOST_TURNED"=some (.int 5 aC))  (aQ:Df P w K mg base 1 "refuse_more" ["many","most"] yh)(aI:Df P w K mg base 5 "turn_lists" ["web"] yO):Df P w K mg base 6 "turns_to" ["one","other"] zq:=by
 have nd:=(zAV).nd;refine yS zA5 F zAV hm (F.binds fun u0 u0 u0 u0 u0 u0 us hl=>us2 us hl fun u0 u0=>rfl) (fun cdv A outer s H E hr=>?_) zHA;unfold zA5;exact(zL (zAL (zEA hr (yU (zC 0) zN) (yU (zC 1) zN)) (zQ (zv zDR)) yR) (zL (zAp (zw aQ hr (by decide) rfl (zD (yU (zC 0) zN) (zD (zHS rfl aA) zJ)))) (zQ (zv (zKu hr (zw aI hr (by decide) rfl (zD (zC 0) zJ)) (zD (zC 1) zJ))))))
theorem zEG(F:Fun K "turn_lists" "turn_lists" yp f fd)(hm:mg "turn_lists"=some (.ref f))    (bP:Df P w K mg base 4 "spread" ["lists","edge"] (spL wR)):Df P w K mg base 5 "turn_lists" ["web"] yO:=by
 have nd:=(zBp).nd;refine yS wq F zBp hm (F.binds fun u0 u0 u0 u0 u0 u0 us hl=>us1 us hl fun u0=>rfl) (fun cdv A outer s H E hr=>?_) zFO;unfold wq;exact(zL (zr 1 nd (zHw hr (zC 0) (yA (yu zJ)))) (zL (zr 2 nd (yA (yu (zD (zC 0) zJ)))) (zL (zFg PassesOwn.never (zOV (zC 2)) (zQ (zr 2 nd (yA (zBt bP zGC hr (by decide) rfl (zD (zC 1) (zD (zC 2) zJ))))))) (zQ (zv (zC 1))))))
theorem zJM(F:Fun K "spread" "spread" zAk f fd)(hm:mg "spread"=some (.ref f))(ae:mg "range"=none)   (aW:Df P w K mg base 3 "web_turned" ["web","place"] yN):Df P w K mg base 4 "spread" ["lists","edge"] (spL wR):=by
 have nd:=(zEs).nd;refine yS zCX F zEs hm (F.binds fun u0 u0 u0 u0 u0 u0 us hl=>us2 us hl fun u0 u0=>rfl) (fun cdv A outer s H E hr=>?_) zKy;unfold zCX;exact(zL (zr 2 nd (yA (yu zJ))) (zL (wg PassesOwn.never rfl (zCu (zC 1)) (zAC 3 nd) (zQ (wg PassesOwn.never rfl (wH rfl ae (zD (yU (zC 3) zN) zJ)) (zAC 4 nd) (zL (zr 5 nd (zw aW hr (by decide) rfl (zD (zC 3) (zD (zC 4) zJ)))) (zQ (zAL (zF7 hr (zC 5) (zC 0)) (zL (zHN (yA (zJ0 (zM6 hr (zC 0) (zC 3)) (yA (yu (zD (zC 4) zJ))))) (zM7 hr (zC 0) (zC 5))) (zQ (zAp (zAD (zC 2) (zD (zC 5) zJ))))) yR)))))) (zQ (zv (zC 2)))))
theorem zFT(F:Fun K "_law_cell_at" "_law_cell_at" wE f fd)(hm:mg "_law_cell_at"=some (.ref f))(aB:mg "len"=none)   :Df P w K mg base 1 "_law_cell_at" ["script","k"] wJ:=by
 have nd:=(zCb).nd;refine yS zAQ F zCb hm (F.binds fun u0 u0 u0 u0 u0 u0 us hl=>us2 us hl fun u0 u0=>rfl) (fun cdv A outer s H E hr=>?_) zFk;unfold zAQ;exact(zL (zAL (zP6 (zC 1) (zB6 rfl aB (zD (zC 0) zJ))) (zQ (zv (yU (zC 0) (zC 1)))) yR) (zQ (zv zN)))
theorem zHC(F:Fun K "_law_state" "_law_state" ww f fd)(hm:mg "_law_state"=some (.ref f))    (bb:Df P w K mg base 1 "_law_cell_at" ["script","k"] wJ):Df P w K mg base 2 "_law_state" ["script","k"] (spL yW):=by
 have nd:=(zD1).nd;refine yS zBW F zD1 hm (F.binds fun u0 u0 u0 u0 u0 u0 us hl=>us2 us hl fun u0 u0=>rfl) (fun cdv A outer s H E hr=>?_) zIV;unfold zBW;exact(zL (zr 2 nd (zw bb hr (by decide) rfl (zD (zC 0) (zD (zC 1) zJ)))) (zL (zAL (zP7 (zC 2) (zMu zN zN)) (zQ (zv (yA (yu (zD (zJo (zC 2) (zMu zN zN)) (zD zDQ zJ)))))) yR) (zQ (zv (yA (yu (zD (zES (zC 2) zN) (zD zDQ zJ))))))))
theorem zJN(F:Fun K "_law_take" "_law_take" zAl f fd)(hm:mg "_law_take"=some (.ref f))    :Df P w K mg base 1 "_law_take" ["state","many"] zp:=by
 have nd:=(zEt).nd;refine yS zCH F zEt hm (F.binds fun u0 u0 u0 u0 u0 u0 us hl=>us2 us hl fun u0 u0=>rfl) (fun cdv A outer s H E hr=>?_) zJ7;unfold zCH;exact(zL (zAL (zDV (yU (zC 0) zN)) (zL (zr 2 nd (zES (yU (zC 0) zN) (zC 1))) (zL (zHN (zGb (yU (zC 0) zN) (zC 1)) (zO7 (zC 0) zN)) (zQ (zv (zC 2))))) yR) (zL (zHN (zES (zBG (zCg (yU (zC 0) zN) zN) zN) zN) (zO7 (zC 0) zN)) (zL (zr 3 nd (zES (zBG (zBG (zCg (yU (zC 0) zN) (yU (zC 0) zN)) (zCg zN (yU (zC 0) zN))) zN) zN)) (zL (zr 3 nd (zES (zBG (zCg (zC 3) (zC 3)) (zCg zN (zC 3))) zN)) (zQ (zv (zES (zGb (zC 3) zN) (zC 1))))))))
theorem zHD(F:Fun K "_law_pairs" "_law_pairs" wW f fd)(hm:mg "_law_pairs"=some (.ref f))(ae:mg "range"=none)   :Df P w K mg base 1 "_law_pairs" ["many"] (spL zu):=by
 have nd:=(zD2).nd;refine yS zBX F zD2 hm (F.binds fun u0 u0 u0 u0 u0 u0 us hl=>us1 us hl fun u0=>rfl) (fun cdv A outer s H E hr=>?_) zIX;unfold zBX;exact(zL (zr 1 nd (yA (yu zJ))) (zL (wg PassesOwn.never rfl (wH rfl ae (zD (zC 0) zJ)) (zAC 2 nd) (zQ (zAp (zJw (zC 1) (zGi "other" rfl (yv (osc:=zE wW) (N:=["many","found","one"]) (N0:=["!00","!01","one"]) (own:=["other"]) (by decide +kernel)) (zFa rfl ae (zD (zBG (zC 2) zN) (zD (zC 0) zJ))) (fun u0 u0 u0 u0 u0=>zGZ) (fun u0 u0 u0 u0 u0=>(zAB (zD (zC 2) (zD (zC 3) zJ))))))))) (zQ (zv (zC 1)))))
theorem zLN(F:Fun K "_law_web" "_law_web" zAW f fd)(hm:mg "_law_web"=some (.ref f))(ag:mg "tuple"=none)   (ah:Df P w K mg base 1 "_law_take" ["state","many"] zp)(ak:Df P w K mg base 1 "_law_pairs" ["many"] (spL zu))(bQ:Df P w K mg base 2 "_law_ring" ["state","many"] zAh)(bB:Df P w K mg base 2 "_law_web_of" ["ring"] wb):Df P w K mg base 3 "_law_web" ["state","most"] zBK:=by
 have nd:=(zGK).nd;refine yS zDC F zGK hm (F.binds fun u0 u0 u0 u0 u0 u0 us hl=>us2 us hl fun u0 u0=>rfl) (fun cdv A outer s H E hr=>?_) zL7;unfold zDC;exact(zL (zr 2 nd (zBG zN (zw ah hr (by decide) rfl (zD (zC 0) (zD (zC 1) zJ))))) (zL (zr 3 nd (zw ah hr (by decide) rfl (zD (zC 0) (zD zN zJ)))) (zL (zr 4 nd (yA (zBt ak wn hr (by decide) rfl (zD (zC 2) zJ)))) (zL (zAL (zIN hr (zC 3) zN) (zQ (zv (zw bB hr (by decide) rfl (zD (zw bQ hr (by decide) rfl (zD (zC 0) (zD (zC 2) zJ))) zJ)))) yR) (zL (zAL (zIN hr (zC 3) zN) (zQ (zv (zAB (zD (zC 2) (zD (zCh rfl ag (zGi "pair" rfl (yv (osc:=zE zAW) (N:=["state","most","many","way","pairs","far"]) (N0:=["state","!01","!02","!03","!04","!05"]) (own:=["pair"]) (by decide +kernel)) (zCu (zC 4)) (fun u0 u0 u0 u0 u0=>(zBu (W2.test (w_or (zIN hr (yU (zC 6) zN) (zBG (yU (zC 6) zN) zN)) (zJm (zIN hr (zw ah hr (by decide) rfl (zD (zC 0) (zD zN zJ))) zN)))))) (fun u0 u0 u0 u0 u0=>(zC 6)))) zJ))))) yR) (zL (zr 5 nd (yU (yA (yu (zD zN (zD zN (zD zN zJ))))) (zJo (zC 3) zN))) (zQ (zv (zAB (zD (zC 2) (zD (zCh rfl ag (zGi "pair" rfl (yv (osc:=zE zAW) (N:=["state","most","many","way","pairs","far"]) (N0:=["state","!01","!02","!03","!04","far"]) (own:=["pair"]) (by decide +kernel)) (zCu (zC 4)) (fun u0 u0 u0 u0 u0=>(zBu (zIN hr (zw ah hr (by decide) rfl (zD (zC 0) (zD (zC 5) zJ))) zN))) (fun u0 u0 u0 u0 u0=>(zC 6)))) zJ)))))))))))
theorem zJO(F:Fun K "_law_ring" "_law_ring" zAK f fd)(hm:mg "_law_ring"=some (.ref f))(aL:mg "list"=none)(ae:mg "range"=none)(ag:mg "tuple"=none)(aB:mg "len"=none)   (ah:Df P w K mg base 1 "_law_take" ["state","many"] zp):Df P w K mg base 2 "_law_ring" ["state","many"] zAh:=by
 have nd:=(zEu).nd;refine yS zCI F zEu hm (F.binds fun u0 u0 u0 u0 u0 u0 us hl=>us2 us hl fun u0 u0=>rfl) (fun cdv A outer s H E hr=>?_) zKA;unfold zCI;exact(zL (zr 2 nd (yA (zPE (yA (zLr rfl rfl aL rfl ae (zD (zC 1) zJ))) zN))) (zQ (zv (zCh rfl ag (zGi "k" rfl (yv (osc:=zE zAK) (N:=["state","many","left"]) (N0:=["state","!01","left"]) (own:=["k"]) (by decide +kernel)) (wH rfl ae (zD (zCg zN (zC 1)) zJ)) (fun u0 u0 u0 u0 u0=>zGZ) (fun u0 u0 u0 u0 u0=>(zPF (zC 2) (zD (zw ah hr (by decide) rfl (zD (zC 0) (zD (zB6 rfl aB (zD (zC 2) zJ)) zJ))) zJ))))))))
theorem zGO(F:Fun K "_law_web_of" "_law_web_of" yz f fd)(hm:mg "_law_web_of"=some (.ref f))(aB:mg "len"=none)(ag:mg "tuple"=none)   (ak:Df P w K mg base 1 "_law_pairs" ["many"] (spL zu)):Df P w K mg base 2 "_law_web_of" ["ring"] wb:=by
 have nd:=(zC1).nd;refine yS zAz F zC1 hm (F.binds fun u0 u0 u0 u0 u0 u0 us hl=>us1 us hl fun u0=>rfl) (fun cdv A outer s H E hr=>?_) zGr;unfold zAz;exact(zL (zr 1 nd (zGb (zB6 rfl aB (zD (zC 0) zJ)) zN)) (zL (zr 2 nd (yA (yu zJ))) (zL (wg PassesOwn.never rfl (zMq (zBt ak wn hr (by decide) rfl (zD (zC 1) zJ))) (zO6 3 4 rfl nd) (zL (zLv 5 "place" rfl (yv (osc:=zE yz) (N:=["ring","many","found","one","other","some"]) (N0:=["!00","!01","!02","one","other","!05"]) (own:=["place"]) (by decide +kernel)) (zCu (zC 0)) (fun u0 u0 u0 u0 u0=>(zBu (zPC hr (zC 6) (zAB (zD (zC 3) (zD (zC 4) zJ)))))) (fun u0 u0 u0 u0 u0=>(zC 6)) nd) (zQ (zAL (W2.test (w_and (zEA hr (yU (zC 5) zN) (yU (zC 5) zN)) (zNs (zEA hr (yU (zC 5) zN) (yU (zC 5) zN))))) (zQ (zAp (zAD (zC 2) (zD (zAB (zD (zC 3) (zD (zC 4) zJ))) zJ)))) yR)))) (zQ (zv (zAB (zD (zC 1) (zD (zHQ rfl ag (zD (zC 2) zJ)) zJ))))))))
theorem zGP(F:Fun K "_law_same" "_law_same" yK f fd)(hm:mg "_law_same"=some (.ref f)):Df P w K mg base (k+1) "_law_same" ["found","due"] (zg 0):=by
 refine yS (fun u0 u0 u0=>False) F zBz hm (F.binds fun u0 u0 u0 u0 u0 u0 us hl=>us2 us hl fun u0 u0=>rfl) (fun cdv A outer s H E hr=>?_) (fun u0 u0 u0 h=>(zG9 h).elim);exact zPK
theorem zA6(F:Fun K "_law_same" "_law_same" yK f fd)(hm:mg "_law_same"=some (.ref f))(ad:mg "isinstance"=none)(ag:mg "tuple"=none)(aL:mg "list"=none)(aB:mg "len"=none)(bW:mg "all"=none)(bX:mg "zip"=none)(bC:mg "bool"=none)(aV:Df P w K mg base k "_law_same" ["found","due"] (zg d)):Df P w K mg base (k+1) "_law_same" ["found","due"] (zg (d+1)):=by
 have nd:=(zBz).nd;refine yS (wT d) F zBz hm (F.binds fun u0 u0 u0 u0 u0 u0 us hl=>us2 us hl fun u0 u0=>rfl) (fun cdv A outer s H E hr=>?_) (zJI d);unfold wT;exact(zL (zAL (zDV (zOE rfl ad rfl ag rfl aL (zC 1))) (zL (zAL (W2.test (w_or (zEA hr (zEU (T:="tuple") rfl ad rfl ag (by decide +kernel) (zC 0)) (zEU (T:="tuple") rfl ad rfl ag (by decide +kernel) (zC 1))) (zJm (zEA hr (zEU (T:="list") rfl ad rfl aL (by decide +kernel) (zC 0)) (zEU (T:="list") rfl ad rfl aL (by decide +kernel) (zC 1)))))) (zQ (zv zDQ)) yR) (zL (zAL (zEA hr (zB6 rfl aB (zD (zC 0) zJ)) (zB6 rfl aB (zD (zC 1) zJ))) (zQ (zv zDQ)) yR) (zQ (zv (zPH rfl rfl bW (zP8 "one" "other" rfl (yv (osc:=zE yK) (N:=["found","due"]) (N0:=["!00","!01"]) (own:=["one","other"]) (by decide +kernel)) (zOi rfl bX (zD (zC 0) (zD (zC 1) zJ))) (fun u0 u0 u0 u0 u0=>zGZ) (fun u0 u0 u0 u0 u0=>(zw aV hr (by omega) rfl (zD (zC 2) (zD (zC 3) zJ)))))))))) yR) (zQ (zv (zMt (zNz hr (zC 0) (zC 1)) (zMs (zNz hr (zEU (T:="bool") rfl ad rfl bC (by decide +kernel) (zC 0)) (zEU (T:="bool") rfl ad rfl bC (by decide +kernel) (zC 1))))))))
theorem zGQ(F:Fun K "_law_turned" "_law_turned" wA f fd)(hm:mg "_law_turned"=some (.ref f))(ag:mg "tuple"=none)   (ak:Df P w K mg base 1 "_law_pairs" ["many"] (spL zu)):Df P w K mg base 2 "_law_turned" ["web","place"] wd:=by
 have nd:=(zC2).nd;refine yS zA2 F zC2 hm (F.binds fun u0 u0 u0 u0 u0 u0 us hl=>us2 us hl fun u0 u0=>rfl) (fun cdv A outer s H E hr=>?_) zG4;unfold zA2;exact(zL (zMQ 2 "one" "other" rfl (yv (osc:=zE wA) (N:=["web","place","near","found","pair","inside"]) (N0:=["!00","place","!02","!03","!04","!05"]) (own:=["one","other"]) (by decide +kernel)) (zCu (yU (zC 0) zN)) (fun u0 u0 u0 u0 u0=>(zBu (zPC hr (zC 1) (zAB (zD (zC 6) (zD (zC 7) zJ)))))) (fun u0 u0 u0 u0 u0=>(zJo (zBG (zC 6) (zC 7)) (zC 1))) nd) (zL (zr 3 nd (yA (yu zJ))) (zL (wg PassesOwn.never rfl (zMq (zBt ak wn hr (by decide) rfl (zD (yU (zC 0) zN) zJ))) (zAC 4 nd) (zL (zr 5 nd (zMt (zLo hr (yU (zC 4) zN) (zC 2)) (zMs (zLo hr (yU (zC 4) zN) (zC 2))))) (zQ (zAL (zEA hr (zLo hr (zC 4) (yU (zC 0) zN)) (zC 5)) (zQ (zAp (zAD (zC 3) (zD (zC 4) zJ)))) yR)))) (zQ (zv (zAB (zD (yU (zC 0) zN) (zD (zHQ rfl ag (zD (zC 3) zJ)) zJ))))))))
theorem zHE(F:Fun K "_law_orbit" "_law_orbit" wx f fd)(hm:mg "_law_orbit"=some (.ref f))(ae:mg "range"=none)   (bD:Df P w K mg base 2 "_law_turned" ["web","place"] wd):Df P w K mg base 3 "_law_orbit" ["web"] wS:=by
 have nd:=(zD3).nd;refine yS zBd F zD3 hm (F.binds fun u0 u0 u0 u0 u0 u0 us hl=>us1 us hl fun u0=>rfl) (fun cdv A outer s H E hr=>?_) zI3;unfold zBd;exact(zL (zr 1 nd (zHw hr (zC 0) (yA (yu zJ)))) (zL (zr 2 nd (yA (yu (zD (zC 0) zJ)))) (zL (zFg PassesOwn.never (zEA hr (zC 2) (yA (yu zJ))) (zL (zr 3 nd (yA (yu zJ))) (zL (wg PassesOwn.never rfl (zCu (zC 2)) (zAC 4 nd) (zQ (wg PassesOwn.never rfl (wH rfl ae (zD (yU (zC 0) zN) zJ)) (zAC 5 nd) (zL (zr 6 nd (zw bD hr (by decide) rfl (zD (zC 4) (zD (zC 5) zJ)))) (zQ (zAL (zF7 hr (zC 6) (zC 1)) (zL (zHN (yA (zJ0 (zM6 hr (zC 1) (zC 4)) (yA (yu (zD (zC 5) zJ))))) (zM7 hr (zC 1) (zC 6))) (zQ (zAp (zAD (zC 3) (zD (zC 6) zJ))))) yR)))))) (zQ (zr 2 nd (zC 3)))))) (zQ (zv (zC 1))))))
theorem zHF(F:Fun K "_law_right" "_law_right" wy f fd)(hm:mg "_law_right"=some (.ref f))(ae:mg "range"=none)(cy:mg "int"=none)   (aD:Df P w K mg base 6 "turns_to" ["one","other"] zq)(aV:Df P w K mg base 5 "_law_same" ["found","due"] (zg 4)):Df P w K mg base 7 "_law_right" ["orbit","one","other"] wU:=by
 have nd:=(zD4).nd;refine yS zBe F zD4 hm (F.binds fun u0 u0 u0 u0 u0 u0 us hl=>us3 us hl fun u0 u0 u0=>rfl) (fun cdv A outer s H E hr=>?_) zJK;unfold zBe;exact(zL (zr 3 nd (zKu hr (zC 0) (zD (zC 2) zJ))) (zL (wg PassesOwn.never rfl (wH rfl ae (zD (zBG zN (zOG rfl cy (zD (zNz hr (zC 1) (zC 2)) zJ))) zJ)) (zAC 4 nd) (zL (zr 5 nd (zw aD hr (by decide) rfl (zD (zC 1) (zD (zC 2) zJ)))) (zQ (zAL (zPZ (zC 3) zDR) (zQ (zAL (zDx (zC 5) zDR) (zQ (zv zDQ)) yR)) (zQ (zAL (zJn (zDV (zw aV hr (by decide) rfl (zD (zC 5) (zD (zC 3) zJ))))) (zQ (zv zDQ)) (zQ (zAp (zAD (zC 5) (zD zN zJ)))))))))) (zQ (zv zDQ))))
theorem zOl(F:Fun K "law" "law" zBO f fd)(ae:mg "range"=none)(bV:mg "max"=none)(bU:mg "min"=none)(aB:mg "len"=none)(aU:mg "sorted"=none)(ag:mg "tuple"=none)(ad:mg "isinstance"=none)(aH:mg "ValueError"=none)   (bH:Df P w K mg base 2 "_law_state" ["script","k"] (spL yW))(ah:Df P w K mg base 1 "_law_take" ["state","many"] zp)(bY:Df P w K mg base 3 "_law_web" ["state","most"] zBK)(bI:Df P w K mg base 3 "_law_orbit" ["web"] wS)(ak:Df P w K mg base 1 "_law_pairs" ["many"] (spL zu))(bJ:Df P w K mg base 7 "_law_right" ["orbit","one","other"] wU)(aD:Df P w K mg base 6 "turns_to" ["one","other"] zq)(aX:mg "ChordError"=some (.ref aJ))(aw:mg "TooMany"=some (.ref aa))(bG:mg "NoTie"=some (.ref aO))(aS:mg "NoSplit"=some (.ref aE))(ba:mg "NoName"=some (.ref aK))(aT:mg "BadNote"=some (.ref aF))(FR:Fun K "_law_refused" "_law_refused" zx fR fdR)(mR:mg "_law_refused"=some (.ref fR))(bR:Binds K fdR ["call"] [])(hco:fd.code=.ref tc)(hCH:PySem.W.CodeHd base tc tP)(hBA:BMn base mg)(hTB:PySem.W.tabIn K "law"=some (tc,tP))(aG:zFQ K aa)(aM:PySem.W.exmOne K (.ref aa) (.ref aJ)=some true)(am:PySem.W.kitOne K (.ref aa) (.ref aa)=some true)(av:PySem.W.kitOne K (.ref aa) (.ref aO)=some false)(ao:PySem.W.kitOne K (.ref aa) (.ref aE)=some false)(au:PySem.W.kitOne K (.ref aa) (.ref aK)=some false)(aq:PySem.W.kitOne K (.ref aa) (.ref aF)=some false)(aN:PySem.W.kitOne K (.ref aa) (.type "ValueError")=some true)(bE:Rz P w K mg base 6 "turns_to" ["one","other"] yZ aa) :zB1 P w K mg base CX0 9 f fd ["script"] (lSp K zEX):=by
 have nd:=zLM.nd;refine zOd zCa F zLM (fun cdv A outer s H E hcd hr=>?_) zPn;unfold zCa;exact(zL (wg PassesOwn.never rfl (wH rfl ae (zD (zMw rfl rfl bV (zD zN (zD (zMv rfl rfl bU (zD (zB6 rfl aB (zD (zC 0) zJ)) (zD zN zJ))) zJ))) zJ)) (zAC 1 nd) (zL (zr 2 nd (yA (zBt bH zE5 hr (by decide) rfl (zD (zC 0) (zD (zC 1) zJ))))) (zL (zr 3 nd (zw bY hr (by decide) rfl (zD (zC 2) (zD (yU (yA (yu (zD zN (zD zN (zD zN (zD zN zJ)))))) (zw ah hr (by decide) rfl (zD (zC 2) (zD zN zJ)))) zJ)))) (zL (zr 4 nd (zw bI hr (by decide) rfl (zD (zC 3) zJ))) (zL (zr 5 nd (yA (zI0 hr rfl rfl aU (zD (zC 4) zJ)))) (zL (zr 6 nd (yA (zBt ak wn hr (by decide) rfl (zD (yU (zC 3) zN) zJ)))) (zL (zr 7 nd (yA (yu (zD (yU (zC 5) (zw ah hr (by decide) rfl (zD (zC 2) (zD (zB6 rfl aB (zD (zC 5) zJ)) zJ)))) (zD (zC 3) zJ))))) (zL (zAp (zAD (zC 7) (zD (zAB (zD (yU (zC 3) zN) (zD (zCh rfl ag (zGi "pair" rfl (yv (osc:=zE zBO) (N:=["script","k","state","web","orbit","some","pairs","others","other","wide"]) (N0:=["!00","!01","state","!03","!04","!05","!06","!07","!08","!09"]) (own:=["pair"]) (by decide +kernel)) (zCu (zC 6)) (fun u0 u0 u0 u0 u0=>(zBu (zIN hr (zw ah hr (by decide) rfl (zD (zC 2) (zD zN zJ))) zN))) (fun u0 u0 u0 u0 u0=>(zC 10)))) zJ))) zJ))) (zL (wg PassesOwn.never rfl (zCu (zC 7)) (zAC 8 nd) (zQ (zAL (zJn (zDV (zw bJ hr (by decide) rfl (zD (zC 4) (zD (zC 3) (zD (zC 8) zJ)))))) (zQ (zv zDQ)) yR))) (zL (zr 9 nd (zAB (zD (zBG zN (zw ah hr (by decide) rfl (zD (zC 2) (zD zN zJ)))) (zD (zAB (zD (zAB (zD zN (zD zN zJ))) zJ)) zJ)))) (zL (zAL (W2.test (w_or (zDx (zw aD hr (by decide) rfl (zD (zC 3) (zD (zC 9) zJ))) zDR) (zJm (zDx (zw aD hr (by decide) rfl (zD (zC 9) (zD (zC 3) zJ))) zDR)))) (zQ (zv zDQ)) yR) (zQ (zAL (zEA hr (yA (zPe (k:=6) FR zCc mR bR (hr.mono (by decide)) rfl zPo aX aM (fun cdv A outer s H e oe u0 hcl=>zMi ad aH ae aw bG aS ba aT aG hcl am av ao au aq aN) zGH (zPd (osc:=zE zBO) (by decide +kernel) (hcd.symm.trans hco) hCH hBA hTB (by decide) rfl rfl (fun u0 u0 u0 u0 u0=>rfl)) (fun g cv A outer s H hr2=>zHz zMc bE hr2 (by decide) rfl (zD (zC 9) (zD (zC 9) zJ))))) (yA (yu (zD zN zJ)))) (zQ (zv zDQ)) yR))))))))))))) (zQ (zv zDQ)))
end
theorem zOm{l:PySem.W.OpenLaw}{w:World}{K:PySem.W.Frag}{h:Heap}{mg:Str->Option Value}{fa:Addr}(X:K.In h)(G:h.Ns mainGlobals mg)(hfa:mg "law"=some (.ref fa))
  {f0:Addr} {od0 an0:Option Addr} {sl0:Array (Option Value)} {oc0 kV0 dc0 pm0 cd0 ct0:Value} {f1:Addr} {od1 an1:Option Addr} {sl1:Array (Option Value)} {oc1 kV1 dc1 pm1 cd1 ct1:Value} {f2:Addr} {od2 an2:Option Addr} {sl2:Array (Option Value)} {oc2 kV2 dc2 pm2 cd2 ct2:Value} {f3:Addr} {od3 an3:Option Addr} {sl3:Array (Option Value)} {oc3 kV3 dc3 pm3 cd3 ct3:Value} {f4:Addr} {od4 an4:Option Addr} {sl4:Array (Option Value)} {oc4 kV4 dc4 pm4 cd4 ct4:Value} {f5:Addr} {od5 an5:Option Addr} {sl5:Array (Option Value)} {oc5 kV5 dc5 pm5 cd5 ct5:Value} {f6:Addr} {od6 an6:Option Addr} {sl6:Array (Option Value)} {oc6 kV6 dc6 pm6 cd6 ct6:Value} {f7:Addr} {od7 an7:Option Addr} {sl7:Array (Option Value)} {oc7 kV7 dc7 pm7 cd7 ct7:Value} {f8:Addr} {od8 an8:Option Addr} {sl8:Array (Option Value)} {oc8 kV8 dc8 pm8 cd8 ct8:Value} {f9:Addr} {od9 an9:Option Addr} {sl9:Array (Option Value)} {oc9 kV9 dc9 pm9 cd9 ct9:Value} {f10:Addr} {od10 an10:Option Addr} {sl10:Array (Option Value)} {oc10 kV10 dc10 pm10 cd10 ct10:Value} {f11:Addr} {od11 an11:Option Addr} {sl11:Array (Option Value)} {oc11 kV11 dc11 pm11 cd11 ct11:Value} {f12:Addr} {od12 an12:Option Addr} {sl12:Array (Option Value)} {oc12 kV12 dc12 pm12 cd12 ct12:Value} {f13:Addr} {od13 an13:Option Addr} {sl13:Array (Option Value)} {oc13 kV13 dc13 pm13 cd13 ct13:Value} {f14:Addr} {od14 an14:Option Addr} {sl14:Array (Option Value)} {oc14 kV14 dc14 pm14 cd14 ct14:Value} {f15:Addr} {od15 an15:Option Addr} {sl15:Array (Option Value)} {oc15 kV15 dc15 pm15 cd15 ct15:Value} {f16:Addr} {od16 an16:Option Addr} {sl16:Array (Option Value)} {oc16 kV16 dc16 pm16 cd16 ct16:Value} {f17:Addr} {od17 an17:Option Addr} {sl17:Array (Option Value)} {oc17 kV17 dc17 pm17 cd17 ct17:Value} {f18:Addr} {od18 an18:Option Addr} {sl18:Array (Option Value)} {oc18 kV18 dc18 pm18 cd18 ct18:Value} {f19:Addr} {od19 an19:Option Addr} {sl19:Array (Option Value)} {oc19 kV19 dc19 pm19 cd19 ct19:Value} {f20:Addr} {od20 an20:Option Addr} {sl20:Array (Option Value)} {oc20 kV20 dc20 pm20 cd20 ct20:Value} {aC:Tok} {aJ aa aO aE aK aF:Addr} {cA cB:Addr}
  (a0:PySem.W.nsIn K mainGlobals "pairs_of"=some (some (.ref f0))) (l0:K.lookup f0=some ⟨oc0,od0,.func (PySem.W.fnOf "pairs_of" "pairs_of" (ze wV) (zX wV) (zE wV) .none kV0 dc0 pm0 an0 cd0 ct0),sl0⟩) (c0:PySem.W.codeIn K cd0 "pairs_of"=true) (k0:PySem.W.keepIn K (.ref f0)=true)
  (a1:PySem.W.nsIn K mainGlobals "refuse_more"=some (some (.ref f1))) (l1:K.lookup f1=some ⟨oc1,od1,.func (PySem.W.fnOf "refuse_more" "refuse_more" (ze yD) (zX yD) (zE yD) .none kV1 dc1 pm1 an1 cd1 ct1),sl1⟩) (c1:PySem.W.codeIn K cd1 "refuse_more"=true) (k1:PySem.W.keepIn K (.ref f1)=true)
  (a2:PySem.W.nsIn K mainGlobals "tied"=some (some (.ref f2))) (l2:K.lookup f2=some ⟨oc2,od2,.func (PySem.W.fnOf "tied" "tied" (ze zCt) (zX zCt) (zE zCt) .none kV2 dc2 pm2 an2 cd2 ct2),sl2⟩) (c2:PySem.W.codeIn K cd2 "tied"=true) (k2:PySem.W.keepIn K (.ref f2)=true)
  (a3:PySem.W.nsIn K mainGlobals "around"=some (some (.ref f3))) (l3:K.lookup f3=some ⟨oc3,od3,.func (PySem.W.fnOf "around" "around" (ze zAJ) (zX zAJ) (zE zAJ) .none kV3 dc3 pm3 an3 cd3 ct3),sl3⟩) (c3:PySem.W.codeIn K cd3 "around"=true) (k3:PySem.W.keepIn K (.ref f3)=true)
  (a4:PySem.W.nsIn K mainGlobals "web_turned"=some (some (.ref f4))) (l4:K.lookup f4=some ⟨oc4,od4,.func (PySem.W.fnOf "web_turned" "web_turned" (ze yo) (zX yo) (zE yo) .none kV4 dc4 pm4 an4 cd4 ct4),sl4⟩) (c4:PySem.W.codeIn K cd4 "web_turned"=true) (k4:PySem.W.keepIn K (.ref f4)=true)
  (a5:PySem.W.nsIn K mainGlobals "turns_to"=some (some (.ref f5))) (l5:K.lookup f5=some ⟨oc5,od5,.func (PySem.W.fnOf "turns_to" "turns_to" (ze yi) (zX yi) (zE yi) .none kV5 dc5 pm5 an5 cd5 ct5),sl5⟩) (c5:PySem.W.codeIn K cd5 "turns_to"=true) (k5:PySem.W.keepIn K (.ref f5)=true)
  (a6:PySem.W.nsIn K mainGlobals "turn_lists"=some (some (.ref f6))) (l6:K.lookup f6=some ⟨oc6,od6,.func (PySem.W.fnOf "turn_lists" "turn_lists" (ze yp) (zX yp) (zE yp) .none kV6 dc6 pm6 an6 cd6 ct6),sl6⟩) (c6:PySem.W.codeIn K cd6 "turn_lists"=true) (k6:PySem.W.keepIn K (.ref f6)=true)
  (a7:PySem.W.nsIn K mainGlobals "spread"=some (some (.ref f7))) (l7:K.lookup f7=some ⟨oc7,od7,.func (PySem.W.fnOf "spread" "spread" (ze zAk) (zX zAk) (zE zAk) .none kV7 dc7 pm7 an7 cd7 ct7),sl7⟩) (c7:PySem.W.codeIn K cd7 "spread"=true) (k7:PySem.W.keepIn K (.ref f7)=true)
  (a8:PySem.W.nsIn K mainGlobals "_law_cell_at"=some (some (.ref f8))) (l8:K.lookup f8=some ⟨oc8,od8,.func (PySem.W.fnOf "_law_cell_at" "_law_cell_at" (ze wE) (zX wE) (zE wE) .none kV8 dc8 pm8 an8 cd8 ct8),sl8⟩) (c8:PySem.W.codeIn K cd8 "_law_cell_at"=true) (k8:PySem.W.keepIn K (.ref f8)=true)
  (a9:PySem.W.nsIn K mainGlobals "_law_state"=some (some (.ref f9))) (l9:K.lookup f9=some ⟨oc9,od9,.func (PySem.W.fnOf "_law_state" "_law_state" (ze ww) (zX ww) (zE ww) .none kV9 dc9 pm9 an9 cd9 ct9),sl9⟩) (c9:PySem.W.codeIn K cd9 "_law_state"=true) (k9:PySem.W.keepIn K (.ref f9)=true)
  (a10:PySem.W.nsIn K mainGlobals "_law_take"=some (some (.ref f10))) (l10:K.lookup f10=some ⟨oc10,od10,.func (PySem.W.fnOf "_law_take" "_law_take" (ze zAl) (zX zAl) (zE zAl) .none kV10 dc10 pm10 an10 cd10 ct10),sl10⟩) (c10:PySem.W.codeIn K cd10 "_law_take"=true) (k10:PySem.W.keepIn K (.ref f10)=true)
  (a11:PySem.W.nsIn K mainGlobals "_law_pairs"=some (some (.ref f11))) (l11:K.lookup f11=some ⟨oc11,od11,.func (PySem.W.fnOf "_law_pairs" "_law_pairs" (ze wW) (zX wW) (zE wW) .none kV11 dc11 pm11 an11 cd11 ct11),sl11⟩) (c11:PySem.W.codeIn K cd11 "_law_pairs"=true) (k11:PySem.W.keepIn K (.ref f11)=true)
  (a12:PySem.W.nsIn K mainGlobals "_law_web"=some (some (.ref f12))) (l12:K.lookup f12=some ⟨oc12,od12,.func (PySem.W.fnOf "_law_web" "_law_web" (ze zAW) (zX zAW) (zE zAW) .none kV12 dc12 pm12 an12 cd12 ct12),sl12⟩) (c12:PySem.W.codeIn K cd12 "_law_web"=true) (k12:PySem.W.keepIn K (.ref f12)=true)
  (a13:PySem.W.nsIn K mainGlobals "_law_ring"=some (some (.ref f13))) (l13:K.lookup f13=some ⟨oc13,od13,.func (PySem.W.fnOf "_law_ring" "_law_ring" (ze zAK) (zX zAK) (zE zAK) .none kV13 dc13 pm13 an13 cd13 ct13),sl13⟩) (c13:PySem.W.codeIn K cd13 "_law_ring"=true) (k13:PySem.W.keepIn K (.ref f13)=true)
  (a14:PySem.W.nsIn K mainGlobals "_law_web_of"=some (some (.ref f14))) (l14:K.lookup f14=some ⟨oc14,od14,.func (PySem.W.fnOf "_law_web_of" "_law_web_of" (ze yz) (zX yz) (zE yz) .none kV14 dc14 pm14 an14 cd14 ct14),sl14⟩) (c14:PySem.W.codeIn K cd14 "_law_web_of"=true) (k14:PySem.W.keepIn K (.ref f14)=true)
  (a15:PySem.W.nsIn K mainGlobals "_law_same"=some (some (.ref f15))) (l15:K.lookup f15=some ⟨oc15,od15,.func (PySem.W.fnOf "_law_same" "_law_same" (ze yK) (zX yK) (zE yK) .none kV15 dc15 pm15 an15 cd15 ct15),sl15⟩) (c15:PySem.W.codeIn K cd15 "_law_same"=true) (k15:PySem.W.keepIn K (.ref f15)=true)
  (a16:PySem.W.nsIn K mainGlobals "_law_refused"=some (some (.ref f16))) (l16:K.lookup f16=some ⟨oc16,od16,.func (PySem.W.fnOf "_law_refused" "_law_refused" (ze zx) (zX zx) (zE zx) .none kV16 dc16 pm16 an16 cd16 ct16),sl16⟩) (c16:PySem.W.codeIn K cd16 "_law_refused"=true) (k16:PySem.W.keepIn K (.ref f16)=true)
  (a17:PySem.W.nsIn K mainGlobals "_law_turned"=some (some (.ref f17))) (l17:K.lookup f17=some ⟨oc17,od17,.func (PySem.W.fnOf "_law_turned" "_law_turned" (ze wA) (zX wA) (zE wA) .none kV17 dc17 pm17 an17 cd17 ct17),sl17⟩) (c17:PySem.W.codeIn K cd17 "_law_turned"=true) (k17:PySem.W.keepIn K (.ref f17)=true)
  (a18:PySem.W.nsIn K mainGlobals "_law_orbit"=some (some (.ref f18))) (l18:K.lookup f18=some ⟨oc18,od18,.func (PySem.W.fnOf "_law_orbit" "_law_orbit" (ze wx) (zX wx) (zE wx) .none kV18 dc18 pm18 an18 cd18 ct18),sl18⟩) (c18:PySem.W.codeIn K cd18 "_law_orbit"=true) (k18:PySem.W.keepIn K (.ref f18)=true)
  (a19:PySem.W.nsIn K mainGlobals "_law_right"=some (some (.ref f19))) (l19:K.lookup f19=some ⟨oc19,od19,.func (PySem.W.fnOf "_law_right" "_law_right" (ze wy) (zX wy) (zE wy) .none kV19 dc19 pm19 an19 cd19 ct19),sl19⟩) (c19:PySem.W.codeIn K cd19 "_law_right"=true) (k19:PySem.W.keepIn K (.ref f19)=true)
  (a20:PySem.W.nsIn K mainGlobals "law"=some (some (.ref f20))) (l20:K.lookup f20=some ⟨oc20,od20,.func (PySem.W.fnOf "law" "law" (ze zBO) (zX zBO) (zE zBO) .none kV20 dc20 pm20 an20 cd20 ct20),sl20⟩) (c20:PySem.W.codeIn K cd20 "law"=true) (k20:PySem.W.keepIn K (.ref f20)=true)
  (aR:PySem.W.nsIn K mainGlobals "MOST_TURNED"=some (some (.int 5 aC)))
  (bZ:PySem.W.nsIn K mainGlobals "range"=some none)
  (cD:PySem.W.nsIn K mainGlobals "len"=some none)
  (cE:PySem.W.nsIn K mainGlobals "min"=some none)
  (cF:PySem.W.nsIn K mainGlobals "max"=some none)
  (ca:PySem.W.nsIn K mainGlobals "tuple"=some none)
  (bS:PySem.W.nsIn K mainGlobals "sorted"=some none)
  (cG:PySem.W.nsIn K mainGlobals "set"=some none)
  (ce:PySem.W.nsIn K mainGlobals "list"=some none)
  (aY:PySem.W.nsIn K mainGlobals "isinstance"=some none)
  (cH:PySem.W.nsIn K mainGlobals "all"=some none)
  (cI:PySem.W.nsIn K mainGlobals "zip"=some none)
  (cf:PySem.W.nsIn K mainGlobals "bool"=some none)
  (aZ:PySem.W.nsIn K mainGlobals "ValueError"=some none)
  (cJ:PySem.W.nsIn K mainGlobals "int"=some none)
  (b9:PySem.W.nsIn K mainGlobals "ChordError"=some (some (.ref aJ)))
  (bK:PySem.W.nsIn K mainGlobals "TooMany"=some (some (.ref aa)))
  (cb:PySem.W.nsIn K mainGlobals "NoTie"=some (some (.ref aO)))
  (bL:PySem.W.nsIn K mainGlobals "NoSplit"=some (some (.ref aE)))
  (bT:PySem.W.nsIn K mainGlobals "NoName"=some (some (.ref aK)))
  (bM:PySem.W.nsIn K mainGlobals "BadNote"=some (some (.ref aF)))
  (bf:PySem.W.excIn K aa bmV "ValueError.__new__"=true)
  (bg:(PySem.W.clsIn K aa).isSome=true)
  (bh:PySem.W.findIn K (.ref aa) "__getattribute__"=some (some (.builtin "BaseException.__getattribute__")))
  (bn:PySem.W.findIn K (.ref aa) "__getattr__"=some none)
  (bo:PySem.W.findIn K (.ref aa) "__class__"=some (some (.builtin "object.__class__")))
  (bp:PySem.W.specialIn K (.builtin "object.__class__") "__get__"=some (some (.builtin "getset_descriptor.__get__")))
  (bq:PySem.W.takesIn K (.builtin "object.__class__")=some true)
  (br:PySem.W.mroIn K aa (.type "object")=some true)
  (bu:PySem.W.mroIn K aa (.type "BaseException")=some true)
  (aM:PySem.W.exmOne K (.ref aa) (.ref aJ)=some true)
  (am:PySem.W.kitOne K (.ref aa) (.ref aa)=some true)
  (av:PySem.W.kitOne K (.ref aa) (.ref aO)=some false)
  (ao:PySem.W.kitOne K (.ref aa) (.ref aE)=some false)
  (au:PySem.W.kitOne K (.ref aa) (.ref aK)=some false)
  (aq:PySem.W.kitOne K (.ref aa) (.ref aF)=some false)
  (aN:PySem.W.kitOne K (.ref aa) (.type "ValueError")=some true)
  (zCa:PySem.W.tabIn K "law"=some (cA,cB)) (cK:zCY K cA cB=true) :
  ∃ fd:FuncData,(∀(s:Shared) (v:Value),BindsTo s fd ⟨[v],[]⟩ [("script",v)])/\∀ base:Heap,K.In base->base.Ns mainGlobals mg->BMn base mg->zB1 l.prog w K mg base CX0 9 fa fd ["script"] (lSp K zEX):=by
 have e:=hfa.symm.trans (PySem.W.mg_of X G a20);cases e;have aA:=PySem.W.mg_of X G aR;have ae:=PySem.W.mg_none_of X G bZ;have aB:=PySem.W.mg_none_of X G cD;have bU:=PySem.W.mg_none_of X G cE;have bV:=PySem.W.mg_none_of X G cF;have ag:=PySem.W.mg_none_of X G ca;have aU:=PySem.W.mg_none_of X G bS;have cx:=PySem.W.mg_none_of X G cG;have aL:=PySem.W.mg_none_of X G ce;have ad:=PySem.W.mg_none_of X G aY;have bW:=PySem.W.mg_none_of X G cH;have bX:=PySem.W.mg_none_of X G cI;have bC:=PySem.W.mg_none_of X G cf;have aH:=PySem.W.mg_none_of X G aZ;have cy:=PySem.W.mg_none_of X G cJ;refine⟨PySem.W.fnOf "law" "law" (ze zBO) (zX zBO) (zE zBO) .none kV20 dc20 pm20 an20 cd20 ct20,fun s v=>.of_eq rfl,fun base kb u0 hBA=>?_⟩;have aX:=PySem.W.mg_of X G b9;have aw:=PySem.W.mg_of X G bK;have bG:=PySem.W.mg_of X G cb;have aS:=PySem.W.mg_of X G bL;have ba:=PySem.W.mg_of X G bT;have aT:=PySem.W.mg_of X G bM;have aG:zFQ K aa:=⟨bf,bg,bh,bn,bo,bp,bq,br,bu⟩
 have FR:=zt (st:=zx) l16 c16 k16;have mR:=PySem.W.mg_of X G a16;have bR:=FR.binds (ps:=["call"]) fun u0 u0 u0 u0 u0 u0 us hl=>us1 us hl fun u0=>rfl;have bA:Df l.prog w K mg base 1 "pairs_of" ["places"] (spL yg):=zGM (zt (st:=wV) l0 c0 k0) (PySem.W.mg_of X G a0) ae aB;have aP:Rz l.prog w K mg base 1 "refuse_more" ["many","most"] yF aa:=zD5 (zt (st:=yD) l1 c1 k1) (PySem.W.mg_of X G a1) aw aG;have aQ:Df l.prog w K mg base 1 "refuse_more" ["many","most"] yh:=zD6 (zt (st:=yD) l1 c1 k1) (PySem.W.mg_of X G a1) ;have cc:Df l.prog w K mg base 1 "tied" ["web","one","other"] zBV:=zMj (zt (st:=zCt) l2 c2 k2) (PySem.W.mg_of X G a2) bU bV;have bb:Df l.prog w K mg base 1 "_law_cell_at" ["script","k"] wJ:=zFT (zt (st:=wE) l8 c8 k8) (PySem.W.mg_of X G a8) aB;have ah:Df l.prog w K mg base 1 "_law_take" ["state","many"] zp:=zJN (zt (st:=zAl) l10 c10 k10) (PySem.W.mg_of X G a10) ;have ak:Df l.prog w K mg base 1 "_law_pairs" ["many"] (spL zu):=zHD (zt (st:=wW) l11 c11 k11) (PySem.W.mg_of X G a11) ae;have bO:Df l.prog w K mg base 2 "around" ["web","place"] zAf:=zJL (zt (st:=zAJ) l3 c3 k3) (PySem.W.mg_of X G a3) ag ae cc;have bH:Df l.prog w K mg base 2 "_law_state" ["script","k"] (spL yW):=zHC (zt (st:=ww) l9 c9 k9) (PySem.W.mg_of X G a9) bb;have bQ:Df l.prog w K mg base 2 "_law_ring" ["state","many"] zAh:=zJO (zt (st:=zAK) l13 c13 k13) (PySem.W.mg_of X G a13) aL ae ag aB ah;have bB:Df l.prog w K mg base 2 "_law_web_of" ["ring"] wb:=zGO (zt (st:=yz) l14 c14 k14) (PySem.W.mg_of X G a14) aB ag ak;have bD:Df l.prog w K mg base 2 "_law_turned" ["web","place"] wd:=zGQ (zt (st:=wA) l17 c17 k17) (PySem.W.mg_of X G a17) ag ak;have aW:Df l.prog w K mg base 3 "web_turned" ["web","place"] yN:=zEF (zt (st:=yo) l4 c4 k4) (PySem.W.mg_of X G a4) ag aU cx bO bA;have bY:Df l.prog w K mg base 3 "_law_web" ["state","most"] zBK:=zLN (zt (st:=zAW) l12 c12 k12) (PySem.W.mg_of X G a12) ag ah ak bQ bB;have bI:Df l.prog w K mg base 3 "_law_orbit" ["web"] wS:=zHE (zt (st:=wx) l18 c18 k18) (PySem.W.mg_of X G a18) ae bD;have bP:Df l.prog w K mg base 4 "spread" ["lists","edge"] (spL wR):=zJM (zt (st:=zAk) l7 c7 k7) (PySem.W.mg_of X G a7) ae aW;have aI:Df l.prog w K mg base 5 "turn_lists" ["web"] yO:=zEG (zt (st:=yp) l6 c6 k6) (PySem.W.mg_of X G a6) bP;have cg:Df l.prog w K mg base 1 "_law_same" ["found","due"] (zg 0):=zGP (zt (st:=yK) l15 c15 k15) (PySem.W.mg_of X G a15);have ci:Df l.prog w K mg base 2 "_law_same" ["found","due"] (zg 1):=zA6 (zt (st:=yK) l15 c15 k15) (PySem.W.mg_of X G a15) ad ag aL aB bW bX bC cg;have cj:Df l.prog w K mg base 3 "_law_same" ["found","due"] (zg 2):=zA6 (zt (st:=yK) l15 c15 k15) (PySem.W.mg_of X G a15) ad ag aL aB bW bX bC ci;have ck:Df l.prog w K mg base 4 "_law_same" ["found","due"] (zg 3):=zA6 (zt (st:=yK) l15 c15 k15) (PySem.W.mg_of X G a15) ad ag aL aB bW bX bC cj;have aV:Df l.prog w K mg base 5 "_law_same" ["found","due"] (zg 4):=zA6 (zt (st:=yK) l15 c15 k15) (PySem.W.mg_of X G a15) ad ag aL aB bW bX bC ck;have bE:Rz l.prog w K mg base 6 "turns_to" ["one","other"] yZ aa:=zGL (zt (st:=yi) l5 c5 k5) (PySem.W.mg_of X G a5) aA aI aP aw aG;have aD:Df l.prog w K mg base 6 "turns_to" ["one","other"] zq:=zGN (zt (st:=yi) l5 c5 k5) (PySem.W.mg_of X G a5) aA aQ aI;have bJ:Df l.prog w K mg base 7 "_law_right" ["orbit","one","other"] wU:=zHF (zt (st:=wy) l19 c19 k19) (PySem.W.mg_of X G a19) ae cy aD aV;exact zOl (zt (st:=zBO) l20 c20 k20) ae bV bU aB aU ag ad aH bH ah bY bI ak bJ aD aX aw bG aS ba aT FR mR bR (zLA zCa a20 l20) (zEq kb cK).1 hBA zCa aG aM am av ao au aq aN bE 
end K
open PySem PySem.W PyProof.Rows
set_option maxRecDepth 100000 in
set_option maxHeartbeats 0 in
theorem PySem.Challenge.cw_chordwebs_k35_turns_to_a_web_holds : PySem.Challenge.rw_chordwebs_k35_turns_to_a_web.Holds := by
 w_on;o_law
 refine holds_open (q:=K.kq) (d:=?d) (kwd:=?kw) (XP:=XL K.kq []) (YP:=(kmHook K.kf K.ka K.ke [213]).says) K.hl ?h1 ?h2 ?h3 XL.keeps ?h4 ?h5 ?h6 ?h7 ?h8 ?h9 ?h10 ?h11 ?hw ?hc
 (case h1=>exact(kmHook K.kf K.ka K.ke [213]).of)
 (case h2=>exact(kmHook K.kf K.ka K.ke [213]).keeps)
 (case h3=>intro s e;exact xl_of s (Bool.and_eq_true_iff.mp e).1)
 (case h4=>rfl)
 (case h5=>rfl)
 (case h6=>rfl)
 (case h7=>intro s e;exact recFacts_of (Bool.and_eq_true_iff.mp e).2)
 (case h8=>rfl)
 (case h9=>assumption)
 (case h10=>decide +kernel)
 (case h11=>exact⟨rfl,rfl,rfl,rfl,rfl,by decide +kernel⟩)
 (case hw=>w_witness2)
 k_fill
 refine L3.zJD (l:=PySem.Challenge.rw_chordwebs_k35_turns_to_a_web) (k:=9) rfl rfl ⟨rfl,by decide,by decide⟩ ?T ?F
 case T =>
  intro w;refine' L2.zPc (x:="law") ⟨_,_,?e1,?e2,?e3⟩ ?hy ?ho
  (case e1=>rfl)
  (case e2=>rfl)
  (case e3=>rfl)
  (case hy=>intro y hy;unfold L2.zAm at hy;simp only[dN,eO,or_false] at hy;first | (subst hy;first | exact Or.inl rfl | exact Or.inr (Or.inl rfl) | exact Or.inr rfl | exact Or.inr (Or.inr rfl)) | (rcases hy with rfl | rfl<;>first | exact Or.inl rfl | exact Or.inr (Or.inl rfl) | exact Or.inr rfl | exact Or.inr (Or.inr rfl)))
  (case ho=>decide)
 case F =>
  intro w mg fa h KX G hmg;refine' K.zOm KX G hmg ?a0 ?l0 ?c0 ?k0 ?a1 ?l1 ?c1 ?k1 ?a2 ?l2 ?c2 ?k2 ?a3 ?l3 ?c3 ?k3 ?a4 ?l4 ?c4 ?k4 ?a5 ?l5 ?c5 ?k5 ?a6 ?l6 ?c6 ?k6 ?a7 ?l7 ?c7 ?k7 ?a8 ?l8 ?c8 ?k8 ?a9 ?l9 ?c9 ?k9 ?a10 ?l10 ?c10 ?k10 ?a11 ?l11 ?c11 ?k11 ?a12 ?l12 ?c12 ?k12 ?a13 ?l13 ?c13 ?k13 ?a14 ?l14 ?c14 ?k14 ?a15 ?l15 ?c15 ?k15 ?a16 ?l16 ?c16 ?k16 ?a17 ?l17 ?c17 ?k17 ?a18 ?l18 ?c18 ?k18 ?a19 ?l19 ?c19 ?k19 ?a20 ?l20 ?c20 ?k20 ?aR ?bZ ?cD ?cE ?cF ?ca ?bS ?cG ?ce ?aY ?cH ?cI ?cf ?aZ ?cJ ?b9 ?bK ?cb ?bL ?bT ?bM ?bf ?bg ?bh ?bn ?bo ?bp ?bq ?br ?bu ?aM ?am ?av ?ao ?au ?aq ?aN ?zCa ?cK
  (case a0=>k_is)
  (case l0=>k_is)
  (case c0=>k_is)
  (case k0=>k_is)
  (case a1=>k_is)
  (case l1=>k_is)
  (case c1=>k_is)
  (case k1=>k_is)
  (case a2=>k_is)
  (case l2=>k_is)
  (case c2=>k_is)
  (case k2=>k_is)
  (case a3=>k_is)
  (case l3=>k_is)
  (case c3=>k_is)
  (case k3=>k_is)
  (case a4=>k_is)
  (case l4=>k_is)
  (case c4=>k_is)
  (case k4=>k_is)
  (case a5=>k_is)
  (case l5=>k_is)
  (case c5=>k_is)
  (case k5=>k_is)
  (case a6=>k_is)
  (case l6=>k_is)
  (case c6=>k_is)
  (case k6=>k_is)
  (case a7=>k_is)
  (case l7=>k_is)
  (case c7=>k_is)
  (case k7=>k_is)
  (case a8=>k_is)
  (case l8=>k_is)
  (case c8=>k_is)
  (case k8=>k_is)
  (case a9=>k_is)
  (case l9=>k_is)
  (case c9=>k_is)
  (case k9=>k_is)
  (case a10=>k_is)
  (case l10=>k_is)
  (case c10=>k_is)
  (case k10=>k_is)
  (case a11=>k_is)
  (case l11=>k_is)
  (case c11=>k_is)
  (case k11=>k_is)
  (case a12=>k_is)
  (case l12=>k_is)
  (case c12=>k_is)
  (case k12=>k_is)
  (case a13=>k_is)
  (case l13=>k_is)
  (case c13=>k_is)
  (case k13=>k_is)
  (case a14=>k_is)
  (case l14=>k_is)
  (case c14=>k_is)
  (case k14=>k_is)
  (case a15=>k_is)
  (case l15=>k_is)
  (case c15=>k_is)
  (case k15=>k_is)
  (case a16=>k_is)
  (case l16=>k_is)
  (case c16=>k_is)
  (case k16=>k_is)
  (case a17=>k_is)
  (case l17=>k_is)
  (case c17=>k_is)
  (case k17=>k_is)
  (case a18=>k_is)
  (case l18=>k_is)
  (case c18=>k_is)
  (case k18=>k_is)
  (case a19=>k_is)
  (case l19=>k_is)
  (case c19=>k_is)
  (case k19=>k_is)
  (case a20=>k_is)
  (case l20=>k_is)
  (case c20=>k_is)
  (case k20=>k_is)
  (case aR=>k_is)
  (case bZ=>k_is)
  (case cD=>k_is)
  (case cE=>k_is)
  (case cF=>k_is)
  (case ca=>k_is)
  (case bS=>k_is)
  (case cG=>k_is)
  (case ce=>k_is)
  (case aY=>k_is)
  (case cH=>k_is)
  (case cI=>k_is)
  (case cf=>k_is)
  (case aZ=>k_is)
  (case cJ=>k_is)
  (case b9=>k_is)
  (case bK=>k_is)
  (case cb=>k_is)
  (case bL=>k_is)
  (case bT=>k_is)
  (case bM=>k_is)
  (case bf=>first | kernel_rfl | k_is)
  (case bg=>first | kernel_rfl | k_is)
  (case bh=>first | kernel_rfl | k_is)
  (case bn=>first | kernel_rfl | k_is)
  (case bo=>first | kernel_rfl | k_is)
  (case bp=>first | kernel_rfl | k_is)
  (case bq=>first | kernel_rfl | k_is)
  (case br=>first | kernel_rfl | k_is)
  (case bu=>first | kernel_rfl | k_is)
  (case aM=>first | kernel_rfl | k_is)
  (case am=>first | kernel_rfl | k_is)
  (case av=>first | kernel_rfl | k_is)
  (case ao=>first | kernel_rfl | k_is)
  (case au=>first | kernel_rfl | k_is)
  (case aq=>first | kernel_rfl | k_is)
  (case aN=>first | kernel_rfl | k_is)
  (case zCa=>rfl)
  (case cK=>rfl)
#print axioms PySem.Challenge.cw_chordwebs_k35_turns_to_a_web_holds
