import PyProof.Rows.All
import Wide.All
import OpenK.AllK
import Wide.FinOn
import Lean
import PyProof.EqAt
import PyProof.EqKinds
import PyProof.TupleCall
import PyProof.NeKinds
import KE.KRevIter
import PyProof.Rows.Range3
import PyProof.ZipIter
import PyProof.Rows.SortRunsK
import PyProof.Rows.SortShell
import PyProof.Rows.IntRules
import PyProof.Dict
import PyProof.Conv_int_bool
import PyProof.Rows.DictRows
import PyProof.DictTable
import PyProof.SetKind
import PyProof.Rows.SetFrom
import PyProof.Rows.SortPure
import PyProof.FactsAll.set_1
import PyProof.SetRoads
import PyProof.Walks
import PyProof.CollectWalk
import PyProof.ListRange
import PyProof.TupleKey
import PyProof.IsRules
import PyProof.WalksMore
import PyProof.EnumStmt
import PyProof.Rows.EnumRows
import PyProof.SeqI3
import PyProof.StrCalls2
import PyProof.StrBlockH
import PyProof.StrLawsTight
import PyProof.StrLawsJoin
import KE.KIntText
import PyProof.AttrMiss
import PyProof.IsiH_list
import PyProof.IsiH_tuple
import KE.KDictOf
import PySem.Challenge.RW_chordwebs_k92_texts_that_write_none
set_option Elab.async false
set_option linter.all false
set_option maxRecDepth 100000
set_option bootstrap.genMatcherCode false
set_option genSizeOf false
set_option compiler.extract_closed false
set_option genInjectivity false
local macro_rules | `(tactic| omega) => `(tactic| lia)
open List renaming set_cons_zero → cy, set_cons_succ → cz, replicate_succ → cA, replicate_zero → cB, length_cons → cD, cons_append → cE, length_nil → cF, nil_append → cG, range → cH, length_map → cI, getElem?_eq_some_iff → cJ, replicate → cK, map → cM, size_toArray → cP, mem_map → cQ, mem_cons_of_mem → cU, mem_range → cV, map_map → cX, mem_append_right → cY, length_append → cZ, mem_cons → db, mem_cons_self → dc, lookup_cons → dk, getElem?_map → dl, map_congr_left → dq, map_cons → dt, getElem?_set_self → dD, mem_of_getElem? → dE, all_eq_true → dF, getElem_mem → dG, count_eq_zero_of_not_mem → dH, getElem?_append_left → dI, take_of_length_le → dJ, take_append_drop → dM, mem_append_left → dN, getElem?_set_ne → dO, mem_append → dQ, getElem?_eq_getElem → dR, map_append → dU, getElem?_append_right → dX, nodup_cons → e8, length_take → ef, length_eq_zero_iff → eh, flatten_cons → em, append_nil → eo, length_drop → eu, mem_singleton → eC, length_range → eD, getElem?_replicate → eF, filterMap_cons → eG, nodup_range → eK, map_id → eL, getD → eN, pairwise_map → eR, count_append → eS, length_filter_le → eT, take_length → eV
open Bool renaming false_eq_true → cC, eq_iff_iff → da, and_eq_true → di, false_ne_true → dL
open PySem.Heap renaming get?_push_of_some → cL, lt_size → cS, get?_push_size → de
open Nat renaming le_refl → cN, lt_of_lt_of_le → cO, ne_of_lt → dB, le_trans → dC, lt_irrefl → dZ, pow_succ → eM
open PySem renaming wpAny_bind → cT, wpAny_pure → dA, wpAny_mono → dP, wpAny_Call_Name_kw → dS, wpAny_execs_cons → dW, wpAny_truthy_bool → dY, codeAny_mono → eE, wpAny_ite_false → eH
open PySem.SetTable renaming below → dg, eraseAt → dj, insertAt → ej, leap → ev, bits → eA, runEnd → eI
open Array renaming length_toList → dh, mem_toList_iff → eJ, mem_of_getElem? → eU
open Int renaming emod_nonneg → eO, emod_lt_of_pos → eQ
open PySem PySem.Spec PyProof.Rows
theorem Zq1(h:True:=by first | exact .inl rfl | exact .inr rfl | assumption):True:=h
theorem Zq2(h:True:=by decide):True:=h
theorem Zq3(h:True:=by intro _;rfl):True:=h
theorem Zq4(h:True:=by rfl):True:=h
theorem Zq5(h:True:=by with_unfolding_all rfl):True:=h
theorem Zq6(h:True:=by first | exact Or.inl rfl | exact Or.inr (Or.inl rfl) | exact Or.inr (Or.inr rfl)):True:=h
theorem Zq7(h:True:=by first | exact Or.inl rfl | exact Or.inr rfl):True:=h
theorem Zq8(h:True:=by intro _ _;rfl):True:=h
theorem Zq9(h:True:=by exact .refl _):True:=h
namespace K
open PySem
@[elab_as_elim] theorem us1{m:List Value->Prop}(us:List Value)(hl:us.length=1)(h:∀ a,m [a]):m us:=by
 rcases us with _|⟨a,_|⟨e,r⟩⟩
 ·cases hl
 ·exact h a
 ·cases hl
@[elab_as_elim] theorem us2{m:List Value->Prop}(us:List Value)(hl:us.length=2)(h:∀ a b,m [a,b]):m us:=by
 rcases us with _|⟨a,_|⟨b,_|⟨e,r⟩⟩⟩
 ·cases hl
 ·cases hl
 ·exact h a b
 ·cases hl
@[elab_as_elim] theorem us3{m:List Value->Prop}(us:List Value)(hl:us.length=3)(h:∀ a b c,m [a,b,c]):m us:=by
 rcases us with _|⟨a,_|⟨b,_|⟨c,_|⟨e,r⟩⟩⟩⟩
 ·cases hl
 ·cases hl
 ·cases hl
 ·exact h a b c
 ·cases hl
end K
namespace L2
noncomputable abbrev Key:=Sum Int Str
noncomputable def zNU:Key->Value->Bool
 | .inl k,v=>Value.isInt k v
 | .inr x,v=>Value.isStrOf x v
noncomputable def zQO(w:World):Key->Int
 | .inl k=>hashInt k
 | .inr x=>hashStr w x
theorem yW:∀ {k:Key} {v:Value},zNU k v=true->(∃ i t,k=Sum.inl i/\v=Value.int i t)\/(∃ x t,k=Sum.inr x/\v=Value.str x t)
 | .inl i,v,h=>by
  obtain⟨t,e⟩:=Value.isInt_shape (k:=i) (v:=v) h;exact .inl ⟨i,t,rfl,e⟩
 | .inr x,v,h=>by
  obtain⟨t,e⟩:=Value.isStrOf_shape (x:=x) (v:=v) h;exact .inr ⟨x,t,rfl,e⟩
theorem zNw(a b:Int):decide ((Sum.inl a:Key)=Sum.inl b)=(a==b):=by
 by_cases e:a=b
 ·subst e;simp
 ·have h:¬ (Sum.inl a:Key)=Sum.inl b:=fun q=>e (Sum.inl.inj q)
  rw[decide_eq_false h];exact(beq_eq_false_iff_ne.mpr e).symm
theorem zNx(a b:Str):decide ((Sum.inr a:Key)=Sum.inr b)=decide (a=b):=by
 by_cases e:a=b
 ·subst e;simp
 ·have h:¬ (Sum.inr a:Key)=Sum.inr b:=fun q=>e (Sum.inr.inj q)
  rw[decide_eq_false h,decide_eq_false e]
theorem zNy(a:Int)(b:Str):decide ((Sum.inl a:Key)=Sum.inr b)=false:=decide_eq_false (fun q=>nomatch q)
theorem zNz(a:Str)(b:Int):decide ((Sum.inr a:Key)=Sum.inl b)=false:=decide_eq_false (fun q=>nomatch q)
noncomputable def zH2(prog:Program)(w:World):PySem.KeyKind prog w Key where
 is:=zNU
 hash:=zQO w
 inj:=fun v a b ha hb=>by
  rcases yW ha with ⟨i,t,rfl,rfl⟩ | ⟨x,t,rfl,rfl⟩
  ·rcases yW hb with ⟨j,u,rfl,e⟩ | ⟨y,u,rfl,e⟩
   ·injection e with e1 _;rw[e1]
   ·exact nomatch e
  ·rcases yW hb with ⟨j,u,rfl,e⟩ | ⟨y,u,rfl,e⟩
   ·exact nomatch e
   ·injection e with e1 _;rw[e1]
 byValue:=fun k v h=>by
  rcases yW h with ⟨i,t,rfl,rfl⟩ | ⟨x,t,rfl,rfl⟩<;>rfl
 pyHash:=fun hv h=>by
  rcases yW hv with ⟨i,t,rfl,rfl⟩ | ⟨x,t,rfl,rfl⟩
  ·exact wpAny_pyHash_int h
  ·exact wpAny_pyHash_str h
 eqBool:=fun hu hv h=>by
  rcases yW hu with ⟨i,t,rfl,rfl⟩ | ⟨x,t,rfl,rfl⟩
  ·rcases yW hv with ⟨j,u,rfl,rfl⟩ | ⟨y,u,rfl,rfl⟩
   ·rw[zNw] at h;exact wpAny_eqBool_int h
   ·rw[zNy] at h;exact SeqAt.EqAt.int_str i t y u _ _ _ _ h
  ·rcases yW hv with ⟨j,u,rfl,rfl⟩ | ⟨y,u,rfl,rfl⟩
   ·rw[zNz] at h;exact SeqAt.EqAt.str_int x t j u _ _ _ _ h
   ·rw[zNx] at h;exact wpAny_eqBool_str h
 «strs»:=fun k x t v h=>by
  rcases yW h with ⟨i,u,rfl,e⟩ | ⟨y,u,rfl,e⟩
  ·exact nomatch e
  ·injection e with e1 _
   subst e1;cases v<;>rfl
set_option genInjectivity true in
inductive V where
 | non | bl (b:Bool) | int (i:Int) | str (x:Str) | byt (b:Array UInt8) | flt (b:UInt64) | ref (a:Addr) | ty (n:String)
 deriving DecidableEq
noncomputable def RelV:V->Value->Prop
 | .non,u=>u=Value.none
 | .bl b,u=>u=Value.bool b
 | .int i,u=>∃ t,u=Value.int i t
 | .str x,u=>∃ t,u=Value.str x t
 | .byt b,u=>∃ t,u=Value.bytes b t
 | .flt b,u=>∃ t,u=Value.float b t
 | .ref a,u=>u=Value.ref a
 | .ty n,u=>u=Value.type n
noncomputable abbrev zc:List V->List Value->Prop:=Paired RelV
theorem zc.length{xs:List V}{us:List Value}(r:zc xs us):xs.length=us.length:=Paired.length r
theorem zc.get:∀ {xs:List V} {us:List Value} {i:Nat} {x:V},zc xs us->xs[i]?=some x->∃ u,us[i]?=some u/\RelV x u
 | _,_,_,_,.nil,e=>by simp at e
 | _,_,0,_,.cons r _,e=>by simp at e;subst e;exact⟨_,rfl,r⟩
 | _,_,i+1,x,.cons _ t,e=>by
  obtain⟨u,h1,h2⟩:=zc.get (i:=i) (x:=x) t (by simpa using e);exact⟨u,by simpa using h1,h2⟩
theorem zc.set{x:V}{u:Value}(r:RelV x u):∀ {xs:List V} {us:List Value} (i:Nat),zc xs us->zc (xs.set i x) (us.set i u)
 | _,_,_,.nil=>.nil
 | _,_,0,.cons _ t=>.cons r t
 | _,_,i+1,.cons q t=>.cons q (zc.set r i t)
theorem zc.append:∀ {xs ys:List V} {us ws:List Value},zc xs us->zc ys ws->zc (xs++ys) (us++ws)
 | _,_,_,_,.nil,s=>s
 | _,_,_,_,.cons r t,s=>.cons r (zc.append t s)
theorem zc.take:∀ {xs:List V} {us:List Value} (n:Nat),zc xs us->zc (xs.take n) (us.take n)
 | _,_,0,_=>.nil
 | _,_,_+1,.nil=>.nil
 | _,_,n+1,.cons r t=>.cons r (zc.take n t)
theorem zc.drop:∀ {xs:List V} {us:List Value} (n:Nat),zc xs us->zc (xs.drop n) (us.drop n)
 | _,_,0,r=>r
 | _,_,_+1,.nil=>.nil
 | _,_,n+1,.cons _ t=>zc.drop n t
noncomputable def zN0:Option V->Option Value->Prop
 | some v,some u=>RelV v u
 | none,none=>True
 | _,_=>False
noncomputable def KV{κ:Type}:List (κ×V)->List (κ×Value)->Prop:=Paired fun(p:κ×V) (q:κ×Value)=>p.1=q.1/\RelV p.2 q.2
noncomputable def kV:Key->V
 | .inl i=>.int i
 | .inr x=>.str x
set_option genInjectivity true in
inductive HO where
 /-- a list -/
 | lst (xs:List V)
 /-- a tuple (never changes) -/
 | tup (xs:List V)
 /-- a dict whose keys are ints and texts;one whose keys are tuples of ints and texts (the empty one is both) -/
 | dK (kvs:List (Key×V)) | dT (kvs:List (List Key×V))
 /-- a set of ints: its members,its size -/
 | set (S:Int->Bool) (n:Nat)
 /-- an instance of the class at C,its dict at dx,its attributes -/
 | ins (C dx:Addr) (fs:List (Str×V))
 /-- the dict of the instance at x -/
 | own (x:Addr)
 /-- the dict of an exception -/
 | xd (fs:List (Str×V))
 /-- a bound method,f of x -/
 | met (f x:Addr)
 /-- a range object lo,lo+1,.. below hi -/
 | rng (lo hi:Int)
 /-- a thing that is known to the object (the script;a dict while a loop walks it): read,never written while it is so -/
 | frz (o:Obj) (u:HO)
 /-- a code object's table -/
 | tbl (ps:Array Value)
 /-- any other thing,by what is true of its one object (a def of one's own: SetO a S n:=HO.ext fun h=>..) -/
 | ext (φ:Heap->Prop)
noncomputable abbrev Hp:=Addr->Option HO
noncomputable def wo(H:Hp)(a:Addr)(o:HO):Hp:=fun b=>if b=a then some o else H b
theorem zm{H:Hp}{a:Addr}{o:HO}:wo H a o a=some o:=by unfold wo;rw[if_pos rfl]
theorem yC{H:Hp}{a b:Addr}{o:HO}(h:b≠a):wo H a o b=H b:=by unfold wo;rw[if_neg h]
theorem zNV{H:Hp}{a b:Addr}{o u:HO}(h:H a=some o)(h':H b=some u)(d:o≠u):a≠b:=by
 intro e;subst e;rw[h] at h';exact d (Option.some.inj h')
theorem yZ{H:Hp}{a b:Addr}{o:HO}(h:H a=some o)(h':H b=none):a≠b:=by
 intro e;subst e;rw[h] at h';cases h'
noncomputable def zFJ(h:Heap)(a:Addr)(items:Array Value):Prop:=∃ o,h.get? a=some o/\o.cls=.type "tuple"/\(∃ n,o.data=.seq items n)/\o.dict=none
theorem zFJ.isTup{h:Heap}{a:Addr}{items:Array Value}(x:zFJ h a items):IsTup h a items:=let ⟨o,h1,h2,h3,_⟩:=x;⟨o,h1,h2,h3⟩
theorem zFJ.lt{h:Heap}{a:Addr}{items:Array Value}(x:zFJ h a items):a<h.objs.size:=x.isTup.lt
theorem zFJ.new(h:Heap)(items:Array Value):zFJ (h.push { cls:=.type "tuple",data:=.seq items }) h.objs.size items:=⟨_,de _ rfl,rfl,⟨_,rfl⟩,rfl⟩
section
variable (P:Program) (w:World)
noncomputable def wA(H:Hp)(h:Heap)(a:Addr):HO->Prop
 | .lst xs=>xs.length<=sizeLine/\∃(its:List Value) (n:Nat),zc xs its/\h.get? a=some { cls:=.type "list",data:=.seq its.toArray n }
 | .tup xs=>xs.length<=sizeLine/\∃ its:List Value,zc xs its/\zFJ h a its.toArray
 | .dK kvs=>kvs.length<=sizeLine/\(a==sysModules)=false/\∃ vs,KV kvs vs/\h.DictOf (zH2 P w) a vs
 | .dT kvs=>kvs.length<=sizeLine/\(a==sysModules)=false/\∃ xs:List (List Key×Addr×Value),
   Paired (fun(p:List Key×V) (q:List Key×Addr×Value)=>p.1=q.1/\H q.2.1=some (.tup (p.1.map kV))/\RelV p.2 q.2.2) kvs xs /\
   ∃ o es ep,h.get? a=some o/\o.ExactDict/\o.data=.dict es ep/\es.toList=xs.map (entryOfKey (tupleKind (zH2 P w)))/\(xs.map (·.1)).Nodup
 | .set S n=>h.SetOf (intKind P w) a S n
 | .ins C dx fs=>H dx=some (.own a)/\fs.length<=1000/\dx≠a/\h.get? a=some (PySem.W.instObj C dx) /\
   ∃ mA,h.Ns1 dx mA/\(∀ f,zN0 (fs.lookup f) (mA f))/\PySem.Within mA (fs.map (·.1))
 | .own _=>∃ o,h.get? a=some o
 | .xd fs=>∃ mA,h.Ns1 a mA/\∀ f,zN0 (fs.lookup f) (mA f)
 | .rng lo hi=>∃ t u v,h.get? a=some { cls:=.type "range",data:=.fields #[.int lo t,.int hi u,.int 1 v] }
 | .frz o u=>h.get? a=some o/\wA H h a u
 | .tbl ps=>∃(q:Str) (t:Tok) (vs:Array Value),ps=#[.str q t]/\h.get? a=some (PySem.W.tabObj vs)/\TriplesOk vs.toList/\∀(pos:Pos) (cv:Value),codeAmong pos vs.toList=some cv ->
   ∃(c:Addr) (o:Obj) (us:Array Value) (t':Tok),cv=.ref c/\H c=some (.frz o (.own 0))/\o.data=.fields us/\us[1]?=some (.str q t')
 | .met f x=>h.get? a=some (PySem.W.methodObj (.ref f) (.ref x))
 | .ext φ=>φ h/\(∃ o,h.get? a=some o)/\∀ h1 h2:Heap,φ h1->(∀ o,h1.get? a=some o->h2.get? a=some o)->φ h2
noncomputable def HOk(H:Hp)(h:Heap):Prop:=∀ a o,H a=some o->wA P w H h a o
end
section
variable {P:Program} {w:World} {H H':Hp} {h h':Heap} {a:Addr} {o:HO}
theorem wA.lt(x:wA P w H h a o):a<h.objs.size:=by
 cases o with
 | lst xs=>obtain⟨_,_,_,_,e⟩:=x;exact cS e
 | tup xs=>obtain⟨_,_,_,p⟩:=x;exact p.lt
 | dK kvs=>obtain⟨_,_,_,_,o,_,_,e,_⟩:=x;exact cS e
 | dT kvs=>obtain⟨_,_,_,_,o,_,_,e,_⟩:=x;exact cS e
 | set S n=>obtain⟨o,_,_,_,e,_⟩:=x;exact cS e
 | ins C dx fs=>obtain⟨_,_,_,e,_⟩:=x;exact cS e
 | own y=>obtain⟨_,e⟩:=x;exact cS e
 | xd fs=>obtain⟨_,⟨_,_,_,e,_⟩,_⟩:=x;exact cS e
 | rng lo hi=>obtain⟨_,_,_,e⟩:=x;exact cS e
 | frz ob u=>obtain⟨e,_⟩:=x;exact cS e
 | tbl ps=>obtain⟨_,_,_,_,e,_⟩:=x;exact cS e
 | met f y=>exact cS (show h.get? a=some _ from x)
 | ext φ=>obtain⟨_,⟨_,e⟩,_⟩:=x;exact cS e
theorem Paired.mapP{α β:Type}{F G:α->β->Prop}:∀ {l₁:List α} {l₂:List β},Paired F l₁ l₂->(∀ a b,F a b->G a b)->Paired G l₁ l₂
 | _,_,.nil,_=>.nil
 | _,_,.cons r t,f=>.cons (f _ _ r) (Paired.mapP t f)
theorem wA.stay(x:wA P w H h a o)(k:∀ b u,(b=a\/H b=some (.own a))->h.get? b=some u->h'.get? b=some u)
  (ho:∀ b,H b=some (.own a)->H' b=some (.own a)) (ht:∀ b xs,H b=some (.tup xs)->H' b=some (.tup xs)) (hz:∀ b o u,H b=some (.frz o u)->H' b=some (.frz o u)):wA P w H' h' a o:=by
 induction o with
 | lst xs=>obtain⟨z,its,n,r,e⟩:=x;exact⟨z,its,n,r,k _ _ (.inl rfl) e⟩
 | tup xs=>obtain⟨z,its,r,ob,e,c⟩:=x;exact⟨z,its,r,ob,k _ _ (.inl rfl) e,c⟩
 | dK kvs=>obtain⟨z,y,vs,r,ob,es,ep,e,c⟩:=x;exact⟨z,y,vs,r,ob,es,ep,k _ _ (.inl rfl) e,c⟩
 | dT kvs =>
  obtain⟨z,y,xs,r,ob,es,ep,e,c⟩:=x;exact⟨z,y,xs,Paired.mapP r fun p q z=>⟨z.1,ht _ _ z.2.1,z.2.2⟩,ob,es,ep,k _ _ (.inl rfl) e,c⟩
 | set S n=>obtain⟨ob,es,ep,t,e,c⟩:=x;exact⟨ob,es,ep,t,k _ _ (.inl rfl) e,c⟩
 | ins C dx fs =>
  obtain⟨d,z,ne,e,mA,⟨od,es,ep,e2,c⟩,r⟩:=x;exact⟨ho _ d,z,ne,k _ _ (.inl rfl) e,mA,⟨od,es,ep,k _ _ (.inr d) e2,c⟩,r⟩
 | own y=>obtain⟨ob,e⟩:=x;exact⟨ob,k _ _ (.inl rfl) e⟩
 | xd fs=>obtain⟨mA,⟨od,es,ep,e,c⟩,r⟩:=x;exact⟨mA,⟨od,es,ep,k _ _ (.inl rfl) e,c⟩,r⟩
 | rng lo hi=>obtain⟨t,u,v,e⟩:=x;exact⟨t,u,v,k _ _ (.inl rfl) e⟩
 | frz ob u ih=>obtain⟨e,q⟩:=x;exact⟨k _ _ (.inl rfl) e,ih q⟩
 | tbl ps =>
  obtain⟨q,t,vs,e0,e,e1,e2⟩:=x;refine⟨q,t,vs,e0,k _ _ (.inl rfl) e,e1,fun pos cv z=>?_⟩;obtain⟨c,oc,us,t',z1,z2,z3⟩:=e2 pos cv z;exact⟨c,oc,us,t',z1,hz _ _ _ z2,z3⟩
 | met f y =>
  have e:h.get? a=some (PySem.W.methodObj (.ref f) (.ref y)):=x;show h'.get? a=some (PySem.W.methodObj (.ref f) (.ref y));exact k a _ (.inl rfl) e
 | ext φ=>obtain⟨p,⟨o,e⟩,st⟩:=x;exact⟨st _ _ p fun o q=>k _ _ (.inl rfl) q,⟨o,k _ _ (.inl rfl) e⟩,st⟩
theorem HOk.lt(x:HOk P w H h)(e:H a=some o):a<h.objs.size:=(x a o e).lt
theorem HOk.fresh(x:HOk P w H h)(e:h.objs.size<=a):H a=none:=by
 cases q:H a with
 | none=>rfl
 | some u=>exact absurd (cO (x.lt q) e) (dZ _)
theorem HOk.kept(x:HOk P w H h)(k:∀ b u,h.get? b=some u->h'.get? b=some u):HOk P w H h':=fun a o e =>
 (x a o e).stay (fun b u _ q=>k b u q) (fun _ q=>q) (fun _ _ q=>q) fun _ _ _ q=>q
theorem HOk.laid(x:HOk P w H h)(k:∀ b u,h.get? b=some u->h'.get? b=some u)(hp:h.objs.size<=a)(new:wA P w (wo H a o) h' a o):HOk P w (wo H a o) h':=fun b u e=>by
 have hn:=x.fresh hp;by_cases hb:b=a
 ·subst hb;rw[zm] at e;cases e;exact new
 ·rw[yC hb] at e
  exact(x b u e).stay (fun c v _ q=>k c v q) (fun c q=>by rw[yC (yZ q hn)];exact q) (fun c xs q=>by rw[yC (yZ q hn)];exact q) fun c oo u q=>by rw[yC (yZ q hn)];exact q
end
noncomputable def Rd(H:Hp)(a:Addr)(u:HO):Prop:=H a=some u\/∃ o,H a=some (.frz o u)
theorem Rd.of{H:Hp}{a:Addr}{u:HO}(h:H a=some u):Rd H a u:=.inl h
theorem Rd.ok{P:Program}{w:World}{H:Hp}{h:Heap}{a:Addr}{u:HO}(r:Rd H a u)(x:HOk P w H h):wA P w H h a u:=by
 rcases r with r | ⟨o,r⟩
 ·exact x a u r
 ·obtain⟨_,q⟩:=x a _ r
  exact q
noncomputable def Mut:Option HO->Prop
 | some (.lst _)=>True
 | some (.dK _)=>True
 | some (.dT _)=>True
 | some (.set _ _)=>True
 | some (.ins _ _ _)=>True
 | some (.ext _)=>True
 | _=>False
section
variable {P:Program} {w:World} {H:Hp} {h h':Heap} {x e:Addr} {o':HO}
theorem HOk.write(ok:HOk P w H h)(mu:Mut (H x))(he:e=x\/H e=some (.own x))(k:∀ b u,b≠e->h.get? b=some u->h'.get? b=some u)(heo:∃ u,h'.get? e=some u)
  (new:wA P w (wo H x o') h' x o'):HOk P w (wo H x o') h':=fun b u q=>by
 have nown:∀ c y,H c=some (.own y)->c≠x:=fun c y r z=>by subst z;rw[r] at mu;exact mu
 have ntup:∀ c xs,H c=some (.tup xs)->c≠x:=fun c xs r z=>by subst z;rw[r] at mu;exact mu
 have nfrz:∀ c oo u,H c=some (.frz oo u)->c≠x:=fun c oo u r z=>by subst z;rw[r] at mu;exact mu
 by_cases hb:b=x
 ·subst hb;rw[zm] at q;cases q;exact new
 ·rw[yC hb] at q
  by_cases hbe:b=e
  ·have q':H b=some (.own x):=by
    rcases he with z | z
    ·exact absurd (hbe.trans z) hb
    ·rw[hbe];exact z
   rw[q] at q';cases q';obtain⟨v,hv⟩:=heo;exact⟨v,by rw[hbe];exact hv⟩
  ·refine(ok b u q).stay (fun c v hc r=>k c v ?_ r) (fun c r=>by rw[yC (nown c b r)];exact r) (fun c xs r=>by rw[yC (ntup c xs r)];exact r) fun c oo u r=>by rw[yC (nfrz c oo u r)];exact r
   rcases hc with rfl | hc
   ·exact hbe
   ·rintro rfl
    rcases he with z | z
    ·exact nown c b hc z
    ·rw[hc] at z;cases z;exact hb rfl
end
structure Un (fs ex:List Addr) (H H':Hp) (h h':Heap):Prop where
 keep:∀ b o,h.get? b=some o->H b=none->b∉fs->b∉ex->h'.get? b=some o
 slot:∀ b o,h.get? b=some o->H b=none->b∈fs->b∉ex->∃ sl,h'.get? b=some { o with slots:=sl }
 free:∀ b o,h.get? b=some o->H b=none->b∉ex->H' b=none
 there:∀ b o,h.get? b=some o->b∉ex->∃ o',h'.get? b=some o'
 tups:∀ b xs,H b=some (.tup xs)->H' b=some (.tup xs)
 frzs:∀ b o u,H b=some (.frz o u)->H' b=some (.frz o u)
 tbls:∀ b ps,H b=some (.tbl ps)->H' b=some (.tbl ps)
section
variable {fs fs' ex ex':List Addr} {H H1 H2:Hp} {h h1 h2 h':Heap} {a x e:Addr} {o:HO}
theorem Un.any(u:Un fs ex H H1 h h1){b:Addr}{ob:Obj}(q:h.get? b=some ob)(n:H b=none)(hx:b∉ex):∃ sl,h1.get? b=some { ob with slots:=sl }:=by
 by_cases hb:b∈fs
 ·exact u.slot b ob q n hb hx
 ·exact⟨ob.slots,u.keep b ob q n hb hx⟩
theorem Un.trans(a:Un fs ex H H1 h h1)(b:Un fs ex H1 H2 h1 h2):Un fs ex H H2 h h2 where
 keep:=fun c ob q n hc hx=>b.keep c ob (a.keep c ob q n hc hx) (a.free c ob q n hx) hc hx
 slot:=fun c ob q n hc hx=>by
  obtain⟨sl,e1⟩:=a.slot c ob q n hc hx;obtain⟨sl',e2⟩:=b.slot c _ e1 (a.free c ob q n hx) hc hx;exact⟨sl',e2⟩
 free:=fun c ob q n hx=>by
  obtain⟨o',e1⟩:=a.there c ob q hx;exact b.free c o' e1 (a.free c ob q n hx) hx
 there:=fun c ob q hx=>by
  obtain⟨o',e1⟩:=a.there c ob q hx;exact b.there c o' e1 hx
 tups:=fun c xs q=>b.tups c xs (a.tups c xs q)
 frzs:=fun c ob xs q=>b.frzs c ob xs (a.frzs c ob xs q)
 tbls:=fun c ps q=>b.tbls c ps (a.tbls c ps q)
theorem Un.kept(k:∀ b u,h.get? b=some u->h'.get? b=some u):Un fs ex H H h h' :=
 ⟨fun b ob q _ _ _=>k b ob q,fun b ob q _ _ _=>⟨ob.slots,k b ob q⟩,fun _ _ _ n _=>n,fun b ob q _=>⟨ob,k b ob q⟩,fun _ _ q=>q,fun _ _ _ q=>q,fun _ _ q=>q⟩
theorem Un.refl:Un fs ex H H h h:=Un.kept fun _ _ q=>q
theorem Un.laid(k:∀ b u,h.get? b=some u->h'.get? b=some u)(hp:h.objs.size<=a)(hn:H a=none):Un fs ex H (wo H a o) h h' where
 keep:=fun b u q _ _ _=>k b u q
 slot:=fun b u q _ _ _=>⟨u.slots,k b u q⟩
 free:=fun b u q n _=>by rw[yC (dB (cO (cS q) hp))];exact n
 there:=fun b u q _=>⟨u,k b u q⟩
 tups:=fun b xs q=>by rw[yC (yZ q hn)];exact q
 frzs:=fun b u xs q=>by rw[yC (yZ q hn)];exact q
 tbls:=fun b ps q=>by rw[yC (yZ q hn)];exact q
theorem Un.write(mu:Mut (H x))(he:e=x\/H e=some (.own x))(k:∀ b u,b≠e->h.get? b=some u->h'.get? b=some u)(heo:∃ u,h'.get? e=some u):Un fs ex H (wo H x o) h h':=by
 have hx:∀ b,H b=none->b≠x:=fun b n z=>by subst z;rw[n] at mu;exact mu
 have hb:∀ b,H b=none->b≠e:=fun b n z=>by
  subst z;rcases he with r | r
  ·exact hx b n r
  ·rw[n] at r;cases r
 have hm:∀ b u,H b=some u->¬ Mut (some u)->b≠x:=fun b u q nm z=>by subst z;rw[q] at mu;exact nm mu
 refine⟨fun b u q n _ _=>k b u (hb b n) q,fun b u q n _ _=>⟨u.slots,k b u (hb b n) q⟩,fun b u q n _=>by rw[yC (hx b n)];exact n,fun b u q _=>?_,
  fun b xs q=>by rw[yC (hm b _ q fun z=>z)];exact q,fun b u xs q=>by rw[yC (hm b _ q fun z=>z)];exact q,fun b ps q=>by rw[yC (hm b _ q fun z=>z)];exact q⟩
 by_cases hbe:b=e
 ·subst hbe;exact heo
 ·exact⟨u,k b u hbe q⟩
end
noncomputable def trk(h:Heap)(H:Hp):List Addr:=(cH h.objs.size).filter fun a=>(H a).isSome
noncomputable def zEW(h:Heap)(H:Hp):Heap:=PySem.W.hideAll h (trk h H)
theorem zIq(h:Heap)(H:Hp):(zEW h H).objs.size=h.objs.size:=PySem.W.hideAll_size _ _
theorem zJu{h:Heap}{H:Hp}{b:Addr}{o:Obj}(e:h.get? b=some o)(n:H b=none):(zEW h H).get? b=some o :=
 PySem.W.hideAll_get _ e fun hm=>by
  have q:(H b).isSome=true:=(List.mem_filter.mp hm).2;rw[n] at q;simp at q
theorem zLs{h:Heap}{H:Hp}{b:Addr}{o:Obj}(e:(zEW h H).get? b=some o):h.get? b=some o/\H b=none:=by
 have e':h.get? b=some o:=PySem.W.of_hideAll (trk h H) e;refine⟨e',?_⟩;cases q:H b with
 | none=>rfl
 | some x =>
  have hm:b∈trk h H:=List.mem_filter.mpr ⟨cV.mpr (cS e'),by simp[q]⟩;have z:(zEW h H).get? b=none:=PySem.W.hideAll_none (trk h H) hm;rw[z] at e;cases e
noncomputable def zLt(g h:Heap)(L:Addr):List (Addr×Obj):=(cH h.objs.size).filterMap fun a=>if a=L\/(g.get? a).isSome=true then none else (h.get? a).map fun o=>(a,o)
noncomputable def rest(g h:Heap)(L d:Addr):List (Addr×Obj):=(zLt g h L).filter fun p=>decide (p.1≠d)
structure Mod (K:PySem.W.Frag) (mg:Str->Option Value) (base:Heap):Prop where
 kin:K.In base
 glob:base.Ns mainGlobals mg
 blt:∃ mb,base.Ns builtinsNs mb/\∀ x:Str,x≠"__name__"->mb x=bootBuiltins x
 nolimit:base.NoLimit
structure Cx where
 prog:Program
 w:World
 K:PySem.W.Frag
 mg:Str->Option Value
 base:Heap
 A:Around
 N:List Str
 s₀:Shared
 H₀:Hp
 env:Env
 outer:List Env
 stack:List Env
 ex:List Addr
 fn:Str->Bool
 calm:Bool
 pn:List (Addr×Obj)
 xe:Value->Shared->Prop
noncomputable def frs(l:List Env):List Addr:=l.filterMap (·.frame)
noncomputable abbrev Cx.fs(X:Cx):List Addr:=frs X.outer
noncomputable def Vis(sc:Scope)(x:Str):Prop:=sc.names.lookup x=some .local\/sc.names.lookup x=some .cell\/sc.names.lookup x=some .free
noncomputable def Loc(sc:Scope)(x:Str):Prop:=sc.names.lookup x=some .local\/sc.names.lookup x=some .cell
noncomputable def Look(env:Env)(h:Heap)(m:Str->Option Value)(x:Str)(u:Value):Prop :=
 (env.kindOf x=some .local/\m x=some u)\/((env.kindOf x=some .cell\/env.kindOf x=some .free)/\∃ c,env.cells.lookup x=some c/\h.IsCell c (some u))
noncomputable def zBS:List Str:=["_law_right"]
noncomputable def TabsOk(K:PySem.W.Frag)(H:Hp):Prop:=∀ x∈zBS,∀ c b,PySem.W.tabIn K x=some (c,b)->∃ t,H b=some (.tbl #[.str (x++".<locals>.<lambda>") t])
structure Cx.Ok (X:Cx):Prop where
 mod:Mod X.K X.mg X.base
 kind:X.env.scope.kind=.function
 glob:X.env.globals=mainGlobals
 blt:X.env.builtins=builtinsNs
 above:X.s₀.heap.objs.size<=X.env.locals
 inj:∀ x y c,X.env.cells.lookup x=some c->X.env.cells.lookup y=some c->x=y
 has:∀ x,(X.env.kindOf x=some .cell\/X.env.kindOf x=some .free)->∃ c,X.env.cells.lookup x=some c
 cab:∀ x c,X.fn x=true->X.env.cells.lookup x=some c->X.s₀.heap.objs.size<=c
 hd:X.calm=true->X.A.handled=none
 frames:X.A.frames=some X.stack
 stk:X.stack=X.outer\/(X.stack=X.env::X.outer/\X.env.frame=some X.env.locals)
 exf:∀ b∈X.ex,b≠X.env.locals/\∀ x c,X.env.cells.lookup x=some c->c≠b
 bs:∀ b o,X.base.get? b=some o->X.s₀.heap.get? b=some o/\X.H₀ b=none
 bsz:X.base.objs.size<=X.s₀.heap.objs.size
 noex:∀ b o,X.base.get? b=some o->b∉X.ex
 exfs:∀ b∈X.ex,b∉X.fs
 funs:X.s₀.heap.FunFrames X.base X.outer
 frf:∀ b∈X.fs,X.H₀ b=none
 tb:TabsOk X.K X.H₀
structure zT (X:Cx) (pins:List (Addr×Obj)) (σ:List (Option V)) (H:Hp) (s:Shared):Prop where
 ok:X.Ok
 os:s.os=X.s₀.os
 bare:AllBare s.gens
 base:Un X.fs X.ex X.H₀ H X.s₀.heap s.heap
 loc:∃ m,s.heap.Ns X.env.locals m/\∀(i:Nat) (x:Str) (v:V),X.N[i]?=some x->σ[i]?=some (some v)->Vis X.env.scope x->∃ u,RelV v u/\Look X.env s.heap m x u
 cell:∀ x c,X.env.cells.lookup x=some c->∃ v,s.heap.IsCell c v
 free:H X.env.locals=none
 freeC:∀ x c,X.env.cells.lookup x=some c->H c=none
 pin:∀ p∈X.pn++pins,s.heap.get? p.1=some p.2/\H p.1=none/\p.1≠X.env.locals/\p.1∉X.fs/\∀ v,p.2.data≠.cell v
 hok:HOk X.prog X.w H s.heap
 len:σ.length=X.N.length
section
variable {X:Cx} {pins:List (Addr×Obj)} {σ:List (Option V)} {H H':Hp} {s:Shared} {h':Heap}
theorem Cx.Ok.nofr(ok:X.Ok){b:Addr}{o:Obj}(e:X.base.get? b=some o):b∉X.fs:=fun hb=>by
 have:=(ok.funs.mem hb).1;rw[e] at this;cases this
theorem zT.bs(I:zT X pins σ H s):∀ b o,X.base.get? b=some o->s.heap.get? b=some o/\H b=none:=fun b o e =>
 ⟨I.base.keep b o (I.ok.bs b o e).1 (I.ok.bs b o e).2 (I.ok.nofr e) (I.ok.noex b o e),I.base.free b o (I.ok.bs b o e).1 (I.ok.bs b o e).2 (I.ok.noex b o e)⟩
theorem zT.bk(I:zT X pins σ H s):∀ b o,X.base.get? b=some o->s.heap.get? b=some o:=fun b o e=>(I.bs b o e).1
theorem zT.mod(I:zT X pins σ H s):Mod X.K X.mg X.base:=I.ok.mod
theorem zT.tabs(I:zT X pins σ H s):TabsOk X.K H:=fun x hx c b e=>by
 obtain⟨t,q⟩:=I.ok.tb x hx c b e;exact⟨t,I.base.tbls b _ q⟩
theorem zT.kIn(I:zT X pins σ H s):X.K.In s.heap:=I.ok.mod.kin.keeps I.bk
theorem zT.nolimit(I:zT X pins σ H s):s.heap.NoLimit:=I.ok.mod.nolimit.keeps I.bk
theorem zT.fr(I:zT X pins σ H s):∃ m,Fr X.base X.env.locals s.heap m :=
 let ⟨m,hn,_⟩:=I.loc
 ⟨m,hn,I.bk,dC I.ok.bsz I.ok.above⟩
theorem zT.lt(I:zT X pins σ H s):X.env.locals<s.heap.objs.size:=let ⟨_,hn,_⟩:=I.loc;hn.lt
theorem zT.sz(I:zT X pins σ H s):X.s₀.heap.objs.size<=s.heap.objs.size:=dC I.ok.above (Nat.le_of_lt I.lt)
theorem zT.nofs(I:zT X pins σ H s){a:Addr}(h:s.heap.objs.size<=a):a∉X.fs:=fun hb=>by
 obtain⟨_,o,ho,_⟩:=I.ok.funs.mem hb;exact absurd (cO (cS ho) (dC I.sz h)) (dZ _)
theorem zT.cne(I:zT X pins σ H s):∀ x c,X.env.cells.lookup x=some c->c≠X.env.locals:=fun x c e z=>by
 obtain⟨v,o,ho,hd⟩:=I.cell x c e;obtain⟨m,⟨o',es,ep,ho',hd',_⟩,_⟩:=I.loc;rw[z,ho'] at ho;cases ho;rw[hd'] at hd;cases hd
theorem zT.funs(I:zT X pins σ H s):s.heap.FunFrames X.base X.outer:=by
 have all:∀(l:List Env),(∀ b∈frs l,b∈X.fs)->X.s₀.heap.FunFrames X.base l->s.heap.FunFrames X.base l:=by
  intro l
  induction l with
  | nil=>intro _ _;trivial
  | cons env r ih =>
   intro hs hl;obtain⟨hk,⟨L,o,hf,hn,ho,hd⟩,hr⟩:=hl;have hL:L∈X.fs:=hs L (by unfold frs;rw[eG,hf];exact dc);obtain⟨sl,e⟩:=I.base.slot L o ho (I.ok.frf L hL) hL fun z=>I.ok.exfs L z hL;exact⟨hk,⟨L,_,hf,hn,e,hd⟩,ih (fun b hb=>hs b (by unfold frs;rw[eG,hf];exact cU _ hb)) hr⟩
 exact all X.outer (fun _ hb=>hb) I.ok.funs
theorem zT.stack(I:zT X pins σ H s):s.heap.FunFrames X.base X.stack:=by
 rcases I.ok.stk with e | ⟨e,hf⟩
 ·rw[e];exact I.funs
 ·rw[e]
  obtain⟨m,hn,_⟩:=I.loc;refine .cons (by rw[I.ok.kind];decide) hf hn ?_ I.funs;exact Heap.get?_none_of_le (dC I.ok.bsz I.ok.above)
theorem zT.stkSub(I:zT X pins σ H s):∀ b∈frs X.stack,b∈X.env.locals::X.fs:=fun b hb=>by
 rcases I.ok.stk with e | ⟨e,hf⟩
 ·rw[e] at hb;exact cU _ hb
 ·rw[e] at hb
  unfold frs at hb;rw[eG,hf] at hb;exact hb
theorem zT.stkFree(I:zT X pins σ H s):∀ b∈frs X.stack,H b=none:=fun b hb=>by
 rcases db.mp (I.stkSub b hb) with e | hb
 ·rw[e];exact I.free
 ·obtain⟨_,o,ho,_⟩:=I.ok.funs.mem hb
  exact I.base.free b o ho (I.ok.frf b hb) fun z=>I.ok.exfs b z hb
theorem zT.step{g':Array GenState}{t':Nat}{d':Drawn}{ch:List Addr}(I:zT X pins σ H s)
  (hch:∀ b∈ch,(b∈X.ex\/X.s₀.heap.objs.size<=b)/\b≠X.env.locals/\(∀ x c,X.env.cells.lookup x=some c->c≠b)/\∀ p∈X.pn++pins,p.1≠b)
  (keep:∀ b o,b≠X.env.locals->b∉X.fs->b∉ch->s.heap.get? b=some o->H b=none->h'.get? b=some o)
  (slot:∀ b o,b≠X.env.locals->b∈X.fs->b∉ch->s.heap.get? b=some o->H b=none->∃ sl,h'.get? b=some { o with slots:=sl }) (free:∀ b o,b∉ch->s.heap.get? b=some o->H b=none->H' b=none)
  (there:∀ b o,b∉ch->s.heap.get? b=some o->∃ o',h'.get? b=some o')
  (tups:∀ b xs,H b=some (.tup xs)->H' b=some (.tup xs)) (frzs:∀ b o u,H b=some (.frz o u)->H' b=some (.frz o u)) (tbls:∀ b ps,H b=some (.tbl ps)->H' b=some (.tbl ps))
  (ns:∀ m,s.heap.Ns X.env.locals m->h'.Ns X.env.locals m) (hok:HOk X.prog X.w H' h') (hg:AllBare g') :
  zT X pins σ H' { s with heap:=h',gens:=g',drawn:=d',toks:=t' }:=by
 have neL:∀ b o,X.s₀.heap.get? b=some o->b≠X.env.locals:=fun b o e=>dB (cO (cS e) I.ok.above);have neC:∀ b o,X.s₀.heap.get? b=some o->b∉X.ex->b∉ch:=fun b o e hx hb=>by
  rcases(hch b hb).1 with z | z
  ·exact hx z
  ·exact absurd (cO (cS e) z) (dZ _)
 have cellK:∀ x c,X.env.cells.lookup x=some c->∀ v,s.heap.IsCell c v->h'.IsCell c v:=fun x c e v ⟨o,ho,hd⟩=>by
  have nch:c∉ch:=fun z=>(hch c z).2.2.1 x c e rfl;by_cases hc:c∈X.fs
  ·obtain⟨sl,q⟩:=slot c o (I.cne x c e) hc nch ho (I.freeC x c e)
   exact⟨_,q,hd⟩
  ·exact⟨o,keep c o (I.cne x c e) hc nch ho (I.freeC x c e),hd⟩
 refine⟨I.ok,I.os,hg,⟨fun b o e n hb hx=>?_,fun b o e n hb hx=>?_,fun b o e n hx=>?_,fun b o e hx=>?_,fun b xs e=>tups b xs (I.base.tups b xs e),fun b o xs e=>frzs b o xs (I.base.frzs b o xs e),fun b ps e=>?_⟩,?_,fun x c e=>?_,?_,fun x c e=>?_,fun p hp=>?_,hok,I.len⟩
 ·exact keep b o (neL b o e) hb (neC b o e hx) (I.base.keep b o e n hb hx) (I.base.free b o e n hx)
 ·obtain⟨sl,e1⟩:=I.base.slot b o e n hb hx
  obtain⟨sl',e2⟩:=slot b _ (neL b o e) hb (neC b o e hx) e1 (I.base.free b o e n hx);exact⟨sl',e2⟩
 ·obtain⟨o',e1⟩:=I.base.there b o e hx
  exact free b o' (neC b o e hx) e1 (I.base.free b o e n hx)
 ·obtain⟨o',e1⟩:=I.base.there b o e hx
  exact there b o' (neC b o e hx) e1
 ·exact tbls b _ (I.base.tbls b ps e)
 ·obtain⟨m,hn,hl⟩:=I.loc
  refine⟨m,ns m hn,fun i x v e1 e2 e3=>?_⟩;obtain⟨u,r,l⟩:=hl i x v e1 e2 e3;refine⟨u,r,?_⟩;rcases l with l | ⟨k,c,e,z⟩
  ·exact .inl l
  ·exact .inr ⟨k,c,e,cellK x c e _ z⟩
 ·obtain⟨v,z⟩:=I.cell x c e
  exact⟨v,cellK x c e v z⟩
 ·obtain⟨m,⟨o,_,_,ho,_⟩,_⟩:=I.loc
  exact free _ o (fun z=>(hch _ z).2.1 rfl) ho I.free
 ·obtain⟨v,o,ho,hd⟩:=I.cell x c e
  exact free c o (fun z=>(hch c z).2.2.1 x c e rfl) ho (I.freeC x c e)
 ·obtain⟨e,n,ne,nf,d⟩:=I.pin p hp
  have nch:p.1∉ch:=fun z=>(hch p.1 z).2.2.2 p hp rfl;exact⟨keep p.1 p.2 ne nf nch e n,free p.1 p.2 nch e n,ne,nf,d⟩
theorem zT.un{t':Nat}(I:zT X pins σ H s)(u:Un X.fs [] H H' s.heap h')(hok:HOk X.prog X.w H' h'):zT X pins σ H' { s with heap:=h',toks:=t' }:=by
 obtain⟨m,⟨o,es,ep,ho,r⟩,_⟩:=id I.loc;obtain⟨sl,hL⟩:=u.any ho I.free (by simp);exact I.step (g':=s.gens) (d':=s.drawn) (ch:=[]) (fun _ z=>nomatch z) (fun b o _ hb _ e n=>u.keep b o e n hb (by simp)) (fun b o _ hb _ e n=>u.slot b o e n hb (by simp)) (fun b o _ e n=>u.free b o e n (by simp)) (fun b o _ e=>u.there b o e (by simp)) u.tups u.frzs u.tbls (fun m' hm=>by
  obtain⟨o',es',ep',ho',r'⟩:=hm;rw[ho] at ho';cases ho';exact⟨_,es',ep',hL,r'⟩) hok I.bare
theorem zT.call{g':Array GenState}{t':Nat}{d':Drawn}{ch:List Addr}(I:zT X pins σ H s)(u:Un (frs X.stack) ch H H' s.heap h')(hok:HOk X.prog X.w H' h')(hg:AllBare g')
  (hch:∀ b∈ch,(b∈X.ex\/X.s₀.heap.objs.size<=b)/\b≠X.env.locals/\(∀ x c,X.env.cells.lookup x=some c->c≠b)/\∀ p∈X.pn++pins,p.1≠b) :
  zT X pins σ H' { s with heap:=h',gens:=g',drawn:=d',toks:=t' }:=by
 obtain⟨m,⟨o,es,ep,ho,r⟩,_⟩:=id I.loc;obtain⟨sl,hL⟩:=u.any ho I.free fun z=>(hch _ z).2.1 rfl;exact I.step (ch:=ch) hch (fun b o hL hb hc e n=>u.keep b o e n (fun z=>(db.mp (I.stkSub b z)).elim hL hb) hc) (fun b o _ _ hc e n=>u.any e n hc) (fun b o hc e n=>u.free b o e n hc) (fun b o hc e=>u.there b o e hc) u.tups u.frzs u.tbls (fun m' hm=>by
  obtain⟨o',es',ep',ho',r'⟩:=hm;rw[ho] at ho';cases ho';exact⟨_,es',ep',hL,r'⟩) hok hg
theorem zT.turned{t':Nat}{it:Addr}(I:zT X pins σ H s)(k:∀ b o,b≠it->s.heap.get? b=some o->h'.get? b=some o)(hn:H it=none)(hL:it≠X.env.locals)
  (h1:it∈X.ex\/X.s₀.heap.objs.size<=it) (h2:∀ x c,X.env.cells.lookup x=some c->c≠it) (h3:∀ p∈X.pn++pins,p.1≠it):zT X pins σ H { s with heap:=h',toks:=t' }:=by
 have nit:∀ b u,H b=some u->b≠it:=fun b u e z=>by rw[z,hn] at e;cases e
 refine I.step (g':=s.gens) (d':=s.drawn) (ch:=[it]) (fun b hb=>?_) (fun b o _ _ hc e _=>k b o (fun z=>hc (by simp[z])) e) (fun b o _ _ hc e _=>⟨o.slots,k b o (fun z=>hc (by simp[z])) e⟩) (fun _ _ _ _ n=>n)
  (fun b o hc e=>⟨o,k b o (fun z=>hc (by simp[z])) e⟩) (fun _ _ e=>e) (fun _ _ _ e=>e) (fun _ _ e=>e) (fun m hm=>?_) (fun b u e=>?_) I.bare
 ·have e:b=it:=by simpa using hb
  subst e;exact⟨h1,hL,h2,h3⟩
 ·obtain⟨o,es,ep,ho,r⟩:=hm
  exact⟨o,es,ep,k _ o (Ne.symm hL) ho,r⟩
 ·refine(I.hok b u e).stay (fun c v hc q=>k c v ?_ q) (fun _ q=>q) (fun _ _ q=>q) fun _ _ _ q=>q
  rcases hc with z | z
  ·rw[z];exact nit b u e
  ·exact nit c _ z
theorem zT.tok(I:zT X pins σ H s)(t:Nat):zT X pins σ H { s with toks:=t }:=I.un (h':=s.heap) (t':=t) Un.refl I.hok
theorem zT.kept{t':Nat}(I:zT X pins σ H s)(k:∀ b u,s.heap.get? b=some u->h'.get? b=some u):zT X pins σ H { s with heap:=h',toks:=t' }:=I.un (Un.kept k) (I.hok.kept k)
theorem zT.laid{a:Addr}{o:HO}{t':Nat}(I:zT X pins σ H s)(k:∀ b u,s.heap.get? b=some u->h'.get? b=some u)(hp:s.heap.objs.size<=a)(new:wA X.prog X.w (wo H a o) h' a o) :
  zT X pins σ (wo H a o) { s with heap:=h',toks:=t' }:=I.un (Un.laid k hp (I.hok.fresh hp)) (I.hok.laid k hp new)
theorem zT.write{x e:Addr}{o:HO}{t':Nat}(I:zT X pins σ H s)(mu:Mut (H x))(he:e=x\/H e=some (.own x))(k:∀ b u,b≠e->s.heap.get? b=some u->h'.get? b=some u)(heo:∃ u,h'.get? e=some u)
  (new:wA X.prog X.w (wo H x o) h' x o):zT X pins σ (wo H x o) { s with heap:=h',toks:=t' }:=I.un (Un.write mu he k heo) (I.hok.write mu he k heo new)
theorem zT.weak{σ':List (Option V)}(I:zT X pins σ H s)(hl:σ'.length=σ.length)(w:∀(i:Nat) v,σ'[i]?=some (some v)->σ[i]?=some (some v)):zT X pins σ' H s :=
 ⟨I.ok,I.os,I.bare,I.base,let ⟨m,hn,hl'⟩:=I.loc;⟨m,hn,fun i x v e1 e2 e3=>hl' i x v e1 (w i v e2) e3⟩,I.cell,I.free,I.freeC,I.pin,I.hok,hl.trans I.len⟩
theorem zT.pins_of{pins':List (Addr×Obj)}(I:zT X pins σ H s)(h:∀ p∈pins',s.heap.get? p.1=some p.2/\H p.1=none/\p.1≠X.env.locals/\p.1∉X.fs/\∀ v,p.2.data≠.cell v):zT X pins' σ H s :=
 ⟨I.ok,I.os,I.bare,I.base,I.loc,I.cell,I.free,I.freeC,fun p hp=>(dQ.mp hp).elim (fun z=>I.pin p (dN _ z)) (h p),I.hok,I.len⟩
theorem zDk{N:List Str}(hN:N.Nodup){i j:Nat}{x:Str}(a:N[i]?=some x)(b:N[j]?=some x):i=j:=by
 obtain⟨h1,e1⟩:=cJ.mp a;obtain⟨h2,e2⟩:=cJ.mp b;exact(List.getElem_inj hN).mp (e1.trans e2.symm)
theorem zEh{M:Model}{A:Around}{E:Value->Shared->Prop}{i:Nat}{x:Str}{v:V}{u:Value}{Q:Unit->Shared->Prop}(I:zT X pins σ H s)(hN:X.N.Nodup)(hi:X.N[i]?=some x)(hx:Loc X.env.scope x)(r:RelV v u)
  (h:∀ s',zT X pins (σ.set i (some v)) H s'->(∃ a,Heap.SameBut a s.heap s'.heap/\(a=X.env.locals\/X.env.cells.lookup x=some a))->Q () s') (hf:autoParam (X.fn x=true\/X.env.scope.names.lookup x=some .local) Zq1._auto_1):wpAny M A (storeName X.env x u) Q E s:=by
 obtain⟨m,hn,hl⟩:=id I.loc;have hcls:(X.env.scope.kind==.class||(X.env.scope.kind==.module&&X.env.locals != X.env.globals))=false:=by rw[I.ok.kind];rfl
 have hiσ:i<σ.length:=by rw[I.len];exact(cJ.mp hi).1
 have cne:=I.cne;have tracked:∀ {a:Addr} {h':Heap},(∃ o,s.heap.get? a=some o/\H a=none)->Heap.SameBut a s.heap h'->HOk X.prog X.w H h':=fun {a h'} ha hs b ob e=>by
  obtain⟨_,_,hfree⟩:=ha;refine(I.hok b ob e).stay (fun c w' hc q=>(hs.2 c ?_).trans q) (fun _ q=>q) (fun _ _ q=>q) fun _ _ _ q=>q;rintro rfl;rcases hc with rfl | hc
  ·rw[hfree] at e;cases e
  ·rw[hfree] at hc;cases hc
 rcases hx with hk | hk
 ·refine wpAny_storeName_local hk hn (fun h' hn' hs=>?_) hcls
  obtain⟨oL,_,_,hoL,_⟩:=id hn;refine h _ ⟨I.ok,I.os,I.bare,⟨fun b o e n hb hx=>?_,fun b o e n hb hx=>?_,I.base.free,fun b o e hx=>?_,I.base.tups,I.base.frzs,I.base.tbls⟩,⟨_,hn',fun j y v' e1 e2 e3=>?_⟩,fun y c e=>?_,I.free,I.freeC,fun p hp=>?_,tracked ⟨oL,hoL,I.free⟩ hs,by simpa using I.len⟩ ⟨_,hs,.inl rfl⟩
  ·exact(hs.2 b (dB (cO (cS e) I.ok.above))).trans (I.base.keep b o e n hb hx)
  ·obtain⟨sl,e1⟩:=I.base.slot b o e n hb hx
   exact⟨sl,(hs.2 b (dB (cO (cS e) I.ok.above))).trans e1⟩
  ·obtain⟨o',e1⟩:=I.base.there b o e hx
   exact⟨o',(hs.2 b (dB (cO (cS e) I.ok.above))).trans e1⟩
  ·by_cases hj:j=i
   ·subst hj
    rw[hi] at e1;cases e1;rw[dD hiσ] at e2;cases e2;exact⟨u,r,.inl ⟨hk,by simp⟩⟩
   ·rw[dO (Ne.symm hj)] at e2
    obtain⟨u',r',q⟩:=hl j y v' e1 e2 e3;refine⟨u',r',?_⟩;rcases q with ⟨k,e⟩ | ⟨k,c,e,z⟩
    ·refine .inl ⟨k,?_⟩
     have:y≠x:=fun e=>hj (zDk hN e1 (e▸hi));simp[this,e]
    ·exact .inr ⟨k,c,e,z.sameBut hs (cne y c e)⟩
  ·obtain⟨w',z⟩:=I.cell y c e
   exact⟨w',z.sameBut hs (cne y c e)⟩
  ·obtain⟨e,n,ne,nf,d⟩:=I.pin p hp
   exact⟨(hs.2 p.1 ne).trans e,n,ne,nf,d⟩
 ·have hfn:X.fn x=true:=by
   rcases hf with z | z
   ·exact z
   ·rw[z] at hk;cases hk
  obtain⟨c,hc⟩:=I.ok.has x (.inl hk);obtain⟨w',z⟩:=I.cell x c hc;refine wpAny_storeName_cell I.ok.kind hk hc z (fun h' hc' hs=>?_);obtain⟨oc,hoc,hocd⟩:=id z;refine h { s with heap:=h' } ⟨I.ok,I.os,I.bare,⟨fun b o e n hb hx=>?_,fun b o e n hb hx=>?_,I.base.free,fun b o e hx=>?_,I.base.tups,I.base.frzs,I.base.tbls⟩,⟨m,hn.sameBut hs (Ne.symm (cne x c hc)),fun j y v' e1 e2 e3=>?_⟩,fun y c' e=>?_,I.free,I.freeC,fun p hp=>?_,tracked ⟨oc,hoc,I.freeC x c hc⟩ hs,by simpa using I.len⟩ ⟨c,hs,.inr hc⟩
  ·exact(hs.2 b (dB (cO (cS e) (I.ok.cab x c hfn hc)))).trans (I.base.keep b o e n hb hx)
  ·obtain⟨sl,e1⟩:=I.base.slot b o e n hb hx
   exact⟨sl,(hs.2 b (dB (cO (cS e) (I.ok.cab x c hfn hc)))).trans e1⟩
  ·obtain⟨o',e1⟩:=I.base.there b o e hx
   exact⟨o',(hs.2 b (dB (cO (cS e) (I.ok.cab x c hfn hc)))).trans e1⟩
  ·by_cases hj:j=i
   ·subst hj
    rw[hi] at e1;cases e1;rw[dD hiσ] at e2;cases e2;exact⟨u,r,.inr ⟨.inl hk,c,hc,hc'⟩⟩
   ·rw[dO (Ne.symm hj)] at e2
    obtain⟨u',r',q⟩:=hl j y v' e1 e2 e3;refine⟨u',r',?_⟩;rcases q with q | ⟨k,c',e,z'⟩
    ·exact .inl q
    ·refine .inr ⟨k,c',e,z'.sameBut hs ?_⟩
     rintro rfl;exact hj (zDk hN e1 (I.ok.inj _ _ _ e hc▸hi))
  ·by_cases hcc:c'=c
   ·subst hcc;exact⟨_,hc'⟩
   ·obtain⟨w2,z2⟩:=I.cell y c' e
    exact⟨w2,z2.sameBut hs hcc⟩
  ·obtain⟨e,n,ne,nf,d⟩:=I.pin p hp
   refine⟨(hs.2 p.1 ?_).trans e,n,ne,nf,d⟩;intro q;rw[q,hoc] at e;have q':oc=p.2:=Option.some.inj e;exact d w' (by rw[<-q'];exact hocd)
theorem zBs{M:Model}{A:Around}{E:Value->Shared->Prop}{i:Nat}{x:Str}{v:V}{u:Value}{Q:Unit->Shared->Prop}(I:zT X pins σ H s)(hN:X.N.Nodup)(hi:X.N[i]?=some x)(hx:Loc X.env.scope x)(r:RelV v u)
  (h:∀ s',zT X pins (σ.set i (some v)) H s'->Q () s') (hf:autoParam (X.fn x=true\/X.env.scope.names.lookup x=some .local) Zq1._auto_1):wpAny M A (storeName X.env x u) Q E s :=
 zEh I hN hi hx r (fun s' I' _=>h s' I') hf
theorem zT.call'{s':Shared}{ch:List Addr}(I:zT X pins σ H s)(ho:s'.os=s.os)(u:Un (frs X.stack) ch H H' s.heap s'.heap)(hok:HOk X.prog X.w H' s'.heap)(hg:AllBare s'.gens)
  (hch:∀ b∈ch,(b∈X.ex\/X.s₀.heap.objs.size<=b)/\b≠X.env.locals/\(∀ x c,X.env.cells.lookup x=some c->c≠b)/\∀ p∈X.pn++pins,p.1≠b):zT X pins σ H' s':=by
 obtain⟨h',g',d',t',o'⟩:=s';have e:o'=s.os:=ho;subst e;exact I.call (g':=g') (t':=t') (d':=d') u hok hg hch
end
noncomputable abbrev XK:=Value->Option Addr->Hp->Prop
noncomputable abbrev St:=List (Option V)
noncomputable abbrev VK:=V->Hp->Prop
noncomputable abbrev TE:=St->Hp->VK->Prop
noncomputable abbrev TT:=St->Hp->(Bool->Hp->Prop)->Prop
noncomputable abbrev TA:=St->Hp->(List V->Hp->Prop)->Prop
structure Ends where
 nx:St->Hp->Prop
 rt:VK
 bk:St->Hp->Prop:=fun _ _=>False
 ct:St->Hp->Prop:=fun _ _=>False
noncomputable abbrev TS:=Ends->St->Hp->Prop
noncomputable def EP(X:Cx)(pins:List (Addr×Obj))(σ:St)(Q:VK)(u:Value)(s':Shared):Prop:=∃ v H',zT X pins σ H' s'/\RelV v u/\Q v H'
noncomputable def TP(X:Cx)(pins:List (Addr×Obj))(σ:St)(Q:Bool->Hp->Prop)(b:Bool)(s':Shared):Prop:=∃ H',zT X pins σ H' s'/\Q b H'
noncomputable def AP(X:Cx)(pins:List (Addr×Obj))(σ:St)(Q:List V->Hp->Prop)(us:List Value)(s':Shared):Prop:=∃ vs H',zT X pins σ H' s'/\zc vs us/\Q vs H'
noncomputable def SP(X:Cx)(pins:List (Addr×Obj))(D:Ends)(f:Flow)(s':Shared):Prop :=
 match f with
 | .next=>∃ σ' H',zT X pins σ' H' s'/\D.nx σ' H'
 | .brk=>∃ σ' H',zT X pins σ' H' s'/\D.bk σ' H'
 | .cont=>∃ σ' H',zT X pins σ' H' s'/\D.ct σ' H'
 | .ret u=>∃ v σ' H',zT X pins σ' H' s'/\RelV v u/\D.rt v H'
noncomputable def PE(X:Cx)(e:Expr)(t:TE):Prop :=
 ∀(pins:List (Addr×Obj)) (s:Shared) (σ:St) (H:Hp) (Q:VK),zT X pins σ H s->t σ H Q->wpAny (model X.prog X.w) X.A (eval e X.env) (EP X pins σ Q) X.xe s
noncomputable def PT(X:Cx)(e:Expr)(t:TT):Prop :=
 ∀(pins:List (Addr×Obj)) (s:Shared) (σ:St) (H:Hp) (Q:Bool->Hp->Prop),zT X pins σ H s->t σ H Q->wpAny (model X.prog X.w) X.A (isTrue e X.env (eval e X.env)) (TP X pins σ Q) X.xe s
noncomputable def PW(X:Cx)(e:Expr)(t:TT):Prop :=
 ∀(whole:Sem Value) (pins:List (Addr×Obj)) (s:Shared) (σ:St) (H:Hp) (Q:Bool->Hp->Prop),zT X pins σ H s->t σ H Q->wpAny (model X.prog X.w) X.A (isTrue e X.env whole) (TP X pins σ Q) X.xe s
theorem PW.pt{X:Cx}{e:Expr}{t:TT}(h:PW X e t):PT X e t:=h _
noncomputable def PA(X:Cx)(es:List Expr)(t:TA):Prop :=
 ∀(pos:Pos) (pins:List (Addr×Obj)) (s:Shared) (σ:St) (H:Hp) (Q:List V->Hp->Prop),zT X pins σ H s->t σ H Q->wpAny (model X.prog X.w) X.A (spliced (backTo pos (starEach es X.env))) (AP X pins σ Q) X.xe s
noncomputable def PS(X:Cx)(st:Stmt)(t:TS):Prop :=
 ∀(pins:List (Addr×Obj)) (s:Shared) (σ:St) (H:Hp) (D:Ends),zT X pins σ H s->t D σ H->wpAny (model X.prog X.w) X.A (exec st X.env) (SP X pins D) X.xe s
noncomputable def PSs(X:Cx)(st:List Stmt)(t:TS):Prop :=
 ∀(pins:List (Addr×Obj)) (s:Shared) (σ:St) (H:Hp) (D:Ends),zT X pins σ H s->t D σ H->wpAny (model X.prog X.w) X.A (execs st X.env) (SP X pins D) X.xe s
theorem yj{α:Type}{t:Sem α}{Q Q':α->Shared->Prop}{M:Model}{A:Around}{E:Value->Shared->Prop}{s:Shared}(h:wpAny M A t Q E s)(hQ:∀ a s,Q a s->Q' a s):wpAny M A t Q' E s:=dP h hQ fun _ _ x=>x
section
variable {X:Cx}
noncomputable def zQP(i:Nat):TE:=fun σ H Q=>∃ v,σ[i]?=some (some v)/\Q v H
noncomputable def tC(v:V):TE:=fun _ H Q=>Q v H
theorem zG1{i:Nat}{x:Str}{pos:Pos}(hN:X.N[i]?=some x)(hv:Vis X.env.scope x)(hd:autoParam ((x==("__debug__":Str))=false) Zq2._auto_1)(hcd:autoParam ((x==("__classdict__":Str))=false) Zq2._auto_1):PE X (.Name x pos) (zQP i):=by
 intro pins s σ H Q I h;obtain⟨v,e,h⟩:=h;obtain⟨m,hn,hl⟩:=I.loc;obtain⟨u,r,l⟩:=hl i x v hN e hv;have fin:EP X pins σ Q u s:=⟨v,H,I,r,h⟩
 rcases l with ⟨hk,hm⟩ | ⟨hk,c,hc,hcell⟩
 ·exact wpAny_Name (wpAny_loadName_local I.ok.kind hk hn hm fin) hd
 ·rcases hk with hk | hk
  ·exact wpAny_Name (wpAny_loadName_cell I.ok.kind hk hc hcell fin) hd
  ·exact wpAny_Name (wpAny_loadName_free I.ok.kind hk hc hcell fin hcd) hd
theorem zN1{i j pos}:PE X (.Constant (.int i) j pos) (tC (.int i)):=fun _ _ _ H _ I h=>wpAny_Constant_int ⟨.int i,H,I.tok _,⟨_,rfl⟩,h⟩
theorem zPS{b j pos}:PE X (.Constant (.bool b) j pos) (tC (.bl b)):=fun _ _ _ H _ I h=>Constant_bool ⟨.bl b,H,I,rfl,h⟩
theorem zJv{j pos}:PE X (.Constant .none j pos) (tC .non):=fun _ _ _ H _ I h=>Constant_none ⟨.non,H,I,rfl,h⟩
theorem zG2{x j pos}:PE X (.Constant (.str x) j pos) (tC (.str x)):=fun _ _ _ H _ I h=>Calls.Constant_str ⟨.str x,H,I.tok _,⟨_,rfl⟩,h⟩
noncomputable def Gl(X:Cx)(x:Str):Prop:=X.env.kindOf x=some .globalImplicit
theorem zCg{E:Value->Shared->Prop}{pins:List (Addr×Obj)}{s:Shared}{σ:St}{H:Hp}{x:Str}{u:Value}{pos:Pos}{Q:Value->Shared->Prop}(I:zT X pins σ H s)(hg:Gl X x)(hm:X.mg x=some u)(h:Q u s)
  (hd:autoParam ((x==("__debug__":Str))=false) Zq2._auto_1):wpAny (model X.prog X.w) X.A (eval (.Name x pos) X.env) Q E s :=
 Calls.Name_function_global I.ok.kind hg (Calls.loadGlobal_global (by rw[I.ok.glob];exact I.mod.glob.keeps I.bk) hm h) hd
theorem zCZ{E:Value->Shared->Prop}{pins:List (Addr×Obj)}{s:Shared}{σ:St}{H:Hp}{x:Str}{u:Value}{pos:Pos}{Q:Value->Shared->Prop}(I:zT X pins σ H s)(hg:Gl X x)(hm:X.mg x=none)(hv:bootBuiltins x=some u)(h:Q u s)
  (hn:autoParam (x≠"__name__") Zq2._auto_1) (hd:autoParam ((x==("__debug__":Str))=false) Zq2._auto_1):wpAny (model X.prog X.w) X.A (eval (.Name x pos) X.env) Q E s:=by
 obtain⟨mb,h1,h2⟩:=I.mod.blt;exact Calls.Name_function_global I.ok.kind hg (Calls.loadGlobal_builtin (by rw[I.ok.glob];exact I.mod.glob.keeps I.bk) hm (by rw[I.ok.blt];exact h1.keeps I.bk) ((h2 x hn).trans hv) h) hd
theorem zDa{x:Str}{v:V}{u:Value}{pos:Pos}(hg:Gl X x)(hm:X.mg x=some u)(r:RelV v u)(hd:autoParam ((x==("__debug__":Str))=false) Zq2._auto_1):PE X (.Name x pos) (tC v) :=
 fun _ _ _ H _ I h=>zCg I hg hm ⟨v,H,I,r,h⟩ hd
theorem zH3{x:Str}{v:V}{u:Value}{pos:Pos}(hg:Gl X x)(hm:X.mg x=none)(hv:bootBuiltins x=some u)(r:RelV v u)(hn:autoParam (x≠"__name__") Zq2._auto_1)(hd:autoParam ((x==("__debug__":Str))=false) Zq2._auto_1):PE X (.Name x pos) (tC v) :=
 fun _ _ _ H _ I h=>zCZ I hg hm hv ⟨v,H,I,r,h⟩ hn hd
variable {a b:Expr} {ta tb:TE} {pos:Pos}
noncomputable def tB(t:TE):TT:=fun σ H Q=>t σ H fun x H1=>∃ c,x=.bl c/\Q c H1
theorem zN2{e:Expr}{t:TE}(h:PE X e t)(he:autoParam (∀ whole,isTrue e X.env whole=(do let v <-whole;standAt e.pos;holding [v] (truthy v))) Zq3._auto_1):PT X e (tB t):=by
 intro pins s σ H Q I hw;refine isTrue_plain (yj (h pins s σ H _ I hw) fun v s1 ⟨x,H1,I1,r1,q1⟩=>?_) (he _);obtain⟨d,rfl,q⟩:=q1;cases r1;exact dY ⟨H1,I1,q⟩
variable {tA tB':TT} {rest:List Expr}
noncomputable def zQQ(t u:TT):TT:=fun σ H Q=>t σ H fun c H1=>if c=true then u σ H1 Q else Q false H1
noncomputable def tOr(t u:TT):TT:=fun σ H Q=>t σ H fun c H1=>if c=true then Q true H1 else u σ H1 Q
noncomputable def zQR(t:TT):TT:=fun σ H Q=>t σ H fun c H1=>Q (!c) H1
theorem zLu(ha:PT X a tA):PW X (.BoolOp .And [a] pos) tA:=by
 intro wh pins s σ H Q I h;refine isTrue_and (yj (ha pins s σ H Q I h) fun c s1 e=>?_);cases c with
 | true=>exact isTrue_and_nil e
 | false=>exact e
theorem zN3(ha:PT X a tA):PW X (.BoolOp .Or [a] pos) tA:=by
 intro wh pins s σ H Q I h;refine isTrue_or (yj (ha pins s σ H Q I h) fun c s1 e=>?_);cases c with
 | false=>exact isTrue_or_nil e
 | true=>exact e
theorem zN4(ha:PT X a tA)(hb:PW X (.BoolOp .And (b::rest) pos) tB'):PW X (.BoolOp .And (a::b::rest) pos) (zQQ tA tB'):=by
 intro wh pins s σ H Q I h;refine isTrue_and (yj (ha pins s σ H _ I h) fun c s1 u9=>?_);obtain⟨H1,I1,q1⟩:=u9;cases c with
 | true=>exact hb wh pins s1 σ H1 Q I1 q1
 | false=>exact⟨H1,I1,q1⟩
theorem zPT(ha:PT X a tA)(hb:PW X (.BoolOp .Or (b::rest) pos) tB'):PW X (.BoolOp .Or (a::b::rest) pos) (tOr tA tB'):=by
 intro wh pins s σ H Q I h;refine isTrue_or (yj (ha pins s σ H _ I h) fun c s1 u9=>?_);obtain⟨H1,I1,q1⟩:=u9;cases c with
 | true=>exact⟨H1,I1,q1⟩
 | false=>exact hb wh pins s1 σ H1 Q I1 q1
theorem zN5(ha:PT X a tA):PT X (.UnaryOp .Not a pos) (zQR tA):=by
 intro pins s σ H Q I h;exact isTrue_not (ha pins s σ H (fun c H1=>Q (!c) H1) I h)
noncomputable def zPU(ta tb:TE):TE:=fun σ H Q=>ta σ H fun x H1=>∃ c,x=.bl c/\if c=true then tb σ H1 Q else Q (.bl false) H1
noncomputable def zPV(ta:TE):TE:=fun σ H Q=>ta σ H fun x H1=>∃ c,x=.bl c/\Q (.bl (!c)) H1
theorem zN6{op}{t:TE}(h:PE X a t):PE X (.BoolOp op [a] pos) t:=fun pins s σ H Q I hw=>BoolOp_one (h pins s σ H Q I hw)
theorem zN7(ha:PE X a ta)(hb:PE X (.BoolOp .And (b::rest) pos) tb):PE X (.BoolOp .And (a::b::rest) pos) (zPU ta tb):=by
 intro pins s σ H Q I h;refine BoolOp_and (yj (ha pins s σ H _ I h) fun v s1 u9=>?_);obtain⟨x,H1,I1,r1,q1⟩:=u9;obtain⟨c,rfl,q1⟩:=q1;cases r1;refine dY ?_;cases c with
 | true=>exact hb pins s1 σ H1 Q I1 q1
 | false=>exact⟨.bl false,H1,I1,rfl,q1⟩
theorem zN8(ha:PE X a ta):PE X (.UnaryOp .Not a pos) (zPV ta):=by
 intro pins s σ H Q I h;refine UnaryOp_ (yj (ha pins s σ H _ I h) fun v s1 u9=>?_);obtain⟨x,H1,I1,r1,q1⟩:=u9;obtain⟨c,rfl,q1⟩:=q1;cases r1;exact not_of (dY ⟨.bl (!c),H1,I1,rfl,q1⟩)
noncomputable def tIf(t:TT)(ta tb:TE):TE:=fun σ H Q=>t σ H fun c H1=>if c=true then ta σ H1 Q else tb σ H1 Q
theorem zJw{c:Expr}(hc:PT X c tA)(ha:PE X a ta)(hb:PE X b tb):PE X (.IfExp c a b pos) (tIf tA ta tb):=by
 intro pins s σ H Q I h;refine wpAny_IfExp (yj (hc pins s σ H _ I h) fun d s1 u9=>?_);obtain⟨H1,I1,q1⟩:=u9;cases d with
 | true=>exact ha pins s1 σ H1 Q I1 q1
 | false=>exact hb pins s1 σ H1 Q I1 q1
end
noncomputable def SqL(K:PySem.W.Frag)(H:Hp)(a:Addr)(xs:List V):Prop :=
 Rd H a (.lst xs) \/
  ∃(o:Obj) (its:Array Value) (n:Nat),K.lookup a=some o/\o.cls=.type "list"/\o.dict=none/\o.data=.seq its n/\its.size<=sizeLine/\zc xs its.toList
noncomputable def SqT(K:PySem.W.Frag)(H:Hp)(a:Addr)(xs:List V):Prop :=
 Rd H a (.tup xs) \/
  ∃(o:Obj) (its:Array Value) (n:Nat),K.lookup a=some o/\o.cls=.type "tuple"/\o.data=.seq its n/\its.size<=sizeLine/\zc xs its.toList/\o.dict=none
noncomputable def zQS:Value->Option V
 | .none=>some .non
 | .bool b=>some (.bl b)
 | .int i _=>some (.int i)
 | .str x _=>some (.str x)
 | .bytes b _=>some (.byt b)
 | .float b _=>some (.flt b)
 | .ref a=>some (.ref a)
 | .type n=>some (.ty n)
 | _=>none
theorem RelV.abs{x:V}{u:Value}(r:RelV x u):zQS u=some x:=by
 cases x with
 | non=>cases r;rfl
 | bl _=>cases r;rfl
 | int _=>obtain⟨t,rfl⟩:=r;rfl
 | str _=>obtain⟨t,rfl⟩:=r;rfl
 | byt _=>obtain⟨t,rfl⟩:=r;rfl
 | flt _=>obtain⟨t,rfl⟩:=r;rfl
 | ref _=>cases r;rfl
 | ty _=>cases r;rfl
theorem RelV.inj{x y:V}{u:Value}(r:RelV x u)(q:RelV y u):x=y:=Option.some.inj (r.abs.symm.trans q.abs)
theorem zc.inj:∀ {xs ys:List V} {us:List Value},zc xs us->zc ys us->xs=ys
 | _,_,_,.nil,.nil=>rfl
 | _,_,_,.cons r t,.cons r' t'=>by rw[r.inj r',zc.inj t t']
section
variable {X:Cx} {pins:List (Addr×Obj)} {σ:St} {H:Hp} {s:Shared} {a:Addr} {xs ys:List V}
theorem SqL.of{K:PySem.W.Frag}(h:H a=some (.lst xs)):SqL K H a xs:=.inl (.inl h)
theorem SqT.of{K:PySem.W.Frag}(h:H a=some (.tup xs)):SqT K H a xs:=.inl (.inl h)
theorem zT.list(I:zT X pins σ H s)(h:SqL X.K H a xs):∃ its:List Value,zc xs its/\PlainL s.heap a its.toArray/\xs.length<=sizeLine:=by
 rcases h with h | ⟨o,its,n,hk,hc,hd,hs,hz,r⟩
 ·obtain⟨z,its,n,r,e⟩:=h.ok I.hok
  exact⟨its,r,⟨_,n,e,rfl,rfl,rfl⟩,z⟩
 ·refine⟨its.toList,r,⟨o,n,I.kIn a o hk,hc,hd,by simpa using hs⟩,?_⟩
  have e:=r.length;simp only[dh] at e;omega
theorem zT.tuple(I:zT X pins σ H s)(h:SqT X.K H a xs):∃ its:List Value,zc xs its/\IsTup s.heap a its.toArray/\xs.length<=sizeLine:=by
 rcases h with h | ⟨o,its,n,hk,hc,hs,hz,r,_⟩
 ·obtain⟨z,its,r,p⟩:=h.ok I.hok
  exact⟨its,r,p.isTup,z⟩
 ·refine⟨its.toList,r,⟨o,I.kIn a o hk,hc,n,by simpa using hs⟩,?_⟩
  have e:=r.length;simp only[dh] at e;omega
theorem zT.noDict(I:zT X pins σ H s)(h:SqT X.K H a xs):s.TypeIs (.ref a) "tuple"/\∃ ob,s.heap.get? a=some ob/\ob.dict=none:=by
 rcases h with h | ⟨o,its,n,hk,hc,hs,hz,r,hd⟩
 ·obtain⟨z,its,r,o,h1,h2,h3,h4⟩:=h.ok I.hok
  exact⟨⟨o,h1,h2⟩,o,h1,h4⟩
 ·exact⟨⟨o,I.kIn a o hk,hc⟩,o,I.kIn a o hk,hd⟩
theorem zT.list_inj(I:zT X pins σ H s)(h:SqL X.K H a xs)(h':SqL X.K H a ys):xs=ys:=by
 obtain⟨its,r,⟨o,n,e,_,_,d⟩,_⟩:=I.list h;obtain⟨its',r',⟨o',n',e',_,_,d'⟩,_⟩:=I.list h';rw[e] at e';cases e';rw[d] at d';injection d' with d1 _
 have:its=its':=by simpa using congrArg Array.toList d1
 subst this;exact r.inj r'
theorem zT.tuple_inj(I:zT X pins σ H s)(h:SqT X.K H a xs)(h':SqT X.K H a ys):xs=ys:=by
 obtain⟨its,r,⟨o,e,_,n,d⟩,_⟩:=I.tuple h;obtain⟨its',r',⟨o',e',_,n',d'⟩,_⟩:=I.tuple h';rw[e] at e';cases e';rw[d] at d';injection d' with d1 _
 have:its=its':=by simpa using congrArg Array.toList d1
 subst this;exact r.inj r'
end
noncomputable abbrev Cx.wish(X:Cx)(E:Value->Shared->Prop):Cx:={ X with xe:=E }
noncomputable abbrev Cx.nox(X:Cx):Cx:=X.wish fun _ _=>False
theorem Cx.Ok.wish{X:Cx}(ok:X.Ok)(E:Value->Shared->Prop):(X.wish E).Ok :=
 ⟨ok.mod,ok.kind,ok.glob,ok.blt,ok.above,ok.inj,ok.has,ok.cab,ok.hd,ok.frames,ok.stk,ok.exf,ok.bs,ok.bsz,ok.noex,ok.exfs,ok.funs,ok.frf,ok.tb⟩
theorem Cx.Ok.unwish{X:Cx}{E:Value->Shared->Prop}(ok:(X.wish E).Ok):X.Ok :=
 ⟨ok.mod,ok.kind,ok.glob,ok.blt,ok.above,ok.inj,ok.has,ok.cab,ok.hd,ok.frames,ok.stk,ok.exf,ok.bs,ok.bsz,ok.noex,ok.exfs,ok.funs,ok.frf,ok.tb⟩
section
variable {X:Cx} {pins:List (Addr×Obj)} {σ:St} {H:Hp} {s:Shared} {E:Value->Shared->Prop}
theorem zT.wish(I:zT X pins σ H s)(E:Value->Shared->Prop):zT (X.wish E) pins σ H s:=⟨I.ok.wish E,I.os,I.bare,I.base,I.loc,I.cell,I.free,I.freeC,I.pin,I.hok,I.len⟩
theorem zT.unwish(I:zT (X.wish E) pins σ H s):zT X pins σ H s:=⟨I.ok.unwish,I.os,I.bare,I.base,I.loc,I.cell,I.free,I.freeC,I.pin,I.hok,I.len⟩
theorem SP.unwish{D:Ends}{f:Flow}{s':Shared}(h:SP (X.wish E) pins D f s'):SP X pins D f s':=by
 cases f with
 | next=>obtain⟨σ',H',I,q⟩:=h;exact⟨σ',H',I.unwish,q⟩
 | brk=>obtain⟨σ',H',I,q⟩:=h;exact⟨σ',H',I.unwish,q⟩
 | cont=>obtain⟨σ',H',I,q⟩:=h;exact⟨σ',H',I.unwish,q⟩
 | ret u=>obtain⟨v,σ',H',I,r,q⟩:=h;exact⟨v,σ',H',I.unwish,r,q⟩
theorem PSs.nox{st:List Stmt}{t:TS}(h:PSs X.nox st t):PSs X st t:=fun pins s σ H D I hw =>
 dP (h pins s σ H D (I.wish _) hw) (fun _ _ q=>q.unwish) fun _ _ z=>False.elim z
end
section
variable {X:Cx} {st:Stmt} {rest:List Stmt} {t u:TS} {e:Expr} {te:TE} {pos:Pos}
noncomputable def zPW:TS:=fun D σ H=>D.nx σ H
noncomputable def zQT(t u:TS):TS:=fun D σ H=>t { D with nx:=u D } σ H
theorem zLv:PSs X [] zPW:=fun _ _ σ H _ I h=>wpAny_execs_nil ⟨σ,H,I,h⟩
theorem zJx(h1:PS X st t)(h2:PSs X rest u):PSs X (st::rest) (zQT t u):=by
 intro pins s σ H D I h;refine dW (yj (h1 pins s σ H { D with nx:=u D } I h) fun f s1 q=>?_);cases f with
 | next =>
  obtain⟨σ',H',I',q⟩:=q;exact h2 pins s1 σ' H' D I' q
 | ret v=>exact q
 | brk=>exact q
 | cont=>exact q
theorem zLw(h1:PS X st t):PSs X [st] t:=by
 intro pins s σ H D I h;refine dW (yj (h1 pins s σ H D I h) fun f s1 q=>?_);cases f with
 | next=>exact wpAny_execs_nil q
 | ret v=>exact q
 | brk=>exact q
 | cont=>exact q
theorem zT.quiet{pins:List (Addr×Obj)}{σ:St}{H:Hp}{s:Shared}(I:zT X pins σ H s):interactive X.env=false:=by simp[interactive,I.ok.kind]
noncomputable def zPX(te:TE):TS:=fun D σ H=>te σ H fun _ H1=>D.nx σ H1
theorem zLx(he:PE X e te)(hs:autoParam (swapsWith e none pos.line X.env=pure false) Zq4._auto_1):PS X (.Expr e pos) (zPX te):=by
 intro pins s σ H D I h;exact wpAny_Expr_any (yj (he pins s σ H _ I h) fun v s1 ⟨x,H1,I1,r1,q1⟩=>⟨σ,H1,I1,q1⟩) I.quiet hs
noncomputable def zQU(te:TE):TS:=fun D σ H=>te σ H D.rt
theorem zN9(he:PE X e te):PS X (.Return (some e) pos) (zQU te):=by
 intro pins s σ H D I h;exact wpAny_Return_some (yj (he pins s σ H _ I h) fun v s1 ⟨x,H1,I1,r1,q1⟩=>⟨x,σ,H1,I1,r1,q1⟩)
noncomputable def zQV(c:TT)(t u:TS):TS:=fun D σ H=>c σ H fun b H1=>if b=true then t D σ H1 else u D σ H1
theorem zPY{c:Expr}{a b:List Stmt}{tc:TT}(hc:PT X c tc)(ha:PSs X a t)(hb:PSs X b u):PS X (.If c a b pos) (zQV tc t u):=by
 intro pins s σ H D I h;refine wpAny_If (yj (hc pins s σ H _ I h) fun d s1 u9=>?_);obtain⟨H1,I1,q1⟩:=u9;cases d with
 | true=>exact ha pins s1 σ H1 D I1 q1
 | false=>exact hb pins s1 σ H1 D I1 q1
end
noncomputable abbrev TG:=V->St->Hp->(St->Hp->Prop)->Prop
noncomputable abbrev TGs:=List V->St->Hp->(St->Hp->Prop)->Prop
noncomputable def PG(X:Cx)(target:Expr)(t:TG):Prop :=
 ∀(pins:List (Addr×Obj)) (s:Shared) (σ:St) (H:Hp) (v:V) (u:Value) (Q:St->Hp->Prop),zT X pins σ H s->RelV v u->t v σ H Q ->
  wpAny (model X.prog X.w) X.A (assign target X.env u) (fun _ s'=>∃ σ' H',zT X pins σ' H' s'/\Q σ' H') X.xe s
noncomputable def PGs(X:Cx)(ts:List Expr)(t:TGs):Prop :=
 ∀(pins:List (Addr×Obj)) (s:Shared) (σ:St) (H:Hp) (vs:List V) (us:List Value) (Q:St->Hp->Prop),zT X pins σ H s->zc vs us->t vs σ H Q ->
  wpAny (model X.prog X.w) X.A (assignInOrder ((assignEach ts X.env).map (·.2)) us) (fun _ s'=>∃ σ' H',zT X pins σ' H' s'/\Q σ' H') X.xe s
noncomputable abbrev zOA:=V->V->V->Hp->(Hp->Prop)->Prop
noncomputable def zPZ(X:Cx)(t:zOA):Prop :=
 ∀(pins:List (Addr×Obj)) (s:Shared) (σ:St) (H:Hp) (o i v:V) (ov iv u:Value) (Q:Hp->Prop),zT X pins σ H s->RelV o ov->RelV i iv->RelV v u->t o i v H Q ->
  wpAny (model X.prog X.w) X.A (setItem ov iv u) (fun _ s'=>∃ H',zT X pins σ H' s'/\Q H') X.xe s
section
variable {X:Cx} {pos:Pos}
noncomputable def zBt(i:Nat):TG:=fun v σ H Q=>Q (σ.set i (some v)) H
theorem zAd{i:Nat}{x:Str}(hN:X.N.Nodup)(hi:X.N[i]?=some x)(hx:Loc X.env.scope x)(hf:autoParam (X.fn x=true\/X.env.scope.names.lookup x=some .local) Zq1._auto_1):PG X (.Name x pos) (zBt i):=by
 intro pins s σ H v u Q I r h;exact wpAny_assign_Name (zBs I hN hi hx r (fun s' I'=>⟨_,H,I',h⟩) hf)
noncomputable def zLy:TGs:=fun vs σ H Q=>vs=[]/\Q σ H
noncomputable def zDl(t:TG)(u:TGs):TGs:=fun vs σ H Q=>∃ v r,vs=v::r/\t v σ H fun σ' H'=>u r σ' H' Q
theorem zFK:PGs X [] zLy:=by
 intro pins s σ H vs us Q I r h;obtain⟨e,h⟩:=h;subst e;cases r;exact assignInOrder_nil ⟨σ,H,I,h⟩
theorem zBH{e:Expr}{es:List Expr}{t:TG}{u:TGs}(h1:PG X e t)(h2:PGs X es u)
  (hs:autoParam ((assignEach (e::es) X.env).map (·.2)=assign e X.env::(assignEach es X.env).map (·.2)) Zq4._auto_1):PGs X (e::es) (zDl t u):=by
 intro pins s σ H vs us Q I r h;obtain⟨v,vr,e1,h⟩:=h;subst e1;cases r with
 | cons r rr =>
  rw[hs];refine assignInOrder_cons (yj (h1 pins s σ H _ _ _ I r h) fun _ s1 u9=>?_);obtain⟨σ1,H1,I1,q1⟩:=u9;exact h2 pins s1 σ1 H1 _ _ Q I1 rr q1
noncomputable def zLz(K:PySem.W.Frag)(n:Nat)(t:TGs):TG:=fun v σ H Q=>∃ a xs,v=.ref a/\SqT K H a xs/\xs.length=n/\t xs σ H Q
theorem zG3{es:List Expr}{k:Nat}{t:TGs}{n:Nat}(hc:X.calm=true)(h:PGs X es t)
  (hn:autoParam ((assignEach es X.env).length=n) Zq4._auto_1) (hst:autoParam ((assignEach es X.env).findIdx? (·.1)=none) Zq4._auto_1):PG X (.Tuple es k pos) (zLz X.K n t):=by
 intro pins s σ H v u Q I r hw;obtain⟨a,xs,e1,hq,hl,hw⟩:=hw;subst e1;cases r;obtain⟨its,rv,ht,hz⟩:=I.tuple hq;refine assign_Tuple_tuple (I.ok.hd hc) ht (by simp[hn,<-hl,rv.length]) hst fun h' hx=>?_;have I1:zT X pins σ H { s with heap:=h' }:=I.kept (t':=s.toks) fun b o e=>hx b o (dB (cS e)) e;exact h pins _ σ H xs _ Q I1 (by simpa using rv) hw
noncomputable def zQW(to ti:TE)(t:zOA):TG:=fun v σ H Q=>to σ H fun o H1=>ti σ H1 fun i H2=>t o i v H2 fun H3=>Q σ H3
theorem zOB{o i:Expr}{to ti:TE}{t:zOA}(ho:PE X o to)(hi:PE X i ti)(hs:zPZ X t)
  (ha:autoParam (∀ v,assign (.Subscript o i pos) X.env v=(do
   let ov <-holding [v] (eval o X.env);let iv <-holding [v,ov] (eval i X.env)
   standAt pos
   holding [v,ov,iv] (setItem ov iv v)
   release [v,ov,iv] [])) Zq3._auto_1):PG X (.Subscript o i pos) (zQW to ti t):=by
 intro pins s σ H v u Q I r h;rw[ha];refine cT (wpAny_holding (yj (ho pins s σ H _ I h) fun ov s1 u9=>?_));obtain⟨x,H1,I1,r1,q1⟩:=u9;refine cT (wpAny_holding (yj (hi pins s1 σ H1 _ I1 q1) fun iv s2 u9=>?_));obtain⟨y,H2,I2,r2,q2⟩:=u9;refine cT (wpAny_standAt (cT (wpAny_holding (yj (hs pins s2 σ H2 x y v ov iv u _ I2 r1 r2 r q2) fun _ s3 u9=>?_))));obtain⟨H3,I3,q3⟩:=u9;exact wpAny_release ⟨σ,H3,I3,q3⟩
noncomputable def zOC(te:TE)(g:TG):TS:=fun D σ H=>te σ H fun x H1=>g x σ H1 D.nx
theorem zOD{tg e:Expr}{te:TE}{g:TG}(he:PE X e te)(hg:PG X tg g)(hs:autoParam (swapsWithSole [tg] e pos.line X.env=pure false) Zq4._auto_1)(hw:autoParam (swappedStores [tg] e X.env=pure none) Zq4._auto_1)
  (h1:autoParam ((assignEach [tg] X.env).map (·.2)=[assign tg X.env]) Zq4._auto_1):PS X (.Assign [tg] e pos) (zOC te g):=by
 intro pins s σ H D I h;refine wpAny_Assign_stores (yj (he pins s σ H _ I h) fun v s1 ⟨x,H1,I1,r1,q1⟩=>?_) hs hw;rw[h1];exact yj (hg pins s1 σ H1 x v _ I1 r1 q1) fun _ s2 q=>q
theorem zOE{i:Nat}{x:Str}{e:Expr}{te:TE}{pos':Pos}(hN:X.N.Nodup)(hi:X.N[i]?=some x)(hx:Loc X.env.scope x)(he:PE X e te)(hs:autoParam (swapsWith e (some (.Name x pos')) pos.line X.env=pure false) Zq4._auto_1)(hf:autoParam (X.fn x=true\/X.env.scope.names.lookup x=some .local) Zq1._auto_1) :
  PS X (.Assign [.Name x pos'] e pos) (zOC te (zBt i)):=by
 intro pins s σ H D I h;refine wpAny_Assign_Name (yj (he pins s σ H _ I h) fun v s1 ⟨y,H1,I1,r1,q1⟩=>?_) hs;exact zBs I1 hN hi hx r1 (fun s2 I2=>⟨_,H1,I2,q1⟩) hf
end
structure It where
 go:Nat->Hp->Prop
 yld:Nat->Hp->V->Hp->Prop
 stop:Nat->Hp->Prop
noncomputable def zDA(X:Cx)(pins:List (Addr×Obj))(H:Hp)(b:Addr):Prop :=
 H b=none/\b≠X.env.locals/\b∉X.fs/\(b∈X.ex\/X.s₀.heap.objs.size<=b)/\(∀ x c,X.env.cells.lookup x=some c->c≠b)/\∀ p∈X.pn++pins,p.1≠b
theorem zT.fpOk{X:Cx}{pins:List (Addr×Obj)}{σ:St}{H H':Hp}{s:Shared}{b:Addr}(I:zT X pins σ H s)(hb:s.heap.objs.size<=b)(hn:H' b=none):zDA X pins H' b:=by
 refine⟨hn,Nat.ne_of_gt (cO I.lt hb),I.nofs hb,.inr (dC I.sz hb),fun x c e z=>?_,fun p hp z=>?_⟩
 ·obtain⟨v,q⟩:=I.cell x c e
  exact absurd (cO q.lt (by rw[z];exact hb)) (dZ _)
 ·exact absurd (cO (cS (I.pin p hp).1) (by rw[z];exact hb)) (dZ _)
structure Turn (P:Program) (w:World) (K:PySem.W.Frag) (tg:Expr) (J:It) (fp:List Addr) (it:Addr) (tn:Nat->Heap->Prop):Prop where
 mem:it∈fp
 obj:∀ i h,tn i h->∀ b∈fp,∃ o,h.get? b=some o/\∀ v,o.data≠.cell v
 keep:∀ i h h',tn i h->(∀ b∈fp,∀ o,h.get? b=some o->h'.get? b=some o)->tn i h'
 item:∀(X:Cx),X.prog=P->X.w=w->X.K=K->X.calm=true->∀(i:Nat) (pins:List (Addr×Obj)) (s:Shared) (σ:St) (H:Hp) (E:Value->Shared->Prop),zT X pins σ H s->(∀ b∈fp,zDA X pins H b)->tn i s.heap->J.go i H ->
  wpAny (model P w) X.A (pyNext (.ref it)) (fun r s1=>∃ u,r=some u /\
   wpAny (model P w) X.A (letOwnedTupleGo tg (.ref it) u) (fun _ s2=>∃ x H',zT X pins σ H' s2/\RelV x u/\J.yld i H x H'/\tn (i+1) s2.heap/\∀ b∈fp,H' b=none) E s1) E s
 done:∀(X:Cx),X.prog=P->X.w=w->X.K=K->X.calm=true->∀(i:Nat) (pins:List (Addr×Obj)) (s:Shared) (σ:St) (H:Hp) (E:Value->Shared->Prop),zT X pins σ H s->(∀ b∈fp,zDA X pins H b)->tn i s.heap->J.stop i H ->
  wpAny (model P w) X.A (pyNext (.ref it)) (fun r s1=>r=none/\zT X pins σ H s1) E s
 self:∀(A:Around) (i:Nat) (s:Shared) (Q:Value->Shared->Prop) (E:Value->Shared->Prop),tn i s.heap->Q (.ref it) s->wpAny (model P w) A (pyIter (.ref it)) Q E s
noncomputable abbrev TI:=St->Hp->(It->Hp->Prop)->Prop
noncomputable def PIE(X:Cx)(pins:List (Addr×Obj))(σ:St)(tg:Expr)(R:It->Hp->Prop)(itv:Value)(s2:Shared):Prop :=
 ∃(it:Addr) (fp:List Addr) (tn:Nat->Heap->Prop) (J:It) (H':Hp),itv=.ref it/\zT X pins σ H' s2/\Turn X.prog X.w X.K tg J fp it tn/\tn 0 s2.heap/\(∀ b∈fp,zDA X pins H' b)/\R J H'
noncomputable def PI(X:Cx)(tg iter:Expr)(wi:TI):Prop :=
 ∀(pins:List (Addr×Obj)) (s:Shared) (σ:St) (H:Hp) (R:It->Hp->Prop),zT X pins σ H s->wi σ H R ->
  wpAny (model X.prog X.w) X.A (eval iter X.env) (fun v s1=>wpAny (model X.prog X.w) X.A (pyIter v) (PIE X pins σ tg R) X.xe s1) X.xe s
theorem zJy{M:Model}{A:Around}{E:Value->Shared->Prop}{s:Shared}{tg:Expr}{it:Addr}{u:Value}{o:Obj}{n:String}{vs:Array Value}{Q:Unit->Shared->Prop}(ho:s.heap.get? it=some o)(hc:o.cls=.type n)(hd:o.data=.fields vs)
    (hn:["enumerate","zip","dict_itemiterator","dict_reverseitemiterator","odict_iterator","itertools.zip_longest","itertools.pairwise"].contains n=false) (hQ:Q () s):wpAny M A (letOwnedTupleGo tg (.ref it) u) Q E s:=by
  unfold letOwnedTupleGo;cases tg<;>first
    | exact dA hQ
    | (cases u<;>first
        | exact dA hQ
        | (refine cT (wpAny_load ho ?_)
           rw[hc,hd];show wpAny M A (if (["enumerate","zip","dict_itemiterator","dict_reverseitemiterator","odict_iterator","itertools.zip_longest","itertools.pairwise"].contains n&&vs[0]?==some (rawInt _))=true then _ else _) Q E s;rw[if_neg (by intro h;rw[hn,Bool.false_and] at h;cases h)];exact dA hQ))
noncomputable def Itl(K:PySem.W.Frag)(a:Addr):It :=
 ⟨fun i H=>∃ xs x,SqL K H a xs/\xs[i]?=some x,fun i H x H'=>H'=H/\∀ xs,SqL K H a xs->xs[i]?=some x,fun i H=>∃ xs,SqL K H a xs/\xs.length<=i⟩
noncomputable def Itt(K:PySem.W.Frag)(a:Addr):It :=
 ⟨fun i H=>∃ xs x,SqT K H a xs/\xs[i]?=some x,fun i H x H'=>H'=H/\∀ xs,SqT K H a xs->xs[i]?=some x,fun i H=>∃ xs,SqT K H a xs/\xs.length<=i⟩
noncomputable def Itr(lo:Int)(n:Nat):It:=⟨fun i _=>i<n,fun i H x H'=>H'=H/\x=.int (lo+i),fun i _=>n<=i⟩
theorem zIr{P:Program}{w:World}{K:PySem.W.Frag}{tg:Expr}(a it:Addr):Turn P w K tg (Itl K a) [it] it (fun i h=>h.IsListIter it a i) where
 mem:=by simp
 obj:=fun i h st b hb=>by
  have e:b=it:=by simpa using hb
  subst e;obtain⟨o,e,c,d⟩:=st;exact⟨o,e,fun v z=>by rw[d] at z;cases z⟩
 keep:=fun i h h' st k=>st.at fun o e=>k it (by simp) o e
 item:=by
  intro X hP hw hK hc i pins s σ H E I hf st hg;subst hP hw hK;obtain⟨xs,x,hq,hx⟩:=hg;obtain⟨its,rv,p,hz⟩:=I.list hq;obtain⟨u,hu,ru⟩:=rv.get hx;obtain⟨f0,f1,f2,f3,f4,f5⟩:=hf it (by simp);refine wpAny_pyNext_list_item st p.isList (x:=u) (by simpa using hu) fun h' st' sb=>?_;have I1:zT X pins σ H { s with heap:=h' }:=I.turned (t':=s.toks) (fun b o hb e=>(sb.2 b hb).trans e) f0 f1 f3 f4 f5;obtain⟨o,e,c,d⟩:=id st';exact⟨u,rfl,zJy (s:={ s with heap:=h' }) e c d (by decide) ⟨x,H,I1,ru,⟨rfl,fun ys hy=>by rw[I.list_inj hy hq];exact hx⟩,st',fun b hb=>(hf b hb).1⟩⟩
 done:=by
  intro X hP hw hK hc i pins s σ H E I hf st hg;subst hP hw hK;obtain⟨xs,hq,hx⟩:=hg;obtain⟨its,rv,p,hz⟩:=I.list hq;obtain⟨f0,f1,f2,f3,f4,f5⟩:=hf it (by simp);have hl:=rv.length;exact wpAny_pyNext_list_end (I.ok.hd hc) st p.isList (by simp;omega) fun h' eb=>⟨rfl,I.turned (t':=s.toks) (fun b o hb e=>eb b o hb e) f0 f1 f3 f4 f5⟩
 self:=fun _ _ _ _ _ st h=>wpAny_pyIter_listiter st h
theorem zG4{P:Program}{w:World}{K:PySem.W.Frag}{tg:Expr}(a it:Addr):Turn P w K tg (Itt K a) [it] it (fun i h=>h.IsTupleIter it a i) where
 mem:=by simp
 obj:=fun i h st b hb=>by
  have e:b=it:=by simpa using hb
  subst e;obtain⟨o,e,c,d⟩:=st;exact⟨o,e,fun v z=>by rw[d] at z;cases z⟩
 keep:=fun i h h' st k=>st.at fun o e=>k it (by simp) o e
 item:=by
  intro X hP hw hK hc i pins s σ H E I hf st hg;subst hP hw hK;obtain⟨xs,x,hq,hx⟩:=hg;obtain⟨its,rv,p,hz⟩:=I.tuple hq;obtain⟨u,hu,ru⟩:=rv.get hx;obtain⟨f0,f1,f2,f3,f4,f5⟩:=hf it (by simp);refine wpAny_pyNext_tuple_item st (show s.heap.IsTuple a its.toArray from p) (x:=u) (by simpa using hu) fun h' st' sb=>?_;have I1:zT X pins σ H { s with heap:=h' }:=I.turned (t':=s.toks) (fun b o hb e=>(sb.2 b hb).trans e) f0 f1 f3 f4 f5;obtain⟨o,e,c,d⟩:=id st';exact⟨u,rfl,zJy (s:={ s with heap:=h' }) e c d (by decide) ⟨x,H,I1,ru,⟨rfl,fun ys hy=>by rw[I.tuple_inj hy hq];exact hx⟩,st',fun b hb=>(hf b hb).1⟩⟩
 done:=by
  intro X hP hw hK hc i pins s σ H E I hf st hg;subst hP hw hK;obtain⟨xs,hq,hx⟩:=hg;obtain⟨its,rv,p,hz⟩:=I.tuple hq;obtain⟨f0,f1,f2,f3,f4,f5⟩:=hf it (by simp);have hl:=rv.length;exact wpAny_pyNext_tuple_end (I.ok.hd hc) st (show s.heap.IsTuple a its.toArray from p) (by simp;omega) fun h' eb=>⟨rfl,I.turned (t':=s.toks) (fun b o hb e=>eb b o hb e) f0 f1 f3 f4 f5⟩
 self:=fun _ _ _ _ _ st h=>wpAny_pyIter_tupleiter st h
theorem zG5{P:Program}{w:World}{K:PySem.W.Frag}{tg:Expr}(it:Addr)(lo:Int)(n:Nat):Turn P w K tg (Itr lo n) [it] it (fun i h=>IsRangeIter h it (lo+(i:Nat)*1) ((n:Int)-(i:Nat)) 1) where
 mem:=by simp
 obj:=fun i h st b hb=>by
  have e:b=it:=by simpa using hb
  subst e;exact⟨_,st,fun v z=>by
   have z':Data.fields _=Data.cell v:=z;cases z'⟩
 keep:=fun i h h' st k=>k it (by simp) _ st
 item:=by
  intro X hP hw hK hc i pins s σ H E I hf st hg;subst hP hw hK;obtain⟨f0,f1,f2,f3,f4,f5⟩:=hf it (by simp);have W:=Walks.range (prog:=X.prog) (w:=X.w) (I.ok.hd hc) it lo 1 n;refine W.item i s _ _ hg st fun v h' tk hv st' kk=>?_;obtain⟨t,rfl⟩:=hv;have I1:zT X pins σ H { s with heap:=h',toks:=tk }:=I.turned (fun b o hb e=>kk b o (by simpa using hb) e) f0 f1 f3 f4 f5;refine⟨_,rfl,zJy (s:={ s with heap:=h',toks:=tk }) (n:="range_iterator") st' rfl rfl (by decide) ⟨.int (lo+i),H,I1,⟨t,?_⟩,⟨rfl,rfl⟩,st',fun b hb=>(hf b hb).1⟩⟩;rw[Int.mul_one]
 done:=by
  intro X hP hw hK hc i pins s σ H E I hf st hg;subst hP hw hK;obtain⟨f0,f1,f2,f3,f4,f5⟩:=hf it (by simp);exact wpAny_pyNext_range_end (I.ok.hd hc) st (by have:n<=i:=hg;omega) fun h' eb=>⟨rfl,I.turned (t':=s.toks) (fun b o hb e=>eb b o hb e) f0 f1 f3 f4 f5⟩
 self:=fun _ _ _ _ _ st h=>wpAny_pyIter_rangeiter st h
section
variable {X:Cx} {tg:Expr}
theorem zF1{pins:List (Addr×Obj)}{σ:St}{H:Hp}{s:Shared}{R:It->Hp->Prop}{E:Value->Shared->Prop}{lo hi:Int}{t u v:Tok}{tk:Nat}(I:zT X pins σ H s)(h1:-(2 ^ 62)<=lo)(h2:lo<2 ^ 62)(h3:-(2 ^ 62)<=hi)(h4:hi<2 ^ 62)
  (q:R (Itr lo (hi-lo).toNat) H):wpAny (model X.prog X.w) X.A (pyIter (.ref s.heap.objs.size)) (PIE X pins σ tg R) E { s with heap:=s.heap.push { cls:=.type "range",data:=.fields #[.int lo t,.int hi u,.int 1 v] },toks:=tk }:=by
 refine wpAny_pyIter_range (IsRange.new ..) (small_one h1 h2 h3 h4) ?_;have I1:zT X pins σ H { s with heap:=s.heap.push { cls:=.type "range",data:=.fields #[.int lo t,.int hi u,.int 1 v] },toks:=tk }:=I.kept fun b o e=>cL _ e;refine⟨(s.heap.push { cls:=.type "range",data:=.fields #[.int lo t,.int hi u,.int 1 v] }).objs.size,[(s.heap.push { cls:=.type "range",data:=.fields #[.int lo t,.int hi u,.int 1 v] }).objs.size],_,_,H,rfl,
  I1.kept (t':=tk) fun b o e=>cL _ e,zG5 _ lo (hi-lo).toNat,?_,fun b hb=>?_,q⟩
 ·have e1:lo+((0:Nat):Int)*1=lo:=by simp
  have e2:(((hi-lo).toNat:Nat):Int)-((0:Nat):Int)=Builtin.Range.rangeSize lo hi 1:=by rw[rangeSize_one];split<;>omega
  show IsRangeIter _ _ (lo+((0:Nat):Int)*1) ((((hi-lo).toNat:Nat):Int)-((0:Nat):Int)) 1;rw[e1,e2];exact de _ rfl
 ·have e:b=(s.heap.push { cls:=.type "range",data:=.fields #[.int lo t,.int hi u,.int 1 v] }).objs.size:=by simpa using hb
  subst e;exact I1.fpOk (cN _) (I1.hok.fresh (cN _))
noncomputable def zPa(ta:TA):TI:=fun σ H R=>ta σ H fun vs H1=>∃ j:Int,vs=[.int j]/\-(2 ^ 62)<=j/\j<2 ^ 62/\R (Itr 0 j.toNat) H1
noncomputable def zPb(ta:TA):TI:=fun σ H R=>ta σ H fun vs H1=>∃ i j:Int,vs=[.int i,.int j]/\(-(2 ^ 62)<=i/\i<2 ^ 62/\-(2 ^ 62)<=j/\j<2 ^ 62)/\R (Itr i (j-i).toNat) H1
theorem zIs{a:Expr}{ta:TA}{p pos:Pos}(hg:Gl X "range")(hm:X.mg "range"=none)(ha:PA X [a] ta)(hs:autoParam (starEach [a] X.env=[(false,eval a X.env)]) Zq4._auto_1):PI X tg (.Call (.Name "range" p) [a] [] pos) (zPa ta):=by
 intro pins s σ H R I h;refine Call_ (zCZ I hg hm boot_range (PyProof.Rows.callWith_type1 (yj (ha pos pins s σ H _ I h) fun us s1 ⟨vs,H1,I1,r1,q1⟩=>?_) hs rfl));obtain⟨j,e,q1,q2,q⟩:=q1;subst e;cases r1 with
 | cons r rr =>
  cases rr;obtain⟨t,rfl⟩:=r;exact call_range_1 (zF1 I1 (by omega) (by omega) q1 q2 (by simpa using q))
theorem zIt{a b:Expr}{ta:TA}{p pos:Pos}(hg:Gl X "range")(hm:X.mg "range"=none)(ha:PA X [a,b] ta)(hs:autoParam (starEach [a,b] X.env=[(false,eval a X.env),(false,eval b X.env)]) Zq4._auto_1)(hs2:autoParam (starEach [b] X.env=[(false,eval b X.env)]) Zq4._auto_1) :
  PI X tg (.Call (.Name "range" p) [a,b] [] pos) (zPb ta):=by
 intro pins s σ H R I h;refine Call_ (zCZ I hg hm boot_range (PyProof.Rows.callWith_type1 (yj (ha pos pins s σ H _ I h) fun us s1 ⟨vs,H1,I1,r1,q1⟩=>?_) (by rw[hs,hs2]) (by rw[hs2];rfl)));obtain⟨i,j,e,⟨q1,q2,q3,q4⟩,q⟩:=q1;subst e;cases r1 with
 | cons r rr =>
  cases rr with
  | cons r' rr =>
   cases rr;obtain⟨t,rfl⟩:=r;obtain⟨t',rfl⟩:=r';exact call_range_2 (zF1 I1 q1 q2 q3 q4 q)
noncomputable def zQX(wi:TI)(g:TG)(tb:TS):TS:=fun D σ H=>wi σ H fun J H1=>∃ W:Nat->Nat->St->Hp->Prop,(∃ m,W 0 m σ H1)/\∀ i m σ H,W i m σ H ->
 (J.stop i H/\D.nx σ H)\/(J.go i H/\∃ N:St->Hp->Prop,(∀ σ' H',N σ' H'->∃ m',m'<m/\W (i+1) m' σ' H')/\∀ x H',J.yld i H x H'->g x σ H' fun σ2 H2=>tb { D with nx:=N,ct:=N,bk:=D.nx } σ2 H2)
noncomputable def zDm(fp:List Addr)(h:Heap):List (Addr×Obj):=fp.filterMap fun b=>(h.get? b).map fun o=>(b,o)
theorem zBT{fp:List Addr}{h:Heap}{b:Addr}{o:Obj}(hb:b∈fp)(e:h.get? b=some o):(b,o)∈zDm fp h:=List.mem_filterMap.mpr ⟨b,hb,by rw[e];rfl⟩
theorem zIu{fp:List Addr}{h:Heap}{p:Addr×Obj}(hp:p∈zDm fp h):p.1∈fp/\h.get? p.1=some p.2:=by
 obtain⟨b,hb,e⟩:=List.mem_filterMap.mp hp;cases q:h.get? b with
 | none=>rw[q] at e;cases e
 | some o =>
  rw[q] at e;have e':(b,o)=p:=Option.some.inj e;subst e';exact⟨hb,q⟩
theorem zT.pinned{pins:List (Addr×Obj)}{σ:St}{H:Hp}{s:Shared}{fp:List Addr}(I:zT X pins σ H s)(hf:∀ b∈fp,zDA X pins H b)(ho:∀ b∈fp,∃ o,s.heap.get? b=some o/\∀ v,o.data≠.cell v):zT X (pins++zDm fp s.heap) σ H s :=
 I.pins_of fun p hp=>(dQ.mp hp).elim (fun z=>I.pin p (cY _ z)) fun z=>by
  obtain⟨hb,e⟩:=zIu z;obtain⟨f0,f1,f2,_⟩:=hf p.1 hb;obtain⟨o,e',d⟩:=ho p.1 hb;rw[e] at e';cases e';exact⟨e,f0,f1,f2,d⟩
theorem zT.unpinned{pins pl:List (Addr×Obj)}{σ:St}{H:Hp}{s:Shared}(I:zT X (pins++pl) σ H s):zT X pins σ H s:=I.pins_of fun p hp=>I.pin p (cY _ (dN _ hp))
theorem zOF{iter:Expr}{body:List Stmt}{wi:TI}{g:TG}{tb:TS}{pos:Pos}(hp:PassesOwn (model X.prog X.w) X.A X.env X.xe)(hc:X.calm=true)(hi:PI X tg iter wi)(hg:PG X tg g)(hb:PSs X body tb)
  (hs:autoParam (∀ x,foldedSetIterable iter X.env x=pure x) Zq3._auto_1):PS X (.For tg iter body [] pos) (zQX wi g tb):=by
 intro pins s σ H D I h;refine wpAny_For (yj (hi pins s σ H _ I h) fun v s1 h1=>yj h1 fun itv s2 h2=>?_) hs;obtain⟨it,fp,tn,J,H2,e,I2,T,st2,f2,W,⟨m0,w0⟩,turn⟩:=h2;subst e
 -- what stays true of the iterator's objects through the loop
 have stat:∀ {H':Hp},(∀ b∈fp,H' b=none)->∀ b∈fp,zDA X pins H' b:=fun hn b hb=>⟨hn b hb,(f2 b hb).2⟩
 refine codeAny_forLoop_any (fun n s'=>∃ i σ' H',zT X pins σ' H' s'/\tn i s'.heap/\(∀ b∈fp,H' b=none)/\W i n σ' H') ?_ m0 ⟨0,σ,H2,I2,st2,fun b hb=>(f2 b hb).1,w0⟩;rintro n s3 ⟨i,σ3,H3,I3,st3,fr3,w3⟩;rcases turn i n σ3 H3 w3 with ⟨stop,qn⟩ | ⟨go,N,hN,step⟩
 ·refine wpAny_passesOwn hp (yj (T.done X rfl rfl rfl hc i pins s3 σ3 H3 X.xe I3 (stat fr3) st3 stop) fun r s4 u9=>?_);obtain⟨hr,I4⟩:=u9
  subst hr;exact wpAny_execs_nil ⟨σ3,H3,I4,qn⟩
 ·refine wpAny_passesOwn hp (yj (T.item X rfl rfl rfl hc i pins s3 σ3 H3 X.xe I3 (stat fr3) st3 go) fun r s4 u9=>?_);obtain⟨u,hr,h4⟩:=u9
  subst hr;refine wpAny_passesOwn hp (yj h4 fun _ s5 u9=>?_);obtain⟨x,H5,I5,r5,y5,st5,fr5⟩:=u9;have I5':=I5.pinned (stat fr5) (T.obj _ _ st5);refine wpAny_passesOwn hp (yj (hg _ s5 σ3 H5 x u _ I5' r5 (step x H5 y5)) fun _ s6 u9=>?_);obtain⟨σ6,H6,I6,q6⟩:=u9;refine wpAny_passesOwn hp (yj (hb _ s6 σ6 H6 _ I6 q6) fun f s7 q7=>?_);have again:∀ {σ7:St} {H7:Hp},zT X (pins++zDm fp s5.heap) σ7 H7 s7->N σ7 H7->∃ m,m<n/\∃ i σ' H',zT X pins σ' H' s7/\tn i s7.heap/\(∀ b∈fp,H' b=none)/\W i m σ' H':=fun {σ7 H7} I7 n7=>by
   obtain⟨m',hm,w7⟩:=hN σ7 H7 n7;refine⟨m',hm,i+1,σ7,H7,I7.unpinned,T.keep _ _ _ st5 fun b hb o e=>(I7.pin (b,o) (cY _ (cY _ (zBT hb e)))).1,fun b hb=>?_,w7⟩;obtain⟨o,e,d⟩:=T.obj _ _ st5 b hb;exact(I7.pin (b,o) (cY _ (cY _ (zBT hb e)))).2.1
  cases f with
  | next=>obtain⟨σ7,H7,I7,n7⟩:=q7;exact again I7 n7
  | cont=>obtain⟨σ7,H7,I7,n7⟩:=q7;exact again I7 n7
  | brk=>obtain⟨σ7,H7,I7,q7⟩:=q7;exact⟨σ7,H7,I7.unpinned,q7⟩
  | ret v=>obtain⟨x7,σ7,H7,I7,r7,q7⟩:=q7;exact⟨x7,σ7,H7,I7.unpinned,r7,q7⟩
end
noncomputable abbrev R2:=V->V->Hp->VK->Prop
noncomputable def OpR(X:Cx)(f:Value->Value->Sem Value)(r:R2):Prop :=
 ∀(pins:List (Addr×Obj)) (s:Shared) (σ:St) (H:Hp) (x y:V) (v u:Value) (Q:VK),zT X pins σ H s->RelV x v->RelV y u->r x y H Q ->
  wpAny (model X.prog X.w) X.A (f v u) (EP X pins σ Q) X.xe s
noncomputable def UnR(X:Cx)(f:Value->Sem Value)(r:V->Hp->VK->Prop):Prop :=
 ∀(pins:List (Addr×Obj)) (s:Shared) (σ:St) (H:Hp) (x:V) (v:Value) (Q:VK),zT X pins σ H s->RelV x v->r x H Q ->
  wpAny (model X.prog X.w) X.A (f v) (EP X pins σ Q) X.xe s
noncomputable def wD(X:Cx)(f:Value)(r:List V->Hp->VK->Prop):Prop :=
 ∀(pins:List (Addr×Obj)) (s:Shared) (σ:St) (H:Hp) (xs:List V) (us:List Value) (Q:VK),zT X pins σ H s->zc xs us->r xs H Q ->
  wpAny (model X.prog X.w) X.A (call f us) (EP X pins σ Q) X.xe s
noncomputable def tOp(r:R2)(ta tb:TE):TE:=fun σ H Q=>ta σ H fun x H1=>tb σ H1 fun y H2=>r x y H2 Q
noncomputable def tUn(r:V->Hp->VK->Prop)(ta:TE):TE:=fun σ H Q=>ta σ H fun x H1=>r x H1 Q
noncomputable def rI(C:Int->Int->Prop)(g:Int->Int->V):R2:=fun x y H Q=>∃ i j,x=.int i/\y=.int j/\C i j/\Q (g i j) H
noncomputable def rI0(g:Int->Int->V):R2:=fun x y H Q=>∃ i j,x=.int i/\y=.int j/\Q (g i j) H
noncomputable def rU(g:Int->V):V->Hp->VK->Prop:=fun x H Q=>∃ i,x=.int i/\Q (g i) H
section
variable {X:Cx} {a b c:Expr} {ta tb tc:TE} {pos:Pos}
theorem zOG(ha:PE X a ta)(hb:PE X b tb){pins:List (Addr×Obj)}{s:Shared}{σ:St}{H:Hp}{R:V->V->Hp->Prop}(I:zT X pins σ H s)
  (h:ta σ H fun x H1=>tb σ H1 fun y H2=>R x y H2) {Q:Value->Shared->Prop} {f:Value->Value->Sem Value}
  (hf:∀ v u s2 x y H2,zT X pins σ H2 s2->RelV x v->RelV y u->R x y H2->wpAny (model X.prog X.w) X.A (f v u) Q X.xe s2) :
  wpAny (model X.prog X.w) X.A (eval a X.env) (fun v s₁=>wpAny (model X.prog X.w) X.A (eval b X.env) (fun u s₂=>wpAny (model X.prog X.w) X.A (f v u) Q X.xe s₂) X.xe s₁) X.xe s:=by
 refine yj (ha pins s σ H _ I h) fun v s1 u9=>?_;obtain⟨x,H1,I1,r1,q1⟩:=u9;refine yj (hb pins s1 σ H1 _ I1 q1) fun u s2 u9=>?_;obtain⟨y,H2,I2,r2,q2⟩:=u9;exact hf v u s2 x y H2 I2 r1 r2 q2
theorem zJz{op:Operator}{r:R2}(ho:OpR X (binaryOp op) r)(ha:PE X a ta)(hb:PE X b tb):PE X (.BinOp a op b pos) (tOp r ta tb):=by
 intro pins s σ H Q I h;exact wpAny_BinOp (zOG ha hb I h fun v u s2 x y H2 I2 rx ry q=>ho pins s2 σ H2 x y v u Q I2 rx ry q)
theorem zPc{op:UnaryOp}{r:V->Hp->VK->Prop}(ho:UnR X (unaryOp op) r)(ha:PE X a ta):PE X (.UnaryOp op a pos) (tUn r ta):=by
 intro pins s σ H Q I h;exact UnaryOp_ (yj (ha pins s σ H _ I h) fun v s1 ⟨x,H1,I1,r1,q1⟩=>ho pins s1 σ H1 x v Q I1 r1 q1)
theorem opI{f:Value->Value->Sem Value}{C:Int->Int->Prop}{g:Int->Int->Int}
  (rule:∀(i j:Int) (t u:Tok) (s:Shared) (Q:Value->Shared->Prop) (E:Value->Shared->Prop),C i j->Q (.int (g i j) s.toks) { s with toks:=s.toks+1 }->wpAny (model X.prog X.w) X.A (f (.int i t) (.int j u)) Q E s) :
  OpR X f (rI C fun i j=>.int (g i j)):=by
 intro pins s σ H x y v u Q I rx ry h;obtain⟨i,j,rfl,rfl,hc,q⟩:=h;obtain⟨t,rfl⟩:=rx;obtain⟨t',rfl⟩:=ry;exact rule i j t t' s _ _ hc ⟨.int (g i j),H,I.tok _,⟨_,rfl⟩,q⟩
theorem zPd{f:Value->Value->Sem Value}{g:Int->Int->Int}
  (rule:∀(i j:Int) (t u:Tok) (s:Shared) (Q:Value->Shared->Prop) (E:Value->Shared->Prop),Q (.int (g i j) s.toks) { s with toks:=s.toks+1 }->wpAny (model X.prog X.w) X.A (f (.int i t) (.int j u)) Q E s) :
  OpR X f (rI0 fun i j=>.int (g i j)):=by
 intro pins s σ H x y v u Q I rx ry h;obtain⟨i,j,rfl,rfl,q⟩:=h;obtain⟨t,rfl⟩:=rx;obtain⟨t',rfl⟩:=ry;exact rule i j t t' s _ _ ⟨.int (g i j),H,I.tok _,⟨_,rfl⟩,q⟩
theorem zOH{f:Value->Value->Sem Value}{g:Int->Int->Bool}
  (rule:∀(i j:Int) (t u:Tok) (s:Shared) (Q:Value->Shared->Prop) (E:Value->Shared->Prop),Q (.bool (g i j)) s->wpAny (model X.prog X.w) X.A (f (.int i t) (.int j u)) Q E s) :
  OpR X f (rI0 fun i j=>.bl (g i j)):=by
 intro pins s σ H x y v u Q I rx ry h;obtain⟨i,j,rfl,rfl,q⟩:=h;obtain⟨t,rfl⟩:=rx;obtain⟨t',rfl⟩:=ry;exact rule i j t t' s _ _ ⟨.bl (g i j),H,I,rfl,q⟩
noncomputable def zF2(i j:Int):Prop:=0<j/\j<1073741824
noncomputable def zIv(i j:Int):Prop:=0<=j/\j<=1000000/\i.natAbs<2 ^ 64
noncomputable def zCN(i j:Int):Prop:=(-(2 ^ 64)<i/\i<2 ^ 64)\/(-(2 ^ 64)<j/\j<2 ^ 64)
theorem zCN.ok{i j:Int}(h:zCN i j):IntMulOk i j:=by
 rcases h with ⟨h1,h2⟩ | ⟨h1,h2⟩
 ·exact .of_left (intBits_le_64 h1 h2)
 ·exact .of_right (intBits_le_64 h1 h2)
theorem zOI:OpR X (binaryOp .Add) (rI0 fun i j=>.int (i+j)):=zPd fun _ _ _ _ _ _ _ q=>add_int q
theorem zOJ:OpR X (binaryOp .Sub) (rI0 fun i j=>.int (i-j)):=zPd fun _ _ _ _ _ _ _ q=>sub_int q
theorem zOK:OpR X (binaryOp .Mult) (rI zCN fun i j=>.int (i*j)):=opI fun _ _ _ _ _ _ _ hc q=>mul_int q hc.ok
theorem zL0:OpR X (binaryOp .FloorDiv) (rI zF2 fun i j=>.int (i / j)):=opI fun i j _ _ _ _ _ hc q=>by
 have h1:(0:Int)<j:=hc.1;have h2:j<1073741824:=hc.2;exact floordiv_int (by omega) (by rw[Int.fdiv_eq_ediv_of_nonneg i (by omega)];exact q) (.inl (PyProof.noPylong_small (by omega)))
theorem zOL:OpR X (binaryOp .Mod) (rI (fun _ j=>0<j) fun i j=>.int (i%j)):=opI fun i j _ _ _ _ _ hc q=>by
 have h1:(0:Int)<j:=hc;exact mod_int' (by omega) (by rw[Int.fmod_eq_emod_of_nonneg i (by omega)];exact q)
theorem zOM:OpR X (binaryOp .Pow) (rI zIv fun i j=>.int (i ^ j.toNat)):=opI fun _ _ _ _ _ _ _ hc q=>pow_int_small hc.1 hc.2.1 hc.2.2 q
theorem unI{f:Value->Sem Value}{g:Int->Int}
  (rule:∀(i:Int) (t:Tok) (s:Shared) (Q:Value->Shared->Prop) (E:Value->Shared->Prop),Q (.int (g i) s.toks) { s with toks:=s.toks+1 }->wpAny (model X.prog X.w) X.A (f (.int i t)) Q E s) :
  UnR X f (rU fun i=>.int (g i)):=by
 intro pins s σ H x v Q I rx h;obtain⟨i,rfl,q⟩:=h;obtain⟨t,rfl⟩:=rx;exact rule i t s _ _ ⟨.int (g i),H,I.tok _,⟨_,rfl⟩,q⟩
theorem zON:UnR X (unaryOp .USub) (rU fun i=>.int (-i)):=unI fun _ _ _ _ _ q=>neg_int q
theorem zJ0{pins:List (Addr×Obj)}{σ:St}{H:Hp}{s:Shared}{Q:VK}{k k':Bool}(I:zT X pins σ H s)(q:Q (.bl k) H)(e:k=k'):EP X pins σ Q (.bool k') s:=by
 subst e;exact⟨.bl k,H,I,rfl,q⟩
theorem zJ1:OpR X (compareOp .Lt) (rI0 fun i j=>.bl (decide (i<j))):=zOH fun _ _ _ _ _ _ _ q=>lt_int q
theorem zEi:OpR X (compareOp .LtE) (rI0 fun i j=>.bl (decide (i<=j))):=zOH fun _ _ _ _ _ _ _ q=>le_int q
theorem zPe:OpR X (compareOp .GtE) (rI0 fun i j=>.bl (decide (j<=i))):=zOH fun _ _ _ _ _ _ _ q=>ge_int q
theorem zIw:OpR X (compareOp .In) (fun x y H Q=>∃ i j,x=.str i/\y=.str j/\Q (.bl (!(Builtin.Str.occurrences j i 0 j.length 1).isEmpty)) H):=by
 intro pins s σ H x y v u Q I rx ry h;obtain⟨i,j,rfl,rfl,q⟩:=h;obtain⟨t,rfl⟩:=rx;obtain⟨t',rfl⟩:=ry;exact in_str (zJ0 I q rfl)
theorem zJ2:OpR X (compareOp .Is) (fun x y H Q=>y=.non/\Q (.bl (decide (x=.non))) H):=by
 intro pins s σ H x y v u Q I rx ry h;obtain⟨rfl,q⟩:=h;cases ry;refine is_none_gen (zJ0 I q ?_);cases x<;>first
  | (cases rx;rfl)
  | (obtain⟨t,rfl⟩:=rx;rfl)
theorem OpR.or{f:Value->Value->Sem Value}{r r':R2}(h:OpR X f r)(h':OpR X f r'):OpR X f (fun x y H Q=>r x y H Q\/r' x y H Q):=by
 intro pins s σ H x y v u Q I rx ry q;rcases q with q | q
 ·exact h pins s σ H x y v u Q I rx ry q
 ·exact h' pins s σ H x y v u Q I rx ry q
theorem zBu(b:Expr){op:CmpOp}(h:autoParam (op≠.In) Zq2._auto_1)(h2:autoParam (op≠.NotIn) Zq2._auto_1):behindInMarks op b=false:=by
 have e1:(op==CmpOp.In)=false:=by cases op<;>first | rfl | exact absurd rfl h
 have e2:(op==CmpOp.NotIn)=false:=by cases op<;>first | rfl | exact absurd rfl h2
 cases b<;>simp[behindInMarks,e1,e2]
theorem zL1{op:CmpOp}{r:R2}(ho:OpR X (compareOp op) r)(ha:PE X a ta)(hb:PE X b tb)(hm:behindInMarks op b=false):PE X (.Compare a [op] [b] pos) (tOp r ta tb):=by
 intro pins s σ H Q I h;exact wpAny_Compare1 (zOG ha hb I h fun v u s2 x y H2 I2 rx ry q=>ho pins s2 σ H2 x y v u Q I2 rx ry q) hm
noncomputable def zNW(t:TE):TT:=fun σ H Q=>t σ H fun x H'=>∃ k,x=.bl k/\Q k H'
theorem zL2{op:CmpOp}{r:R2}(ho:OpR X (compareOp op) r)(ha:PE X a ta)(hb:PE X b tb)(hm:behindInMarks op b=false):PT X (.Compare a [op] [b] pos) (zNW (tOp r ta tb)):=by
 intro pins s σ H Q I h;refine wpAny_isTrue_Compare1 (yj (ha pins s σ H _ I h) fun v s1 ⟨x,H1,I1,r1,q1⟩=>yj (hb pins s1 σ H1 _ I1 q1) fun u s2 ⟨y,H2,I2,r2,q2⟩ =>
  yj (ho pins s2 σ H2 x y v u _ I2 r1 r2 q2) fun c s3 ⟨z,H3,I3,r3,k,e,q3⟩=>?_) hm
 subst e;cases r3;exact dY ⟨H3,I3,q3⟩
noncomputable def zJ3(r r':R2)(ta tb tc:TE):TE:=fun σ H Q=>ta σ H fun x H1=>tb σ H1 fun y H2=>r x y H2 fun z H3=>∃ k,z=.bl k /\
 (if k=true then tc σ H3 fun w' H4=>r' y w' H4 Q else Q (.bl false) H3)
theorem zJ4{op op':CmpOp}{r r':R2}(ho:OpR X (compareOp op) r)(ho':OpR X (compareOp op') r')(ha:PE X a ta)(hb:PE X b tb)(hc:PE X c tc)
  (hm:autoParam (lastMarks [op,op'] [b,c]=false) Zq5._auto_1):PT X (.Compare a [op,op'] [b,c] pos) (zNW (zJ3 r r' ta tb tc)):=by
 intro pins s σ H Q I h;refine isTrue_chain (yj (ha pins s σ H _ I h) fun v s1 ⟨x,H1,I1,r1,q1⟩=>test_link (yj (hb pins s1 σ H1 _ I1 q1) fun u s2 ⟨y,H2,I2,r2,q2⟩ =>
  yj (ho pins s2 σ H2 x y v u _ I2 r1 r2 q2) fun d s3 ⟨z,H3,I3,r3,k,e,q3⟩=>?_)) hm
 subst e;cases r3;refine dY ?_;cases k with
 | false =>
  obtain⟨k',e',q'⟩:=q3;cases e';exact ite_ff ⟨H3,I3,q'⟩
 | true =>
  refine ite_tt (test_last (yj (hc pins s3 σ H3 _ I3 q3) fun w' s4 ⟨z',H4,I4,r4,q4⟩=>yj (ho' pins s4 σ H4 y z' u w' _ I4 r2 r4 q4) fun d' s5 u9=>?_));obtain⟨z2,H5,I5,r5,k2,e2,q5⟩:=u9;subst e2;cases r5;exact dY ⟨H5,I5,q5⟩
theorem zDB:(sizeLine:Nat)<2 ^ 63:=by rw[sizeLine_eq];decide
theorem zG6:OpR X (binaryOp .Add) (fun x y H Q=>∃ i j,x=.str i/\y=.str j/\i.length+j.length<=sizeLine/\Q (.str (i++j)) H):=by
 intro pins s σ H x y v u Q I rx ry h;obtain⟨i,j,rfl,rfl,hz,q⟩:=h;obtain⟨t,rfl⟩:=rx;obtain⟨t',rfl⟩:=ry;exact add_str (fun t' tk=>⟨.str (i++j),H,I.tok _,⟨_,rfl⟩,q⟩) hz
theorem vals1{x:V}{us:List Value}(r:zc [x] us):∃ u,us=[u]/\RelV x u:=by
 cases r with
 | cons r1 r2=>cases r2;exact⟨_,rfl,r1⟩
theorem vals2{x y:V}{us:List Value}(r:zc [x,y] us):∃ u w',us=[u,w']/\RelV x u/\RelV y w':=by
 cases r with
 | cons r1 r2 =>
  cases r2 with
  | cons r3 r4=>cases r4;exact⟨_,_,rfl,r1,r3⟩
theorem zIx(hc:X.calm=true):wD X (.builtin "max") (fun xs H Q=>∃ i j,xs=[.int i,.int j]/\Q (.int (if j>i then j else i)) H):=by
 intro pins s σ H xs us Q I r h;obtain⟨i,j,rfl,q⟩:=h;obtain⟨u,w',rfl,⟨t,rfl⟩,⟨t',rfl⟩⟩:=vals2 r;refine max_two_ints (I.ok.hd hc) fun h' tk k=>⟨_,H,I.kept k,?_,q⟩
 by_cases hj:j>i
 ·rw[if_pos hj,if_pos hj];exact⟨_,rfl⟩
 ·rw[if_neg hj,if_neg hj];exact⟨_,rfl⟩
theorem zIy(hc:X.calm=true):wD X (.builtin "min") (fun xs H Q=>∃ i j,xs=[.int i,.int j]/\Q (.int (if j<i then j else i)) H):=by
 intro pins s σ H xs us Q I r h;obtain⟨i,j,rfl,q⟩:=h;obtain⟨u,w',rfl,⟨t,rfl⟩,⟨t',rfl⟩⟩:=vals2 r;refine min_two_ints (I.ok.hd hc) fun h' tk k=>⟨_,H,I.kept k,?_,q⟩
 by_cases hj:j<i
 ·rw[if_pos hj,if_pos hj];exact⟨_,rfl⟩
 ·rw[if_neg hj,if_neg hj];exact⟨_,rfl⟩
end
structure zL3 (h:Heap) (x dx C:Addr) (mA:Str->Option Value):Prop where
 obj:h.get? x=some (PySem.W.instObj C dx)
 ns:h.Ns1 dx mA
 ne:dx≠x
theorem zIz{h:Heap}{dx:Addr}{mA:Str->Option Value}(n:h.Ns1 dx mA):∃ od,h.get? dx=some od/\∀ name,PySem.W.lookIn name od=some (mA name):=by
 obtain⟨o,es,ep,ho,hd,hk,_,hm⟩:=n;refine⟨o,ho,fun name=>?_⟩;have e:=hm name;unfold nsFind findBy at e;rw[<-Array.find?_toList] at e;unfold PySem.W.lookIn;rw[hd];dsimp only;split
 ·rename_i y q
  rw[q] at e;exact congrArg some e
 ·rename_i q
  rw[q] at e;have a:es.toList.any (·.refKey)=false:=by
   rw[List.any_eq_false];intro y hy;obtain⟨z,t,hkey⟩:=hk y (eJ.mp hy);simp[DictEntry.refKey,hkey]
  have a':¬ es.toList.any (·.refKey)=true:=by rw[a];exact dL
  rw[if_neg a'];exact congrArg some e
theorem zL3.look{h:Heap}{x dx C:Addr}{mA:Str->Option Value}(I:zL3 h x dx C mA):∃ od,PySem.W.InstAt h x (PySem.W.instObj C dx) C (some od)/\∀ name,PySem.W.lookIn name od=some (mA name) :=
 let ⟨od,ho,hl⟩:=zIz I.ns
 ⟨od,⟨I.obj,rfl,rfl,ho⟩,hl⟩
section
variable {prog:Program} {w:World} {A:Around} {E:Value->Shared->Prop} {s:Shared} {K:PySem.W.Frag} {x dx C f:Addr} {mA:Str->Option Value} {name:Str} {v:Value}
theorem zFL{expr:Bool}{Q:Value->Shared->Prop}(X:K.In s.heap)(I:zL3 s.heap x dx C mA)(hg:PySem.W.plainGet K C name=true)(hh:PySem.W.hasDictIn K C=true)
  (ha:PySem.W.findIn K (.ref C) name=some none) (hv:mA name=some v) (hv':PySem.W.handedIn v=true) (h:Q v { s with toks:=s.toks+1 }) :
  wpAny (model prog w) A (getAttr (.ref x) name expr) Q E s:=by
 obtain⟨od,J,hl⟩:=I.look;exact PySem.W.get_value X J (PySem.W.plainGet_of hg).1 (PySem.W.findObj_own hh ha rfl (by rw[hl,hv])) hv' h
end
section
variable {P:Program} {w:World} {H H':Hp} {h h':Heap} {a C dx:Addr} {fs fs':List (Str×V)}
theorem zL4(hok:HOk P w H h)(e:H a=some (.ins C dx fs)):∃ mA,zL3 h a dx C mA/\(∀ f,zN0 (fs.lookup f) (mA f))/\PySem.Within mA (fs.map (·.1))/\fs.length<=1000/\H dx=some (.own a):=by
 obtain⟨d,z,ne,ob,mA,n,r,q⟩:=(show wA P w H h a (.ins C dx fs) from hok a _ e)
 exact⟨mA,⟨ob,n,ne⟩,r,q,z,d⟩
end
structure Cls (K:PySem.W.Frag) (C:Addr):Prop where
 pg:PySem.W.plainGet K C Str.empty=true
 hd:PySem.W.hasDictIn K C=true
 po:PySem.W.plainOver K C=true
 sa:PySem.W.findIn K (.ref C) "__setattr__"=some (some (.builtin "object.__setattr__"))
theorem Cls.get{K:PySem.W.Frag}{C:Addr}(c:Cls K C)(f:Str):PySem.W.plainGet K C f=true:=c.pg
section
variable {X:Cx} {pins:List (Addr×Obj)} {σ:St} {H:Hp} {s:Shared} {a C dx:Addr} {fs:List (Str×V)} {f:Str} {v:V} {A:Around} {E:Value->Shared->Prop}
end
section
variable {X:Cx} {o e value:Expr} {f:Str} {pos pos' tpos:Pos} {ta tv:TE}
end
section
variable {X:Cx} {pins:List (Addr×Obj)} {σ:St} {H:Hp} {s:Shared} {A:Around} {E:Value->Shared->Prop} {Q:Value->Shared->Prop} {c:Value} {b:Bool}
set_option genInjectivity true in
inductive zDX (K:PySem.W.Frag) (H:Hp):V->Value->Prop where
 | non:zDX K H .non (.type "NoneType")
 | bl (x:Bool):zDX K H (.bl x) (.type "bool")
 | int (i:Int):zDX K H (.int i) (.type "int")
 | str (x:Str):zDX K H (.str x) (.type "str")
 | flt (x:UInt64):zDX K H (.flt x) (.type "float")
 | lst {a:Addr} {xs:List V} (e:H a=some (.lst xs)):zDX K H (.ref a) (.type "list")
 | frz {a:Addr} {o:Obj} {xs:List V} (e:H a=some (.frz o (.lst xs))):zDX K H (.ref a) (.type "list")
 | tup {a:Addr} {xs:List V} (e:H a=some (.tup xs)):zDX K H (.ref a) (.type "tuple")
 | dK {a:Addr} {kvs:List (Key×V)} (e:H a=some (.dK kvs)):zDX K H (.ref a) (.type "dict")
 | dT {a:Addr} {kvs:List (List Key×V)} (e:H a=some (.dT kvs)):zDX K H (.ref a) (.type "dict")
 | ins {a C dx:Addr} {fs:List (Str×V)} (e:H a=some (.ins C dx fs)) (cl:Cls K C) (ha:PySem.W.findIn K (.ref C) "__class__"=some (some (.builtin "object.__class__")))
   (hn:PySem.W.specialIn K (.builtin "object.__class__") "__get__"=some (some (.builtin "getset_descriptor.__get__"))) (htk:PySem.W.takesIn K (.builtin "object.__class__")=some true)
   (hm:PySem.W.mroIn K C (.type "object")=some true):zDX K H (.ref a) (.ref C)
theorem zB8{x:V}{u t:Value}(I:zT X pins σ H s)(rx:RelV x u)(ty:zDX X.K H x t)(e:PySem.W.kitOne X.K t c=some b)(h:∀ tk,Q (.bool b) { s with toks:=tk }) :
  wpAny (model X.prog X.w) A (call (.builtin "isinstance") [u,c]) Q E s:=by
 cases ty with
 | non=>cases (show u=Value.none from rx);exact PySem.W.kia_one PySem.W.kitx_none I.kIn True.intro e (fun z=>nomatch z) h
 | bl y=>cases (show u=Value.bool y from rx);exact PySem.W.kia_one PySem.W.kitx_bool I.kIn True.intro e (fun z=>nomatch z) h
 | int i=>obtain⟨t,q⟩:=(show ∃ t,u=Value.int i t from rx);cases q;exact PySem.W.kia_one PySem.W.kitx_int I.kIn True.intro e (fun z=>nomatch z) h
 | str y=>obtain⟨t,q⟩:=(show ∃ t,u=Value.str y t from rx);cases q;exact PySem.W.kia_one PySem.W.kitx_str I.kIn True.intro e (fun z=>nomatch z) h
 | flt y=>obtain⟨t,q⟩:=(show ∃ t,u=Value.float y t from rx);cases q;exact PySem.W.kia_one PySem.W.kitx_float I.kIn True.intro e (fun z=>nomatch z) h
 | @lst a xs ea =>
  cases (show u=Value.ref a from rx);obtain⟨_,_,n,_,h1⟩:=(show wA X.prog X.w H s.heap a (.lst xs) from I.hok a _ ea)
  exact PySem.W.kia_one PySem.W.kitx_list I.kIn ⟨_,h1,rfl⟩ e (fun z=>nomatch z) h
 | @frz a ob xs ea =>
  cases (show u=Value.ref a from rx);obtain⟨_,_,_,n,_,h1⟩:=(show wA X.prog X.w H s.heap a (.frz ob (.lst xs)) from I.hok a _ ea)
  exact PySem.W.kia_one PySem.W.kitx_list I.kIn ⟨_,h1,rfl⟩ e (fun z=>nomatch z) h
 | @tup a xs ea =>
  cases (show u=Value.ref a from rx);obtain⟨_,_,_,p⟩:=(show wA X.prog X.w H s.heap a (.tup xs) from I.hok a _ ea)
  obtain⟨o,h1,h2,_⟩:=p;exact PySem.W.kia_one PySem.W.kitx_tuple I.kIn ⟨o,h1,h2⟩ e (fun z=>nomatch z) h
 | @dK a kvs ea =>
  cases (show u=Value.ref a from rx);obtain⟨_,_,vs,_,p⟩:=(show wA X.prog X.w H s.heap a (.dK kvs) from I.hok a _ ea)
  obtain⟨o,es,ep,h1,h2,_⟩:=p;exact PySem.W.kia_one PySem.W.kitx_dict I.kIn ⟨o,h1,h2.1⟩ e (fun z=>nomatch z) h
 | @dT a kvs ea =>
  cases (show u=Value.ref a from rx);obtain⟨_,_,xs,_,o,es,ep,h1,h2,_⟩:=(show wA X.prog X.w H s.heap a (.dT kvs) from I.hok a _ ea)
  exact PySem.W.kia_one PySem.W.kitx_dict I.kIn ⟨o,h1,h2.1⟩ e (fun z=>nomatch z) h
 | @ins a C dx fs ea cl ha hn htk hm =>
  cases (show u=Value.ref a from rx);obtain⟨mA,O,_⟩:=zL4 I.hok ea;obtain⟨od,J,_⟩:=O.look;exact PySem.W.kia_one (PySem.W.kitx_own (cl.get _) cl.hd ha hn htk hm) I.kIn J e (fun z=>nomatch z) h
end
structure yM (k:Nat) (A:Around):Prop where
 hd:A.handled=none
 dp:A.depth+3*k+5<recursionLimit
 un:A.units+16*k+200<cLine
theorem yM.mono{j k:Nat}{A:Around}(r:yM k A)(h:j<=k):yM j A:=⟨r.hd,by have:=r.dp;omega,by have:=r.un;omega⟩
theorem yM.deeper{k:Nat}{A:Around}(r:yM (k+1) A)(env:Env):yM k (A.deeper env) :=
 ⟨r.hd,by have:=r.dp;show A.depth+1+3*k+5<_;omega,by have:=r.un;show A.units+3+16*k+200<_;omega⟩
theorem yM.in1{k:Nat}{A:Around}(r:yM (k+1) A):yM k A.in1 :=
 ⟨r.hd,by have:=r.dp;show A.depth+3*k+5<_;omega,by have:=r.un;show A.units+1+16*k+200<_;omega⟩
theorem yM.depth{k:Nat}{A:Around}(r:yM k A):A.depth<recursionLimit:=by have:=r.dp;omega
theorem yM.units{k:Nat}{A:Around}(r:yM k A):A.units+64<cLine:=by have:=r.un;omega
noncomputable def zOO:TA:=fun _ H Q=>Q [] H
noncomputable def zJ5(ta:TE)(tr:TA):TA:=fun σ H Q=>ta σ H fun x H1=>tr σ H1 fun xs H2=>Q (x::xs) H2
section
variable {X:Cx} {e:Expr} {es:List Expr} {te:TE} {t:TA} {pos:Pos}
theorem zAo:PA X [] zOO:=fun _ _ _ _ H Q I h=>Calls.spliced_nil ⟨[],H,I,.nil,h⟩
theorem wC(ha:PE X e te)(hr:PA X es t)(hs:autoParam (starEach (e::es) X.env=(false,eval e X.env)::starEach es X.env) Zq4._auto_1):PA X (e::es) (zJ5 te t):=by
 intro pos pins s σ H Q I h;rw[hs];show wpAny _ _ (spliced ((false,eval e X.env)::backTo pos (starEach es X.env))) _ _ s;refine Calls.spliced_cons (yj (ha pins s σ H _ I h) fun u s1 u9=>?_);obtain⟨x,H1,I1,r1,q1⟩:=u9;exact yj (hr pos pins s1 σ H1 _ I1 q1) fun us s2 ⟨xs,H2,I2,r2,q2⟩=>⟨x::xs,H2,I2,.cons r1 r2,q2⟩
noncomputable def zQY(t:TA):TE:=fun σ H Q=>t σ H fun xs H1=>xs.length<=sizeLine/\∀ p,H1 p=none->Q (.ref p) (wo H1 p (.tup xs))
noncomputable def zQZ(t:TA):TE:=fun σ H Q=>t σ H fun xs H1=>xs.length<=sizeLine/\∀ p,H1 p=none->Q (.ref p) (wo H1 p (.lst xs))
theorem zOP{x1}(h:PA X es t):PE X (.Tuple es x1 pos) (zQY t):=by
 intro pins s σ H Q I hq;refine wpAny_Tuple_spliced (yj (h pos pins s σ H _ I hq) fun us s1 ⟨xs,H1,I1,r,z,q⟩=>⟨by rw[<-r.length];exact z,?_⟩);have hf:H1 s1.heap.objs.size=none:=I1.hok.fresh (cN _);refine⟨.ref s1.heap.objs.size,wo H1 s1.heap.objs.size (.tup xs),I1.laid (t':=s1.toks) (fun b u e=>cL _ e) (cN _) ?_,rfl,q _ hf⟩;exact⟨z,us,r,⟨_,de _ rfl,rfl,⟨_,rfl⟩,rfl⟩⟩
theorem zOQ(h:PA X es t):PE X (.List es pos) (zQZ t):=by
 intro pins s σ H Q I hq;refine wpAny_List_spliced (yj (h pos pins s σ H _ I hq) fun us s1 ⟨xs,H1,I1,r,z,q⟩=>⟨by rw[<-r.length];exact z,?_⟩);have hf:H1 s1.heap.objs.size=none:=I1.hok.fresh (cN _);refine⟨.ref s1.heap.objs.size,wo H1 s1.heap.objs.size (.lst xs),I1.laid (t':=s1.toks) (fun b u e=>cL _ e) (cN _) ?_,rfl,q _ hf⟩;exact⟨z,us,0,r,de _ rfl⟩
end
noncomputable abbrev Sp:=List V->Hp->VK->XK->Prop
noncomputable abbrev CXT:=List Env->Hp->Shared->XK->Value->Shared->Prop
structure zEX (P:Program) (w:World) (K:PySem.W.Frag) (mg:Str->Option Value) (base:Heap) (A:Around) (outer:List Env) (s:Shared) (H:Hp):Prop where
 frames:A.frames=some outer
 mod:Mod K mg base
 bs:∀ b o,base.get? b=some o->s.heap.get? b=some o/\H b=none
 bsz:base.objs.size<=s.heap.objs.size
 funs:s.heap.FunFrames base outer
 frf:∀ b∈frs outer,H b=none
 hok:HOk P w H s.heap
 bare:AllBare s.gens
 tb:TabsOk K H
noncomputable def CE(outer:List Env)(P:Program)(w:World)(H:Hp)(s:Shared)(Q:VK)(u:Value)(s':Shared):Prop :=
 ∃ v H',s'.os=s.os/\AllBare s'.gens/\Un (frs outer) [] H H' s.heap s'.heap/\HOk P w H' s'.heap/\RelV v u/\Q v H'
noncomputable def CR(CX:CXT)(outer:List Env)(P:Program)(w:World)(H:Hp)(s:Shared)(Q:VK)(E:XK)(r:Result)(s':Shared):Prop :=
 match r with
 | .ok (.ret u)=>CE outer P w H s Q u s'
 | .ok _=>False
 | .error e=>CX outer H s E e s'
structure zCa (P:Program) (w:World) (K:PySem.W.Frag) (mg:Str->Option Value) (base:Heap) (CX:CXT) (k:Nat) (f:Addr) (fd:FuncData) (ps:List Str) (sp:Sp):Prop where
 len:∀ vs H Q E,sp vs H Q E->vs.length=ps.length
 run:∀(A:Around) (outer:List Env) (s:Shared) (H:Hp) (args:Args) (us:List Value) (vs:List V) (Q:VK) (E:XK),yM k A->zEX P w K mg base A outer s H->BindsTo s fd args (ps.zip us)->zc vs us->sp vs H Q E ->
  codeAny (model P w) A (.call (.ref f) args) (CR CX outer P w H s Q E) s
theorem zCa.imp{P:Program}{w:World}{K:PySem.W.Frag}{mg:Str->Option Value}{base:Heap}{CX:CXT}{k:Nat}{f:Addr}{fd:FuncData}{ps:List Str}{sp sp':Sp}(F:zCa P w K mg base CX k f fd ps sp)
  (h:∀ vs H Q E,sp' vs H Q E->sp vs H Q E):zCa P w K mg base CX k f fd ps sp' :=
 ⟨fun vs H Q E q=>F.len vs H Q E (h _ _ _ _ q),fun A outer s H args us vs Q E hr he hb hv hs=>F.run A outer s H args us vs Q E hr he hb hv (h _ _ _ _ hs)⟩
theorem zEX.in1{P:Program}{w:World}{K:PySem.W.Frag}{mg:Str->Option Value}{base:Heap}{A:Around}{outer:List Env}{s:Shared}{H:Hp}(e:zEX P w K mg base A outer s H) :
  zEX P w K mg base A.in1 outer s H:=⟨e.frames,e.mod,e.bs,e.bsz,e.funs,e.frf,e.hok,e.bare,e.tb⟩
section
variable {X:Cx} {pins:List (Addr×Obj)} {σ:St} {H:Hp} {s s':Shared}
theorem zT.env0(I:zT X pins σ H s):zEX X.prog X.w X.K X.mg X.base X.A X.stack s H :=
 ⟨I.ok.frames,I.ok.mod,I.bs,dC I.ok.bsz I.sz,I.stack,I.stkFree,I.hok,I.bare,I.tabs⟩
theorem zT.after{Q:VK}{u:Value}(I:zT X pins σ H s)(h:CE X.stack X.prog X.w H s Q u s'):EP X pins σ Q u s':=by
 obtain⟨v,H',os,bare,un,hok,r,q⟩:=h;obtain⟨hh,g,d,t,os'⟩:=s';obtain rfl:os'=s.os:=os;exact⟨v,H',I.call (h':=hh) (g':=g) (d':=d) (t':=t) (ch:=[]) un hok bare (fun b z=>absurd z (by simp)),r,q⟩
end
noncomputable def zPf(sp:Sp)(dvs:List V)(E:XK)(t:TA):TE:=fun σ H Q=>t σ H fun vs H1=>sp (vs++dvs) H1 Q E
noncomputable def Binds(K:PySem.W.Frag)(fd:FuncData)(ps:List Str)(ds:List Value):Prop :=
 ∀(s:Shared) (us:List Value),K.In s.heap->(us++ds).length=ps.length->BindsTo s fd ⟨us,[]⟩ (ps.zip (us++ds))
theorem Binds.all{K:PySem.W.Frag}{fd:FuncData}{ps:List Str}(h:∀ us:List Value,us.length=ps.length->bindArgs fd ⟨us,[]⟩=pure (ps.zip us)):Binds K fd ps []:=fun s us _ hl=>by
 rw[eo] at hl ⊢;exact .of_eq (h us hl)
noncomputable def zG7(CX:CXT)(X:Cx)(E:XK):Prop:=∀(pins:List (Addr×Obj)) (σ:St) (H:Hp) (s:Shared) (e:Value) (s':Shared),zT X pins σ H s->CX X.stack H s E e s'->X.xe e s'
section
variable {X:Cx} {CX:CXT} {k:Nat} {f C:Addr} {fd:FuncData} {ps:List Str} {sp:Sp} {dvs:List V} {ds:List Value} {E:XK} {x m:Str} {p pos apos:Pos} {e o:Expr} {es:List Expr} {ta:TE} {t:TA}
theorem zJ6{pins:List (Addr×Obj)}{σ:St}{H:Hp}{s:Shared}{Q:VK}{us:List Value}{vs:List V}(F:zCa X.prog X.w X.K X.mg X.base CX k f fd ps sp)(hr:yM k X.A)(hb:Binds X.K fd ps ds)(hd:zc dvs ds)(hx:zG7 CX X E)
  (I:zT X pins σ H s) (r:zc vs us) (h:sp (vs++dvs) H Q E):wpAny (model X.prog X.w) X.A (call (.ref f) us) (EP X pins σ Q) X.xe s:=by
 have r2:zc (vs++dvs) (us++ds):=r.append hd;have hl:(us++ds).length=ps.length:=by rw[<-r2.length];exact F.len _ _ _ _ h
 refine wpAny_call (eE (F.run X.A X.stack s H ⟨us,[]⟩ (us++ds) (vs++dvs) Q E hr I.env0 (hb s us I.kIn hl) r2 h) fun r s' hq=>?_);cases r with
 | error e=>exact hx pins σ H s e s' I hq
 | ok fl =>
  cases fl with
  | ret u=>exact I.after hq
  | next=>exact False.elim hq
  | brk=>exact False.elim hq
  | cont=>exact False.elim hq
theorem zH4(F:zCa X.prog X.w X.K X.mg X.base CX k f fd ps sp)(hr:yM k X.A)(hg:Gl X x)(hm:X.mg x=some (.ref f))(hk:PySem.W.keepIn X.K (.ref f)=true)(hb:Binds X.K fd ps ds)(hd:zc dvs ds)(hx:zG7 CX X E)
  (ha:PA X (e::es) t) (hdb:autoParam ((x==("__debug__":Str))=false) Zq2._auto_1) (he:autoParam (starEach (e::es) X.env=(false,eval e X.env)::starEach es X.env) Zq4._auto_1) (hpl:autoParam ((backTo pos (starEach es X.env)).any (·.1)=false) Zq4._auto_1) :
  PE X (.Call (.Name x p) (e::es) [] pos) (zPf sp dvs E t):=by
 intro pins s σ H Q I h;refine dS (zCg I hg hm ?_ hdb);refine PySem.W.callWith_K (h₀:=X.base) I.ok.mod.kin hk (yj (ha pos pins s σ H _ I h) fun us s1 ⟨vs,H1,I1,r,q⟩=>⟨I1.kIn,?_⟩) he hpl;exact zJ6 F hr hb hd hx I1 r q
end
section
variable {X:Cx} {CX:CXT} {k:Nat} {f C:Addr} {fd:FuncData} {ps ks:List Str} {sp:Sp} {E:XK} {x m:Str} {p pos apos kpos:Pos} {e o:Expr} {es:List Expr} {kws:List Keyword} {te ta:TE} {t tk:TA} {nm:Option Str}
variable {g:List Value->List Value->List Value} {gV:List V->List V->List V}
end
structure zb (N P:List Str) (sc:Scope):Prop where
 kind:sc.kind=.function
 co:sc.isCoroutine=false
 gen:sc.isGenerator=false
 nd:N.Nodup
 pre:N.take P.length=P
 par:∀ x∈P,sc.names.lookup x=some .local\/sc.names.lookup x=some .cell
 nofree:∀ y∈sc.names,y.2≠.free
theorem zEj{kindOf:Str->Option NameKind}{x:Str}:∀ {binds:List (Str×Value)} {m:Str->Option Value},(∀ v,(x,v)∉binds)->bindL kindOf binds m x=m x
 | [],_,_=>rfl
 | (n,v)::r,m,h=>by
  unfold bindL;rw[zEj fun w hw=>h w (cU _ hw)];split
  ·have:x≠n:=by rintro rfl;exact h v dc
   simp[this]
  ·rfl
theorem zEk{kindOf:Str->Option NameKind}{x:Str}:∀ {binds:List (Str×Value)} {m:Str->Option Value},(∀ v,(x,v)∉binds)->bindC kindOf binds m x=m x
 | [],_,_=>rfl
 | (n,v)::r,m,h=>by
  unfold bindC;rw[zEk fun w hw=>h w (cU _ hw)];split
  ·rfl
  ·have:x≠n:=by rintro rfl;exact h v dc
   simp[this]
theorem zEl{kindOf:Str->Option NameKind}{x:Str}{v:Value}:∀ {P:List Str} {vs:List Value} {i:Nat} {m:Str->Option Value},P.Nodup->P[i]?=some x->vs[i]?=some v->kindOf x=some .local ->
  bindL kindOf (P.zip vs) m x=some v
 | [],_,_,_,_,h,_,_=>by simp at h
 | _::_,[],_,_,_,_,h,_=>by simp at h
 | p::P,w::vs,0,m,nd,h1,h2,hk=>by
  simp at h1 h2;subst h1;subst h2;show bindL kindOf ((p,w)::P.zip vs) m p=_;unfold bindL;rw[zEj fun v hv=>(e8.mp nd).1 (List.of_mem_zip hv).1,if_pos hk];simp
 | p::P,w::vs,i+1,m,nd,h1,h2,hk=>by
  show bindL kindOf ((p,w)::P.zip vs) m x=_;unfold bindL;exact zEl (i:=i) (e8.mp nd).2 (by simpa using h1) (by simpa using h2) hk
theorem zEm{kindOf:Str->Option NameKind}{x:Str}{v:Value}:∀ {P:List Str} {vs:List Value} {i:Nat} {m:Str->Option Value},P.Nodup->P[i]?=some x->vs[i]?=some v->kindOf x≠some .local ->
  bindC kindOf (P.zip vs) m x=some v
 | [],_,_,_,_,h,_,_=>by simp at h
 | _::_,[],_,_,_,_,h,_=>by simp at h
 | p::P,w::vs,0,m,nd,h1,h2,hk=>by
  simp at h1 h2;subst h1;subst h2;show bindC kindOf ((p,w)::P.zip vs) m p=_;unfold bindC;rw[zEk fun v hv=>(e8.mp nd).1 (List.of_mem_zip hv).1,if_neg hk];simp
 | p::P,w::vs,i+1,m,nd,h1,h2,hk=>by
  show bindC kindOf ((p,w)::P.zip vs) m x=_;unfold bindC;exact zEm (i:=i) (e8.mp nd).2 (by simpa using h1) (by simpa using h2) hk
noncomputable def start(N:List Str)(vs:List V):St:=vs.map some++cK (N.length-vs.length) none
noncomputable def zBr(CX:CXT)(P:Program)(w:World)(K:PySem.W.Frag)(mg:Str->Option Value)(base:Heap)(N:List Str)(qual:Str)(scope:Scope)(f:Addr)(cd:Value)(A:Around)(outer:List Env)(s:Shared)(H:Hp)(E:XK):Cx where
 prog:=P
 w:=w
 K:=K
 mg:=mg
 base:=base
 A:=A.deeper (envOfC qual scope s.heap.objs.size f cd)
 N:=N
 s₀:=s
 H₀:=H
 env:=envOfC qual scope s.heap.objs.size f cd
 outer:=outer
 stack:=envOfC qual scope s.heap.objs.size f cd::outer
 ex:=[]
 calm:=true
 fn:=fun _=>true
 pn:=[]
 xe:=fun e s'=>wpAny (model P w) (A.deeper (envOfC qual scope s.heap.objs.size f cd)) (leaving (envOfC qual scope s.heap.objs.size f cd) e) (fun _ s''=>CX outer H s E e s'') (fun e' s''=>CX outer H s E e' s'') s'
theorem zF3{sc:Scope}{n:Nat}{x:Str}(h:sc.names.lookup x=some .cell):∃ c,(cellsFrom n sc.names []).lookup x=some c:=by
 have q:=PySem.W.cellsFrom_some sc.names n [] (.inl h);exact Option.isSome_iff_exists.mp q
theorem zDC{CX:CXT}{P:Program}{w:World}{K:PySem.W.Frag}{mg:Str->Option Value}{base:Heap}{N ps:List Str}{qual:Str}{scope:Scope}{f:Addr}{cd:Value}{A:Around}{outer:List Env}{s s1:Shared}{H:Hp}{E:XK}{us:List Value}{vs:List V}
  (S:zb N ps scope) (hd:A.handled=none) (e0:zEX P w K mg base A outer s H) (hl:vs.length=ps.length) (r:zc vs us)
  (x:InCallC s s.heap.objs.size (bindL (envOfC qual scope s.heap.objs.size f cd).kindOf (ps.zip us) fun _=>none) (cellsFrom (s.heap.objs.size+1) scope.names []) (bindC (envOfC qual scope s.heap.objs.size f cd).kindOf (ps.zip us) fun _=>none) s1) :
  zT (zBr CX P w K mg base N qual scope f cd A outer s H E) [] (start N vs) H s1:=by
 have hpl:ps.length<=N.length:=by have:=congrArg List.length S.pre;rw[ef] at this;omega
 obtain⟨h1,tk,rfl,hk⟩:=x.done;have noA:∀ b:Addr,b∉(zBr CX P w K mg base N qual scope f cd A outer s H E).ex:=fun b z=>absurd (show b∈([]:List Addr) from z) (by simp);refine⟨⟨e0.mod,S.kind,rfl,rfl,cN _,fun y z c h1 h2=>?_,fun y hy=>?_,fun y c _ h=>?_,fun _=>hd,Around.frames_deeper e0.frames,.inr ⟨rfl,rfl⟩,fun b z=>absurd z (noA b),e0.bs,e0.bsz,fun b _ _=>noA b,fun b z=>absurd z (noA b),e0.funs,e0.frf,e0.tb⟩,
  rfl,e0.bare,Un.kept hk,⟨_,x.toInCall.ns,fun i y v h1 h2 h3=>?_⟩,fun y c h=>⟨_,x.cell y c h⟩,e0.hok.fresh (cN _),fun y c h=>?_,fun p hp=>absurd (show p∈([]:List (Addr×Obj)) from hp) (by simp),e0.hok.kept hk,?_⟩
 ·exact name_of_addr x.apart (PySem.mem_of_lookup h1) (PySem.mem_of_lookup h2)
 ·have hy:scope.names.lookup y=some .cell\/scope.names.lookup y=some .free:=hy
  rcases hy with hy | hy
  ·exact zF3 hy
  ·exact absurd rfl (S.nofree _ (PySem.mem_of_lookup hy))
 ·exact Nat.le_of_lt (x.above y c (PySem.mem_of_lookup h))
 ·have hi:i<vs.length:=by
   unfold start at h2;by_cases hi:i<vs.length
   ·exact hi
   ·rw[dX (by simpa using hi)] at h2
    rw[eF] at h2;split at h2<;>cases h2
  have ha:vs[i]?=some v:=by
   unfold start at h2;rw[dI (by simpa using hi),dl] at h2;cases e:vs[i]? with
   | none=>rw[e] at h2;cases h2
   | some a=>rw[e] at h2;cases h2;rfl
  obtain⟨u,hu,rv⟩:=r.get ha;have hp:ps[i]?=some y:=by
   rw[<-S.pre,List.getElem?_take_of_lt (by omega)];exact h1
  have ndP:ps.Nodup:=by rw[<-S.pre];exact S.nd.sublist (List.take_sublist _ _)
  refine⟨u,rv,?_⟩;rcases S.par y (dE hp) with k | k
  ·exact .inl ⟨k,zEl ndP hp hu k⟩
  ·obtain⟨c,e⟩:=zF3 (n:=s.heap.objs.size+1) k
   refine .inr ⟨.inl k,c,e,?_⟩;have q:=x.cell y c e;rw[zEm ndP hp hu (by show scope.names.lookup y≠_;rw[k];decide)] at q;exact q
 ·exact e0.hok.fresh (Nat.le_of_lt (x.above y c (PySem.mem_of_lookup h)))
 ·unfold start
  show _=N.length;rw[cZ,cI,List.length_replicate];omega
theorem zNX{CX:CXT}{P:Program}{w:World}{K:PySem.W.Frag}{mg:Str->Option Value}{base:Heap}{k:Nat}{f:Addr}{name qual:Str}{params:Arguments}{body:List Stmt}{scope:Scope}{dV kV doc pm cdv ct oc:Value}{an od:Option Addr}
  {osl:Array (Option Value)} {N ps:List Str} {sp:Sp} (lk:K.lookup f=some ⟨oc,od,.func (PySem.W.fnOf name qual params body scope dV kV doc pm an cdv ct),osl⟩) (hcd:PySem.W.codeIn K cdv qual=true) (S:zb N ps scope)
  (len:∀ vs H Q E,sp vs H Q E->vs.length=ps.length)
  (hbody:∀(A:Around) (outer:List Env) (s:Shared) (H:Hp) (vs:List V) (Q:VK) (E:XK),yM k (A.deeper (envOfC qual scope s.heap.objs.size f cdv))->sp vs H Q E ->
   ∃ t,PSs (zBr CX P w K mg base N qual scope f cdv A outer s H E) body t/\t { nx:=fun _ H'=>Q .non H',rt:=Q } (start N vs) H) :
  zCa P w K mg base CX (k+1) f (PySem.W.fnOf name qual params body scope dV kV doc pm an cdv ct) ps sp:=by
 refine⟨len,fun A outer s H args us vs Q E hr e0 hb r hsp=>?_⟩;have hl:=len _ _ _ _ hsp;have KX:K.In s.heap:=e0.mod.kin.keeps fun b o e=>(e0.bs b o e).1;have lim:s.heap.NoLimit:=e0.mod.nolimit.keeps fun b o e=>(e0.bs b o e).1;have hkind:∀ y∈ps.zip us,scope.names.lookup y.1=some .local\/(scope.names.lookup y.1=some .cell/\((cellsFrom (s.heap.objs.size+1) scope.names []).lookup y.1).isSome=true):=fun⟨n,v⟩ hy=>by
  rcases S.par n (List.of_mem_zip hy).1 with q | q
  ·exact .inl q
  ·exact .inr ⟨q,PySem.W.cellsFrom_some _ _ _ (.inl q)⟩
 refine codeAny_call_function hr.depth (KX _ _ lk) rfl S.co S.gen rfl (PySem.W.codeRec_of KX hcd) (hb _ _ _ _ ?_);refine wpAny_newFunctionEnv_cells S.kind hkind fun env he s1 x=>?_;subst he;refine⟨lim.keeps x.toInCall.keep,codeAny_func ?_⟩;obtain⟨t,ht,hq⟩:=hbody A outer s H vs Q E (hr.deeper _) hsp;have I:zT (zBr CX P w K mg base N qual scope f cdv A outer s H E) [] (start N vs) H s1:=zDC S hr.hd e0 hl r x;refine dP (ht [] s1 (start N vs) H _ I hq) (fun fl s' hs=>?_) fun e s' hs=>hs;have fin:∀ {σ':St} {H':Hp} {v:V} {u:Value},zT (zBr CX P w K mg base N qual scope f cdv A outer s H E) [] σ' H' s'->RelV v u->Q v H'->CE outer P w H s Q u s' :=
  fun {σ' H' v u} J rv q=>⟨v,H',J.os,J.bare,J.base,J.hok,rv,q⟩
 cases fl with
 | ret u =>
  obtain⟨v,σ',H',J,rv,q⟩:=hs;exact fin J rv q
 | next =>
  obtain⟨σ',H',J,q⟩:=hs;exact fin (v:=V.non) (u:=Value.none) J rfl q
 | brk =>
  obtain⟨_,_,_,q⟩:=hs;exact False.elim q
 | cont =>
  obtain⟨_,_,_,q⟩:=hs;exact False.elim q
section
variable {X:Cx} {x:Str} {p pos:Pos} {e:Expr} {es:List Expr} {t:TA} {id T:String} {r:List V->Hp->VK->Prop}
noncomputable def tCB(r:List V->Hp->VK->Prop)(t:TA):TE:=fun σ H Q=>t σ H fun vs H1=>r vs H1 Q
theorem zAp(hc:wD X (.builtin id) r)(hg:Gl X x)(hm:X.mg x=none)(hv:bootBuiltins x=some (.builtin id))(ha:PA X (e::es) t)(hn:autoParam (x≠"__name__") Zq2._auto_1)(hdb:autoParam ((x==("__debug__":Str))=false) Zq2._auto_1)
  (he:autoParam (starEach (e::es) X.env=(false,eval e X.env)::starEach es X.env) Zq4._auto_1) (hpl:autoParam ((backTo pos (starEach es X.env)).any (·.1)=false) Zq4._auto_1):PE X (.Call (.Name x p) (e::es) [] pos) (tCB r t):=by
 intro pins s σ H Q I h;refine dS (zCZ I hg hm hv ?_ hn hdb);exact PyProof.Rows.callWith_builtin1 (yj (ha pos pins s σ H _ I h) fun us s1 ⟨vs,H1,I1,r1,q1⟩=>hc pins s1 σ H1 vs us Q I1 r1 q1) he hpl
theorem zB9(hc:wD X (.type T) r)(hg:Gl X x)(hm:X.mg x=none)(hv:bootBuiltins x=some (.type T))(ha:PA X (e::es) t)(hn:autoParam (x≠"__name__") Zq2._auto_1)(hdb:autoParam ((x==("__debug__":Str))=false) Zq2._auto_1)
  (he:autoParam (starEach (e::es) X.env=(false,eval e X.env)::starEach es X.env) Zq4._auto_1) (hpl:autoParam ((backTo pos (starEach es X.env)).any (·.1)=false) Zq4._auto_1):PE X (.Call (.Name x p) (e::es) [] pos) (tCB r t):=by
 intro pins s σ H Q I h;refine dS (zCZ I hg hm hv ?_ hn hdb);exact PyProof.Rows.callWith_type1 (yj (ha pos pins s σ H _ I h) fun us s1 ⟨vs,H1,I1,r1,q1⟩=>hc pins s1 σ H1 vs us Q I1 r1 q1) he hpl
end
end L2
namespace HT
open PySem PyProof.Rows
noncomputable def lexLt:List Int->List Int->Bool
 | [],[]=>false
 | [],_::_=>true
 | _::_,[]=>false
 | x::xs,y::ys=>if x=y then lexLt xs ys else decide (x<y)
theorem zDn(x y:Int)(xs ys:List Int):lexLt (x::xs) (y::ys)=if x=y then lexLt xs ys else decide (x<y):=rfl
theorem zEY:lexLt [] []=false:=rfl
theorem zDo(y:Int)(ys:List Int):lexLt [] (y::ys)=true:=rfl
theorem zDp(x:Int)(xs:List Int):lexLt (x::xs) []=false:=rfl
theorem zJ7(A:Around)(s:Shared)(a:Int)(t:Tok)(c:Int)(u:Tok):∃ e,SeqAt.EqAt A s (.int a t) (.int c u) e/\(e=true↔a=c) :=
 ⟨(a==c),SeqAt.EqAt.int_int a t c u,by simp⟩
theorem zJ8(A:Around)(s:Shared)(a:Int)(t:Tok)(c:Int)(u:Tok)(prog:Program)(w:World)(E:Value->Shared->Prop)(Q:Value->Shared->Prop)(h:Q (.bool (decide (a<c))) s) :
  wpAny (model prog w) A (richCompare .Lt (.int a t) (.int c u)) Q E s :=
 (PyProof.Rows.lt_int h:wpAny (model prog w) A (compareOp .Lt (.int a t) (.int c u)) Q E s)
section
open PySem.SeqAt
open PySem.MeetsSeq PySem.MeetsSeq2 PySem.MeetsSeq3
theorem zEZ(l b:Addr)(items items2:Array Value)(n n2:Nat)(dd dd2:Option Addr)(sl sl2:Array (Option Value))(ns ms:List Int)(hi:IntsAre items.toList ns)(hj:IntsAre items2.toList ms) :
  Meets (Builtin.«tuple.__lt__» ⟨[.ref l,.ref b],[]⟩)
   (fun _ R s=>s.heap.get? l=some { cls:=.type "tuple",dict:=dd,data:=.seq items n,slots:=sl }/\s.heap.get? b=some { cls:=.type "tuple",dict:=dd2,data:=.seq items2 n2,slots:=sl2 } /\
    R (.ok (.ret (.bool (lexLt ns ms)))) s) :=
 .of_wp fun prog w A R s h=>by
  obtain⟨hp,g,d,tk,os⟩:=s;obtain⟨hl,hb,h⟩:=h;have f2:=AutoSeq1.sub_tuple_tuple;have z1:items.size=ns.length:=by rw[<-hi.length];simp
  have z2:items2.size=ms.length:=by rw[<-hj.length];simp
  wp_walk using wpAny_loadPart' hl,wpAny_loadPart' hb,wpAny_forIn_list _ (fun rest b s'=>b.1=none/\s'=⟨hp,g,d,tk,os⟩/\∃(vs ws:List Value) (ns' ms':List Int),rest=vs.zip ws /\
   IntsAre vs ns'/\IntsAre ws ms'/\ns'.length+items2.size=ms'.length+items.size/\R (.ok (.ret (.bool (lexLt ns' ms')))) ⟨hp,g,d,tk,os⟩) _
  case turn =>
   rintro⟨y,x⟩ rest b s' ⟨hb',rfl,vs,ws,ns',ms',hz,hvi,hwi,hlen,hR⟩;cases hvi with
   | nil=>rw[List.zip_nil_left] at hz;cases hz
   | cons a t hvi' =>
    cases hwi with
    | nil=>rw[List.zip_nil_right] at hz;cases hz
    | cons c u hwi' =>
     rw[List.zip_cons_cons] at hz;injection hz with hyx hrest
     injection hyx with hy hx
     subst hy hx;rw[zDn] at hR;simp only[cD] at hlen;obtain⟨e,he,hiff⟩:=zJ7 A.in1 ⟨hp,g,d,tk,os⟩ a t c u;refine cT (he prog w _ _ ?_);cases e with
     | true =>
      rw[if_pos (hiff.mp rfl)] at hR
      wp_walk
      exact⟨rfl,rfl,_,_,_,_,hrest,hvi',hwi',by omega,hR⟩
     | false =>
      rw[if_neg (fun q=>absurd (hiff.mpr q) dL)] at hR;have hri:=zJ8 A.in1 ⟨hp,g,d,tk,os⟩ a t c u prog w
      wp_walk using hri
      exact⟨_,rfl,by simpa using hR⟩
  case fin =>
   rintro⟨b1,b2⟩ s' ⟨hb',rfl,vs,ws,ns',ms',hz,hvi,hwi,hlen,hR⟩;simp only at hb';subst hb';have hv:lexLt ns' ms'=decide (items.size<items2.size):=by
    cases hvi with
    | nil =>
     cases hwi with
     | nil =>
      simp only[cF] at hlen;rw[zEY];exact(decide_eq_false (by omega)).symm
     | cons c u hw =>
      simp only[cF,cD] at hlen;rw[zDo];exact(decide_eq_true (by omega)).symm
    | cons a t hv =>
     cases hwi with
     | nil =>
      simp only[cF,cD] at hlen;rw[zDp];exact(decide_eq_false (by omega)).symm
     | cons c u hw =>
      rw[List.zip_cons_cons] at hz;cases hz
   rw[hv] at hR
   wp_walk
   exact⟨_,rfl,by simpa[Builtin.Tuple.tupleCompareSizes] using hR⟩
  case h =>
   exact⟨rfl,rfl,items.toList,items2.toList,ns,ms,rfl,hi,hj,by omega,h⟩
end
section
variable {prog:Program} {w:World} {A:Around} {E:Value->Shared->Prop} {s:Shared}
theorem zG8{l b:Addr}{items items2:Array Value}{ns ms:List Int}{Q:Value->Shared->Prop}(hl:IsTup s.heap l items)(hb:IsTup s.heap b items2)(hi:IntsAre items.toList ns)(hj:IntsAre items2.toList ms)
  (hu:A.units<cLine) (h:Q (.bool (lexLt ns ms)) s):wpAny (model prog w) A (compareOp .Lt (.ref l) (.ref b)) Q E s:=by
 obtain⟨⟨cls,dd,data,sl⟩,ho,hc,n,hd⟩:=id hl;obtain⟨⟨cls2,dd2,data2,sl2⟩,ho2,hc2,n2,hd2⟩:=id hb;simp only at hc hd hc2 hd2;subst hc hd hc2 hd2;exact richCompare_meets_room (op:=.Lt) ⟨_,ho,rfl⟩ ⟨_,ho2,rfl⟩ PySem.F.slot_tuple_lt PySem.F.entry_tuple_lt (PySem.F.args_tuple_lt_2 _ _) (zEZ l b items items2 n n2 dd dd2 sl sl2 ns ms hi hj)
  ⟨ho,ho2,show Value.bool (lexLt ns ms)≠Value.notImplemented/\Q (.bool (lexLt ns ms)) s from⟨(fun x=>nomatch x),h⟩⟩ hu
theorem zL5{t b:Addr}{vs ws:List Value}{Q:Value->Shared->Prop}(ht:IsTup s.heap t vs.toArray)(hb:IsTup s.heap b ws.toArray)(hv:vs≠[])
  (h1:ws=[]->Q (.ref t) s) (h2:ws≠[]->Q (.ref s.heap.objs.size) { s with heap:=s.heap.push { cls:=.type "tuple",data:=.seq (vs++ws).toArray } })
  (hsz:vs.length+ws.length<=sizeLine):wpAny (model prog w) A (binaryOp .Add (.ref t) (.ref b)) Q E s:=by
 obtain⟨⟨cls,dd,data,sl⟩,ho,hc,n,hd⟩:=id ht;obtain⟨⟨cls2,dd2,data2,sl2⟩,ho2,hc2,n2,hd2⟩:=id hb;simp only at hc hd hc2 hd2;subst hc hd hc2 hd2;have e:vs.toArray++ws.toArray=(vs++ws).toArray:=by simp
 by_cases hw:ws=[]
 ·exact concat_meets ⟨_,ho,rfl⟩ ⟨_,ho2,rfl⟩ noFill_tuple_add seq_tuple_add PySem.F.slot_tuple_add PySem.F.entry_tuple_add (PySem.F.args_tuple_add_2 _ _)
   (tuple_addW1 t b vs.toArray ws.toArray n n2 dd dd2 sl sl2 (by simpa using hv) (by simp[hw])) ⟨ho,ho2,h1 hw⟩
 ·refine concat_meets ⟨_,ho,rfl⟩ ⟨_,ho2,rfl⟩ noFill_tuple_add seq_tuple_add PySem.F.slot_tuple_add PySem.F.entry_tuple_add (PySem.F.args_tuple_add_2 _ _)
   (tuple_addW2 t b vs.toArray ws.toArray n n2 dd dd2 sl sl2 (by simpa using hv) (by simpa using hw) (by rw[cP,cP];exact hsz)) ⟨ho,ho2,?_⟩
  rw[e];exact h2 hw
noncomputable def sIx(n d:Nat):Option Int->Nat
 | none=>d
 | some v=>if v<0 then (v+(n:Int)).toNat else min v.toNat n
theorem zDq(n d:Nat):sIx n d none=d:=rfl
theorem zFM(n d k:Nat):sIx n d (some (k:Int))=min k n:=by
 show(if (k:Int)<0 then ((k:Int)+(n:Int)).toNat else min (k:Int).toNat n)=min k n;rw[if_neg (by omega),Int.toNat_natCast]
end
end HT
namespace L2
noncomputable abbrev TO:=St->Hp->(Option Int->Hp->Prop)->Prop
noncomputable def PO(X:Cx)(e:Option Expr)(t:TO):Prop :=
 ∀(pins:List (Addr×Obj)) (s:Shared) (σ:St) (H:Hp) (Q:Option Int->Hp->Prop),zT X pins σ H s->t σ H Q ->
  wpAny (model X.prog X.w) X.A (evalPart e X.env) (fun u s'=>∃ o H',zT X pins σ H' s'/\IsPart u o/\Q o H') X.xe s
noncomputable def zL6:TO:=fun _ H Q=>Q none H
noncomputable def zPg(t:TE):TO:=fun σ H Q=>t σ H fun x H1=>∃ i,x=.int i/\Q (some i) H1
theorem intsAre_of{ns:List Int}:∀ {us:List Value},zc (ns.map V.int) us->IntsAre us ns:=by
 induction ns with
 | nil=>intro us r;rw[List.map_nil] at r;cases r;exact .nil
 | cons n ns ih =>
  intro us r;rw[dt] at r;cases r with
  | cons r1 r2 =>
   obtain⟨t,e⟩:=r1;subst e;exact .cons n t (ih r2)
section
variable {X:Cx} {e:Expr} {te:TE} {lo hi:Option Expr} {tl th:TO} {pos p2:Pos}
theorem zL7:PO X none zL6:=by
 intro pins s σ H Q I h;rw[evalPart_none];exact dA ⟨none,H,I,.none,h⟩
theorem zL8(h:PE X e te):PO X (some e) (zPg te):=by
 intro pins s σ H Q I hw;rw[evalPart_some];refine yj (h pins s σ H _ I hw) fun u s1 u9=>?_;obtain⟨x,H1,I1,r1,q1⟩:=u9;obtain⟨i,rfl,q⟩:=q1;obtain⟨t,rfl⟩:=r1;exact⟨some i,H1,I1,.int i t,q⟩
noncomputable def SlR(X:Cx)(r:V->Option Int->Option Int->Hp->VK->Prop):Prop :=
 ∀(pins:List (Addr×Obj)) (s:Shared) (σ:St) (H:Hp) (x:V) (v vl vu:Value) (lo hi:Option Int) (sl:Addr) (Q:VK),zT X pins σ H s->RelV x v->s.heap.IsSliceOf sl vl vu .none->IsPart vl lo->IsPart vu hi->r x lo hi H Q ->
  ∃ T id,typeLookup (.type T) "__getitem__"=pure (some (.builtin id))/\s.TypeIs v T/\wpAny (model X.prog X.w) X.A (getItem v (.ref sl)) (EP X pins σ Q) X.xe s
theorem SlR.or{r r':V->Option Int->Option Int->Hp->VK->Prop}(h:SlR X r)(h':SlR X r'):SlR X (fun x lo hi H Q=>r x lo hi H Q\/r' x lo hi H Q):=by
 intro pins s σ H x v vl vu lo hi sl Q I rx hs pl pu q;rcases q with q | q
 ·exact h pins s σ H x v vl vu lo hi sl Q I rx hs pl pu q
 ·exact h' pins s σ H x v vl vu lo hi sl Q I rx hs pl pu q
noncomputable def tSl(r:V->Option Int->Option Int->Hp->VK->Prop)(te:TE)(tl th:TO):TE:=fun σ H Q=>te σ H fun x H1=>tl σ H1 fun l H2=>th σ H2 fun u H3=>r x l u H3 Q
theorem zF4{r:V->Option Int->Option Int->Hp->VK->Prop}(hr:SlR X r)(he:PE X e te)(hl:PO X lo tl)(hu:PO X hi th):PE X (.Subscript e (.Slice lo hi none p2) pos) (tSl r te tl th):=by
 intro pins s σ H Q I h;refine Subscript_ (yj (he pins s σ H _ I h) fun v s1 u9=>?_);obtain⟨x,H1,I1,r1,q1⟩:=u9;refine wpAny_Slice (yj (hl pins s1 σ H1 _ I1 q1) fun vl s2 ⟨l,H2,I2,pl,q2⟩=>yj (hu pins s2 σ H2 _ I2 q2) fun vu s3 u9=>?_);obtain⟨u,H3,I3,pu,q3⟩:=u9;rw[evalPart_none];refine dA ?_;have I4:zT X pins σ H3 { s3 with heap:=s3.heap.push { cls:=.type "slice",data:=.fields #[vl,vu,.none] } }:=I3.kept (t':=s3.toks) fun b ob q=>cL _ q;obtain⟨T,id,hT,ht,hg⟩:=hr pins { s3 with heap:=s3.heap.push { cls:=.type "slice",data:=.fields #[vl,vu,.none] } } σ H3 x v vl vu l u s3.heap.objs.size Q I4 r1 (Heap.IsSliceOf.new ..) pl pu q3;show wpAny (model X.prog X.w) X.A (subscriptTail e (.Slice lo hi none p2) v (.ref s3.heap.objs.size)) (EP X pins σ Q) X.xe { s3 with heap:=s3.heap.push { cls:=.type "slice",data:=.fields #[vl,vu,.none] } };exact tail_any (ops:=[.ref s3.heap.objs.size,v]) ht hT hg (by with_unfolding_all rfl)
noncomputable def zJ9(xs:List V)(lo hi:Option Int):List V:=(xs.drop (HT.sIx xs.length 0 lo)).take (HT.sIx xs.length xs.length hi-HT.sIx xs.length 0 lo)
theorem zF5(xs:List V)(lo hi:Option Int):(zJ9 xs lo hi).length<=xs.length:=by
 unfold zJ9;rw[ef,eu];omega
noncomputable def zPh(K:PySem.W.Frag):R2:=fun x y H Q=>∃ a b ns ms,x=.ref a/\y=.ref b/\SqT K H a (ns.map V.int)/\SqT K H b (ms.map V.int)/\Q (.bl (HT.lexLt ns ms)) H
theorem zOR(hu:X.A.units<cLine):OpR X (compareOp .Lt) (zPh X.K):=by
 intro pins s σ H x y v u Q I rx ry h;obtain⟨a,b,ns,ms,rfl,rfl,ha,hb,q⟩:=h;cases rx;cases ry;obtain⟨its,r1,p1,_⟩:=I.tuple ha;obtain⟨its2,r2,p2,_⟩:=I.tuple hb;have i1:IntsAre its.toArray.toList ns:=intsAre_of r1;have i2:IntsAre its2.toArray.toList ms:=intsAre_of r2;exact HT.zG8 p1 p2 i1 i2 hu ⟨.bl (HT.lexLt ns ms),H,I,rfl,q⟩
noncomputable def zNY(K:PySem.W.Frag):R2:=fun x y H Q=>∃ a b xs ys,x=.ref a/\y=.ref b/\SqT K H a xs/\SqT K H b ys/\xs≠[]/\xs.length+ys.length<=sizeLine /\
 (ys=[]->Q (.ref a) H)/\(ys≠[]->∀ p,H p=none->Q (.ref p) (wo H p (.tup (xs++ys))))
theorem zc.nil_iff{xs:List V}{us:List Value}(r:zc xs us):us=[]↔xs=[]:=by
 cases r with
 | nil=>simp
 | cons _ _=>simp
theorem zL9:OpR X (binaryOp .Add) (zNY X.K):=by
 intro pins s σ H x y v u Q I rx ry h;obtain⟨a,b,xs,ys,rfl,rfl,ha,hb,hx,hz,q1,q2⟩:=h;cases rx;cases ry;obtain⟨its,r1,p1,_⟩:=I.tuple ha;obtain⟨its2,r2,p2,_⟩:=I.tuple hb;refine HT.zL5 p1 p2 (fun z=>hx (r1.nil_iff.mp z)) (fun z=>⟨.ref a,H,I,rfl,q1 (r2.nil_iff.mp z)⟩) (fun z=>?_) (by rw[<-r1.length,<-r2.length];exact hz);refine⟨.ref s.heap.objs.size,_,I.laid (t':=s.toks) (o:=.tup (xs++ys)) (fun b ob q=>cL _ q) (cN _) ?_,rfl,q2 (fun w=>z (r2.nil_iff.mpr w)) _ (I.hok.fresh (cN _))⟩;exact⟨by rw[cZ];exact hz,_,r1.append r2,zFJ.new _ _⟩
end
noncomputable def ixN(n:Nat)(i:Int):Option Nat:=if 0<=i then (if i<n then some i.toNat else none) else if -(n:Int)<=i then some (i+n).toNat else none
noncomputable def atI{α:Type}(xs:List α)(i:Int):Option α:=(ixN xs.length i).bind fun j=>xs[j]?
theorem zH5{n:Nat}{i:Int}{j:Nat}(h:ixN n i=some j):seqIndex? i n=some j/\j<n/\-(n:Int)<=i/\i<n:=by
 unfold ixN at h;by_cases h0:0<=i
 ·rw[if_pos h0] at h
  by_cases h1:i<n
  ·rw[if_pos h1] at h
   have e:i.toNat=j:=Option.some.inj h;exact⟨by rw[seqIndex_of h0 h1,e],by omega,by omega,h1⟩
  ·rw[if_neg h1] at h;cases h
 ·rw[if_neg h0] at h
  by_cases h1:-(n:Int)<=i
  ·rw[if_pos h1] at h
   have e:(i+n).toNat=j:=Option.some.inj h;exact⟨by rw[seqIndex_neg (by omega) h1,e],by omega,h1,by omega⟩
  ·rw[if_neg h1] at h;cases h
theorem zFN{α:Type}{xs:List α}{i:Int}{v:α}(h:atI xs i=some v):∃ j,seqIndex? i xs.length=some j/\xs[j]?=some v/\j<xs.length/\-(xs.length:Int)<=i/\i<xs.length:=by
 unfold atI at h;cases e:ixN xs.length i with
 | none=>rw[e] at h;cases h
 | some j =>
  rw[e] at h;obtain⟨h1,h2,h3,h4⟩:=zH5 e;exact⟨j,h1,h,h2,h3,h4⟩
theorem yP{α:Type}{xs:List α}{j:Nat}{v:α}(h:xs[j]?=some v):atI xs (j:Int)=some v:=by
 have hj:j<xs.length:=(cJ.mp h).1;have e:ixN xs.length (j:Int)=some j:=by
  unfold ixN;rw[if_pos (by omega),if_pos (by omega)];simp
 unfold atI;rw[e];exact h
noncomputable def zFO(b:Expr):Prop:=∀ o i,subscripted b false o i=operate [o,i] (getItem o i)
noncomputable def IxR(X:Cx)(r:R2):Prop :=
 ∀(value slice:Expr) (pins:List (Addr×Obj)) (s:Shared) (σ:St) (H:Hp) (x y:V) (v u:Value) (Q:VK),zT X pins σ H s->RelV x v->RelV y u->r x y H Q ->
  subscripted slice false v u=operate [v,u] (getItem v u)->wpAny (model X.prog X.w) X.A (subscriptTail value slice v u) (EP X pins σ Q) X.xe s
noncomputable def MtR(X:Cx)(id:String)(r:V->List V->Hp->VK->Prop):Prop :=
 ∀(pins:List (Addr×Obj)) (s:Shared) (σ:St) (H:Hp) (x:V) (xs:List V) (v:Value) (us:List Value) (Q:VK),zT X pins σ H s->RelV x v->zc xs us->r x xs H Q ->
  wpAny (model X.prog X.w) X.A (call (.builtin id) (v::us)) (EP X pins σ Q) X.xe s
section
variable {X:Cx} {a b:Expr} {ta tb:TE} {pos:Pos}
theorem IxR.or{r r':R2}(h:IxR X r)(h':IxR X r'):IxR X (fun x y H Q=>r x y H Q\/r' x y H Q):=by
 intro value slice pins s σ H x y v u Q I rx ry q hs;rcases q with q | q
 ·exact h value slice pins s σ H x y v u Q I rx ry q hs
 ·exact h' value slice pins s σ H x y v u Q I rx ry q hs
theorem MtR.or{id:String}{r r':V->List V->Hp->VK->Prop}(h:MtR X id r)(h':MtR X id r'):MtR X id (fun x xs H Q=>r x xs H Q\/r' x xs H Q):=by
 intro pins s σ H x xs v us Q I rx rs q;rcases q with q | q
 ·exact h pins s σ H x xs v us Q I rx rs q
 ·exact h' pins s σ H x xs v us Q I rx rs q
theorem zNZ{r:R2}(hr:IxR X r)(ha:PE X a ta)(hb:PE X b tb)(hs:zFO b):PE X (.Subscript a b pos) (tOp r ta tb):=by
 intro pins s σ H Q I h;exact Subscript_ (zOG ha hb I h fun v u s2 x y H2 I2 rx ry q=>hr a b pins s2 σ H2 x y v u Q I2 rx ry q (hs _ _))
noncomputable def zPi(K:PySem.W.Frag):R2:=fun x y H Q=>∃ p xs i v,x=.ref p/\y=.int i/\SqL K H p xs/\atI xs i=some v/\Q v H
noncomputable def zPj(K:PySem.W.Frag):R2:=fun x y H Q=>∃ p xs i v,x=.ref p/\y=.int i/\SqT K H p xs/\atI xs i=some v/\Q v H
noncomputable def zPk:R2:=fun x y H Q=>∃ z i c,x=.str z/\y=.int i/\z.length<=sizeLine/\atI z.cps.toList i=some c/\Q (.str ⟨#[c]⟩) H
theorem zMA:IxR X (zPi X.K):=by
 intro value slice pins s σ H x y v u Q I rx ry h hs;obtain⟨p,xs,i,z,rfl,rfl,hq,he,q⟩:=h;cases rx;obtain⟨t,rfl⟩:=ry;obtain⟨its,r,pl,hz⟩:=I.list hq;obtain⟨j,h1,h2,h3,h4,h5⟩:=zFN he;obtain⟨w,ew,rw'⟩:=r.get h2;have hl:=r.length;have hn:=zDB;have fin:EP X pins σ Q w s:=⟨z,H,I,rw',q⟩
 by_cases h0:0<=i
 ·have hj:i.toNat=j:=by
   rw[seqIndex_of h0 h5] at h1;exact Option.some.inj h1
  exact item_listR pl.isList h0 (by omega) (by rw[hj];simpa using ew) fin hs
 ·have hj:(i+(its.toArray.size:Int)).toNat=j:=by
   rw[seqIndex_neg (by omega) h4] at h1;rw[cP,<-hl];exact Option.some.inj h1
  exact subscriptTail_builtinR (x:=w) pl.isList.typeIs slot_list_getitem.lookup
   (wpAny_getItem_list_neg (Q:=fun r s'=>r=w/\EP X pins σ Q r s') pl.isList (by omega) (by rw[cP]<;>omega) (by omega) (by rw[hj];simpa using ew) ⟨rfl,fin⟩) hs
theorem zOS:IxR X (zPj X.K):=by
 intro value slice pins s σ H x y v u Q I rx ry h hs;obtain⟨p,xs,i,z,rfl,rfl,hq,he,q⟩:=h;cases rx;obtain⟨t,rfl⟩:=ry;obtain⟨its,r,pl,hz⟩:=I.tuple hq;obtain⟨j,h1,h2,h3,h4,h5⟩:=zFN he;obtain⟨w,ew,rw'⟩:=r.get h2;have hl:=r.length;have hn:=zDB;have fin:EP X pins σ Q w s:=⟨z,H,I,rw',q⟩
 exact subscriptTail_builtinR (x:=w) pl.typeIs slot_tuple_getitem.lookup
  (getItem_tuple (j:=j) (Q:=fun r s'=>r=w/\EP X pins σ Q r s') pl (by omega) (by omega) (by rw[cP,<-hl];exact h1) (by simpa using ew) ⟨rfl,fin⟩) hs
theorem zOT:IxR X zPk:=by
 intro value slice pins s σ H x y v u Q I rx ry h hs;obtain⟨z,i,c,rfl,rfl,hz,he,q⟩:=h;obtain⟨t,rfl⟩:=rx;obtain⟨t',rfl⟩:=ry;obtain⟨j,h1,h2,h3,h4,h5⟩:=zFN he;have hl:z.cps.toList.length=z.length:=by simp[Str.length]
 rw[hl] at h1 h4 h5;have hn:=zDB;exact tail_any (typeIs_str s z t) slot_str_getitem.lookup (getItem_str (c:=c) (by
  have e1:decide (i < -(2 ^ 63:Int))=false:=decide_eq_false (by omega);have e2:decide (i≥2 ^ 63)=false:=decide_eq_false (by omega);rw[e1,e2,Bool.or_false]) (by rw[h1];simpa using h2) ⟨.str ⟨#[c]⟩,H,I.tok _,⟨_,rfl⟩,q⟩) hs
theorem zG9(its:List Value)(n j:Nat)(u:Value):Obj.mapSeq (·.setIfInBounds j u) { cls:=.type "list",data:=.seq its.toArray n }={ cls:=.type "list",data:=.seq (its.set j u).toArray n }:=by
 simp[Obj.mapSeq]
theorem zT.lst{pins:List (Addr×Obj)}{σ:St}{H:Hp}{s:Shared}{p:Addr}{xs:List V}(I:zT X pins σ H s)(h:H p=some (.lst xs)) :
  ∃(its:List Value) (n:Nat),zc xs its/\s.heap.get? p=some { cls:=.type "list",data:=.seq its.toArray n }/\xs.length<=sizeLine:=by
 obtain⟨z,its,n,r,e⟩:=I.hok p _ h;exact⟨its,n,r,e,z⟩
theorem zT.lstUpd{pins:List (Addr×Obj)}{σ:St}{H:Hp}{s:Shared}{p:Addr}{xs ys:List V}{its its':List Value}{n n':Nat}{f:Obj->Obj}(I:zT X pins σ H s)(h:H p=some (.lst xs))
  (ho:s.heap.get? p=some { cls:=.type "list",data:=.seq its.toArray n }) (hf:f { cls:=.type "list",data:=.seq its.toArray n }={ cls:=.type "list",data:=.seq its'.toArray n' }) (r:zc ys its') (hz:ys.length<=sizeLine) (t:Nat) :
  zT X pins σ (wo H p (.lst ys)) { s with heap:=s.heap.update p f,toks:=t }:=by
 have e:(s.heap.update p f).get? p=some { cls:=.type "list",data:=.seq its'.toArray n' }:=by
  rw[Heap.get?_update_self f ho (by rw[hf]<;>rfl),hf]
 refine I.write (x:=p) (e:=p) (by rw[h];trivial) (.inl rfl) (fun b u hb q=>(Heap.get?_update_other _ _ (Ne.symm hb)).trans q) ⟨_,e⟩ ?_;exact⟨hz,its',n',r,e⟩
noncomputable def zPl:V->V->V->Hp->(Hp->Prop)->Prop:=fun o i v H Q=>∃ p xs k j,o=.ref p/\i=.int k/\H p=some (.lst xs)/\ixN xs.length k=some j/\Q (wo H p (.lst (xs.set j v)))
theorem set_list:zPZ X zPl:=by
 intro pins s σ H o i v ov iv u Q I ro ri rv h;obtain⟨p,xs,k,j,rfl,rfl,hp,hj,q⟩:=h;cases ro;obtain⟨t,rfl⟩:=ri;obtain⟨its,n,r,ho,hz⟩:=I.lst hp;obtain⟨h1,h2,h3,h4⟩:=zH5 hj;have hl:=r.length;have hn:=zDB;have I':zT X pins σ (wo H p (.lst (xs.set j v))) { s with heap:=s.heap.update p (Obj.mapSeq (·.setIfInBounds j u)) } :=
  I.lstUpd hp ho (zG9 its n j u) (r.set rv j) (by rw[List.length_set];exact hz) s.toks
 by_cases h0:0<=k
 ·have hk:k.toNat=j:=by
   rw[seqIndex_of h0 h4] at h1;exact Option.some.inj h1
  exact PySem.W.ki_setAt ho h0 (by omega) (by rw[cP,<-hl];exact h4) (by rw[hk];exact⟨_,I',q⟩)
 ·have hk:(k+(its.toArray.size:Int)).toNat=j:=by
   rw[seqIndex_neg (by omega) h3] at h1;rw[cP,<-hl];exact Option.some.inj h1
  exact PySem.W.ki_setBack ho (by omega) (by rw[cP,<-hl];exact h3) (by omega) (by rw[hk];exact⟨_,I',q⟩)
theorem zFP(lo hi:Option Int)(n:Nat):(sliceBounds lo hi none n).1=((HT.sIx n 0 lo:Nat):Int)/\(sliceBounds lo hi none n).2.1=((HT.sIx n n hi:Nat):Int)/\(sliceBounds lo hi none n).2.2=1:=by
 refine⟨?_,?_,rfl⟩
 ·cases lo with
  | none=>simp[sliceBounds,HT.sIx]
  | some i =>
   simp only[sliceBounds,HT.sIx,Option.getD_none,show(1:Int)>0 by decide,if_true];by_cases h:i<0
   ·simp only[h,if_true]<;>omega
   ·simp only[h,if_false]<;>omega
 ·cases hi with
  | none=>simp[sliceBounds,HT.sIx]
  | some i =>
   simp only[sliceBounds,HT.sIx,Option.getD_none,show(1:Int)>0 by decide,if_true];by_cases h:i<0
   ·simp only[h,if_true]<;>omega
   ·simp only[h,if_false]<;>omega
theorem zEa(its:List Value)(lo hi:Option Int):slicePick its.toArray lo hi none=((its.drop (HT.sIx its.length 0 lo)).take (HT.sIx its.length its.length hi-HT.sIx its.length 0 lo)).toArray:=by
 obtain⟨h1,h2,h3⟩:=zFP lo hi its.toArray.size;unfold slicePick;rw[h1,h2,h3];simp only[sliceRange_one,pick_run,cP]<;>rfl
noncomputable def zQa(K:PySem.W.Frag):V->Option Int->Option Int->Hp->VK->Prop:=fun x lo hi H Q=>∃ a xs,x=.ref a/\SqL K H a xs/\∀ p,H p=none->Q (.ref p) (wo H p (.lst (zJ9 xs lo hi)))
theorem zMB:SlR X (zQa X.K):=by
 intro pins s σ H x v vl vu lo hi sl Q I rx hs pl pu h;obtain⟨a,xs,rfl,hx,q⟩:=h;cases rx;obtain⟨its,r,ht,hz⟩:=I.list hx;have hlen:=r.length;refine⟨"list",_,slot_list_getitem.lookup,ht.isList.typeIs,?_⟩;refine wpAny_getItem_list_slice ht.isList hs pl pu .none (by simp) ?_ (by rw[cP]<;>omega);rw[zEa,<-hlen];refine⟨.ref s.heap.objs.size,_,I.laid (t':=s.toks) (o:=.lst (zJ9 xs lo hi)) (fun b ob q=>cL _ q) (cN _) ?_,rfl,q _ (I.hok.fresh (cN _))⟩;exact⟨dC (zF5 xs lo hi) hz,_,0,(r.drop (HT.sIx xs.length 0 lo)).take (HT.sIx xs.length xs.length hi-HT.sIx xs.length 0 lo),de _ rfl⟩
noncomputable def zH6:V->Bool
 | .non=>true
 | .bl _=>true
 | .int _=>true
 | .str _=>true
 | _=>false
noncomputable def eqV:V->V->Bool
 | .non,.non=>true
 | .bl a,.bl b=>a==b
 | .bl a,.int b=>(if a then 1 else 0)==b
 | .int a,.bl b=>a==(if b then 1 else 0)
 | .int a,.int b=>a==b
 | .str a,.str b=>a==b
 | _,_=>false
theorem zKA{A:Around}{s:Shared}{y x:V}{u v:Value}(ry:RelV y u)(rx:RelV x v)(fy:zH6 y=true)(fx:zH6 x=true):SeqAt.EqAt A s u v (eqV y x):=by
 cases y with
 | non =>
  cases ry;cases x with
  | non=>cases rx;exact SeqAt.EqAt.same _
  | bl b=>cases rx;exact SeqAt.EqAt.none_bool b
  | int b=>obtain⟨t,rfl⟩:=rx;exact SeqAt.EqAt.none_int b t
  | str b=>obtain⟨t,rfl⟩:=rx;exact SeqAt.EqAt.none_str b t
  | _=>exact absurd (show false=true from fx) dL
 | bl a =>
  cases ry;cases x with
  | non=>cases rx;exact SeqAt.EqAt.bool_none a
  | bl b=>cases rx;exact SeqAt.EqAt.bool_bool a b
  | int b=>obtain⟨t,rfl⟩:=rx;exact SeqAt.EqAt.bool_int a b t
  | str b=>obtain⟨t,rfl⟩:=rx;exact SeqAt.EqAt.bool_str a b t
  | _=>exact absurd (show false=true from fx) dL
 | int a =>
  obtain⟨t',rfl⟩:=ry;cases x with
  | non=>cases rx;exact SeqAt.EqAt.int_none a t'
  | bl b=>cases rx;exact SeqAt.EqAt.int_bool a t' b
  | int b=>obtain⟨t,rfl⟩:=rx;exact SeqAt.EqAt.int_int a t' b t
  | str b=>obtain⟨t,rfl⟩:=rx;exact SeqAt.EqAt.int_str a t' b t
  | _=>exact absurd (show false=true from fx) dL
 | str a =>
  obtain⟨t',rfl⟩:=ry;cases x with
  | non=>cases rx;exact SeqAt.EqAt.str_none a t'
  | bl b=>cases rx;exact SeqAt.EqAt.str_bool a t' b
  | int b=>obtain⟨t,rfl⟩:=rx;exact SeqAt.EqAt.str_int a t' b t
  | str b=>obtain⟨t,rfl⟩:=rx;exact SeqAt.EqAt.str_str a t' b t
  | _=>exact absurd (show false=true from fx) dL
 | _=>exact absurd (show false=true from fy) dL
theorem zFQ:wD X (.builtin "len") (fun xs H Q=>∃ p ys,xs=[.ref p]/\(SqL X.K H p ys\/SqT X.K H p ys)/\Q (.int ys.length) H):=by
 intro pins s σ H xs us Q I r h;obtain⟨p,ys,rfl,hq,q⟩:=h;obtain⟨u,rfl,rx⟩:=vals1 r;cases rx;have hn:=zDB;rcases hq with hq | hq
 ·obtain⟨its,r',pl,hz⟩:=I.list hq
  have hlen:=r'.length;exact Calls.call_len_list pl.isList (by simp only[cP]<;>omega) ⟨.int ys.length,H,I.tok _,⟨s.toks+1,by rw[cP,hlen]⟩,q⟩
 ·obtain⟨its,r',pl,hz⟩:=I.tuple hq
  have hlen:=r'.length;exact len_tuple pl (by simp only[cP]<;>omega) ⟨.int ys.length,H,I.tok _,⟨s.toks+1,by rw[cP,hlen]⟩,q⟩
theorem zFR:wD X (.builtin "len") (fun xs H Q=>∃ z,xs=[.str z]/\z.length<=sizeLine/\Q (.int z.length) H):=by
 intro pins s σ H xs us Q I r h;obtain⟨z,rfl,hz,q⟩:=h;obtain⟨u,rfl,t,rfl⟩:=vals1 r;have hn:=zDB;exact len_str (by omega) ⟨.int z.length,H,I.tok _,⟨_,rfl⟩,q⟩
theorem wD.or{f:Value}{r r':List V->Hp->VK->Prop}(h:wD X f r)(h':wD X f r'):wD X f (fun xs H Q=>r xs H Q\/r' xs H Q):=by
 intro pins s σ H xs us Q I rs q;rcases q with q | q
 ·exact h pins s σ H xs us Q I rs q
 ·exact h' pins s σ H xs us Q I rs q
theorem zCP:wD X (.type "tuple") (fun xs H Q=>∃ p ys,xs=[.ref p]/\((SqL X.K H p ys/\∀ l,H l=none->Q (.ref l) (wo H l (.tup ys)))\/(SqT X.K H p ys/\Q (.ref p) H))):=by
 intro pins s σ H xs us Q I r h;obtain⟨p,ys,rfl,h⟩:=h;obtain⟨u,rfl,rx⟩:=vals1 r;cases rx;rcases h with ⟨hq,q⟩ | ⟨hq,q⟩
 ·obtain⟨its,r',pl,hz⟩:=I.list hq
  have hlen:=r'.length;refine call_tuple_list pl.isList (fun h' kp=>?_) (by simp only[cP]<;>omega);have I1:zT X pins σ H { s with heap:=h' }:=I.kept (t':=s.toks) kp;have I2:zT X pins σ (wo H h'.objs.size (.tup ys)) { s with heap:=h'.push { cls:=.type "tuple",data:=.seq its.toArray } } :=
   I1.laid (t':=s.toks) (fun b o e=>cL _ e) (cN _) (show wA X.prog X.w _ _ _ (.tup ys) from⟨hz,its,r',zFJ.new _ _⟩)
  exact⟨.ref h'.objs.size,_,I2,rfl,q _ (I1.hok.fresh (cN _))⟩
 ·obtain⟨its,r',pl,hz⟩:=I.tuple hq
  exact call_tuple_same pl ⟨.ref p,H,I,rfl,q⟩
noncomputable def tyV(K:PySem.W.Frag)(T:String)(x:V)(H:Hp):Prop:=match x with
 | .str _=>T="str"
 | .int _=>T="int"
 | .ref p=>(T="list"/\∃ xs,SqL K H p xs)\/(T="tuple"/\∃ xs,SqT K H p xs) \/
   (T="dict"/\((∃ kvs,H p=some (.dK kvs))\/∃ kvs,H p=some (.dT kvs)))\/(T="set"/\∃ S n,H p=some (.set S n))
 | _=>False
theorem zKB{pins:List (Addr×Obj)}{σ:St}{H:Hp}{s:Shared}{T:String}{x:V}{v:Value}(I:zT X pins σ H s)(r:RelV x v)(ty:tyV X.K T x H) :
  s.TypeIs v T/\∀ a,v=.ref a->∃ ob,s.heap.get? a=some ob/\ob.dict=none:=by
 cases x with
 | str z =>
  obtain⟨t,rfl⟩:=r;cases (show T="str" from ty);exact⟨typeIs_str s z t,fun _ e=>nomatch e⟩
 | int i =>
  obtain⟨t,rfl⟩:=r;cases (show T="int" from ty);exact⟨typeIs_int s i t,fun _ e=>nomatch e⟩
 | ref p =>
  cases r;rcases ty with ⟨rfl,xs,hq⟩ | ⟨rfl,xs,hq⟩ | ⟨rfl,hk⟩ | ⟨rfl,S,n,hk⟩
  ·obtain⟨its,_,pl,_⟩:=I.list hq
   refine⟨pl.isList.typeIs,fun a e=>?_⟩;cases e;obtain⟨o,n,e,c,hd,_⟩:=pl;exact⟨o,e,hd⟩
  ·obtain⟨h1,o,h2,h3⟩:=I.noDict hq
   refine⟨h1,fun a e=>?_⟩;cases e;exact⟨o,h2,h3⟩
  ·have z:∃ o,s.heap.get? p=some o/\o.ExactDict:=by
    rcases hk with ⟨kvs,hk⟩ | ⟨kvs,hk⟩
    ·obtain⟨_,_,_,_,o,_,_,e,ex,_⟩:=I.hok p _ hk
     exact⟨o,e,ex⟩
    ·obtain⟨_,_,_,_,o,_,_,e,ex,_⟩:=I.hok p _ hk
     exact⟨o,e,ex⟩
   obtain⟨o,e,ex⟩:=z;refine⟨⟨o,e,ex.1⟩,fun a e2=>?_⟩;cases e2;exact⟨o,e,ex.2.1⟩
  ·obtain⟨o,_,_,_,e,ex,_⟩:=I.hok p _ hk
   refine⟨⟨o,e,ex.1⟩,fun a e2=>?_⟩;cases e2;exact⟨o,e,ex.2.1⟩
 | _=>exact False.elim ty
noncomputable def tBM(K:PySem.W.Frag)(T:String)(r:V->List V->Hp->VK->Prop)(to:TE)(t:TA):TE:=fun σ H Q=>to σ H fun x H1=>tyV K T x H1/\t σ H1 fun xs H2=>r x xs H2 Q
variable {o e:Expr} {es:List Expr} {to:TE} {t:TA} {name:Str} {apos cpos:Pos} {T id:String} {r:V->List V->Hp->VK->Prop}
theorem zDr(pa:PlainAttrs T)(slot:Slot T name id)(hty:typeOf (.builtin id)=pure (.type "method_descriptor"))(hm:MtR X id r)(ho:PE X o to)(ha:PA X (e::es) t)
  (hbase:autoParam (attributeBase o name X.env (eval o X.env)=eval o X.env) Zq4._auto_1)
  (hfew:autoParam (((backTo cpos (starEach (e::es) X.env)).all (fun x=>!x.1)&&(backToKw cpos (keywordEach [] X.env)).all (fun x=>x.1.isSome)
   && decide ((e::es).length+([]:List Keyword).length+(if ([]:List Keyword).isEmpty then 0 else 1)<30))=true) Zq4._auto_1)
  (hline:autoParam ((apos.endLine==cpos.line)=true) Zq4._auto_1) (hs:autoParam (starEach (e::es) X.env=(false,eval e X.env)::starEach es X.env) Zq4._auto_1) (hplain:autoParam ((backTo cpos (starEach es X.env)).any (·.1)=false) Zq4._auto_1) :
  PE X (.Call (.Attribute o name apos) (e::es) [] cpos) (tBM X.K T r to t):=by
 intro pins s σ H Q I h;refine wpAny_Call_method_late hbase hfew hline rfl (yj (ho pins s σ H _ I h) fun v s1 u9=>?_);obtain⟨x,H1,I1,r1,ty,q1⟩:=u9;obtain⟨h1,h2⟩:=zKB I1 r1 ty;refine⟨T,id,pa,slot,hty,h1,h2,?_⟩;have hA:=ha cpos pins s1 σ H1 _ I1 q1;rw[hs] at hA ⊢;refine Calls.callWith_builtin (by show(false||(backTo cpos (starEach es X.env)).any (·.1))=false;rw[hplain]<;>rfl) (Calls.evalArgs_plain ?_);exact yj hA fun us s2 ⟨vs,H2,I2,r2,q2⟩=>hm pins s2 σ H2 x vs v us Q I2 r1 r2 q2
end
noncomputable def MtM(X:Cx)(id:String)(r:V->List V->Hp->VK->Prop):Prop :=
 ∀(pins:List (Addr×Obj)) (s:Shared) (σ:St) (H:Hp) (x:V) (xs:List V) (v:Value) (us:List Value) (Q:VK),zT X pins σ H s->RelV x v->zc xs us->r x xs H Q ->
  wpAny (model X.prog X.w) X.A (call (.builtin id) (v::us)) (EP X pins σ Q) X.xe s
theorem zc.one:∀ {x:V} {us:List Value},zc [x] us->∃ u,us=[u]/\RelV x u
 | _,_,.cons r .nil=>⟨_,rfl,r⟩
theorem zc.zero:∀ {us:List Value},zc [] us->us=[]
 | _,.nil=>rfl
theorem zc.eraseIdx:∀ {xs:List V} {us:List Value} (i:Nat),zc xs us->zc (xs.eraseIdx i) (us.eraseIdx i)
 | _,_,_,.nil=>.nil
 | _,_,0,.cons _ t=>t
 | _,_,i+1,.cons r t=>.cons r (zc.eraseIdx i t)
theorem zc.rep{xs:List V}{us:List Value}(h:zc xs us):∀ k:Nat,zc (cK k xs).flatten (cK k us).flatten
 | 0=>.nil
 | k+1=>by
  rw[cA,cA,em,em];exact zc.append h (zc.rep h k)
theorem zEn{α:Type}:∀(l:List α) (i:Nat),(l.eraseIdx i).length<=l.length
 | [],_=>cN _
 | _::_,0=>Nat.le_succ _
 | _::r,i+1=>Nat.succ_le_succ (zEn r i)
theorem foldl_rep(its:List Value):∀(k:Nat) (acc:List Value),
  List.foldl (fun x1 x2=>x1++x2) acc.toArray (cK k its.toArray)=(acc++(cK k its).flatten).toArray
 | 0,acc=>by simp
 | k+1,acc=>by
  have e:acc.toArray++its.toArray=(acc++its).toArray:=by simp
  have e2:(acc++its)++(cK k its).flatten=acc++(cK (k+1) its).flatten:=by
   rw[cA,em,List.append_assoc]
  rw[<-e2,<-foldl_rep its k (acc++its),<-e,cA,List.foldl_cons]
section
variable {X:Cx} {pins:List (Addr×Obj)} {σ:St} {H:Hp} {s:Shared} {l b:Addr} {xs ys zs:List V}
theorem zT.lset{its its':List Value}{n:Nat}{f:Array Value->Array Value}{t':Nat}(I:zT X pins σ H s)(hH:H l=some (.lst xs))
  (e:s.heap.get? l=some { cls:=.type "list",data:=.seq its.toArray n }) (hf:f its.toArray=its'.toArray) (hv:zc ys its') (hz:ys.length<=sizeLine) :
  zT X pins σ (wo H l (.lst ys)) { s with heap:=s.heap.update l (Obj.mapSeq f),toks:=t' }:=by
 have q:=PySem.IsL.update e f;rw[hf] at q;refine I.write (x:=l) (e:=l) (by rw[hH];exact trivial) (.inl rfl) (fun b' u hb hu=>(Heap.get?_update_other s.heap (Obj.mapSeq f) (Ne.symm hb)).trans hu) ⟨_,q⟩ ?_;exact⟨hz,its',_,hv,q⟩
theorem zT.lnew{its:List Value}{t':Nat}(I:zT X pins σ H s)(hv:zc ys its)(hz:ys.length<=sizeLine) :
  zT X pins σ (wo H s.heap.objs.size (.lst ys)) { s with heap:=s.heap.push { cls:=.type "list",data:=.seq its.toArray },toks:=t' } :=
 I.laid (fun _ _ q=>cL _ q) (cN _) ⟨hz,its,0,hv,de _ rfl⟩
theorem zT.fresh(I:zT X pins σ H s):H s.heap.objs.size=none:=I.hok.fresh (cN _)
theorem zT.lstM(I:zT X pins σ H s)(hH:H l=some (.lst xs)):xs.length<=sizeLine/\∃(its:List Value) (n:Nat),zc xs its/\xs.length=its.length/\s.heap.get? l=some { cls:=.type "list",data:=.seq its.toArray n }:=by
 obtain⟨z,its,n,r,e⟩:=I.hok l _ hH;exact⟨z,its,n,r,r.length,e⟩
theorem zF6{n:Nat}(h:n<=sizeLine):Builtin.List.listTooLong n=false:=by
 unfold Builtin.List.listTooLong;exact decide_eq_false (by omega)
end
section
variable {X:Cx}
noncomputable def zMC:V->List V->Hp->VK->Prop:=fun x vs H Q=>∃ l xs y,x=.ref l/\vs=[y]/\H l=some (.lst xs)/\xs.length<sizeLine/\Q .non (wo H l (.lst (xs++[y])))
theorem zEo:MtM X "list.append" zMC:=by
 intro pins s σ H x vs v us Q I rx rv h;obtain⟨l,xs,y,rfl,rfl,hH,hz,q⟩:=h;cases rx;obtain⟨u,rfl,ru⟩:=rv.one;obtain⟨z,its,n,r,hl,e⟩:=I.lstM hH;refine call_meets F.slot_list_append ⟨_,e,rfl⟩ F.entry_list_append (F.args_list_append_2 _ _) (PySem.list_append l its.toArray n u (by rw[cP];omega)) ⟨e,?_⟩;refine⟨.non,_,I.lset (its':=its++[u]) hH e (by simp) (r.append (.cons ru .nil)) ?_,rfl,q⟩;rw[cZ,List.length_singleton];omega
noncomputable def zMD:V->List V->Hp->VK->Prop:=fun x vs H Q=>∃ l b xs zs,x=.ref l/\vs=[.ref b]/\H l=some (.lst xs)/\H b=some (.lst zs)/\xs.length+zs.length<=sizeLine/\Q .non (wo H l (.lst (xs++zs)))
theorem zI0:MtM X "list.extend" zMD:=by
 intro pins s σ H x vs v us Q I rx rv h;obtain⟨l,b,xs,zs,rfl,rfl,hH,hB,hz,q⟩:=h;cases rx;obtain⟨u,rfl,ru⟩:=rv.one;cases ru;obtain⟨z,its,n,r,hl,e⟩:=I.lstM hH;obtain⟨z2,its2,n2,r2,hl2,e2⟩:=I.lstM hB;have hsz:its.toArray.size+its2.toArray.size<=sizeLine:=by rw[cP,cP];omega
 have hlong:¬ (!its.toArray.isEmpty&&Builtin.List.listTooLong (its.toArray.size+its2.toArray.size))=true:=by
  rw[zF6 hsz,Bool.and_false];exact dL
 refine call_meets F.slot_list_extend ⟨_,e,rfl⟩ F.entry_list_extend (F.args_list_extend_2 _ _)
  (AutoSeq1.list_extend_list_list_0 l its.toArray n b its2.toArray n2 hlong (by rw[cP];omega) (by omega)) ⟨e,e2,?_⟩
 refine⟨.non,_,I.lset (its':=its++its2) hH e (by simp) (r.append r2) ?_,rfl,q⟩;rw[cZ];omega
noncomputable def zOU:V->List V->Hp->VK->Prop:=fun x vs H Q=>∃ l xs i k y,x=.ref l/\vs=[.int i]/\H l=some (.lst xs)/\-(2 ^ 63)<=i/\i<2 ^ 63/\seqIndex? i xs.length=some k/\xs[k]?=some y/\Q y (wo H l (.lst (xs.eraseIdx k)))
theorem zKC:MtM X "list.pop" zOU:=by
 intro pins s σ H x vs v us Q I rx rv h;obtain⟨l,xs,i,k,y,rfl,rfl,hH,h1,h2,hk,hy,q⟩:=h;cases rx;obtain⟨u,rfl,ru⟩:=rv.one;obtain⟨t,rfl⟩:=ru;obtain⟨z,its,n,r,hl,e⟩:=I.lstM hH;obtain⟨w,hw,rw'⟩:=r.get hy;refine call_meets F.slot_list_pop ⟨_,e,rfl⟩ F.entry_list_pop (F.args_list_pop_2 _ _)
  (MeetsSeq.list_pop_at l its.toArray n i t k w (fitsIndex_both h1 h2) (by rw[cP,<-hl];exact hk) (by rw[<-Array.getElem?_toList];exact hw) (by rw[cP];omega)) ⟨e,?_⟩
 refine⟨y,_,I.lset (its':=its.eraseIdx k) hH e ?_ (r.eraseIdx k) ?_,rw',q⟩
 ·show its.toArray.eraseIdxIfInBounds k=(its.eraseIdx k).toArray
  rw[List.eraseIdxIfInBounds_toArray]
 ·have:=zEn xs k
  omega
noncomputable def zQb:R2:=fun x y H Q=>∃ l b xs zs,x=.ref l/\y=.ref b/\H l=some (.lst xs)/\H b=some (.lst zs)/\xs.length+zs.length<=sizeLine/\∀ p,H p=none->Q (.ref p) (wo H p (.lst (xs++zs)))
theorem zOV:OpR X (binaryOp .Add) zQb:=by
 intro pins s σ H x y v u Q I rx ry h;obtain⟨l,b,xs,zs,rfl,rfl,hH,hB,hz,q⟩:=h;cases rx;cases ry;obtain⟨z,its,n,r,hl,e⟩:=I.lstM hH;obtain⟨z2,its2,n2,r2,hl2,e2⟩:=I.lstM hB;refine PySem.P.add_list e e2 ?_ (by rw[cP,cP];omega);have ea:its.toArray++its2.toArray=(its++its2).toArray:=by simp
 rw[ea];exact⟨.ref _,_,I.lnew (t':=s.toks) (r.append r2) (by rw[cZ];omega),rfl,q _ I.fresh⟩
noncomputable def zQc:R2:=fun x y H Q=>∃ l k xs,x=.ref l/\y=.int k/\H l=some (.lst xs)/\-(2 ^ 63)<=k/\k<2 ^ 63/\xs.length*k.toNat<=sizeLine /\
 ∀ p,H p=none->Q (.ref p) (wo H p (.lst (cK k.toNat xs).flatten))
theorem len_rep{α:Type}(xs:List α)(k:Nat):(cK k xs).flatten.length=k*xs.length:=by
 induction k with
 | zero=>simp
 | succ k ih=>rw[cA,em,cZ,ih,Nat.succ_mul,Nat.add_comm]
theorem zOW:OpR X (binaryOp .Mult) zQc:=by
 intro pins s σ H x y v u Q I rx ry h;obtain⟨l,k,xs,rfl,rfl,hH,h1,h2,hz,q⟩:=h;cases rx;obtain⟨t,rfl⟩:=ry;obtain⟨z,its,n,r,hl,e⟩:=I.lstM hH;have hlen:its.toArray.size*k.toNat<=sizeLine:=by rw[cP,<-hl];exact hz
 have hcap:¬ its.toArray.size*k.toNat>(2 ^ 63-1) / 8:=by
  have:(sizeLine:Nat)<=(2 ^ 63-1) / 8:=by decide
  omega
 have hfit:¬ (!Builtin.List.listFitsIndex k)=true:=by
  rw[fitsIndex_both h1 h2];exact dL
 have hlong:¬ Builtin.List.listTooLong (its.toArray.size*k.toNat)=true:=by
  rw[zF6 hlen];exact dL
 have hnew:List.foldl (fun x1 x2=>x1++x2) #[] (cK (if its.toArray.isEmpty=true then 0 else k.toNat) its.toArray)=(cK k.toNat its).flatten.toArray:=by
  have f0:∀ m:Nat,List.foldl (fun x1 x2=>x1++x2) #[] (cK m its.toArray)=(cK m its).flatten.toArray:=fun m=>by
   have:=foldl_rep its m [];rw[cG] at this;exact this
  rw[f0];cases its with
  | nil=>simp
  | cons a r'=>rw[if_neg (by simp)]
 refine wpAny_binaryOp_repeat_ref (T:="list") (U:="int") (by decide) ⟨_,e,rfl⟩ (fun s'=>typeIs_int s' k t) noFill_list_mul F.fills_int_mul F.slot_int_rmul repeat_list F.slot_int_index.lookup
  (call_meets F.slot_int_rmul (typeIs_int s k t) F.entry_int_rmul (F.args_int_rmul_2 _ _) (int___rmul___int_list k t l its.toArray n)
   ⟨e,rfl,⟨_,e,rfl⟩,call_meets F.slot_list_mul ⟨_,e,rfl⟩ F.entry_list_mul (F.args_list_mul_2 _ _) (AutoListH.list___mul___list_int_3 l its.toArray n k t hfit hcap hlong) ⟨e,?_⟩⟩)
 rw[hnew];exact⟨.ref _,_,I.lnew (t':=s.toks) (r.rep k.toNat) (by rw[len_rep,Nat.mul_comm];exact hz),rfl,q _ I.fresh⟩
end
section
variable {prog:Program} {w:World} {A:Around} {E:Value->Shared->Prop} {s:Shared}
end
section
variable {X:Cx}
end
end L2
namespace Att
open PySem PySem.W PySem.Calls PyProof.Rows
theorem zDY{P:Params}{h:Heap}:∀(ns:List Int) (vs:List Value),WellAll P h vs (ns.map WData.int)->IntsAre vs ns:=by
 intro ns
 induction ns with
 | nil =>
  intro vs w;rw[List.map_nil] at w;cases w;exact .nil
 | cons n ns ih =>
  intro vs w;rw[dt] at w;cases w with
  | cons a b =>
   cases a;exact .cons _ _ (ih _ b)
theorem zI1{l:OpenLaw}{n:Nat}(hn:l.most=some n){P:Params}{h:Heap}{args:List WData}{vals:List Value}
  (hpre:l.row.toRowW.claim.pre args=true) (hwl:WellAll P h vals args) :
  ∃ a vs ns,vals=[Value.ref a]/\args=[WData.list (ns.map WData.int)]/\h.get? a=some { cls:=.type "list",data:=.seq vs.toArray }/\IntsAre vs ns/\ns.length<=n:=by
 have hsh:WShape.hasAll [] args [.list .int]=true:=(pre_splitW hpre).1;have hc:l.pre.holds [] { args:=args }=true:=(pre_splitW hpre).2;obtain⟨d,r,rfl,h1,h2⟩:=hasAllW_cons hsh;obtain rfl:=hasAllW_nil h2;obtain⟨xs,rfl,h3⟩:=hasW_list h1;obtain⟨ns,rfl⟩:=items_int h3;have hlen:ns.length<=n:=by
  unfold OpenLaw.pre at hc;have h4:(WTm.not (.lt (.lit (.int (n:Int))) (.len (.arg 0)))).holds [] { args:=[.list (ns.map .int)] }=true:=by
   have h4:=(holds_andW hc).1;rw[hn] at h4;exact h4
  have h5:=condW_of h4 (w_not (w_lt w_lit (w_len_list (w_arg rfl))));rw[cI] at h5;refine Nat.le_of_not_lt fun q=>?_;have q':(n:Int)<((ns.length:Nat):Int):=by omega
  first
   | (rw[decide_eq_true q'] at h5;exact absurd h5 (by decide))
   | (simp at h5;omega)
 cases hwl with
 | cons w1 w2 =>
  cases w2;cases w1 with
  | list ho hall=>exact⟨_,_,ns,rfl,rfl,ho,zDY ns _ hall,hlen⟩
theorem zI2(l:OpenLaw)(args:List WData):l.row.toRowW.claim.post args (.bool true) args=true :=
 postW_of (r:=l.row.toRowW) (X:=(true==true))
  (show WShape.has [] (.bool true) .bool=true by first | rfl | decide | simp[WShape.has,WShape.arms,WShape.armsAll])
  (show(WTm.eq .res (.lit (.bool true))).value [] { args:=args,res:=some (.bool true),after:=args }=some (.bool (true==true)) from w_eq_bool (w_res rfl) w_lit) rfl
theorem zF7{l:OpenLaw}{n:Nat}{q:Program}{loose:List Str}{XP:(Str->Option Value)->Heap->Prop}{YP:World->Heap->Prop}{d:DefRec}
  (hn:l.most=some n) (hdf:d.params.defaults=[])
  (call:∀(w:World) (s₀ s₁:Shared) (mg mb:Str->Option Value) (fa:Addr) (o:Obj) (pm cd doc:Value) (a:Addr) (vs:List Value) (ns:List Int),
   Ground q loose [] XP w s₀ mg mb s₁.heap->YP w s₁.heap ->
   s₁.heap.get? fa=some o->o.data=.func (docDef d.name d.params d.body d.scope pm cd doc)->s₁.heap.CodeRec cd d.name->mg d.name=some (.ref fa) ->
   s₁.heap.get? a=some { cls:=.type "list",data:=.seq vs.toArray }->IntsAre vs ns->ns.length<=n->s₁.gens=#[] ->
   codeAny (model l.prog w) callerA (.call (.ref fa) ⟨[.ref a],[]⟩) (fun r s'=>r=.ok (.ret (.bool true))/\OldK s₁.heap s'.heap/\s'.os=s₁.os/\AllBare s'.gens) s₁) :
  WalkO q loose XP YP l.row.toRowW d [] (fun f vs=>PySem.call f vs):=by
 intro w s₀ s₁ mg mb G Y fa o pm cd doc dV kV ho hd hcd hD hmg hg args vals as hpre hlay hrd hwl hlo;obtain rfl:dV=.none:=Dflts.none hD hdf;obtain rfl:kV=.none:=Dflts.noKw hD;obtain⟨a,vs,ns,rfl,rfl,hobj,hints,hlen⟩:=zI1 hn hpre hwl;refine enter_call (eE (call w s₀ s₁ mg mb fa o pm cd doc a vs ns G Y ho (fd_plain hd) hcd hmg hobj hints hlen hg) fun r s' hq=>?_);obtain⟨rfl,h2,h3,h4⟩:=hq;exact⟨.inl ⟨.bool true,.bool true,[],rfl,fun _=>rfl,.bool true,zI2 l _,fun _=>⟨List.Pairwise.nil,fun _ hm=>(nomatch hm)⟩⟩,h2,h3,h4⟩
section
variable {prog:Program} {w:World} {A:Around} {E:Value->Shared->Prop} {s:Shared} {K:Frag}
end
end Att
namespace L2
theorem zEp:∀ {vs:List Value} {ns:List Int},IntsAre vs ns->zc (ns.map V.int) vs
 | _,_,.nil=>.nil
 | _,_,.cons n t h=>.cons ⟨t,rfl⟩ (zEp h)
noncomputable def zME(H:Hp):Prop:=∀ b,H b=none\/(∃ o xs,H b=some (.frz o (.lst xs)))\/∃ ps,H b=some (.tbl ps)
structure TabsAt (K:PySem.W.Frag) (h:Heap) (ts:List Addr) (qn:Addr->Str):Prop where
 obj:∀ P∈ts,h.get? P=some (PySem.W.tabObj #[])
 out:∀ P∈ts,K.lookup P=none
 code:∀ P∈ts,isCodeTable h P
 name:∀ x∈zBS,∀ c b,PySem.W.tabIn K x=some (c,b)->b∈ts/\qn b=x++".<locals>.<lambda>"
noncomputable def zi(s:Stmt):Arguments:=match s with
 | .FunctionDef _ a _ _ _ _ _ _ _ _=>a
 | _=>{ posonlyargs:=[],args:=[],vararg:=none,kwonlyargs:=[],kw_defaults:=[],kwarg:=none,defaults:=[] }
noncomputable def zU(s:Stmt):List Stmt:=match s with
 | .FunctionDef _ _ b _ _ _ _ _ _ _=>b
 | _=>[]
noncomputable def zE(s:Stmt):Scope:=match s with
 | .FunctionDef _ _ _ _ _ _ sc _ _ _=>sc
 | _=>{ kind:=.function,names:=[],isGenerator:=false,isCoroutine:=false }
noncomputable abbrev CX0:CXT:=fun _ _ _ _ _ _=>False
noncomputable abbrev E0:XK:=fun _ _ _=>False
theorem zKD{X:Cx}:zG7 CX0 X E0:=fun _ _ _ _ _ _ _ h=>h.elim
structure Fun (K:PySem.W.Frag) (x qual:Str) (st:Stmt) (f:Addr) (fd:FuncData):Prop where
 ex:∃(oc:Value) (od:Option Addr) (kV doc pm:Value) (an:Option Addr) (cdv ct:Value) (osl:Array (Option Value)),
  fd=PySem.W.fnOf x qual (zi st) (zU st) (zE st) .none kV doc pm an cdv ct/\K.lookup f=some ⟨oc,od,.func fd,osl⟩/\PySem.W.codeIn K cdv qual=true
 kp:PySem.W.keepIn K (.ref f)=true
section
variable {P:Program} {w:World} {K:PySem.W.Frag} {mg:Str->Option Value} {base:Heap}
theorem Fun.ok{x qual:Str}{st:Stmt}{f:Addr}{fd:FuncData}{N ps:List Str}{k:Nat}{sp:Sp}(F:Fun K x qual st f fd)(S:zb N ps (zE st))(len:∀ vs H Q E,sp vs H Q E->vs.length=ps.length)
  (hbody:∀(cdv:Value) (A:Around) (outer:List Env) (s:Shared) (H:Hp) (vs:List V) (Q:VK) (E:XK),yM k (A.deeper (envOfC qual (zE st) s.heap.objs.size f cdv))->sp vs H Q E ->
   ∃ t,PSs (zBr CX0 P w K mg base N qual (zE st) f cdv A outer s H E).nox (zU st) t/\t { nx:=fun _ H'=>Q .non H',rt:=Q } (start N vs) H):zCa P w K mg base CX0 (k+1) f fd ps sp:=by
 obtain⟨oc,od,kV,doc,pm,an,cdv,ct,osl,rfl,lk,hcd⟩:=F.ex;refine zNX lk hcd S len fun A outer s H vs Q E hr hsp=>?_;obtain⟨t,h,q⟩:=hbody cdv A outer s H vs Q E hr hsp;exact⟨t,h.nox,q⟩
theorem Fun.binds{x qual:Str}{st:Stmt}{f:Addr}{fd:FuncData}{ps:List Str}(F:Fun K x qual st f fd)
  (h:∀(kV doc pm:Value) (an:Option Addr) (cdv ct:Value) (us:List Value),us.length=ps.length->bindArgs (PySem.W.fnOf x qual (zi st) (zU st) (zE st) .none kV doc pm an cdv ct) ⟨us,[]⟩=pure (ps.zip us)):Binds K fd ps []:=by
 obtain⟨oc,od,kV,doc,pm,an,cdv,ct,osl,rfl,lk,hcd⟩:=F.ex;exact .all (h kV doc pm an cdv ct)
theorem yA{x qual:Str}{st:Stmt}{f:Addr}{oc:Value}{od an:Option Addr}{osl:Array (Option Value)}{kV doc pm cdv ct:Value}(l:K.lookup f=some ⟨oc,od,.func (PySem.W.fnOf x qual (zi st) (zU st) (zE st) .none kV doc pm an cdv ct),osl⟩)
  (c:PySem.W.codeIn K cdv qual=true) (k:PySem.W.keepIn K (.ref f)=true):Fun K x qual st f (PySem.W.fnOf x qual (zi st) (zU st) (zE st) .none kV doc pm an cdv ct):=⟨⟨oc,od,kV,doc,pm,an,cdv,ct,osl,rfl,l,c⟩,k⟩
end
section
variable {X:Cx}
end
noncomputable def zCb(H H':Hp):Prop:=∀ b o,H b=some o->H' b=some o
theorem zCb.refl(H:Hp):zCb H H:=fun _ _ h=>h
theorem zCb.trans{H H1 H2:Hp}(a:zCb H H1)(b:zCb H1 H2):zCb H H2:=fun c o h=>b c o (a c o h)
theorem zCb.free{H H':Hp}(e:zCb H H'){l:Addr}(h:H' l=Option.none):H l=Option.none:=by
 cases q:H l with
 | none=>rfl
 | some o =>
  rw[e l o q] at h;cases h
theorem zCb.seq{K:PySem.W.Frag}{H H':Hp}{a:Addr}{xs:List V}(e:zCb H H')(h:SqL K H a xs):SqL K H' a xs:=by
 rcases h with (h | ⟨o,h⟩) | h
 ·exact .inl (.inl (e _ _ h))
 ·exact .inl (.inr ⟨o,e _ _ h⟩)
 ·exact .inr h
end L2
set_option maxHeartbeats 4000000
namespace L2
noncomputable def zDD(env:Env):List (Str×NameKind)->List (Str×Addr)->List (Str×Addr)
 | [],cs=>cs
 | (n,k)::r,cs=>zDD env r (if k==.free then match env.cells.lookup n with | some a=>(n,a)::cs | none=>cs else cs)
noncomputable def zBU(sc:Scope)(env:Env):List (Str×Addr):=zDD env sc.names []
theorem zEq{env:Env}:∀ {ns:List (Str×NameKind)} {cs:List (Str×Addr)} {x:Str} {c:Addr},(∀ y a,cs.lookup y=some a->env.cells.lookup y=some a)->(zDD env ns cs).lookup x=some c->env.cells.lookup x=some c
 | [],_,_,_,h,e=>h _ _ e
 | (n,k)::r,cs,x,c,h,e=>by
  unfold zDD at e;refine zEq (ns:=r) (fun y a q=>?_) e;by_cases hk:(k==NameKind.free)=true
  ·rw[if_pos hk] at q
   cases hc:env.cells.lookup n with
   | none=>rw[hc] at q;exact h y a q
   | some d =>
    rw[hc] at q;cases hy:y==n with
    | true =>
     simp only[dk,hy] at q;have:y=n:=by simpa using hy
     rw[this,hc];exact q
    | false =>
     simp only[dk,hy] at q;exact h y a q
  ·rw[if_neg hk] at q;exact h y a q
theorem zAl{sc:Scope}{env:Env}{x:Str}{c:Addr}(e:(zBU sc env).lookup x=some c):env.cells.lookup x=some c :=
 zEq (fun _ _ q=>by simp at q) e
theorem zCh{env:Env}:∀ {ns:List (Str×NameKind)} {cs:List (Str×Addr)} {x:Str},(∀ y∈ns,y.2=.free->∃ c,env.cells.lookup y.1=some c)->((∃ c,cs.lookup x=some c)\/(x,NameKind.free)∈ns)->∃ c,(zDD env ns cs).lookup x=some c
 | [],cs,x,_,h=>by
  rcases h with h | h
  ·exact h
  ·cases h
 | (n,k)::r,cs,x,hh,h=>by
  unfold zDD;refine zCh (ns:=r) (fun y hy=>hh y (cU _ hy)) ?_;by_cases hk:k=.free
  ·subst hk
   obtain⟨c,hc⟩:=hh (n,.free) dc rfl;have hc':env.cells.lookup n=some c:=hc;simp only[beq_self_eq_true,if_true,hc'];cases hx:x==n with
   | true=>exact .inl ⟨c,by simp[dk,hx]⟩
   | false =>
    rcases h with ⟨d,h⟩ | h
    ·exact .inl ⟨d,by simp[dk,hx,h]⟩
    ·rcases db.mp h with e | h
     ·injection e with e1 _
      subst e1;simp at hx
     ·exact .inr h
  ·have hb:(k==NameKind.free)=false:=by simpa using hk
   simp only[hb,cC,if_false];rcases h with h | h
   ·exact .inl h
   ·rcases db.mp h with e | h
    ·injection e with _ e2
     exact absurd e2.symm hk
    ·exact .inr h
theorem zF8{env:Env}:∀ {ns:List (Str×NameKind)} {cs:List (Str×Addr)},(∀ y∈ns,y.2=.free->∃ c,env.cells.lookup y.1=some c) ->
  (forIn ns cs fun(x:Str×NameKind) (r:List (Str×Addr))=>if (x.2==NameKind.free)=true then (do let a <-cellOf env x.1;pure (ForInStep.yield ((x.1,a)::r)):Sem _) else pure (ForInStep.yield r))=(pure (zDD env ns cs):Sem _)
 | [],_,_=>rfl
 | (n,k)::r,cs,hh=>by
  rw[List.forIn_cons];have ih:=fun cs'=>zF8 (env:=env) (ns:=r) (cs:=cs') fun y hy=>hh y (cU _ hy);by_cases hk:k=.free
  ·subst hk
   obtain⟨c,hc⟩:=hh (n,.free) dc rfl;have hc':env.cells.lookup n=some c:=hc;have e:cellOf env n=pure c:=by unfold cellOf;rw[hc']
   simp only[beq_self_eq_true,if_true,e,pure_bind];rw[ih];have q:zDD env ((n,NameKind.free)::r) cs=zDD env r ((n,c)::cs):=by simp only[zDD,beq_self_eq_true,if_true,hc']
   rw[q]
  ·have hb:(k==NameKind.free)=false:=by simpa using hk
   simp only[hb,cC,if_false,pure_bind];rw[ih];have q:zDD env ((n,k)::r) cs=zDD env r cs:=by simp only[zDD,hb,cC,if_false]
   rw[q]
theorem zAT{sc:Scope}{env:Env}(hh:∀ y∈sc.names,y.2=.free->∃ c,env.cells.lookup y.1=some c):closureFor sc env=pure (zBU sc env):=by
 have e:=zF8 (env:=env) (ns:=sc.names) (cs:=[]) hh;unfold closureFor;show(forIn sc.names [] (fun(x:Str×NameKind) (r:List (Str×Addr))=>(match x with | (name,kind)=>if (kind==NameKind.free)=true then (do let a <-cellOf env name;pure (ForInStep.yield ((name,a)::r))) else pure (ForInStep.yield r):Sem (ForInStep (List (Str×Addr)))))>>=fun s=>pure s)=_;have hb:(fun(x:Str×NameKind) (r:List (Str×Addr))=>(match x with | (name,kind)=>if (kind==NameKind.free)=true then (do let a <-cellOf env name;pure (ForInStep.yield ((name,a)::r))) else pure (ForInStep.yield r):Sem (ForInStep (List (Str×Addr))))) =
   fun(x:Str×NameKind) (r:List (Str×Addr))=>if (x.2==NameKind.free)=true then (do let a <-cellOf env x.1;pure (ForInStep.yield ((x.1,a)::r)):Sem _) else pure (ForInStep.yield r):=by
  funext x r;obtain⟨n,k⟩:=x;rfl
 rw[hb,e];rfl
noncomputable def Cx.comp(X:Cx)(N':List Str)(sc:Scope)(C:Addr)(s:Shared)(H:Hp)(fp:List Addr)(pins:List (Addr×Obj)):Cx :=
 { X with N:=N',s₀:=s,H₀:=H,env:=compEnvC sc (zBU sc X.env) C X.env,outer:=X.stack,ex:=fp,fn:=fun _=>false,pn:=X.pn++pins,xe:=fun _ _=>False }
noncomputable def PTs(X:Cx)(ifs:List Expr)(t:TT):Prop :=
 ∀(pins:List (Addr×Obj)) (s:Shared) (σ:St) (H:Hp) (Q:Bool->Hp->Prop),zT X pins σ H s->t σ H Q ->
  wpAny (model X.prog X.w) X.A (forIn ifs true fun c r=>if r=true then do let ok <-isTrue c X.env (eval c X.env);pure (ForInStep.yield ok) else pure (ForInStep.yield r)) (TP X pins σ Q) X.xe s
noncomputable def zQd:TT:=fun _ H Q=>Q true H
theorem zMF{X:Cx}:PTs X [] zQd:=fun _ _ _ H _ I h=>wpAny_tests_nil ⟨H,I,h⟩
theorem zMG{X:Cx}{c:Expr}{t:TT}(h:PT X c t):PTs X [c] t:=fun pins s σ H Q I hq=>wpAny_tests_one (h pins s σ H Q I hq)
noncomputable def zKE(n0:Nat)(wi:TI)(g:TG)(tc:TT)(te:TE):TE:=fun σ H Q=>wi σ H fun J H1=>∀ D,H1 D=none->∃ W:Nat->Nat->Hp->Prop,(∃ m,W 0 m (wo H1 D (.lst []))) /\
 ∀ i m H2,W i m H2->(J.stop i H2/\Q (.ref D) H2) \/
  (J.go i H2/\∀ x H3,J.yld i H2 x H3->g x (σ++cK n0 none) H3 fun σ4 H4=>σ4.take σ.length=σ/\σ4.length=σ.length+n0/\tc σ4 H4 fun b H5 =>
   if b=true then te σ4 H5 fun v H6=>∃ acc,H6 D=some (.lst acc)/\acc.length<sizeLine/\∃ m',m'<m/\W (i+1) m' (wo H6 D (.lst (acc++[v]))) else ∃ m',m'<m/\W (i+1) m' H5)
theorem PE.mono{X:Cx}{e:Expr}{t t':TE}(h:PE X e t)(hm:∀ σ H Q,t' σ H Q->t σ H Q):PE X e t':=fun pins s σ H Q I q=>h pins s σ H Q I (hm σ H Q q)
theorem PT.mono{X:Cx}{e:Expr}{t t':TT}(h:PT X e t)(hm:∀ σ H Q,t' σ H Q->t σ H Q):PT X e t':=fun pins s σ H Q I q=>h pins s σ H Q I (hm σ H Q q)
theorem PS.mono{X:Cx}{e:Stmt}{t t':TS}(h:PS X e t)(hm:∀ D σ H,t' D σ H->t D σ H):PS X e t':=fun pins s σ H D I q=>h pins s σ H D I (hm D σ H q)
section
variable {X:Cx} {tg elt iter:Expr} {ifs:List Expr} {sc:Scope} {pos:Pos} {N0 own:List Str} {wi:TI} {g:TG} {tc:TT} {te:TE}
structure zCc (X:Cx) (sc:Scope) (N0:List Str):Prop where
 kind:sc.kind=.function
 cell:∀ y∈sc.names,y.2≠.cell
 names:∀ y∈sc.names,y.2=.local->sc.names.lookup y.1=some .local
 cap:∀ y∈sc.names,y.2=.free->X.env.kindOf y.1=some .cell\/X.env.kindOf y.1=some .free
 len:N0.length=X.N.length
 vis:∀(i:Nat) (x:Str),N0[i]?=some x->Vis (relabel sc X.env) x->X.N[i]?=some x/\sc.names.lookup x=some .free
theorem zA1{env:Env}:∀ {names:List (Str×NameKind)} {x:Str},(∀ y∈names,y.2≠.cell) ->
    ((names.map fun(n,k)=>if (k==NameKind.free&&env.scope.kind==.function&&env.kindOf n==some .cell) then (n,NameKind.cell) else (n,k)).lookup x=some .cell \/
     (names.map fun(n,k)=>if (k==NameKind.free&&env.scope.kind==.function&&env.kindOf n==some .cell) then (n,NameKind.cell) else (n,k)).lookup x=some .free)->names.lookup x=some .free
  | [],_,_,h=>by rcases h with h | h<;>simp at h
  | (n,k)::r,x,hc,h=>by
    have ih:=@zA1 env r x fun y hy=>hc y (cU _ hy);have hk:k≠.cell:=hc (n,k) dc;have hd:∀(z:NameKind),(((n,k)::r).map fun(n,k)=>if (k==NameKind.free&&env.scope.kind==.function&&env.kindOf n==some .cell) then (n,NameKind.cell) else (n,k)).lookup x=some z ->
        if (x==n)=true then (if (k==NameKind.free&&env.scope.kind==.function&&env.kindOf n==some .cell)=true then z=.cell else z=k) else (r.map fun(n,k)=>if (k==NameKind.free&&env.scope.kind==.function&&env.kindOf n==some .cell) then (n,NameKind.cell) else (n,k)).lookup x=some z:=by
      intro z e;have e':List.lookup x ((if (k==NameKind.free&&env.scope.kind==.function&&env.kindOf n==some .cell)=true then (n,NameKind.cell) else (n,k))::(r.map fun(n,k)=>if (k==NameKind.free&&env.scope.kind==.function&&env.kindOf n==some .cell) then (n,NameKind.cell) else (n,k)))=some z:=e;cases hx:x==n with
      | true =>
        rw[if_pos rfl];by_cases hq:(k==NameKind.free&&env.scope.kind==.function&&env.kindOf n==some .cell)=true
        · rw[if_pos hq] at e' ⊢
          simp only[dk,hx] at e';exact(Option.some.inj e').symm
        · rw[if_neg hq] at e' ⊢
          simp only[dk,hx] at e';exact(Option.some.inj e').symm
      | false =>
        rw[if_neg (by simp)];by_cases hq:(k==NameKind.free&&env.scope.kind==.function&&env.kindOf n==some .cell)=true
        · rw[if_pos hq] at e';simpa only[dk,hx] using e'
        · rw[if_neg hq] at e';simpa only[dk,hx] using e'
    cases hx:x==n with
    | true =>
      simp only[dk,hx];rcases h with h | h
      · have q:=hd _ h
        rw[if_pos hx] at q;by_cases hq:(k==NameKind.free&&env.scope.kind==.function&&env.kindOf n==some .cell)=true
        · have:(k==NameKind.free)=true:=by
            cases hk':k==NameKind.free with
            | true=>rfl
            | false=>simp[hk'] at hq
          have:k=.free:=by simpa using this
          rw[this]
        · rw[if_neg hq] at q;exact absurd q.symm hk
      · have q:=hd _ h
        rw[if_pos hx] at q;by_cases hq:(k==NameKind.free&&env.scope.kind==.function&&env.kindOf n==some .cell)=true
        · rw[if_pos hq] at q;cases q
        · rw[if_neg hq] at q;rw[<-q]
    | false =>
      simp only[dk,hx];refine ih ?_;rcases h with h | h
      · have q:=hd _ h
        rw[if_neg (by simp[hx])] at q;exact .inl q
      · have q:=hd _ h
        rw[if_neg (by simp[hx])] at q;exact .inr q
theorem zI3{X':Cx}{σ:St}{it D:Addr}{fp:List Addr}{tn:Nat->Heap->Prop}{J:It}{Q:VK}{W:Nat->Nat->Hp->Prop}{Z:Hp->Shared->Prop}{H0:Hp}{s₅:Shared}{m0:Nat}(hc:X'.calm=true)(hx:∀ v s,X'.xe v s->False)(Tn:Turn X'.prog X'.w X'.K tg J fp it tn)
  (hg:PG X' tg g) (ht:PTs X' ifs tc) (he:PE X' elt te)
  (turn:∀ i m H2,W i m H2->(J.stop i H2/\Q (.ref D) H2) \/
    (J.go i H2/\∀ x H3,J.yld i H2 x H3->g x (σ++cK own.length none) H3 fun σ4 H4=>σ4.take σ.length=σ/\σ4.length=σ.length+own.length/\tc σ4 H4 fun b H5 =>
     if b=true then te σ4 H5 fun v H6=>∃ acc,H6 D=some (.lst acc)/\acc.length<sizeLine/\∃ m',m'<m/\W (i+1) m' (wo H6 D (.lst (acc++[v]))) else ∃ m',m'<m/\W (i+1) m' H5))
  (fpX:∀ {H:Hp},(∀ b∈fp,H b=none)->∀ b∈fp,zDA X' [] H b) (back:∀ {σ':St} {H':Hp} {s':Shared},zT X' [] σ' H' s'->Z H' s')
  (I4:zT X' [] (σ++cK own.length none) H0 s₅) (st4:tn 0 s₅.heap) (fpD:∀ b∈fp,H0 b=none) (w0:W 0 m0 H0) :
  codeAny (model X'.prog X'.w) X'.A (.compLoop (.ListComp elt [⟨tg,iter,ifs,0⟩] sc pos) 0 (.ref it) (.ref D) X'.env) (fun r s'=>∃ H',r=.ok .next/\Z H' s'/\Q (.ref D) H') s₅:=by
  refine codeAny_loop rfl (fun n s'=>∃ i H',zT X' [] (σ++cK own.length none) H' s'/\tn i s'.heap/\(∀ b∈fp,H' b=none)/\W i n H') (fun n s6=>?_) m0 ⟨0,_,I4,st4,fpD,w0⟩;rintro⟨i,H6,I6,st6,fr6,w6⟩;show wpAny _ X'.A ((compTurn (.ListComp elt [⟨tg,iter,ifs,0⟩] sc pos) 0 (.ref it) (.ref D) X'.env).onRaise (fun x=>do noteFrame x X'.env;theTreesLotGoes x)) _ _ s6;refine wpAny_noted ?_;rw[compTurn_list];have nox:∀ {α:Type} {t:Sem α} {Q:α->Shared->Prop} {E':Value->Shared->Prop} {s:Shared},wpAny (model X'.prog X'.w) X'.A t Q X'.xe s->wpAny (model X'.prog X'.w) X'.A t Q E' s:=fun h=>dP h (fun _ _ q=>q) fun v s z=>(hx v s z).elim;refine cT (wpAny_standAt (cT ?_));rcases turn i n H6 w6 with ⟨stop,qn⟩ | ⟨go,step⟩
  ·refine nox (yj (Tn.done X' rfl rfl rfl hc i [] s6 _ H6 _ I6 (fpX fr6) st6 stop) fun r s7 u9=>?_);obtain⟨hr,I7⟩:=u9
   subst hr;exact dA ⟨H6,rfl,back I7,qn⟩
  ·refine nox (yj (Tn.item X' rfl rfl rfl hc i [] s6 _ H6 _ I6 (fpX fr6) st6 go) fun r s7 u9=>?_);obtain⟨u,hr,h7⟩:=u9
   subst hr;refine cT (nox (yj h7 fun _ s8 u9=>?_));obtain⟨x,H8,I8,r8,y8,st8,fr8⟩:=u9;have I8':=I8.pinned (fpX fr8) (Tn.obj _ _ st8);refine cT (nox (yj (hg _ s8 _ H8 x u _ I8' r8 (step x H8 y8)) fun _ s9 u9=>?_));obtain⟨σ9,H9,I9,q1,q2,q9⟩:=u9;have again:∀ {s':Shared} {H':Hp},zT X' ([]++zDm fp s8.heap) σ9 H' s'->(∃ m',m'<n/\W (i+1) m' H')->∃ m,m<n/\∃ i H',zT X' [] (σ++cK own.length none) H' s'/\tn i s'.heap/\(∀ b∈fp,H' b=none)/\W i m H':=by
    intro s' H' J ⟨m',hm,w'⟩;refine⟨m',hm,i+1,H',?_,Tn.keep _ _ _ st8 fun b hb o e=>(J.pin (b,o) (cY _ (cY _ (zBT hb e)))).1,fun b hb=>?_,w'⟩
    ·refine(J.unpinned).weak ?_ fun j v e=>?_
     ·rw[q2,cZ,List.length_replicate]
     ·have hj:j<σ.length:=by
       by_cases hj:j<σ.length
       ·exact hj
       ·rw[dX (by omega),eF] at e
        split at e<;>cases e
      rw[dI hj] at e;rw[<-q1,List.getElem?_take_of_lt hj] at e;exact e
    ·obtain⟨o,e,d⟩:=Tn.obj _ _ st8 b hb
     exact(J.pin (b,o) (cY _ (cY _ (zBT hb e)))).2.1
   refine cT (nox (yj (ht _ s9 σ9 H9 _ I9 q9) fun ok s10 u9=>?_));obtain⟨H10,I10,q10⟩:=u9;cases ok with
   | false=>exact dA ⟨rfl,again I10 q10⟩
   | true =>
    refine cT (cT (nox (yj (he _ s10 σ9 H10 _ I10 q10) fun uv s11 u9=>?_)));obtain⟨v,H11,I11,r11,acc,hD11,hz,q11⟩:=u9;refine cT (nox (yj (zEo _ s11 σ9 H11 (.ref D) [v] (.ref D) [uv] (fun _ H12=>H12=wo H11 D (.lst (acc++[v]))) I11 rfl (.cons r11 .nil) ⟨_,acc,v,rfl,rfl,hD11,hz,rfl⟩) fun _ s12 u9=>?_));obtain⟨_,H12,I12,_,q12⟩:=u9;subst q12;exact dA (dA ⟨rfl,again I12 q11⟩)
theorem zDs{pins:List (Addr×Obj)}{σ:St}{s₂:Shared}{itv:Value}{Q:VK}{E:Value->Shared->Prop}(hc:X.calm=true)(T:zCc X sc N0)
  (hg:∀ C s H fp pins,PG (X.comp (N0++own) sc C s H fp pins) tg g) (ht:∀ C s H fp pins,PTs (X.comp (N0++own) sc C s H fp pins) ifs tc) (he:∀ C s H fp pins,PE (X.comp (N0++own) sc C s H fp pins) elt te)
  (h:PIE X pins σ tg (fun J H1=>∀ D,H1 D=none->∃ W:Nat->Nat->Hp->Prop,(∃ m,W 0 m (wo H1 D (.lst []))) /\
   ∀ i m H2,W i m H2->(J.stop i H2/\Q (.ref D) H2) \/
    (J.go i H2/\∀ x H3,J.yld i H2 x H3->g x (σ++cK own.length none) H3 fun σ4 H4=>σ4.take σ.length=σ/\σ4.length=σ.length+own.length/\tc σ4 H4 fun b H5 =>
     if b=true then te σ4 H5 fun v H6=>∃ acc,H6 D=some (.lst acc)/\acc.length<sizeLine/\∃ m',m'<m/\W (i+1) m' (wo H6 D (.lst (acc++[v]))) else ∃ m',m'<m/\W (i+1) m' H5)) itv s₂) :
  wpAny (model X.prog X.w) X.A (newList []) (fun acc s₃=>wpAny (model X.prog X.w) X.A (newFunctionEnv sc X.env.globals (zBU sc X.env) [] X.env.qual none .none (some X.env)) (fun cenv s₄ =>
   codeAny (model X.prog X.w) X.A (.compStart (.ListComp elt [⟨tg,iter,ifs,0⟩] sc pos) 0 itv acc { cenv with scope:=relabel sc X.env })
    (fun r s'=>∃ D H' m,r=.ok .next/\acc=.ref D/\zT X pins σ H' s'/\zDA X pins H' cenv.locals/\s'.heap.Ns cenv.locals m/\Q (.ref D) H') s₄) E s₃) E s₂:=by
 obtain⟨it,fp,tn,J,H1,rfl,I2,Tn,st2,f2,hR⟩:=h;refine wpAny_newObj_type (wpAny_newFunctionEnv T.cell (by intro y hy;simp at hy) (fun h₁ hns₁ hsb₁=>?_) T.kind);dsimp only at hns₁ hsb₁ ⊢;generalize hH2:s₂.heap.push { cls:=.type "list",dict:=none,data:=.seq ([]:List Value).toArray }=h3 at hns₁ hsb₁ ⊢;have hC:h3.objs.size=s₂.heap.objs.size+1:=by rw[<-hH2,Heap.size_push]
 -- the list
 have I3:zT X pins σ (wo H1 s₂.heap.objs.size (.lst [])) { s₂ with heap:=h3 }:=by
  rw[<-hH2];exact I2.laid (t':=s₂.toks) (fun b u e=>cL _ e) (cN _) ⟨by simp,[],0,.nil,de _ rfl⟩
 have fD:H1 s₂.heap.objs.size=none:=I2.hok.fresh (cN _);obtain⟨W,⟨m0,w0⟩,turn⟩:=hR _ fD;have kp:∀ b o,h3.get? b=some o->h₁.get? b=some o:=fun b o e=>hsb₁.extBut b o (dB (cS e)) (cL _ e);have fp2:∀ b∈fp,b<s₂.heap.objs.size:=fun b hb=>by
  obtain⟨o,e,_⟩:=Tn.obj _ _ st2 b hb;exact cS e
 -- the block's context
 have CK:∀ x c,(zBU sc X.env).lookup x=some c->X.env.cells.lookup x=some c:=fun x c e=>zAl e;have nofs:∀ {b:Addr},h3.objs.size<=b->b∉frs X.stack:=fun {b} hb z=>by
  rcases db.mp (I3.stkSub b z) with e | z
  ·exact absurd (cO I3.lt (show h3.objs.size<=X.env.locals by rw[<-e];exact hb)) (dZ _)
  ·exact I3.nofs (a:=b) hb z
 have fpS:∀ b∈fp,b∉frs X.stack:=fun b hb z=>by
  rcases db.mp (I3.stkSub b z) with e | z
  ·exact(f2 b hb).2.1 e
  ·exact(f2 b hb).2.2.1 z
 have fpD:∀ b∈fp,wo H1 s₂.heap.objs.size (.lst []) b=none:=fun b hb=>by rw[yC (dB (fp2 b hb))];exact(f2 b hb).1
 have pinS:∀ p∈X.pn++pins,p.1∉frs X.stack:=fun p hp z=>by
  obtain⟨_,_,n1,n2,_⟩:=I3.pin p hp;rcases db.mp (I3.stkSub p.1 z) with e | z
  ·exact n1 e
  ·exact n2 z
 let X':=X.comp (N0++own) sc h3.objs.size { s₂ with heap:=h3 } (wo H1 s₂.heap.objs.size (.lst [])) fp pins;have cells':∀ x,(X'.env.kindOf x=some .cell\/X'.env.kindOf x=some .free)->sc.names.lookup x=some .free:=fun x hx=>zA1 T.cell hx;have hfree:∀ y∈sc.names,y.2=.free->∃ c,X.env.cells.lookup y.1=some c:=fun y hy hf=>I2.ok.has _ (T.cap y hy hf);have ok':X'.Ok:=by
  refine⟨I3.ok.mod,?_,I3.ok.glob,I3.ok.blt,cN _,fun x y c e1 e2=>I3.ok.inj x y c (CK _ _ e1) (CK _ _ e2),fun x hx=>?_,fun x c z=>(by cases z),I3.ok.hd,I3.ok.frames,.inl rfl,fun b hb=>⟨?_,fun x c e=>?_⟩,I3.bs,dC I3.ok.bsz I3.sz,fun b o e hb=>?_,fpS,I3.stack,I3.stkFree,I3.tabs⟩
  ·exact T.kind
  ·have hx':=cells' x hx
   exact zCh hfree (.inr (PySem.mem_of_lookup hx'))
  ·exact dB (cO (fp2 b hb) (by show s₂.heap.objs.size<=h3.objs.size;rw[hC];exact Nat.le_succ _))
  ·exact(f2 b hb).2.2.2.2.1 x c (CK x c e)
  ·have:=(I3.bs b o e).1
   rcases(f2 b hb).2.2.2.1 with z | z
   ·exact I3.ok.noex b o e z
   ·have:=cO (cS e) I3.ok.bsz
    exact absurd (cO this z) (dZ _)
 have hlook:∀(i:Nat) (x:Str) (v:V),(N0++own)[i]?=some x->(σ++cK own.length none)[i]?=some (some v)->Vis (relabel sc X.env) x->∃ c u,RelV v u/\X'.env.cells.lookup x=some c/\(X'.env.kindOf x=some .cell\/X'.env.kindOf x=some .free)/\h3.IsCell c (some u):=by
  intro i x v e1 e2 e3;have hi:i<σ.length:=by
   by_cases hi:i<σ.length
   ·exact hi
   ·rw[dX (by omega),eF] at e2
    split at e2<;>cases e2
  have e2':σ[i]?=some (some v):=by rw[dI hi] at e2;exact e2
  have hi0:i<N0.length:=by rw[T.len,<-I3.len];exact hi
  have e1':N0[i]?=some x:=by rw[dI hi0] at e1;exact e1
  obtain⟨n1,n2⟩:=T.vis i x e1' e3;have cp:=T.cap _ (PySem.mem_of_lookup n2) rfl;obtain⟨m,hn,hl⟩:=I3.loc;have vis:Vis X.env.scope x:=by
   rcases cp with z | z
   ·exact .inr (.inl z)
   ·exact .inr (.inr z)
  obtain⟨u,r,l⟩:=hl i x v n1 e2' vis;obtain⟨c',hc'⟩:=zCh (env:=X.env) (ns:=sc.names) (cs:=[]) (x:=x) hfree (.inr (PySem.mem_of_lookup n2));have hc2:(zBU sc X.env).lookup x=some c':=hc';rcases l with ⟨z,_⟩ | ⟨_,c,e,q⟩
  ·rcases cp with z' | z'<;>(rw[z] at z';cases z')
  ·have:c=c':=by
    have:=CK _ _ hc2;rw[e] at this;exact Option.some.inj this
   subst this;refine⟨c,u,r,hc2,?_,q⟩;rcases e3 with z | z | z
   ·exfalso
    have:=lookup_relabel_local (env:=X.env) (names:=sc.names) (x:=x)
    -- a free name is not relabelled local
    have nl:∀ {names:List (Str×NameKind)},names.lookup x=some .free->(names.map fun(n,k)=>if (k==NameKind.free&&X.env.scope.kind==.function&&X.env.kindOf n==some .cell) then (n,NameKind.cell) else (n,k)).lookup x≠some .local:=by
     intro names
     induction names with
     | nil=>intro h;simp at h
     | cons p r ih =>
      obtain⟨n,k⟩:=p;intro h;show List.lookup x ((if (k==NameKind.free&&X.env.scope.kind==.function&&X.env.kindOf n==some .cell)=true then (n,NameKind.cell) else (n,k))::_)≠_;cases hx:x==n with
      | true =>
       simp only[dk,hx] at h;cases h;by_cases hq:(NameKind.free==NameKind.free&&X.env.scope.kind==.function&&X.env.kindOf n==some .cell)=true
       ·rw[if_pos hq];simp[dk,hx]
       ·rw[if_neg hq];simp[dk,hx]
      | false =>
       simp only[dk,hx] at h;by_cases hq:(k==NameKind.free&&X.env.scope.kind==.function&&X.env.kindOf n==some .cell)=true
       ·rw[if_pos hq];simp only[dk,hx];exact ih h
       ·rw[if_neg hq];simp only[dk,hx];exact ih h
    exact nl n2 z
   ·exact .inl z
   ·exact .inr z
 have σl:(σ++cK own.length none).length=(N0++own).length:=by
  rw[cZ,cZ,List.length_replicate,T.len,<-I3.len]
 have I4:zT X' [] (σ++cK own.length none) (wo H1 s₂.heap.objs.size (.lst [])) { s₂ with heap:=h₁,toks:=s₂.toks+([]:List (Str×Value)).length }:=by
  refine⟨ok',rfl,I3.bare,Un.kept kp,⟨_,hns₁,fun i x v e1 e2 e3=>?_⟩,fun x c e=>?_,I3.hok.fresh (cN _),fun x c e=>I3.freeC x c (CK x c e),fun p hp=>?_,I3.hok.kept kp,σl⟩
  ·obtain⟨c,u,r,q1,q2,q3⟩:=hlook i x v e1 e2 e3
   obtain⟨o,ho,hd⟩:=q3;exact⟨u,r,.inr ⟨q2,c,q1,o,kp c o ho,hd⟩⟩
  ·obtain⟨v,o,ho,hd⟩:=I3.cell x c (CK x c e)
   exact⟨v,o,kp c o ho,hd⟩
  ·have hp':p∈X.pn++pins:=by
    have:p∈(X.pn++pins)++[]:=hp;simpa using this
   obtain⟨e,n,ne,nf,d⟩:=I3.pin p hp';exact⟨kp _ _ e,n,dB (cS e),pinS p hp',d⟩
 have fpX:∀ {H:Hp},(∀ b∈fp,H b=none)->∀ b∈fp,zDA X' [] H b:=fun {H} hn b hb=>by
  refine⟨hn b hb,(ok'.exf b hb).1,fpS b hb,.inl hb,(ok'.exf b hb).2,fun p hp=>?_⟩;have hp':p∈X.pn++pins:=by
   have:p∈(X.pn++pins)++[]:=hp;simpa using this
  exact(f2 b hb).2.2.2.2.2 p hp'
 have st4:tn 0 h₁:=Tn.keep 0 s₂.heap h₁ st2 fun b hb o e=>kp b o (hH2▸cL _ e)
 -- back to the context around
 have back:∀ {σ':St} {H':Hp} {s':Shared},zT X' [] σ' H' s'->zT X pins σ H' s'/\zDA X pins H' h3.objs.size/\∃ m,s'.heap.Ns h3.objs.size m:=fun {σ' H' s'} J=>by
  have u:Un (frs X.stack) fp (wo H1 s₂.heap.objs.size (.lst [])) H' h3 s'.heap:=J.base;have J3:zT X pins σ H' s':=I3.call' J.os u J.hok J.bare fun b hb=>⟨(f2 b hb).2.2.2.1,(f2 b hb).2.1,(f2 b hb).2.2.2.2.1,(f2 b hb).2.2.2.2.2⟩
  obtain⟨m,hn,_⟩:=J.loc;refine⟨J3,?_,m,hn⟩;refine⟨J.free,Nat.ne_of_gt I3.lt,I3.nofs (cN _),.inr I3.sz,fun x c e z=>?_,fun p hp z=>?_⟩
  ·obtain⟨v,q⟩:=I3.cell x c e
   exact absurd (cO q.lt (by rw[z];exact cN _)) (dZ _)
  ·exact absurd (cO (cS (I3.pin p hp).1) (by rw[z];exact cN _)) (dZ _)
 have loop:∀ s₅:Shared,s₅={ s₂ with heap:=h₁,toks:=s₂.toks+([]:List (Str×Value)).length } ->
   codeAny (model X.prog X.w) X.A (.compLoop (.ListComp elt [⟨tg,iter,ifs,0⟩] sc pos) 0 (.ref it) (.ref s₂.heap.objs.size) X'.env)
    (fun r s'=>∃ D H' m,r=.ok .next/\Value.ref s₂.heap.objs.size=.ref D/\zT X pins σ H' s'/\zDA X pins H' h3.objs.size/\s'.heap.Ns h3.objs.size m/\Q (.ref D) H') s₅:=by
  rintro s₅ rfl;exact eE (zI3 (X':=X') (Z:=fun H' s'=>zT X pins σ H' s'/\zDA X pins H' h3.objs.size/\∃ m,s'.heap.Ns h3.objs.size m) hc (fun _ _ z=>z) Tn (hg _ _ _ _ _) (ht _ _ _ _ _) (he _ _ _ _ _) turn fpX back I4 st4 fpD w0) fun r s' ⟨H',e,⟨b1,b2,m,b3⟩,q⟩=>⟨_,H',m,e,rfl,b1,b2,b3,q⟩
 exact codeAny_compStart_list (loop _ rfl) (Tn.self _ 0 _ _ _ st4 (loop _ rfl))
theorem zH7(hc:X.calm=true)(T:zCc X sc N0)(hi:PI X tg iter wi)
  (hg:∀ C s H fp pins,PG (X.comp (N0++own) sc C s H fp pins) tg g) (ht:∀ C s H fp pins,PTs (X.comp (N0++own) sc C s H fp pins) ifs tc) (he:∀ C s H fp pins,PE (X.comp (N0++own) sc C s H fp pins) elt te)
  (hs:autoParam (∀ x,foldedSetIterable iter X.env x=pure x) Zq3._auto_1):PE X (.ListComp elt [⟨tg,iter,ifs,0⟩] sc pos) (zKE own.length wi g tc te):=by
 intro pins s σ H Q I h;rw[eval_ListComp];refine wpAny_comprehension_free (use:=none) rfl hs (zAT fun y hy hf=>I.ok.has _ (T.cap y hy hf)) T.kind T.names ?_;refine yj (hi pins s σ H _ I h) fun xv s₁ h₁=>yj h₁ fun it s₂ h₂=>?_;refine yj (zDs (iter:=iter) (pos:=pos) (E:=X.xe) (Q:=Q) hc T hg ht he h₂) fun acc s₃ h₃=>yj h₃ fun cenv s₄ h₄=>eE h₄ fun r s' hr=>?_;obtain⟨D,H',m,rfl,rfl,J,f,hn,q⟩:=hr;refine⟨m,hn,fun h' hs'=>⟨.ref D,H',?_,rfl,q⟩⟩;exact J.turned (t':=s'.toks) (fun b o hb e=>(hs'.2 b hb).trans e) f.1 f.2.1 f.2.2.2.1 f.2.2.2.2.1 f.2.2.2.2.2
theorem zDt{i:Nat}{y:Str}{py spos:Pos}(hc:X.calm=true)(T:zCc X sc N0)(hi:PI X tg iter wi)
  (hg:∀ C s H fp pins,PG (X.comp (N0++own) sc C s H fp pins) tg g) (ht:∀ C s H fp pins,PTs (X.comp (N0++own) sc C s H fp pins) ifs tc) (he:∀ C s H fp pins,PE (X.comp (N0++own) sc C s H fp pins) elt te)
  (hN:X.N.Nodup) (hy:X.N[i]?=some y) (hl:X.env.scope.names.lookup y=some .local)
  (hsw:swapsWith (.ListComp elt [⟨tg,iter,ifs,0⟩] sc pos) (some (.Name y py)) spos.line X.env=pure true)
  (hs:autoParam (∀ x,foldedSetIterable iter X.env x=pure x) Zq3._auto_1):PS X (.Assign [.Name y py] (.ListComp elt [⟨tg,iter,ifs,0⟩] sc pos) spos) (fun D σ H=>zKE own.length wi g tc te σ H fun v H1=>D.nx (σ.set i (some v)) H1):=by
 intro pins s σ H D I h;rw[exec_Assign_Name_used _ _ _ _ hsw];refine cT (wpAny_standAt (cT ?_));show wpAny _ X.A (do let _ <-comprehension (.ListComp elt [⟨tg,iter,ifs,0⟩] sc pos) sc X.env _ (newList []) false (eval iter X.env) (some (assign (.Name y py) X.env))) _ _ s;refine cT (dP (wpAny_comprehension_free (use:=some (assign (.Name y py) X.env)) (Q:=fun _ s'=>SP X pins D .next s') rfl hs (zAT fun y hy hf=>I.ok.has _ (T.cap y hy hf)) T.kind T.names
  (yj (hi pins s σ H _ I h) fun xv s₁ h₁=>yj h₁ fun it s₂ h₂=>?_)) (fun _ s' hq=>dA (dA hq)) fun _ _ e=>e)
 refine yj (zDs (iter:=iter) (pos:=pos) (E:=X.xe) (Q:=fun v H1=>D.nx (σ.set i (some v)) H1) hc T hg ht he h₂) fun acc s₃ h₃=>yj h₃ fun cenv s₄ h₄=>eE h₄ fun r s' hr=>?_;obtain⟨A,H',m,rfl,rfl,J,f,hn,q⟩:=hr;show wpAny _ X.A (assign (.Name y py) X.env (.ref A)) _ _ _;refine wpAny_assign_Name (zEh J hN hy (.inl hl) (v:=.ref A) rfl (fun s'' J' ⟨a,sb,ha⟩=>?_) (.inr hl));have hCa:cenv.locals≠a:=by
  rcases ha with z | z
  ·rw[z];exact f.2.1
  ·exact fun e=>f.2.2.2.2.1 y a z e.symm
 refine⟨m,hn.sameBut sb hCa,fun h' hs'=>⟨_,H',?_,q⟩⟩;exact J'.turned (t':=s''.toks) (fun b o hb e=>(hs'.2 b hb).trans e) f.1 f.2.1 f.2.2.2.1 f.2.2.2.2.1 f.2.2.2.2.2
end
end L2
namespace L3
open L2
set_option genInjectivity true in
inductive D where
 | non | bl (b:Bool) | int (i:Int) | str (x:Str) | tup (ds:List D) | adr (a:Addr) | dic (a:Addr)
mutual
noncomputable def zO(K:PySem.W.Frag)(H:Hp):D->V->Prop
 | .non,v=>v=V.non
 | .bl b,v=>v=V.bl b
 | .int i,v=>v=V.int i
 | .str x,v=>v=V.str x
 | .adr a,v=>v=V.ref a
 | .dic a,v=>v=V.ref a/\∃ o x,H a=some (.frz o (.own x))/\o.cls=.type "dict"
 | .tup ds,v=>∃ a xs,v=V.ref a/\SqT K H a xs/\Dens K H ds xs
noncomputable def Dens(K:PySem.W.Frag)(H:Hp):List D->List V->Prop
 | [],xs=>xs=[]
 | d::ds,xs=>∃ x r,xs=x::r/\zO K H d x/\Dens K H ds r
end
structure Gp where
 m:Addr->Option (List D)
 ro:Addr->Option (List D)
noncomputable def zQ(G:Gp)(a:Addr)(o:List D):Gp:={ G with m:=fun b=>if b=a then some o else G.m b }
theorem zJ{G:Gp}{a:Addr}{o:List D}:(zQ G a o).m a=some o:=if_pos rfl
theorem zV{G:Gp}{a b:Addr}{o:List D}(h:b≠a):(zQ G a o).m b=G.m b:=if_neg h
theorem zBI{G:Gp}{a:Addr}{o u:List D}:zQ (zQ G a o) a u=zQ G a u:=by
 unfold zQ;congr 1;funext b;by_cases h:b=a
 ·simp only[if_pos h]
 ·simp only[if_neg h]
theorem gne{G:Gp}{a b:Addr}{o:List D}(h:G.m a=some o)(h':G.m b=none):a≠b:=fun e=>by rw[e,h'] at h;cases h
structure Sub (G G':Gp):Prop where
 m:∀ a o,G.m a=some o->G'.m a=some o
 ro:∀ a o,G.ro a=some o->G'.ro a=some o
theorem Sub.refl(G:Gp):Sub G G:=⟨fun _ _ h=>h,fun _ _ h=>h⟩
theorem Sub.trans{G G1 G2:Gp}(h:Sub G G1)(h':Sub G1 G2):Sub G G2:=⟨fun a o e=>h'.m a o (h.m a o e),fun a o e=>h'.ro a o (h.ro a o e)⟩
theorem Sub.new{G:Gp}{p:Addr}{o:List D}(h:G.m p=none):Sub G (zQ G p o):=⟨fun a u e=>by rw[zV (gne e h)];exact e,fun _ _ e=>e⟩
noncomputable def Ls(G:Gp)(a:Addr)(ds:List D):Prop:=G.m a=some ds\/G.ro a=some ds
theorem Ls.sub{G G':Gp}{a:Addr}{ds:List D}(h:Ls G a ds)(s:Sub G G'):Ls G' a ds:=by
 rcases h with h | h
 ·exact .inl (s.m a ds h)
 ·exact .inr (s.ro a ds h)
theorem Ls.own{G:Gp}{a:Addr}{ds:List D}:Ls (zQ G a ds) a ds:=.inl zJ
noncomputable def RoL(K:PySem.W.Frag)(H:Hp)(a:Addr)(xs:List V):Prop :=
 (∃ o,H a=some (.frz o (.lst xs)))\/∃(o:Obj) (its:Array Value) (n:Nat),K.lookup a=some o/\o.cls=.type "list"/\o.dict=none/\o.data=.seq its n/\its.size<=sizeLine/\zc xs its.toList
theorem RoL.sq{K:PySem.W.Frag}{H:Hp}{a:Addr}{xs:List V}(h:RoL K H a xs):SqL K H a xs:=by
 rcases h with h | h
 ·exact .inl (.inr h)
 ·exact .inr h
structure zt (K:PySem.W.Frag) (G:Gp) (H:Hp):Prop where
 m:∀ a ds,G.m a=some ds->∃ xs,H a=some (.lst xs)/\Dens K H ds xs
 ro:∀ a ds,G.ro a=some ds->∃ xs,RoL K H a xs/\Dens K H ds xs
structure zp (H H':Hp):Prop where
 tups:∀ a xs,H a=some (.tup xs)->H' a=some (.tup xs)
 frzs:∀ a o u,H a=some (.frz o u)->H' a=some (.frz o u)
section
variable {K:PySem.W.Frag} {H H' H'':Hp} {G G':Gp}
theorem zp.refl(H:Hp):zp H H:=⟨fun _ _ h=>h,fun _ _ _ h=>h⟩
theorem zp.trans(a:zp H H')(b:zp H' H''):zp H H'':=⟨fun c xs h=>b.tups c xs (a.tups c xs h),fun c o u h=>b.frzs c o u (a.frzs c o u h)⟩
theorem zp.fresh{p:Addr}{o:HO}(h:H p=none):zp H (wo H p o):=⟨fun a xs e=>by rw[yC (yZ e h)];exact e,fun a o u e=>by rw[yC (yZ e h)];exact e⟩
theorem zp.lst{p:Addr}{xs:List V}{o:HO}(h:H p=some (.lst xs)):zp H (wo H p o) :=
 ⟨fun a ys e=>by rw[yC (zNV e h (by intro z;cases z))];exact e,fun a o u e=>by rw[yC (zNV e h (by intro z;cases z))];exact e⟩
theorem zp.sqT(g:zp H H'){a:Addr}{xs:List V}(h:SqT K H a xs):SqT K H' a xs:=by
 rcases h with (h | ⟨o,h⟩) | h
 ·exact .inl (.inl (g.tups _ _ h))
 ·exact .inl (.inr ⟨o,g.frzs _ _ _ h⟩)
 ·exact .inr h
theorem zp.roL(g:zp H H'){a:Addr}{xs:List V}(h:RoL K H a xs):RoL K H' a xs:=by
 rcases h with ⟨o,h⟩ | h
 ·exact .inl ⟨o,g.frzs _ _ _ h⟩
 ·exact .inr h
mutual
theorem zO.grow(g:zp H H'):∀ {d:D} {v:V},zO K H d v->zO K H' d v
 | .non,_,h=>by unfold zO at h ⊢;exact h
 | .bl _,_,h=>by unfold zO at h ⊢;exact h
 | .int _,_,h=>by unfold zO at h ⊢;exact h
 | .str _,_,h=>by unfold zO at h ⊢;exact h
 | .adr _,_,h=>by unfold zO at h ⊢;exact h
 | .dic _,_,h=>by unfold zO at h ⊢;obtain⟨e,o,x,q,c⟩:=h;exact⟨e,o,x,g.frzs _ _ _ q,c⟩
 | .tup ds,v,h=>by
  unfold zO at h ⊢;obtain⟨a,xs,e,s,r⟩:=h;exact⟨a,xs,e,g.sqT s,Dens.grow g r⟩
theorem Dens.grow(g:zp H H'):∀ {ds:List D} {xs:List V},Dens K H ds xs->Dens K H' ds xs
 | [],_,h=>by unfold Dens at h ⊢;exact h
 | d::ds,xs,h=>by
  unfold Dens at h ⊢;obtain⟨x,r,e,h1,h2⟩:=h;exact⟨x,r,e,zO.grow g h1,Dens.grow g h2⟩
end
theorem Dens.length:∀ {ds:List D} {xs:List V},Dens K H ds xs->ds.length=xs.length
 | [],xs,h=>by unfold Dens at h;rw[h];rfl
 | d::ds,xs,h=>by
  unfold Dens at h;obtain⟨x,r,rfl,_,h2⟩:=h;simp[Dens.length h2]
theorem Dens.get:∀ {ds:List D} {xs:List V} {i:Nat} {d:D},Dens K H ds xs->ds[i]?=some d->∃ x,xs[i]?=some x/\zO K H d x
 | [],_,_,_,_,e=>by simp at e
 | d::ds,xs,0,d',h,e=>by
  unfold Dens at h;obtain⟨x,r,rfl,h1,_⟩:=h;simp at e;subst e;exact⟨x,rfl,h1⟩
 | d::ds,xs,i+1,d',h,e=>by
  unfold Dens at h;obtain⟨x,r,rfl,_,h2⟩:=h;obtain⟨y,e1,e2⟩:=Dens.get (i:=i) (d:=d') h2 (by simpa using e);exact⟨y,by simpa using e1,e2⟩
theorem Dens.got:∀ {ds:List D} {xs:List V} {i:Nat} {x:V},Dens K H ds xs->xs[i]?=some x->∃ d,ds[i]?=some d/\zO K H d x
 | ds,xs,i,x,h,e=>by
  have hl:=h.length;have hi:i<ds.length:=by rw[hl];exact(cJ.mp e).1
  obtain⟨y,e1,e2⟩:=h.get (i:=i) (d:=ds[i]) (by simp[hi]);rw[e] at e1;cases e1;exact⟨ds[i],by simp[hi],e2⟩
theorem Dens.nil:Dens K H [] []:=by unfold Dens;rfl
theorem Dens.cons{d:D}{ds:List D}{x:V}{xs:List V}(h:zO K H d x)(h':Dens K H ds xs):Dens K H (d::ds) (x::xs):=by unfold Dens;exact⟨x,xs,rfl,h,h'⟩
theorem Dens.append:∀ {ds es:List D} {xs ys:List V},Dens K H ds xs->Dens K H es ys->Dens K H (ds++es) (xs++ys)
 | [],_,xs,_,h,h'=>by unfold Dens at h;rw[h];exact h'
 | d::ds,_,xs,_,h,h'=>by
  unfold Dens at h;obtain⟨x,r,rfl,h1,h2⟩:=h;exact Dens.cons h1 (Dens.append h2 h')
theorem Dens.of_get:∀ {ds:List D} {xs:List V},ds.length=xs.length->(∀(i:Nat) d x,ds[i]?=some d->xs[i]?=some x->zO K H d x)->Dens K H ds xs
 | [],[],_,_=>.nil
 | [],_::_,h,_=>by simp at h
 | _::_,[],h,_=>by simp at h
 | d::ds,x::xs,h,g=>.cons (g 0 d x rfl rfl) (Dens.of_get (by simpa using h) fun i d' x' e1 e2=>g (i+1) d' x' (by simpa using e1) (by simpa using e2))
theorem Dens.take{n:Nat}{ds:List D}{xs:List V}(h:Dens K H ds xs):Dens K H (ds.take n) (xs.take n) :=
 .of_get (by simp[h.length]) fun i d x e1 e2=>by
  rw[List.getElem?_take] at e1 e2;split at e1
  ·rename_i hi
   rw[if_pos hi] at e2;obtain⟨y,e,r⟩:=h.get e1;rw[e2] at e;cases e;exact r
  ·cases e1
theorem Dens.drop{n:Nat}{ds:List D}{xs:List V}(h:Dens K H ds xs):Dens K H (ds.drop n) (xs.drop n) :=
 .of_get (by simp[h.length]) fun i d x e1 e2=>by
  rw[List.getElem?_drop] at e1 e2;obtain⟨y,e,r⟩:=h.get e1;rw[e2] at e;cases e;exact r
theorem Dens.set{ds:List D}{xs:List V}{d:D}{x:V}(i:Nat)(h:Dens K H ds xs)(hd:zO K H d x):Dens K H (ds.set i d) (xs.set i x) :=
 .of_get (by simp[h.length]) fun j d' x' e1 e2=>by
  by_cases hj:i=j
  ·subst hj
   have hi:i<ds.length:=by
    have:=(cJ.mp e1).1;simpa using this
   rw[dD hi] at e1;rw[dD (by rw[<-h.length];exact hi)] at e2;cases e1;cases e2;exact hd
  ·rw[dO hj] at e1 e2
   obtain⟨y,e,r⟩:=h.get e1;rw[e2] at e;cases e;exact r
theorem Dens.eraseIdx:∀ {ds:List D} {xs:List V} (i:Nat),Dens K H ds xs->Dens K H (ds.eraseIdx i) (xs.eraseIdx i)
 | [],xs,i,h=>by unfold Dens at h;subst h;exact .nil
 | d::ds,xs,0,h=>by
  unfold Dens at h;obtain⟨x,r,rfl,h1,h2⟩:=h;exact h2
 | d::ds,xs,i+1,h=>by
  unfold Dens at h;obtain⟨x,r,rfl,h1,h2⟩:=h;exact .cons h1 (Dens.eraseIdx i h2)
theorem Dens.ints(ns:List Int):Dens K H (ns.map D.int) (ns.map V.int):=by
 induction ns with
 | nil=>exact .nil
 | cons n r ih=>exact .cons (by unfold zO;rfl) ih
theorem zt.fresh{p:Addr}{o:HO}(h:H p=none)(r:zt K G H):zt K G (wo H p o) :=
  ⟨fun a ds e=>by
    obtain⟨xs,e1,e2⟩:=r.m a ds e;exact⟨xs,by rw[yC (yZ e1 h)];exact e1,e2.grow (.fresh h)⟩,
   fun a ds e=>by
    obtain⟨xs,e1,e2⟩:=r.ro a ds e;exact⟨xs,(zp.fresh h).roL e1,e2.grow (.fresh h)⟩⟩
theorem zt.free{p:Addr}(r:zt K G H)(h:H p=none):G.m p=none:=by
 cases q:G.m p with
 | none=>rfl
 | some ds=>obtain⟨xs,e1,_⟩:=r.m p _ q;rw[h] at e1;cases e1
theorem zt.own{l:Addr}{ds:List D}{xs:List V}(r:zt K G H)(e:H l=some (.lst xs))(d:Dens K H ds xs):zt K (zQ G l ds) H :=
  ⟨fun b u q=>by
    by_cases hb:b=l
    · subst hb;rw[zJ] at q;cases q;exact⟨xs,e,d⟩
    · rw[zV hb] at q;exact r.m b u q,
   r.ro⟩
theorem zt.new{p:Addr}{ds:List D}{xs:List V}(h:H p=none)(r:zt K G H)(d:Dens K H ds xs):zt K (zQ G p ds) (wo H p (.lst xs)) :=
 (r.fresh h).own zm (d.grow (.fresh h))
theorem zt.put{p:Addr}{ds':List D}{xs xs':List V}(h:H p=some (.lst xs))(r:zt K G H)(d:Dens K H ds' xs'):zt K (zQ G p ds') (wo H p (.lst xs')) :=
  ⟨fun a u e=>by
    by_cases ha:a=p
    · subst ha
      rw[zJ] at e;cases e;exact⟨xs',zm,d.grow (.lst h)⟩
    · rw[zV ha] at e
      obtain⟨ys,e1,e2⟩:=r.m a u e;exact⟨ys,by rw[yC ha];exact e1,e2.grow (.lst h)⟩,
   fun a u e=>by
    obtain⟨ys,e1,e2⟩:=r.ro a u e;exact⟨ys,(zp.lst h).roL e1,e2.grow (.lst h)⟩⟩
theorem zt.sub(s:Sub G G')(r:zt K G' H):zt K G H:=⟨fun a u e=>r.m a u (s.m a u e),fun a u e=>r.ro a u (s.ro a u e)⟩
theorem zt.sq{a:Addr}{ds:List D}(r:zt K G H)(e:Ls G a ds):∃ xs,SqL K H a xs/\Dens K H ds xs:=by
 rcases e with e | e
 ·obtain⟨xs,e1,e2⟩:=r.m a _ e
  exact⟨xs,.of e1,e2⟩
 ·obtain⟨xs,e1,e2⟩:=r.ro a _ e
  exact⟨xs,e1.sq,e2⟩
end
noncomputable abbrev S2:=List (Option D)
noncomputable abbrev zf:=S2->Gp->(D->Gp->Prop)->Prop
noncomputable abbrev TT2:=S2->Gp->(Bool->Gp->Prop)->Prop
noncomputable abbrev wE:=S2->Gp->(List D->Gp->Prop)->Prop
structure yr where
 nx:S2->Gp->Prop
 rt:D->Gp->Prop
 bk:S2->Gp->Prop:=fun _ _=>False
 ct:S2->Gp->Prop:=fun _ _=>False
noncomputable abbrev wP:=yr->S2->Gp->Prop
noncomputable def look:S2->Nat->Option D
 | [],_=>none
 | o::_,0=>o
 | _::r,i+1=>look r i
theorem zCi:∀ {σ:S2} {i:Nat} {d:D},look σ i=some d->σ[i]?=some (some d)
 | [],_,_,e=>by cases e
 | o::_,0,d,e=>by simp[look] at e;simp[e]
 | _::r,i+1,d,e=>by simpa using zCi (σ:=r) (i:=i) (d:=d) e
structure Rel (K:PySem.W.Frag) (σ:S2) (G:Gp) (σ1:L2.St) (H:Hp):Prop where
 g:zt K G H
 len:σ.length=σ1.length
 val:∀(i:Nat) d,σ[i]?=some (some d)->∃ v,σ1[i]?=some (some v)/\zO K H d v
theorem Rel.to{K:PySem.W.Frag}{σ:S2}{G G':Gp}{σ1:L2.St}{H H':Hp}(r:Rel K σ G σ1 H)(g:zp H H')(r':zt K G' H'):Rel K σ G' σ1 H' :=
 ⟨r',r.len,fun i d e=>by obtain⟨v,e1,e2⟩:=r.val i d e;exact⟨v,e1,e2.grow g⟩⟩
theorem Rel.set{K:PySem.W.Frag}{σ:S2}{G:Gp}{σ1:L2.St}{H:Hp}(r:Rel K σ G σ1 H)(i:Nat){d:D}{v:V}(h:zO K H d v):Rel K (σ.set i (some d)) G (σ1.set i (some v)) H :=
 ⟨r.g,by simp[r.len],fun j d' e=>by
  by_cases hj:i=j
  ·subst hj
   have hi:i<σ.length:=by
    have:=(cJ.mp e).1;simpa using this
   rw[dD hi] at e;cases e;exact⟨v,by rw[dD (by rw[<-r.len];exact hi)],h⟩
  ·rw[dO hj] at e
   obtain⟨u,e1,e2⟩:=r.val j d' e;exact⟨u,by rw[dO hj];exact e1,e2⟩⟩
noncomputable def lE(K:PySem.W.Frag)(t:zf):TE:=fun σ1 H Q=>∃ σ G R,Rel K σ G σ1 H/\t σ G R/\∀ d G',R d G'->∀ v H',zp H H'->zt K G' H'->zO K H' d v->Q v H'
noncomputable def lT(K:PySem.W.Frag)(t:TT2):TT:=fun σ1 H Q=>∃ σ G R,Rel K σ G σ1 H/\t σ G R/\∀ b G',R b G'->∀ H',zp H H'->zt K G' H'->Q b H'
noncomputable def lA(K:PySem.W.Frag)(t:wE):TA:=fun σ1 H Q=>∃ σ G R,Rel K σ G σ1 H/\t σ G R/\∀ ds G',R ds G'->∀ vs H',zp H H'->zt K G' H'->Dens K H' ds vs->Q vs H'
structure ER (K:PySem.W.Frag) (H:Hp) (D2:yr) (E:Ends):Prop where
 nx:∀ σ G,D2.nx σ G->∀ σ1 H',zp H H'->Rel K σ G σ1 H'->E.nx σ1 H'
 bk:∀ σ G,D2.bk σ G->∀ σ1 H',zp H H'->Rel K σ G σ1 H'->E.bk σ1 H'
 ct:∀ σ G,D2.ct σ G->∀ σ1 H',zp H H'->Rel K σ G σ1 H'->E.ct σ1 H'
 rt:∀ d G,D2.rt d G->∀ v H',zp H H'->zt K G H'->zO K H' d v->E.rt v H'
theorem ER.to{K:PySem.W.Frag}{H H':Hp}{D2:yr}{E:Ends}(e:ER K H D2 E)(g:zp H H'):ER K H' D2 E :=
 ⟨fun σ G h σ1 H1 g1=>e.nx σ G h σ1 H1 (g.trans g1),fun σ G h σ1 H1 g1=>e.bk σ G h σ1 H1 (g.trans g1),fun σ G h σ1 H1 g1=>e.ct σ G h σ1 H1 (g.trans g1),fun d G h v H1 g1=>e.rt d G h v H1 (g.trans g1)⟩
noncomputable def lS(K:PySem.W.Frag)(t:wP):TS:=fun E σ1 H=>∃ σ G D2,Rel K σ G σ1 H/\t D2 σ G/\ER K H D2 E
noncomputable def E2(X:Cx)(e:Expr)(t:zf):Prop:=PE X e (lE X.K t)
noncomputable def T2(X:Cx)(e:Expr)(t:TT2):Prop:=PT X e (lT X.K t)
noncomputable def A2(X:Cx)(es:List Expr)(t:wE):Prop:=PA X es (lA X.K t)
noncomputable def P2(X:Cx)(st:Stmt)(t:wP):Prop:=PS X st (lS X.K t)
noncomputable def Ps2(X:Cx)(st:List Stmt)(t:wP):Prop:=PSs X st (lS X.K t)
section
variable {X:Cx} {a b c e o:Expr} {es:List Expr} {pos p:Pos} {ta tb tc te:zf}
noncomputable def zC(i:Nat):zf:=fun σ G R=>match look σ i with | some d=>R d G | none=>False
noncomputable def xC(d:D):zf:=fun _ G R=>R d G
theorem zD(i:Nat){x:Str}(hN:autoParam (X.N[i]?=some x) Zq4._auto_1)(hv:autoParam (Vis X.env.scope x) Zq6._auto_1)(hd:autoParam ((x==("__debug__":Str))=false) Zq2._auto_1)
  (hcd:autoParam ((x==("__classdict__":Str))=false) Zq2._auto_1):E2 X (.Name x pos) (zC i):=by
 refine PE.mono (zG1 hN hv hd hcd) ?_;rintro σ1 H Q ⟨σ,G,R,r,t,k⟩;unfold zC at t;cases q:look σ i with
 | none=>rw[q] at t;exact t.elim
 | some d =>
  rw[q] at t;obtain⟨v,e1,e2⟩:=r.val i d (zCi q);exact⟨v,e1,k d G t v H (.refl H) r.g e2⟩
theorem zL{i j}:E2 X (.Constant (.int i) j pos) (xC (.int i)):=by
 refine PE.mono zN1 ?_;rintro σ1 H Q ⟨σ,G,R,r,t,k⟩;exact k _ G t _ H (.refl H) r.g (by unfold zO;rfl)
theorem zCj{i j}:E2 X (.Constant (.bool i) j pos) (xC (.bl i)):=by
 refine PE.mono zPS ?_;rintro σ1 H Q ⟨σ,G,R,r,t,k⟩;exact k _ G t _ H (.refl H) r.g (by unfold zO;rfl)
theorem yO{i j}:E2 X (.Constant (.str i) j pos) (xC (.str i)):=by
 refine PE.mono zG2 ?_;rintro σ1 H Q ⟨σ,G,R,r,t,k⟩;exact k _ G t _ H (.refl H) r.g (by unfold zO;rfl)
theorem zCQ{j}:E2 X (.Constant .none j pos) (xC .non):=by
 refine PE.mono zJv ?_;rintro σ1 H Q ⟨σ,G,R,r,t,k⟩;exact k _ G t _ H (.refl H) r.g (by unfold zO;rfl)
noncomputable abbrev Q2:=D->Gp->Prop
noncomputable def Fit(K:PySem.W.Frag)(r:R2)(f:D->D->Gp->Q2->Prop):Prop :=
 ∀ dx dy G R x y H Q,f dx dy G R->zt K G H->zO K H dx x->zO K H dy y->(∀ d G',R d G'->∀ v H',zp H H'->zt K G' H'->zO K H' d v->Q v H')->r x y H Q
noncomputable def zS(f:D->D->Gp->Q2->Prop)(ta tb:zf):zf:=fun σ G R=>ta σ G fun x G1=>tb σ G1 fun y G2=>f x y G2 R
theorem zF9{K:PySem.W.Frag}{r:R2}{f:D->D->Gp->Q2->Prop}(hf:Fit K r f){σ1:L2.St}{H:Hp}{Q:VK}(h:lE K (zS f ta tb) σ1 H Q):tOp r (lE K ta) (lE K tb) σ1 H Q:=by
 obtain⟨σ,G,R,rl,t,k⟩:=h;refine⟨σ,G,_,rl,t,fun dx G1 t1 x H1 g1 r1 d1=>?_⟩;refine⟨σ,G1,_,rl.to g1 r1,t1,fun dy G2 t2 y H2 g2 r2 d2=>?_⟩;exact hf dx dy G2 R x y H2 Q t2 r2 (d1.grow g2) d2 fun d G' q v H' g' r' d'=>k d G' q v H' ((g1.trans g2).trans g') r' d'
theorem zHA{op:Operator}{r:R2}{f:D->D->Gp->Q2->Prop}(ho:OpR X (binaryOp op) r)(hf:Fit X.K r f)(ha:E2 X a ta)(hb:E2 X b tb):E2 X (.BinOp a op b pos) (zS f ta tb) :=
 PE.mono (zJz ho ha hb) fun σ1 H Q h=>zF9 hf h
theorem zNa{op:CmpOp}{r:R2}{f:D->D->Gp->Q2->Prop}(ho:OpR X (compareOp op) r)(hf:Fit X.K r f)(ha:E2 X a ta)(hb:E2 X b tb)(hm:behindInMarks op b=false):E2 X (.Compare a [op] [b] pos) (zS f ta tb) :=
 PE.mono (zL1 ho ha hb hm) fun σ1 H Q h=>zF9 hf h
noncomputable def xB(t:zf):TT2:=fun σ G R=>t σ G fun d G1=>match d with | .bl b=>R b G1 | _=>False
theorem zCk{op:CmpOp}{r:R2}{f:D->D->Gp->Q2->Prop}(ho:OpR X (compareOp op) r)(hf:Fit X.K r f)(ha:E2 X a ta)(hb:E2 X b tb)(hm:behindInMarks op b=false):T2 X (.Compare a [op] [b] pos) (xB (zS f ta tb)):=by
 refine PT.mono (zL2 ho ha hb hm) ?_;rintro σ1 H Q ⟨σ,G,R,rl,t,k⟩;refine zF9 hf ⟨σ,G,_,rl,t,fun d G' q v H' g' r' d'=>?_⟩;cases d with
 | bl b =>
  unfold zO at d';exact⟨b,d',k b G' q H' g' r'⟩
 | _=>exact q.elim
noncomputable def fII(g:Int->Int->D):D->D->Gp->Q2->Prop:=fun x y G R=>match x,y with | .int i,.int j=>R (g i j) G | _,_=>False
noncomputable def zKF:D->Bool
 | .tup _=>false
 | .adr _=>false
 | .dic _=>false
 | _=>true
noncomputable def vOf:D->V
 | .non=>.non | .bl b=>.bl b | .int i=>.int i | .str x=>.str x | .tup _=>.non | .adr a=>.ref a | .dic a=>.ref a
theorem zH8{K:PySem.W.Frag}{H:Hp}{d:D}(h:zKF d=true):zO K H d (vOf d):=by
 cases d<;>first | (cases h;done) | (unfold zO;rfl)
theorem zAq{K:PySem.W.Frag}{gv:Int->Int->V}{g:Int->Int->D}(hg:∀ i j,zKF (g i j)=true/\gv i j=vOf (g i j)):Fit K (rI0 gv) (fII g):=by
 intro dx dy G R x y H Q h r d1 d2 k;unfold fII at h;cases dx with
 | int i =>
  cases dy with
  | int j =>
   unfold zO at d1 d2;subst d1 d2;exact⟨i,j,rfl,rfl,k _ G h _ H (.refl H) r (by rw[(hg i j).2];exact zH8 (hg i j).1)⟩
  | _=>exact h.elim
 | _=>exact h.elim
noncomputable def yx(C:Int->Int->Prop)(g:Int->Int->D):D->D->Gp->Q2->Prop:=fun x y G R=>match x,y with | .int i,.int j=>C i j/\R (g i j) G | _,_=>False
theorem zDb{K:PySem.W.Frag}{C:Int->Int->Prop}{gv:Int->Int->V}{g:Int->Int->D}(hg:∀ i j,zKF (g i j)=true/\gv i j=vOf (g i j)):Fit K (rI C gv) (yx C g):=by
 intro dx dy G R x y H Q h r d1 d2 k;unfold yx at h;cases dx with
 | int i =>
  cases dy with
  | int j =>
   unfold zO at d1 d2;subst d1 d2;exact⟨i,j,rfl,rfl,h.1,k _ G h.2 _ H (.refl H) r (by rw[(hg i j).2];exact zH8 (hg i j).1)⟩
  | _=>exact h.elim
 | _=>exact h.elim
noncomputable abbrev TL2:=S2->Gp->(List D->Gp->Prop)->Prop
noncomputable def lL(K:PySem.W.Frag)(t:TL2):TE:=fun σ1 H Q=>∃ σ G R,Rel K σ G σ1 H/\t σ G R/\∀ ds G',R ds G'->∀ l xs H',zp H H'->zt K G' H'->G'.m l=none->H' l=some (.lst xs)->Dens K H' ds xs->Q (.ref l) H'
noncomputable def F2(X:Cx)(e:Expr)(t:TL2):Prop:=PE X e (lL X.K t)
noncomputable def yB(t:TL2):zf:=fun σ G R=>t σ G fun ds G'=>∀ l,G'.m l=none->R (.adr l) (zQ G' l ds)
theorem yI{t:TL2}(h:F2 X e t):E2 X e (yB t):=by
 refine PE.mono h ?_;rintro σ1 H Q ⟨σ,G,R,r,q,k⟩;exact⟨σ,G,_,r,q,fun ds G' q' l xs H' g r' n e' d=>k _ _ (q' l n) _ H' g (r'.own e' d) (by unfold zO;rfl)⟩
noncomputable def zH:wE:=fun _ G R=>R [] G
noncomputable def zA(ta:zf)(tr:wE):wE:=fun σ G R=>ta σ G fun x G1=>tr σ G1 fun xs G2=>R (x::xs) G2
theorem zK:A2 X [] zH:=by
 intro pos pins s σ1 H Q I h;refine zAo pos pins s σ1 H Q I ?_;obtain⟨σ,G,R,r,q,k⟩:=h;exact k [] G q [] H (.refl H) r.g .nil
theorem zB{tr:wE}(ha:E2 X e ta)(hr:A2 X es tr)(hs:autoParam (starEach (e::es) X.env=(false,eval e X.env)::starEach es X.env) Zq4._auto_1):A2 X (e::es) (zA ta tr):=by
 intro pos pins s σ1 H Q I h;refine wC ha hr hs pos pins s σ1 H Q I ?_;obtain⟨σ,G,R,r,q,k⟩:=h;refine⟨σ,G,_,r,q,fun d G1 q1 v H1 g1 r1 d1=>?_⟩;refine⟨σ,G1,_,r.to g1 r1,q1,fun ds G2 q2 vs H2 g2 r2 d2=>?_⟩;exact k _ G2 q2 _ H2 (g1.trans g2) r2 (.cons (d1.grow g2) d2)
noncomputable def zAE(t:wE):zf:=fun σ G R=>t σ G fun ds G1=>ds.length<=sizeLine/\R (.tup ds) G1
theorem zBn{t:wE}{x1}(h:A2 X es t):E2 X (.Tuple es x1 pos) (zAE t):=by
 refine PE.mono (zOP h) ?_;rintro σ1 H Q ⟨σ,G,R,r,q,k⟩;refine⟨σ,G,_,r,q,fun ds G1 q1 vs H1 g1 r1 d1=>⟨by rw[<-d1.length];exact q1.1,fun p hp=>?_⟩⟩;refine k _ G1 q1.2 _ _ (g1.trans (.fresh hp)) (r1.fresh hp) ?_;unfold zO;exact⟨p,vs,rfl,.of zm,d1.grow (.fresh hp)⟩
noncomputable def zAM(t:wE):TL2:=fun σ G R=>t σ G fun ds G1=>ds.length<=sizeLine/\R ds G1
theorem zAb{t:wE}(h:A2 X es t):F2 X (.List es pos) (zAM t):=by
 refine PE.mono (zOQ h) ?_;rintro σ1 H Q ⟨σ,G,R,r,q,k⟩;refine⟨σ,G,_,r,q,fun ds G1 q1 vs H1 g1 r1 d1=>⟨by rw[<-d1.length];exact q1.1,fun p hp=>?_⟩⟩;exact k ds G1 q1.2 p vs _ (g1.trans (.fresh hp)) (r1.fresh hp) (r1.free hp) zm (d1.grow (.fresh hp))
noncomputable abbrev wU:=List D->Gp->Q2->Prop
noncomputable def lSp(K:PySem.W.Frag)(sp:wU):Sp:=fun vs H Q _=>∃ ds G R,Dens K H ds vs/\zt K G H/\sp ds G R/\∀ d G',R d G'->∀ v H',zp H H'->zt K G' H'->zO K H' d v->Q v H'
noncomputable def Df(P:Program)(w:World)(K:PySem.W.Frag)(mg:Str->Option Value)(base:Heap)(k:Nat)(x:Str)(ps:List Str)(sp:wU):Prop :=
 ∃ f fd,zCa P w K mg base CX0 k f fd ps (lSp K sp)/\mg x=some (.ref f)/\PySem.W.keepIn K (.ref f)=true/\Binds K fd ps []
noncomputable def zI(sp:wU)(t:wE):zf:=fun σ G R=>t σ G fun ds G1=>sp ds G1 R
theorem za{sp:wU}{t:wE}{k k':Nat}{x:Str}{ps:List Str}(F:Df X.prog X.w X.K X.mg X.base k x ps sp)(hr:yM k' X.A)(hk:k<=k')(hg:Gl X x)(ha:A2 X (e::es) t)
  (hdb:autoParam ((x==("__debug__":Str))=false) Zq2._auto_1) (he:autoParam (starEach (e::es) X.env=(false,eval e X.env)::starEach es X.env) Zq4._auto_1) (hpl:autoParam ((backTo pos (starEach es X.env)).any (·.1)=false) Zq4._auto_1) :
  E2 X (.Call (.Name x p) (e::es) [] pos) (zI sp t):=by
 obtain⟨f,fd,F,hm,hkp,hb⟩:=F;refine PE.mono (zH4 (dvs:=[]) F (hr.mono hk) hg hm hkp hb .nil zKD ha hdb he hpl) ?_;rintro σ1 H Q ⟨σ,G,R,r,q,kk⟩;refine⟨σ,G,_,r,q,fun ds G1 q1 vs H1 g1 r1 d1=>?_⟩;show lSp X.K _ (vs++[]) H1 Q E0;rw[eo];exact⟨ds,G1,R,d1,r1,q1,fun d G' q' v H' g'=>kk d G' q' v H' (g1.trans g')⟩
noncomputable def spL(sp:List D->Gp->(List D->Gp->Prop)->Prop):wU:=fun ds G R=>sp ds G fun ls G'=>∀ l,G'.m l=none->R (.adr l) (zQ G' l ls)
noncomputable def yD(sp:List D->Gp->(List D->Gp->Prop)->Prop)(t:wE):TL2:=fun σ G R=>t σ G fun ds G1=>sp ds G1 R
theorem zBV{sp:List D->Gp->(List D->Gp->Prop)->Prop}{t:wE}{k k':Nat}{x:Str}{ps:List Str}(F:Df X.prog X.w X.K X.mg X.base k x ps (spL sp))(hmono:∀ ds G R R',(∀ ls G',R ls G'->R' ls G')->sp ds G R->sp ds G R')(hr:yM k' X.A)(hk:k<=k')(hg:Gl X x)(ha:A2 X (e::es) t)
  (hdb:autoParam ((x==("__debug__":Str))=false) Zq2._auto_1) (he:autoParam (starEach (e::es) X.env=(false,eval e X.env)::starEach es X.env) Zq4._auto_1) (hpl:autoParam ((backTo pos (starEach es X.env)).any (·.1)=false) Zq4._auto_1) :
  F2 X (.Call (.Name x p) (e::es) [] pos) (yD sp t):=by
 obtain⟨f,fd,F,hm,hkp,hb⟩:=F;refine PE.mono (zH4 (dvs:=[]) F (hr.mono hk) hg hm hkp hb .nil zKD ha hdb he hpl) ?_;rintro σ1 H Q ⟨σ,G,R,r,q,kk⟩;refine⟨σ,G,_,r,q,fun ds G1 q1 vs H1 g1 r1 d1=>?_⟩;show lSp X.K _ (vs++[]) H1 Q E0;rw[eo];refine⟨ds,G1,fun d G'=>∃ l ls G0,d=.adr l/\G0.m l=none/\G'=zQ G0 l ls/\R ls G0,d1,r1,hmono _ _ _ _ (fun ls G' q l n=>⟨l,ls,G',rfl,n,rfl,q⟩) q1,?_⟩;rintro d G' ⟨l,ls,G0,rfl,n,rfl,q'⟩ v H' g' r' dv;unfold zO at dv;subst dv;obtain⟨xs,e1,e2⟩:=r'.m l ls zJ;exact kk ls G0 q' l xs H' (g1.trans g') (r'.sub (.new n)) n e1 e2
section
variable {st:Stmt} {rest:List Stmt} {t u:wP}
noncomputable def zx:wP:=fun E σ G=>E.nx σ G
noncomputable def zX(t u:wP):wP:=fun E σ G=>t { E with nx:=u E } σ G
theorem yE:Ps2 X [] zx:=by
 intro pins s σ1 H E I h;refine zLv pins s σ1 H E I ?_;obtain⟨σ,G,D2,r,q,k⟩:=h;exact k.nx σ G q σ1 H (.refl H) r
theorem zM(h1:P2 X st t)(h2:Ps2 X rest u):Ps2 X (st::rest) (zX t u):=by
 intro pins s σ1 H E I h;refine zJx h1 h2 pins s σ1 H E I ?_;obtain⟨σ,G,D2,r,q,k⟩:=h;refine⟨σ,G,_,r,q,⟨fun σ' G' q' σ1' H' g' r'=>⟨σ',G',D2,r',q',k.to g'⟩,k.bk,k.ct,k.rt⟩⟩
theorem zR(h1:P2 X st t):Ps2 X [st] t:=zLw h1
noncomputable def zq(te:zf):wP:=fun E σ G=>te σ G E.rt
theorem zk(he:E2 X e te):P2 X (.Return (some e) pos) (zq te):=by
 refine PS.mono (L2.zN9 he) ?_;rintro E σ1 H ⟨σ,G,D2,r,q,k⟩;exact⟨σ,G,_,r,q,fun d G' q' v H' g' r' d'=>k.rt d G' q' v H' g' r' d'⟩
noncomputable def zAr(te:zf):wP:=fun E σ G=>te σ G fun _ G1=>E.nx σ G1
theorem zDE(he:E2 X e te)(hs:autoParam (swapsWith e none pos.line X.env=pure false) Zq4._auto_1):P2 X (.Expr e pos) (zAr te):=by
 refine PS.mono (L2.zLx he hs) ?_;rintro E σ1 H ⟨σ,G,D2,r,q,k⟩;exact⟨σ,G,_,r,q,fun d G' q' v H' g' r' d'=>k.nx σ G' q' σ1 H' g' (r.to g' r')⟩
noncomputable def xIf(c:TT2)(t u:wP):wP:=fun E σ G=>c σ G fun b G1=>if b=true then t E σ G1 else u E σ G1
theorem zAB{x y:List Stmt}{tc:TT2}(hc:T2 X c tc)(ha:Ps2 X x t)(hb:Ps2 X y u):P2 X (.If c x y pos) (xIf tc t u):=by
 refine PS.mono (L2.zPY hc ha hb) ?_;rintro E σ1 H ⟨σ,G,D2,r,q,k⟩;refine⟨σ,G,_,r,q,fun b G' q' H' g' r'=>?_⟩;cases b with
 | true=>exact⟨σ,G',D2,r.to g' r',q',k.to g'⟩
 | false=>exact⟨σ,G',D2,r.to g' r',q',k.to g'⟩
noncomputable abbrev TG2:=D->S2->Gp->(S2->Gp->Prop)->Prop
noncomputable def lG(K:PySem.W.Frag)(g:TG2):TG:=fun v σ1 H Q=>∃ σ G d R,Rel K σ G σ1 H/\zO K H d v/\g d σ G R/\∀ σ' G',R σ' G'->∀ σ1' H',zp H H'->Rel K σ' G' σ1' H'->Q σ1' H'
noncomputable def G2(X:Cx)(tg:Expr)(g:TG2):Prop:=PG X tg (lG X.K g)
theorem PG.mono{tg:Expr}{t t':TG}(h:PG X tg t)(hm:∀ v σ H Q,t' v σ H Q->t v σ H Q):PG X tg t':=fun pins s σ H v u Q I r q=>h pins s σ H v u Q I r (hm v σ H Q q)
noncomputable def gN(i:Nat):TG2:=fun d σ G R=>R (σ.set i (some d)) G
theorem zFS(i:Nat){x:Str}(hN:X.N.Nodup)(hi:autoParam (X.N[i]?=some x) Zq4._auto_1)(hx:autoParam (Loc X.env.scope x) Zq7._auto_1)(hf:autoParam (X.fn x=true\/X.env.scope.names.lookup x=some .local) Zq1._auto_1):G2 X (.Name x pos) (gN i):=by
 refine PG.mono (zAd hN hi hx hf) ?_;rintro v σ1 H Q ⟨σ,G,d,R,r,dv,q,k⟩;exact k _ G q _ H (.refl H) (r.set i dv)
noncomputable def gNN(i j:Nat):TG2:=fun d σ G R=>match d with | .tup [a,b]=>R ((σ.set i (some a)).set j (some b)) G | _=>False
theorem zPm(i j:Nat){x y:Str}{px py:Pos}{kk:Nat}(hc:X.calm=true)(hN:X.N.Nodup)(hi:autoParam (X.N[i]?=some x) Zq4._auto_1)(hj:autoParam (X.N[j]?=some y) Zq4._auto_1)(hx:autoParam (Loc X.env.scope x) Zq7._auto_1)(hy:autoParam (Loc X.env.scope y) Zq7._auto_1)
  (hf:autoParam (X.fn x=true\/X.env.scope.names.lookup x=some .local) Zq1._auto_1) (hf':autoParam (X.fn y=true\/X.env.scope.names.lookup y=some .local) Zq1._auto_1) :
  G2 X (.Tuple [.Name x px,.Name y py] kk pos) (gNN i j):=by
 refine PG.mono (zG3 (n:=2) hc (zBH (zAd hN hi hx hf) (zBH (zAd hN hj hy hf') zFK))) ?_;rintro v σ1 H Q ⟨σ,G,d,R,r,dv,q,k⟩;unfold gNN at q;split at q
 ·rename_i d1 d2
  unfold zO at dv;obtain⟨a,xs,rfl,hs,hd⟩:=dv;unfold Dens at hd;obtain⟨x1,r1,rfl,h1,hd⟩:=hd;unfold Dens at hd;obtain⟨x2,r2,rfl,h2,hd⟩:=hd;unfold Dens at hd;subst hd;exact⟨a,[x1,x2],rfl,hs,rfl,x1,[x2],rfl,x2,[],rfl,rfl,k _ G q _ H (.refl H) ((r.set i h1).set j h2)⟩
 ·exact q.elim
noncomputable def zy(te:zf)(g:TG2):wP:=fun E σ G=>te σ G fun d G1=>g d σ G1 E.nx
theorem zKG{g:TG2}{E:Ends}{σ1:L2.St}{H:Hp}{K:PySem.W.Frag}(h:lS K (zy te g) E σ1 H):zOC (lE K te) (lG K g) E σ1 H:=by
 obtain⟨σ,G,D2,r,q,k⟩:=h;refine⟨σ,G,_,r,q,fun d G' q' v H' g' r' d'=>⟨σ,G',d,_,r.to g' r',d',q',fun σ' G'' q'' σ1' H'' g'' r''=>k.nx σ' G'' q'' σ1' H'' (g'.trans g'') r''⟩⟩
theorem zz(i:Nat){x:Str}{pos':Pos}(hN:X.N.Nodup)(he:E2 X e te)(hi:autoParam (X.N[i]?=some x) Zq4._auto_1)(hx:autoParam (Loc X.env.scope x) Zq7._auto_1)(hs:autoParam (swapsWith e (some (.Name x pos')) pos.line X.env=pure false) Zq4._auto_1)(hf:autoParam (X.fn x=true\/X.env.scope.names.lookup x=some .local) Zq1._auto_1) :
  P2 X (.Assign [.Name x pos'] e pos) (zy te (gN i)):=by
 refine PS.mono (L2.zOE hN hi hx he hs hf) fun E σ1 H h=>?_;obtain⟨σ,G,D2,r,q,k⟩:=h;refine⟨σ,G,_,r,q,fun d G' q' v H' g' r' d'=>?_⟩;exact k.nx _ G' q' _ H' g' ((r.to g' r').set i d')
theorem zKH{tg:Expr}{g:TG2}(he:E2 X e te)(hg:G2 X tg g)(hs:autoParam (swapsWithSole [tg] e pos.line X.env=pure false) Zq4._auto_1)(hw:autoParam (swappedStores [tg] e X.env=pure none) Zq4._auto_1)
  (h1:autoParam ((assignEach [tg] X.env).map (·.2)=[assign tg X.env]) Zq4._auto_1):P2 X (.Assign [tg] e pos) (zy te g) :=
 PS.mono (L2.zOD he hg hs hw h1) fun _ _ _ h=>zKG h
noncomputable def gIx(to ti:zf):TG2:=fun d σ G R=>to σ G fun o G1=>ti σ G1 fun i G2=>match o,i with
 | .adr l,.int k=>match G2.m l with
  | some ds=>match ixN ds.length k with | some j=>R σ (zQ G2 l (ds.set j d)) | none=>False
  | none=>False
 | _,_=>False
theorem zOX{i:Expr}{to ti:zf}(ho:E2 X o to)(hi:E2 X i ti)
  (ha:autoParam (∀ v,assign (.Subscript o i pos) X.env v=(do
   let ov <-holding [v] (eval o X.env);let iv <-holding [v,ov] (eval i X.env)
   standAt pos
   holding [v,ov,iv] (setItem ov iv v)
   release [v,ov,iv] [])) Zq3._auto_1):G2 X (.Subscript o i pos) (gIx to ti):=by
 refine PG.mono (zOB ho hi set_list ha) ?_;rintro v σ1 H Q ⟨σ,G,d,R,r,dv,q,k⟩;refine⟨σ,G,_,r,q,fun dx G1 q1 x H1 g1 r1 d1=>⟨σ,G1,_,r.to g1 r1,q1,fun dy G2' q2 y H2 g2 r2 d2=>?_⟩⟩;cases dx with
 | adr l =>
  cases dy with
  | int j =>
   dsimp only at q2;cases e1:G2'.m l with
   | none=>rw[e1] at q2;exact q2.elim
   | some ds =>
    rw[e1] at q2;dsimp only at q2;cases e2:ixN ds.length j with
    | none=>rw[e2] at q2;exact q2.elim
    | some jj =>
     rw[e2] at q2;dsimp only at q2;have d1':=d1.grow g2;unfold zO at d1' d2;subst d1' d2;obtain⟨xs,h1,h2⟩:=r2.m l ds e1;refine⟨l,xs,j,jj,rfl,rfl,h1,by rw[<-h2.length];exact e2,?_⟩;have g3:zp H2 (wo H2 l (.lst (xs.set jj v))):=.lst h1;exact k _ _ q2 _ _ ((g1.trans g2).trans g3) ((r.to (g1.trans g2) r2).to g3 (r2.put h1 (h2.set jj (dv.grow (g1.trans g2)))))
  | _=>exact q2.elim
 | _=>exact q2.elim
end
end
noncomputable abbrev TI2:=S2->Gp->(List D->(Gp->Prop)->Gp->Prop)->Prop
structure Walk (K:PySem.W.Frag) (H0:Hp) (ds:List D) (gd:Gp->Prop) (J:It):Prop where
 go:∀ i G H,gd G->zt K G H->zp H0 H->i<ds.length->J.go i H
 stop:∀ G H,gd G->zt K G H->zp H0 H->J.stop ds.length H
 yld:∀ i G H x H',gd G->zt K G H->zp H0 H->i<ds.length->J.yld i H x H'->zp H H'/\zt K G H'/\∃ d,ds[i]?=some d/\zO K H' d x
noncomputable def lI(K:PySem.W.Frag)(wi:TI2):TI:=fun σ1 H R=>∃ σ G R2,Rel K σ G σ1 H/\wi σ G R2/\∀ ds gd G',R2 ds gd G'->∀ J H',zp H H'->zt K G' H'->Walk K H' ds gd J->ds.length<=sizeLine->R J H'
noncomputable def I2(X:Cx)(tg iter:Expr)(wi:TI2):Prop:=PI X tg iter (lI X.K wi)
theorem PI.mono{X:Cx}{tg iter:Expr}{t t':TI}(h:PI X tg iter t)(hm:∀ σ H R,t' σ H R->t σ H R):PI X tg iter t':=fun pins s σ H R I q=>h pins s σ H R I (hm σ H R q)
section
variable {X:Cx} {tg:Expr} {a b c e o l iter elt:Expr} {es:List Expr} {pos p:Pos} {ta tb te:zf}
theorem zKI{l:Expr}{tl:TE}(hl:PE X l tl):PI X tg l (fun σ H R=>tl σ H fun x H1=>∃ a xs,x=.ref a/\((SqL X.K H1 a xs/\(xs.length<=sizeLine->R (Itl X.K a) H1))\/(SqT X.K H1 a xs/\(xs.length<=sizeLine->R (Itt X.K a) H1)))):=by
 intro pins s σ H R I h;refine yj (hl pins s σ H _ I h) fun v s1 u9=>?_;obtain⟨x,H1,I1,r1,q1⟩:=u9;obtain⟨a,xs,e,q⟩:=q1;subst e;cases r1;have fpk:∀ b∈[s1.heap.objs.size],zDA X pins H1 b:=fun b hb=>by
  have e:b=s1.heap.objs.size:=by simpa using hb
  subst e;exact I1.fpOk (cN _) (I1.hok.fresh (cN _))
 rcases q with ⟨hq,q⟩ | ⟨hq,q⟩
 ·obtain⟨its,rv,p,hz⟩:=I1.list hq
  refine wpAny_pyIter_list p.isList ?_;exact⟨s1.heap.objs.size,[s1.heap.objs.size],_,_,H1,rfl,I1.kept (t':=s1.toks) fun b o e=>cL _ e,zIr a _,⟨_,de _ rfl,rfl,rfl⟩,fpk,q hz⟩
 ·obtain⟨its,rv,p,hz⟩:=I1.tuple hq
  refine wpAny_pyIter_tuple (show s1.heap.IsTuple a its.toArray from p) ?_;exact⟨s1.heap.objs.size,[s1.heap.objs.size],_,_,H1,rfl,I1.kept (t':=s1.toks) fun b o e=>cL _ e,zG4 a _,⟨_,de _ rfl,rfl,rfl⟩,fpk,q hz⟩
theorem zEr{K:PySem.W.Frag}{H0:Hp}{a:Addr}{ds:List D}:Walk K H0 ds (fun G=>Ls G a ds) (Itl K a) where
 go:=fun i G H g r _ hi=>by
  obtain⟨xs,h1,h2⟩:=r.sq g;exact⟨xs,xs[i]'(by rw[<-h2.length];exact hi),h1,by simp⟩
 stop:=fun G H g r _=>by
  obtain⟨xs,h1,h2⟩:=r.sq g;exact⟨xs,h1,Nat.le_of_eq h2.length.symm⟩
 yld:=fun i G H x H' g r _ hi y=>by
  obtain⟨xs,h1,h2⟩:=r.sq g;obtain⟨e,y⟩:=y;subst e;obtain⟨d,e1,e2⟩:=h2.got (y xs h1);exact⟨.refl _,r,d,e1,e2⟩
theorem zKJ{K:PySem.W.Frag}{H0:Hp}{a:Addr}{xs:List V}{ds:List D}(h:SqT K H0 a xs)(hd:Dens K H0 ds xs):Walk K H0 ds (fun _=>True) (Itt K a) where
 go:=fun i G H _ r g hi=>⟨xs,xs[i]'(by rw[<-hd.length];exact hi),g.sqT h,by simp⟩
 stop:=fun G H _ r g=>⟨xs,g.sqT h,Nat.le_of_eq hd.length.symm⟩
 yld:=fun i G H x H' _ r g hi y=>by
  obtain⟨e,y⟩:=y;subst e;obtain⟨d,e1,e2⟩:=(hd.grow g).got (y xs (g.sqT h));exact⟨.refl _,r,d,e1,e2⟩
noncomputable def yy(lo:Int)(n:Nat):List D:=(cH n).map fun(k:Nat)=>D.int (lo+(k:Int))
theorem zAs(lo:Int)(n:Nat):(yy lo n).length=n:=by simp[yy]
theorem zHB{lo:Int}{n i:Nat}(h:i<n):(yy lo n)[i]?=some (.int (lo+i)):=by simp[yy,h]
theorem zDu{K:PySem.W.Frag}{H0:Hp}{lo:Int}{n:Nat}:Walk K H0 (yy lo n) (fun _=>True) (Itr lo n) where
 go:=fun i G H _ _ _ hi=>by rw[zAs] at hi;exact hi
 stop:=fun G H _ _ _=>by rw[zAs];exact cN _
 yld:=fun i G H x H' _ r _ hi y=>by
  rw[zAs] at hi;obtain⟨e,rfl⟩:=y;subst e;exact⟨.refl _,r,_,zHB hi,by unfold zO;rfl⟩
noncomputable def iV(t:zf):TI2:=fun σ G R=>t σ G fun d G1=>match d with
 | .tup ds=>R ds (fun _=>True) G1
 | .adr a=>∃ ds,Ls G1 a ds/\R ds (fun G=>Ls G a ds) G1
 | _=>False
theorem zCR(h:E2 X l ta):I2 X tg l (iV ta):=by
 refine PI.mono (zKI h) ?_;rintro σ1 H R ⟨σ,G,R2,r,q,k⟩;refine⟨σ,G,_,r,q,fun d G1 q1 v H1 g1 r1 d1=>?_⟩;cases d with
 | tup ds =>
  unfold zO at d1;obtain⟨a,xs,rfl,h1,h2⟩:=d1;exact⟨a,xs,rfl,.inr ⟨h1,fun hz=>k ds _ G1 q1 _ H1 g1 r1 (zKJ h1 h2) (by rw[h2.length];exact hz)⟩⟩
 | adr a =>
  unfold zO at d1;subst d1;obtain⟨ds,e,q1⟩:=q1;obtain⟨xs,h1,h2⟩:=r1.sq e;exact⟨a,xs,rfl,.inl ⟨h1,fun hz=>k ds _ G1 q1 _ H1 g1 r1 zEr (by rw[h2.length];exact hz)⟩⟩
 | _=>exact q1.elim
noncomputable def iF(t:TL2):TI2:=fun σ G R=>t σ G fun ds G1=>∀ a,G1.m a=none->R ds (fun G=>Ls G a ds) (zQ G1 a ds)
theorem zDv{t:TL2}(h:F2 X l t):I2 X tg l (iF t):=by
 refine PI.mono (zKI h) ?_;rintro σ1 H R ⟨σ,G,R2,r,q,k⟩;refine⟨σ,G,_,r,q,fun ds G1 q1 a xs H1 g1 r1 n e1 d1=>?_⟩;exact⟨a,xs,rfl,.inl ⟨.of e1,fun hz=>k ds _ _ (q1 a n) _ H1 g1 (r1.own e1 d1) zEr (by rw[d1.length];exact hz)⟩⟩
noncomputable def iR1(t:wE):TI2:=fun σ G R=>t σ G fun ds G1=>match ds with | [.int j]=>(-1000000<=j/\j<=1000000)/\R (yy 0 j.toNat) (fun _=>True) G1 | _=>False
noncomputable def iR2(t:wE):TI2:=fun σ G R=>t σ G fun ds G1=>match ds with | [.int i,.int j]=>((-1000000<=i/\i<=1000000)/\-1000000<=j/\j<=1000000)/\R (yy i (j-i).toNat) (fun _=>True) G1 | _=>False
theorem zAt{t:wE}(hg:Gl X "range")(hm:X.mg "range"=none)(ha:A2 X [a] t)(hs:autoParam (starEach [a] X.env=[(false,eval a X.env)]) Zq4._auto_1):I2 X tg (.Call (.Name "range" p) [a] [] pos) (iR1 t):=by
 refine PI.mono (zIs hg hm ha hs) ?_;rintro σ1 H R ⟨σ,G,R2,r,q,k⟩;refine⟨σ,G,_,r,q,fun ds G1 q1 vs H1 g1 r1 d1=>?_⟩;split at q1
 ·rename_i j
  unfold Dens at d1;obtain⟨x,r',rfl,d1,d2⟩:=d1;unfold zO at d1;unfold Dens at d2;subst d1 d2;refine⟨j,rfl,by omega,by omega,k _ _ G1 q1.2 _ H1 g1 r1 zDu ?_⟩;rw[zAs,sizeLine_eq];omega
 ·exact q1.elim
theorem zKK{t:wE}(hg:Gl X "range")(hm:X.mg "range"=none)(ha:A2 X [a,b] t)(hs:autoParam (starEach [a,b] X.env=[(false,eval a X.env),(false,eval b X.env)]) Zq4._auto_1)(hs2:autoParam (starEach [b] X.env=[(false,eval b X.env)]) Zq4._auto_1):I2 X tg (.Call (.Name "range" p) [a,b] [] pos) (iR2 t):=by
 refine PI.mono (zIt hg hm ha hs hs2) ?_;rintro σ1 H R ⟨σ,G,R2,r,q,k⟩;refine⟨σ,G,_,r,q,fun ds G1 q1 vs H1 g1 r1 d1=>?_⟩;split at q1
 ·rename_i i j
  unfold Dens at d1;obtain⟨x,r',rfl,d1,d2⟩:=d1;unfold Dens at d2;obtain⟨y,r',rfl,d2,d3⟩:=d2;unfold zO at d1 d2;unfold Dens at d3;subst d1 d2 d3;refine⟨i,j,rfl,⟨by omega,by omega,by omega,by omega⟩,k _ _ G1 q1.2 _ H1 g1 r1 zDu ?_⟩;rw[zAs,sizeLine_eq];omega
 ·exact q1.elim
structure zAe (σ σ':S2):Prop where
 len:σ.length=σ'.length
 val:∀(i:Nat) d,σ[i]?=some (some d)->σ'[i]?=some (some d)
theorem zAe.refl(σ:S2):zAe σ σ:=⟨rfl,fun _ _ h=>h⟩
noncomputable def Fg(P:S2->Gp->Prop):S2->Gp->Prop:=fun σ G=>∃ σ' G',zAe σ' σ/\Sub G' G/\P σ' G'
theorem Fg.of{P:S2->Gp->Prop}{σ:S2}{G:Gp}(h:P σ G):Fg P σ G:=⟨σ,G,.refl σ,.refl G,h⟩
theorem Rel.sub{K:PySem.W.Frag}{σ σ':S2}{G G':Gp}{σ1:L2.St}{H:Hp}(r:Rel K σ G σ1 H)(s:zAe σ' σ)(g:Sub G' G):Rel K σ' G' σ1 H :=
 ⟨r.g.sub g,s.len.trans r.len,fun i d e=>r.val i d (s.val i d e)⟩
noncomputable def zPn(wi:TI2)(g:TG2)(tb:wP):wP:=fun E σ G=>wi σ G fun ds gd G1=>∃ Pv:Nat->S2->Gp->Prop,Pv 0 σ G1/\(∀ i σ G,i<=ds.length->Pv i σ G->gd G) /\
 (∀ i x σ G,ds[i]?=some x->Pv i σ G->g x σ G fun σ2 G2=>tb { E with nx:=Fg (Pv (i+1)),ct:=Fg (Pv (i+1)),bk:=E.nx } σ2 G2)/\∀ σ G,Pv ds.length σ G->E.nx σ G
theorem zPo{wi:TI2}{g:TG2}{tb:wP}{body:List Stmt}(hp:PassesOwn (model X.prog X.w) X.A X.env X.xe)(hc:X.calm=true)(hi:I2 X tg iter wi)(hg:G2 X tg g)(hb:Ps2 X body tb)
  (hs:autoParam (∀ x,foldedSetIterable iter X.env x=pure x) Zq3._auto_1):P2 X (.For tg iter body [] pos) (zPn wi g tb):=by
 refine PS.mono (L2.zOF hp hc hi hg hb hs) ?_;rintro E σ1 H ⟨σ,G,D2,r,q,k⟩;refine⟨σ,G,_,r,q,fun ds gd G1 q1 J H1 g1 r1 W hz=>?_⟩;obtain⟨Pv,p0,pg,pt,pd⟩:=q1;refine⟨fun i m σ1' H'=>m=ds.length-i/\i<=ds.length/\zp H1 H'/\∃ σ' G',Rel X.K σ' G' σ1' H'/\Pv i σ' G',⟨ds.length,by simp,Nat.zero_le _,.refl _,σ,G1,r.to g1 r1,p0⟩,?_⟩;rintro i m σ1' H' ⟨rfl,hi',g',σ',G',r',p'⟩;have gd':=pg i σ' G' hi' p';by_cases hlt:i<ds.length
 ·refine .inr ⟨W.go i G' H' gd' r'.g g' hlt,fun σ1'' H''=>zp H1 H''/\∃ σ'' G'',Rel X.K σ'' G'' σ1'' H''/\Pv (i+1) σ'' G'',fun σ1'' H'' ⟨a1,σ'',G'',a2,a3⟩=>⟨ds.length-(i+1),by omega,rfl,hlt,a1,σ'',G'',a2,a3⟩,fun x H'' y=>?_⟩
  obtain⟨gy,ry,d,e1,e2⟩:=W.yld i G' H' x H'' gd' r'.g g' hlt y
  replace g':=g'.trans gy
  refine⟨σ',G',d,_,r'.to gy ry,e2,pt i d σ' G' e1 p',fun σ2 G2 q2 σ12 H2 g2 r2=>⟨σ2,G2,_,r2,q2,?_⟩⟩;have back:∀ σ3 G3,Fg (Pv (i+1)) σ3 G3->∀ σ13 H3,zp H2 H3->Rel X.K σ3 G3 σ13 H3->zp H1 H3/\∃ σ'' G'',Rel X.K σ'' G'' σ13 H3/\Pv (i+1) σ'' G'':=by
   rintro σ3 G3 ⟨σ4,G4,a1,a2,a3⟩ σ13 H3 g3 r3;exact⟨(g'.trans g2).trans g3,σ4,G4,r3.sub a1 a2,a3⟩
  exact⟨back,fun σ3 G3 q3 σ13 H3 g3 r3=>k.nx σ3 G3 q3 σ13 H3 (((g1.trans g').trans g2).trans g3) r3,back,fun d3 G3 q3 v3 H3 g3 r3 dv=>k.rt d3 G3 q3 v3 H3 (((g1.trans g').trans g2).trans g3) r3 dv⟩
 ·have e:i=ds.length:=by omega
  subst e;exact .inl ⟨W.stop G' H' gd' r'.g g',k.nx σ' G' (pd σ' G' p') σ1' H' (g1.trans g') r'⟩
noncomputable def FgG(P:Gp->Prop):Gp->Prop:=fun G=>∃ G',Sub G' G/\P G'
theorem FgG.of{P:Gp->Prop}{G:Gp}(h:P G):FgG P G:=⟨G,.refl G,h⟩
noncomputable def zo(wi:TI2)(bd:D->Option (List D))(tc:TT2)(te:zf):TL2:=fun σ G R=>wi σ G fun ds gd G1=>∀ A,G1.m A=none->∃ Pv:Nat->List D->Gp->Prop,Pv 0 [] (zQ G1 A [])/\(∀ i acc G,i<=ds.length->Pv i acc G->gd G/\G.m A=some acc/\acc.length<=i) /\
 (∀ i x acc G,ds[i]?=some x->Pv i acc G->match bd x with
  | some us=>tc (σ++us.map some) G fun b G3=>if b=true then te (σ++us.map some) G3 fun d G4=>G4.m A=some acc/\FgG (Pv (i+1) (acc++[d])) (zQ G4 A (acc++[d])) else FgG (Pv (i+1) acc) G3
  | none=>False)/\∀ acc G,Pv ds.length acc G->∃ G',G'.m A=none/\Sub G' G/\R acc G'
noncomputable def Ts2(X:Cx)(ifs:List Expr)(t:TT2):Prop:=PTs X ifs (lT X.K t)
noncomputable def wV:TT2:=fun _ G R=>R true G
theorem wQ:Ts2 X [] wV:=by
 intro pins s σ1 H Q I h;refine zMF pins s σ1 H Q I ?_;obtain⟨σ,G,R,r,q,k⟩:=h;exact k true G q H (.refl H) r.g
theorem zFT{t:TT2}(h:T2 X c t):Ts2 X [c] t:=zMG h
theorem Rel.app{K:PySem.W.Frag}{σ:S2}{G:Gp}{σ1:L2.St}{H:Hp}(r:Rel K σ G σ1 H){ds:List D}{vs:List V}(h:Dens K H ds vs):Rel K (σ++ds.map some) G (σ1++vs.map some) H :=
 ⟨r.g,by simp[r.len,h.length],fun i d e=>by
  by_cases hi:i<σ.length
  ·rw[dI hi] at e
   obtain⟨v,e1,e2⟩:=r.val i d e;exact⟨v,by rw[dI (by rw[<-r.len];exact hi)];exact e1,e2⟩
  ·rw[dX (by omega),dl] at e
   cases q:ds[i-σ.length]? with
   | none=>rw[q] at e;cases e
   | some d' =>
    rw[q] at e;cases e;obtain⟨v,e1,e2⟩:=h.get q;exact⟨v,by rw[dX (by rw[<-r.len];omega),dl,<-r.len,e1];rfl,e2⟩⟩
theorem zCA{K:PySem.W.Frag}{wi:TI2}{bd:D->Option (List D)}{tc:TT2}{te:zf}{n:Nat}{g:TG}{N:Nat}
  (hb:∀(σ1:L2.St) (H:Hp) (d:D) (v:V) (us:List D) (Q:L2.St->Hp->Prop),σ1.length=N->zO K H d v->bd d=some us->us.length=n->(∀ vs,Dens K H us vs->Q (σ1++vs.map some) H)->g v (σ1++cK n none) H Q)
  (hn:∀ d us,bd d=some us->us.length=n)
  {σ1:L2.St} {H:Hp} {Q:VK} (hl:σ1.length=N) (h:lL K (zo wi bd tc te) σ1 H Q):zKE n (lI K wi) g (lT K tc) (lE K te) σ1 H Q:=by
 obtain⟨σ,G,R,r,q,k⟩:=h;refine⟨σ,G,_,r,q,fun ds gd G1 q1 J H1 g1 r1 W hz A hA=>?_⟩;obtain⟨Pv,p0,pg,pt,pd⟩:=q1 A (r1.free hA);refine⟨fun i m H2=>m=ds.length-i/\i<=ds.length/\zp H1 H2/\∃ as G2,zt K G2 H2/\Pv i as G2,⟨ds.length,by simp,Nat.zero_le _,.fresh hA,[],zQ G1 A [],r1.new hA .nil,p0⟩,?_⟩;rintro i m H2 ⟨rfl,hi',g2,as,G2,r2,p2⟩;obtain⟨gd2,al,hlen⟩:=pg i as G2 hi' p2;by_cases hlt:i<ds.length
 ·refine .inr ⟨W.go i G2 H2 gd2 r2 g2 hlt,fun x H3 y=>?_⟩
  obtain⟨gy,ry,d,e3,dv⟩:=W.yld i G2 H2 x H3 gd2 r2 g2 hlt y
  replace g2:=g2.trans gy
  replace r2:=ry
  have q3:=pt i d as G2 e3 p2;cases eb:bd d with
  | none=>rw[eb] at q3;exact q3.elim
  | some us =>
   rw[eb] at q3;dsimp only at q3;have hus:=hn d us eb;refine hb σ1 H3 d x us _ hl dv eb hus fun vs hv=>⟨?_,?_,?_⟩
   ·rw[List.take_append_of_le_length (cN _),eV]
   ·rw[cZ,cI,<-hv.length,hus]
   ·have rr:Rel K (σ++us.map some) G2 (σ1++vs.map some) H3:=(r.to (g1.trans g2) r2).app hv
    refine⟨σ++us.map some,G2,_,rr,q3,fun b G4 q4 H4 g4 r4=>?_⟩;cases b with
    | false =>
     obtain⟨G5,s5,p5⟩:=q4;exact⟨ds.length-(i+1),by omega,rfl,hlt,g2.trans g4,as,G5,r4.sub s5,p5⟩
    | true =>
     refine⟨σ++us.map some,G4,_,rr.to g4 r4,q4,fun d5 G5 q5 v H5 g5 r5 d5v=>?_⟩;obtain⟨a5,G6,s6,p6⟩:=q5;obtain⟨acc,e6,d6⟩:=r5.m A as a5;refine⟨acc,e6,by rw[<-d6.length];omega,ds.length-(i+1),by omega,rfl,hlt,((g2.trans g4).trans g5).trans (.lst e6),as++[d5],G6,?_,p6⟩;exact(r5.put e6 (d6.append (.cons d5v .nil))).sub s6
 ·have e:i=ds.length:=by omega
  subst e;obtain⟨G',n',s',q'⟩:=pd as G2 p2;obtain⟨acc,e6,d6⟩:=r2.m A as al;exact .inl ⟨W.stop G2 H2 gd2 r2 g2,k as G' q' A acc H2 (g1.trans g2) (r2.sub s') n' e6 d6⟩
noncomputable def bd1:D->Option (List D):=fun d=>some [d]
noncomputable def bd2:D->Option (List D):=fun d=>match d with | .tup [a,b]=>some [a,b] | _=>none
section
variable {ifs:List Expr} {sc:Scope} {N0:List Str} {wi:TI2} {tc:TT2}
theorem PE.at{t t':TE}(h:PE X e t)(hm:∀ σ H Q,σ.length=X.N.length->t' σ H Q->t σ H Q):PE X e t':=fun pins s σ H Q I q=>h pins s σ H Q I (hm σ H Q I.len q)
theorem PS.at{st:Stmt}{t t':TS}(h:PS X st t)(hm:∀ E σ H,σ.length=X.N.length->t' E σ H->t E σ H):PS X st t':=fun pins s σ H E I q=>h pins s σ H E I (hm E σ H I.len q)
theorem zGA(s t:List (Option V))(x:Option V):List.set (s++t) (List.length s) x=s++t.set 0 x:=by
 rw[List.set_append_right _ _ (cN _),Nat.sub_self]
theorem zKL(s t:List (Option V))(x:Option V):List.set (s++t) (List.length s+1) x=s++t.set 1 x:=by
 rw[List.set_append_right _ _ (show s.length<=s.length+1 by omega),Nat.add_sub_cancel_left]
theorem bind1{K:PySem.W.Frag}{N:Nat}(σ1:L2.St)(H:Hp)(d:D)(v:V)(us:List D)(Q:L2.St->Hp->Prop)(hl:σ1.length=N)(dv:zO K H d v)(eb:bd1 d=some us)(hus:us.length=1)(h:∀ vs,Dens K H us vs->Q (σ1++vs.map some) H):zBt N v (σ1++cK 1 none) H Q:=by
 cases eb;have:=h [v] (.cons dv .nil);show Q (List.set (σ1++[none]) N (some v)) H;rw[<-hl,zGA];exact this
theorem zNb{K:PySem.W.Frag}{N:Nat}(σ1:L2.St)(H:Hp)(d:D)(v:V)(us:List D)(Q:L2.St->Hp->Prop)(hl:σ1.length=N)(dv:zO K H d v)(eb:bd2 d=some us)(hus:us.length=2)(h:∀ vs,Dens K H us vs->Q (σ1++vs.map some) H):zLz K 2 (zDl (zBt N) (zDl (zBt (N+1)) zLy)) v (σ1++cK 2 none) H Q:=by
 unfold bd2 at eb;split at eb
 ·rename_i d1 d2
  cases eb;unfold zO at dv;obtain⟨a,xs,rfl,hs,hd⟩:=dv;have hd0:=hd;unfold Dens at hd;obtain⟨x1,r1,rfl,h1,hd⟩:=hd;unfold Dens at hd;obtain⟨x2,r2,rfl,h2,hd⟩:=hd;unfold Dens at hd;subst hd;refine⟨a,[x1,x2],rfl,hs,rfl,x1,[x2],rfl,x2,[],rfl,rfl,?_⟩;have:=h [x1,x2] hd0;rw[<-hl];have e1:List.set (σ1++cK 2 none) (List.length σ1) (some x1)=σ1++[some x1,none]:=zGA σ1 _ _;rw[e1,zKL];exact this
 ·cases eb
theorem zMH(x:Str){px:Pos}(hc:X.calm=true)(T:zCc X sc N0)(hi:I2 X (.Name x px) iter wi)
  (hnd:(N0++[x]).Nodup) (hx:(relabel sc X.env).names.lookup x=some .local)
  (ht:∀ C s H fp pins,Ts2 (X.comp (N0++[x]) sc C s H fp pins) ifs tc) (he:∀ C s H fp pins,E2 (X.comp (N0++[x]) sc C s H fp pins) elt te)
  (hs:autoParam (∀ x,foldedSetIterable iter X.env x=pure x) Zq3._auto_1):F2 X (.ListComp elt [⟨.Name x px,iter,ifs,0⟩] sc pos) (zo wi bd1 tc te):=by
 refine PE.at (zH7 (own:=[x]) (g:=zBt X.N.length) (tc:=lT X.K tc) (te:=lE X.K te) hc T hi (fun C s H fp pins=>zAd (X:=X.comp (N0++[x]) sc C s H fp pins) hnd (by
  show(N0++[x])[X.N.length]?=some x;rw[<-T.len];simp) (.inl hx) (.inr hx)) ht he hs) fun σ H Q hl h=>?_
 exact zCA (n:=1) (N:=X.N.length) bind1 (fun d us e=>by cases e;rfl) hl h
theorem zMI(x y:Str){px py pt:Pos}{kk:Nat}(hc:X.calm=true)(T:zCc X sc N0)(hi:I2 X (.Tuple [.Name x px,.Name y py] kk pt) iter wi)
  (hnd:(N0++[x,y]).Nodup) (hx:(relabel sc X.env).names.lookup x=some .local) (hy:(relabel sc X.env).names.lookup y=some .local)
  (ht:∀ C s H fp pins,Ts2 (X.comp (N0++[x,y]) sc C s H fp pins) ifs tc) (he:∀ C s H fp pins,E2 (X.comp (N0++[x,y]) sc C s H fp pins) elt te)
  (hs:autoParam (∀ x,foldedSetIterable iter X.env x=pure x) Zq3._auto_1):F2 X (.ListComp elt [⟨.Tuple [.Name x px,.Name y py] kk pt,iter,ifs,0⟩] sc pos) (zo wi bd2 tc te):=by
 refine PE.at (zH7 (own:=[x,y]) (g:=zLz X.K 2 (zDl (zBt X.N.length) (zDl (zBt (X.N.length+1)) zLy))) (tc:=lT X.K tc) (te:=lE X.K te) hc T hi (fun C s H fp pins=>?_) ht he hs) fun σ H Q hl h=>?_
 ·have e1:(X.comp (N0++[x,y]) sc C s H fp pins).N[X.N.length]?=some x:=by
   show(N0++[x,y])[X.N.length]?=some x;rw[<-T.len];simp
  have e2:(X.comp (N0++[x,y]) sc C s H fp pins).N[X.N.length+1]?=some y:=by
   show(N0++[x,y])[X.N.length+1]?=some y;rw[<-T.len];simp
  exact zG3 (X:=X.comp (N0++[x,y]) sc C s H fp pins) (n:=2) hc (zBH (zAd hnd e1 (.inl hx) (.inr hx)) (zBH (zAd hnd e2 (.inl hy) (.inr hy)) zFK))
 ·refine zCA (n:=2) (N:=X.N.length) zNb (fun d us e=>?_) hl h
  unfold bd2 at e;split at e<;>first | (cases e;rfl) | (cases e;done)
noncomputable def zBJ(i:Nat)(t:TL2):wP:=fun E σ G=>t σ G fun ds G'=>∀ l,G'.m l=none->E.nx (σ.set i (some (.adr l))) (zQ G' l ds)
theorem zHC(i:Nat)(x:Str){y:Str}{px py spos:Pos}(hc:X.calm=true)(T:zCc X sc N0)(hi:I2 X (.Name x px) iter wi)
  (hnd:(N0++[x]).Nodup) (hx:(relabel sc X.env).names.lookup x=some .local)
  (ht:∀ C s H fp pins,Ts2 (X.comp (N0++[x]) sc C s H fp pins) ifs tc) (he:∀ C s H fp pins,E2 (X.comp (N0++[x]) sc C s H fp pins) elt te)
  (hN:X.N.Nodup) (hy:X.N[i]?=some y) (hl:X.env.scope.names.lookup y=some .local)
  (hsw:swapsWith (.ListComp elt [⟨.Name x px,iter,ifs,0⟩] sc pos) (some (.Name y py)) spos.line X.env=pure true)
  (hs:autoParam (∀ x,foldedSetIterable iter X.env x=pure x) Zq3._auto_1):P2 X (.Assign [.Name y py] (.ListComp elt [⟨.Name x px,iter,ifs,0⟩] sc pos) spos) (zBJ i (zo wi bd1 tc te)):=by
 refine PS.at (zDt (own:=[x]) (g:=zBt X.N.length) (tc:=lT X.K tc) (te:=lE X.K te) hc T hi (fun C s H fp pins=>zAd (X:=X.comp (N0++[x]) sc C s H fp pins) hnd (by
  show(N0++[x])[X.N.length]?=some x;rw[<-T.len];simp) (.inl hx) (.inr hx)) ht he hN hy hl hsw hs) fun E σ1 H hl h=>?_
 obtain⟨σ,G,D2,r,q,k⟩:=h;refine zCA (n:=1) (N:=X.N.length) bind1 (fun d us e=>by cases e;rfl) hl ⟨σ,G,_,r,q,fun ds G' q' l xs H' g' r' n e d=>?_⟩;exact k.nx _ _ (q' l n) _ H' g' ((r.to g' (r'.own e d)).set i (by unfold zO;rfl))
end
end
section
variable {X:Cx} {a b c e o:Expr} {es:List Expr} {pos p:Pos} {ta tb te:zf}
noncomputable def zGB(ta tb:zf):zf:=fun σ G R=>ta σ G fun x G1=>match x with | .bl c=>if c=true then tb σ G1 R else R (.bl false) G1 | _=>False
noncomputable def zOY(ta:zf):zf:=fun σ G R=>ta σ G fun x G1=>match x with | .bl c=>R (.bl (!c)) G1 | _=>False
theorem zKM{op}(h:E2 X a ta):E2 X (.BoolOp op [a] pos) ta:=zN6 h
theorem zKN{rest:List Expr}(ha:E2 X a ta)(hb:E2 X (.BoolOp .And (b::rest) pos) tb):E2 X (.BoolOp .And (a::b::rest) pos) (zGB ta tb):=by
 refine PE.mono (zN7 ha hb) ?_;rintro σ1 H Q ⟨σ,G,R,r,q,k⟩;refine⟨σ,G,_,r,q,fun d G1 q1 v H1 g1 r1 d1=>?_⟩;cases d with
 | bl c =>
  unfold zO at d1;refine⟨c,d1,?_⟩;cases c with
  | true=>exact⟨σ,G1,R,r.to g1 r1,q1,fun d G' q' v H' g'=>k d G' q' v H' (g1.trans g')⟩
  | false=>exact k _ G1 q1 _ H1 g1 r1 (by unfold zO;rfl)
 | _=>exact q1.elim
theorem zPp(ha:E2 X a ta):E2 X (.UnaryOp .Not a pos) (zOY ta):=by
 refine PE.mono (zN8 ha) ?_;rintro σ1 H Q ⟨σ,G,R,r,q,k⟩;refine⟨σ,G,_,r,q,fun d G1 q1 v H1 g1 r1 d1=>?_⟩;cases d with
 | bl c =>
  unfold zO at d1;exact⟨c,d1,k _ G1 q1 _ H1 g1 r1 (by unfold zO;rfl)⟩
 | _=>exact q1.elim
theorem wW(h:E2 X e te)(he:autoParam (∀ whole,isTrue e X.env whole=(do let v <-whole;standAt e.pos;holding [v] (truthy v))) Zq3._auto_1):T2 X e (xB te):=by
 refine PT.mono (zN2 h he) ?_;rintro σ1 H Q ⟨σ,G,R,r,q,k⟩;refine⟨σ,G,_,r,q,fun d G1 q1 v H1 g1 r1 d1=>?_⟩;cases d with
 | bl c =>
  unfold zO at d1;exact⟨c,d1,k _ G1 q1 H1 g1 r1⟩
 | _=>exact q1.elim
section
variable {t u:TT2} {rest:List Expr}
noncomputable def W2(X:Cx)(e:Expr)(t:TT2):Prop:=PW X e (lT X.K t)
theorem W2.test(h:W2 X e t):T2 X e t:=PW.pt h
noncomputable def zA2(t u:TT2):TT2:=fun σ G R=>t σ G fun c G1=>if c=true then u σ G1 R else R false G1
noncomputable def wL(t u:TT2):TT2:=fun σ G R=>t σ G fun c G1=>if c=true then R true G1 else u σ G1 R
noncomputable def zu(t:TT2):TT2:=fun σ G R=>t σ G fun c G1=>R (!c) G1
theorem PW.mono{t t':TT}(h:PW X e t)(hm:∀ σ H Q,t' σ H Q->t σ H Q):PW X e t':=fun w pins s σ H Q I q=>h w pins s σ H Q I (hm σ H Q q)
theorem zHD(ha:T2 X a t):W2 X (.BoolOp .And [a] pos) t:=zLu ha
theorem zBK(ha:T2 X a t):W2 X (.BoolOp .Or [a] pos) t:=zN3 ha
theorem w_and(ha:T2 X a t)(hb:W2 X (.BoolOp .And (b::rest) pos) u):W2 X (.BoolOp .And (a::b::rest) pos) (zA2 t u):=by
 refine PW.mono (zN4 ha hb) ?_;rintro σ1 H Q ⟨σ,G,R,r,q,k⟩;refine⟨σ,G,_,r,q,fun c G1 q1 H1 g1 r1=>?_⟩;cases c with
 | true=>exact⟨σ,G1,R,r.to g1 r1,q1,fun b G' q' H' g'=>k b G' q' H' (g1.trans g')⟩
 | false=>exact k _ G1 q1 H1 g1 r1
theorem w_or(ha:T2 X a t)(hb:W2 X (.BoolOp .Or (b::rest) pos) u):W2 X (.BoolOp .Or (a::b::rest) pos) (wL t u):=by
 refine PW.mono (zPT ha hb) ?_;rintro σ1 H Q ⟨σ,G,R,r,q,k⟩;refine⟨σ,G,_,r,q,fun c G1 q1 H1 g1 r1=>?_⟩;cases c with
 | true=>exact k _ G1 q1 H1 g1 r1
 | false=>exact⟨σ,G1,R,r.to g1 r1,q1,fun b G' q' H' g'=>k b G' q' H' (g1.trans g')⟩
theorem wX(ha:T2 X a t):T2 X (.UnaryOp .Not a pos) (zu t):=by
 refine PT.mono (zN5 ha) ?_;rintro σ1 H Q ⟨σ,G,R,r,q,k⟩;exact⟨σ,G,_,r,q,fun c G1 q1 H1 g1 r1=>k _ G1 q1 H1 g1 r1⟩
end
theorem zKO(ha:E2 X a ta)(hb:E2 X b tb):E2 X (.BinOp a .Sub b pos) (zS (fII fun i j=>.int (i-j)) ta tb):=zHA zOJ (zAq fun _ _=>⟨rfl,rfl⟩) ha hb
theorem zBv(ha:E2 X a ta)(hb:E2 X b tb):E2 X (.BinOp a .Mult b pos) (zS (yx zCN fun i j=>.int (i*j)) ta tb):=zHA zOK (zDb fun _ _=>⟨rfl,rfl⟩) ha hb
theorem zDw(ha:E2 X a ta)(hb:E2 X b tb):E2 X (.BinOp a .FloorDiv b pos) (zS (yx zF2 fun i j=>.int (i / j)) ta tb):=zHA zL0 (zDb fun _ _=>⟨rfl,rfl⟩) ha hb
theorem zEs(ha:E2 X a ta)(hb:E2 X b tb):E2 X (.BinOp a .Mod b pos) (zS (yx (fun _ j=>0<j) fun i j=>.int (i%j)) ta tb):=zHA zOL (zDb fun _ _=>⟨rfl,rfl⟩) ha hb
theorem zNc(ha:E2 X a ta)(hb:E2 X b tb):E2 X (.BinOp a .Pow b pos) (zS (yx zIv fun i j=>.int (i ^ j.toNat)) ta tb):=zHA zOM (zDb fun _ _=>⟨rfl,rfl⟩) ha hb
theorem zI4(ha:E2 X a ta)(hb:E2 X b tb):T2 X (.Compare a [.Lt] [b] pos) (xB (zS (fII fun i j=>.bl (decide (i<j))) ta tb)):=zCk zJ1 (zAq fun _ _=>⟨rfl,rfl⟩) ha hb (zBu _)
theorem zQe(ha:E2 X a ta)(hb:E2 X b tb):T2 X (.Compare a [.LtE] [b] pos) (xB (zS (fII fun i j=>.bl (decide (i<=j))) ta tb)):=zCk zEi (zAq fun _ _=>⟨rfl,rfl⟩) ha hb (zBu _)
theorem zQf(ha:E2 X a ta)(hb:E2 X b tb):T2 X (.Compare a [.GtE] [b] pos) (xB (zS (fII fun i j=>.bl (decide (j<=i))) ta tb)):=zCk zPe (zAq fun _ _=>⟨rfl,rfl⟩) ha hb (zBu _)
mutual
noncomputable def eqD:D->D->Bool
 | .non,.non=>true
 | .bl a,.bl b=>a==b
 | .int a,.int b=>a==b
 | .bl a,.int b=>(if a then 1 else 0)==b
 | .int a,.bl b=>a==(if b then 1 else 0)
 | .str a,.str b=>a==b
 | .tup a,.tup b=>eqDs a b
 | _,_=>false
noncomputable def eqDs:List D->List D->Bool
 | [],[]=>true
 | x::xs,y::ys=>eqD x y&&eqDs xs ys
 | _,_=>false
end
noncomputable def flat:Nat->D->Bool
 | _,.non=>true
 | _,.bl _=>true
 | _,.int _=>true
 | _,.str _=>true
 | _,.adr _=>false
 | _,.dic _=>false
 | 0,.tup _=>false
 | n+1,.tup ds=>ds.all (flat n)
theorem zDx:∀(xs ys:List D),eqDs xs ys=((cH (min xs.length ys.length)).all (fun j=>eqD (xs.getD j .non) (ys.getD j .non))&&xs.length==ys.length)
 | [],[]=>by simp[eqDs]
 | [],y::ys=>by simp[eqDs]
 | x::xs,[]=>by simp[eqDs]
 | x::xs,y::ys=>by
  unfold eqDs;rw[zDx xs ys];have e1:min (x::xs).length (y::ys).length=min xs.length ys.length+1:=by simp only[cD];omega
  rw[e1,List.range_succ_eq_map,List.all_cons,List.all_map];have e2:((x::xs).length==(y::ys).length)=(xs.length==ys.length):=by
   rw[da];simp
  rw[e2,Bool.and_assoc];rfl
mutual
theorem zDy:∀ d:D,(∀ n,flat n d=true->eqD d d=true)
 | .non,_,_=>rfl
 | .bl b,_,_=>by show(b==b)=true;simp
 | .int b,_,_=>by show(b==b)=true;simp
 | .str b,_,_=>by show(b==b)=true;simp
 | .adr _,n,h=>by cases n<;>simp[flat] at h
 | .dic _,n,h=>by cases n<;>simp[flat] at h
 | .tup ds,0,h=>by simp[flat] at h
 | .tup ds,n+1,h=>by
  show eqDs ds ds=true;exact eqDs_refl ds n (by simpa[flat] using h)
theorem eqDs_refl:∀ ds:List D,(∀ n,(∀ d∈ds,flat n d=true)->eqDs ds ds=true)
 | [],_,_=>rfl
 | d::ds,n,h=>by
  show(eqD d d&&eqDs ds ds)=true;rw[zDy d n (h d dc),eqDs_refl ds n fun x hx=>h x (cU _ hx)];rfl
end
section
variable {pins:List (Addr×Obj)} {σ1:L2.St} {H:Hp} {s:Shared}
mutual
theorem zO.inj(I:zT X pins σ1 H s):∀ {d d':D} {v:V} {n n':Nat},zO X.K H d v->zO X.K H d' v->flat n d=true->flat n' d'=true->d=d' 
 | .non,d',v,n,n',h,h',f,f'=>by
  unfold zO at h;subst h;cases d' with
  | tup _=>unfold zO at h';obtain⟨_,_,e,_⟩:=h';cases e
  | dic _=>unfold zO at h';cases h'.1
  | _=>unfold zO at h';first | rfl | cases h'
 | .bl b,d',v,n,n',h,h',f,f'=>by
  unfold zO at h;subst h;cases d' with
  | tup _=>unfold zO at h';obtain⟨_,_,e,_⟩:=h';cases e
  | dic _=>unfold zO at h';cases h'.1
  | _=>unfold zO at h';first | cases h';rfl | cases h'
 | .int b,d',v,n,n',h,h',f,f'=>by
  unfold zO at h;subst h;cases d' with
  | tup _=>unfold zO at h';obtain⟨_,_,e,_⟩:=h';cases e
  | dic _=>unfold zO at h';cases h'.1
  | _=>unfold zO at h';first | cases h';rfl | cases h'
 | .str b,d',v,n,n',h,h',f,f'=>by
  unfold zO at h;subst h;cases d' with
  | tup _=>unfold zO at h';obtain⟨_,_,e,_⟩:=h';cases e
  | dic _=>unfold zO at h';cases h'.1
  | _=>unfold zO at h';first | cases h';rfl | cases h'
 | .adr _,d',v,n,n',h,h',f,f'=>by cases n<;>simp[flat] at f
 | .dic _,d',v,n,n',h,h',f,f'=>by cases n<;>simp[flat] at f
 | .tup ds,d',v,n,n',h,h',f,f'=>by
  unfold zO at h;obtain⟨a,xs,rfl,hs,hd⟩:=h;cases d' with
  | tup ds' =>
   unfold zO at h';obtain⟨a',xs',e,hs',hd'⟩:=h';cases e;have:=I.tuple_inj hs hs';subst this;cases n with
   | zero=>simp[flat] at f
   | succ n =>
    cases n' with
    | zero=>simp[flat] at f'
    | succ n'=>rw[Dens.inj I hd hd' (by simpa[flat] using f) (by simpa[flat] using f')]
  | adr _=>cases n'<;>simp[flat] at f'
  | dic _=>cases n'<;>simp[flat] at f'
  | _=>unfold zO at h';cases h'
theorem Dens.inj(I:zT X pins σ1 H s):∀ {ds ds':List D} {xs:List V} {n n':Nat},Dens X.K H ds xs->Dens X.K H ds' xs->(∀ d∈ds,flat n d=true)->(∀ d∈ds',flat n' d=true)->ds=ds'
 | [],ds',xs,n,n',h,h',f,f'=>by
  unfold Dens at h;subst h;cases ds' with
  | nil=>rfl
  | cons _ _=>unfold Dens at h';obtain⟨_,_,e,_⟩:=h';cases e
 | d::ds,ds',xs,n,n',h,h',f,f'=>by
  unfold Dens at h;obtain⟨x,r,rfl,h1,h2⟩:=h;cases ds' with
  | nil=>unfold Dens at h';cases h'
  | cons d' ds' =>
   unfold Dens at h';obtain⟨x',r',e,h1',h2'⟩:=h';cases e;rw[zO.inj I h1 h1' (f d dc) (f' d' dc),Dens.inj I h2 h2' (fun z hz=>f z (cU _ hz)) fun z hz=>f' z (cU _ hz)]
end
theorem in1_units{A:Around}:A.in1.units=A.units+1:=rfl
theorem zHE(I:zT X pins σ1 H s):∀(n:Nat) (d d':D) (v v':V) (u u':Value) (A:Around),zO X.K H d v->zO X.K H d' v'->RelV v u->RelV v' u'->flat n d=true->flat n d'=true->A.units+n<cLine->SeqAt.EqAt A s u u' (eqD d d'):=by
 intro n
 induction n with
 | zero =>
  intro d d' v v' u u' A h h' r r' f f' hu;have fv:∀ {d:D} {v:V},flat 0 d=true->zO X.K H d v->zH6 v=true/\v=vOf d:=fun {d v} f h=>by
   cases d<;>first | (simp[flat] at f;done) | (unfold zO at h;subst h;exact⟨rfl,rfl⟩)
  obtain⟨f1,e1⟩:=fv f h;obtain⟨f2,e2⟩:=fv f' h';have q:=zKA (A:=A) (s:=s) r r' f1 f2;have e:eqV v v'=eqD d d':=by
   rw[e1,e2];cases d<;>first | (simp[flat] at f;done) | (cases d'<;>first | (simp[flat] at f';done) | rfl)
  rw[<-e];exact q
 | succ n ih =>
  intro d d' v v' u u' A h h' r r' f f' hu;by_cases hs:flat 0 d=true/\flat 0 d'=true
  ·have fv:∀ {d:D} {v:V},flat 0 d=true->zO X.K H d v->zH6 v=true/\v=vOf d:=fun {d v} f h=>by
    cases d<;>first | (simp[flat] at f;done) | (unfold zO at h;subst h;exact⟨rfl,rfl⟩)
   obtain⟨f1,e1⟩:=fv hs.1 h;obtain⟨f2,e2⟩:=fv hs.2 h';have q:=zKA (A:=A) (s:=s) r r' f1 f2;have e:eqV v v'=eqD d d':=by
    rw[e1,e2];cases d<;>first | (simp[flat] at hs;done) | (cases d'<;>first | (simp[flat] at hs;done) | rfl)
   rw[<-e];exact q
  ·have hu0:A.units<cLine:=by omega
   cases d with
   | tup ds =>
    unfold zO at h;obtain⟨a,xs,rfl,hsq,hd⟩:=h;cases r;obtain⟨its,rv,tp,_⟩:=I.tuple hsq;have tp':s.heap.IsTuple a its.toArray:=tp;cases d' with
    | tup ds' =>
     unfold zO at h';obtain⟨a',xs',rfl,hsq',hd'⟩:=h';cases r';obtain⟨its',rv',tp2,_⟩:=I.tuple hsq';by_cases ha:a=a'
     ·subst ha
      have:=I.tuple_inj hsq hsq';subst this;have hds:ds=ds':=Dens.inj I hd hd' (by simpa[flat] using f) (by simpa[flat] using f');subst hds;have e:eqD (.tup ds) (.tup ds)=true:=zDy _ _ f;rw[e];exact SeqAt.EqAt.same _
     ·have q:=SeqAt.EqAt.of_refs ha (SeqAt.RcAt.tuples (A:=A) (s:=s) (e:=fun j=>eqD (ds.getD j .non) (ds'.getD j .non)) tp' (show s.heap.IsTuple a' its'.toArray from tp2) hu0 fun j h1 h2=>by
       have h1':j<its.length:=by simpa using h1
       have h2':j<its'.length:=by simpa using h2
       have l1:=hd.length;have l2:=rv.length;have l3:=hd'.length;have l4:=rv'.length;obtain⟨x,ex,dx⟩:=hd.get (i:=j) (d:=ds[j]'(by omega)) (by simp);obtain⟨y,ey,dy⟩:=hd'.get (i:=j) (d:=ds'[j]'(by omega)) (by simp);obtain⟨ux,eux,rx⟩:=rv.get ex;obtain⟨uy,euy,ry⟩:=rv'.get ey;have e1:its.toArray[j]=ux:=by
        have:=(cJ.mp eux).2;simpa using this
       have e2:its'.toArray[j]=uy:=by
        have:=(cJ.mp euy).2;simpa using this
       have g1:ds.getD j .non=ds[j]'(by omega):=by simp[eN,(show j<ds.length by omega)]
       have g2:ds'.getD j .non=ds'[j]'(by omega):=by simp[eN,(show j<ds'.length by omega)]
       rw[e1,e2];show SeqAt.EqAt A.in1 s ux uy (eqD (ds.getD j .non) (ds'.getD j .non));rw[g1,g2];refine ih _ _ x y ux uy A.in1 dx dy rx ry ?_ ?_ (by rw[in1_units];omega)
       ·have:∀ d∈ds,flat n d=true:=by simpa[flat] using f
        exact this _ (dG _)
       ·have:∀ d∈ds',flat n d=true:=by simpa[flat] using f'
        exact this _ (dG _))
      have e:eqD (.tup ds) (.tup ds')=((cH (min its.toArray.size its'.toArray.size)).all (fun j=>eqD (ds.getD j .non) (ds'.getD j .non))&&its.toArray.size==its'.toArray.size):=by
       show eqDs ds ds'=_;rw[zDx];simp[hd.length,rv.length,hd'.length,rv'.length]
      rw[e];exact q
    | adr _=>simp[flat] at f'
    | dic _=>simp[flat] at f'
    | non=>unfold zO at h';subst h';cases r';exact SeqAt.EqAt.tuple_none tp' hu0
    | bl _=>unfold zO at h';subst h';cases r';exact SeqAt.EqAt.tuple_bool _ tp' hu0
    | int _=>unfold zO at h';subst h';obtain⟨t,rfl⟩:=r';exact SeqAt.EqAt.tuple_int _ _ tp' hu0
    | str _=>unfold zO at h';subst h';obtain⟨t,rfl⟩:=r';exact SeqAt.EqAt.tuple_str _ _ tp' hu0
   | adr _=>simp[flat] at f
   | dic _=>simp[flat] at f
   | non =>
    cases d' with
    | tup ds' =>
     unfold zO at h h';subst h;cases r;obtain⟨a',xs',rfl,hsq',hd'⟩:=h';cases r';obtain⟨its',rv',tp2,_⟩:=I.tuple hsq';exact SeqAt.EqAt.none_tuple (show s.heap.IsTuple a' its'.toArray from tp2) hu0
    | adr _=>simp[flat] at f'
    | dic _=>simp[flat] at f'
    | _=>exact absurd ⟨rfl,rfl⟩ hs
   | bl _ =>
    cases d' with
    | tup ds' =>
     unfold zO at h h';subst h;cases r;obtain⟨a',xs',rfl,hsq',hd'⟩:=h';cases r';obtain⟨its',rv',tp2,_⟩:=I.tuple hsq';exact SeqAt.EqAt.bool_tuple _ (show s.heap.IsTuple a' its'.toArray from tp2) hu0
    | adr _=>simp[flat] at f'
    | dic _=>simp[flat] at f'
    | _=>exact absurd ⟨rfl,rfl⟩ hs
   | int _ =>
    cases d' with
    | tup ds' =>
     unfold zO at h h';subst h;obtain⟨t,rfl⟩:=r;obtain⟨a',xs',rfl,hsq',hd'⟩:=h';cases r';obtain⟨its',rv',tp2,_⟩:=I.tuple hsq';exact SeqAt.EqAt.int_tuple _ _ (show s.heap.IsTuple a' its'.toArray from tp2) hu0
    | adr _=>simp[flat] at f'
    | dic _=>simp[flat] at f'
    | _=>exact absurd ⟨rfl,rfl⟩ hs
   | str _ =>
    cases d' with
    | tup ds' =>
     unfold zO at h h';subst h;obtain⟨t,rfl⟩:=r;obtain⟨a',xs',rfl,hsq',hd'⟩:=h';cases r';obtain⟨its',rv',tp2,_⟩:=I.tuple hsq';exact SeqAt.EqAt.str_tuple _ _ (show s.heap.IsTuple a' its'.toArray from tp2) hu0
    | adr _=>simp[flat] at f'
    | dic _=>simp[flat] at f'
    | _=>exact absurd ⟨rfl,rfl⟩ hs
end
end
section
variable {X:Cx} {pins:List (Addr×Obj)} {σ1:L2.St} {H:Hp} {s:Shared} {A:Around}
theorem zDc(I:zT X pins σ1 H s){n:Nat}{ds ds':List D}{xs xs':List V}{its its':List Value}(hd:Dens X.K H ds xs)(hd':Dens X.K H ds' xs')(rv:zc xs its)(rv':zc xs' its')
  (f:∀ d∈ds,flat n d=true) (f':∀ d∈ds',flat n d=true) (hu:A.units+n<cLine) (j:Nat) (h1:j<its.toArray.size) (h2:j<its'.toArray.size) :
  SeqAt.EqAt A s its.toArray[j] its'.toArray[j] (eqD (ds.getD j .non) (ds'.getD j .non)):=by
 have h1':j<its.length:=by simpa using h1
 have h2':j<its'.length:=by simpa using h2
 have l1:=hd.length;have l2:=rv.length;have l3:=hd'.length;have l4:=rv'.length;obtain⟨x,ex,dx⟩:=hd.get (i:=j) (d:=ds[j]'(by omega)) (by simp);obtain⟨y,ey,dy⟩:=hd'.get (i:=j) (d:=ds'[j]'(by omega)) (by simp);obtain⟨ux,eux,rx⟩:=rv.get ex;obtain⟨uy,euy,ry⟩:=rv'.get ey;have e1:its.toArray[j]=ux:=by
  have:=(cJ.mp eux).2;simpa using this
 have e2:its'.toArray[j]=uy:=by
  have:=(cJ.mp euy).2;simpa using this
 have g1:ds.getD j .non=ds[j]'(by omega):=by simp[eN,(show j<ds.length by omega)]
 have g2:ds'.getD j .non=ds'[j]'(by omega):=by simp[eN,(show j<ds'.length by omega)]
 rw[e1,e2,g1,g2];exact zHE I n _ _ x y ux uy A dx dy rx ry (f _ (dG _)) (f' _ (dG _)) hu
theorem zBW{ds ds':List D}{n n':Nat}(h:ds.length=n)(h':ds'.length=n'):eqDs ds ds'=((cH (min n n')).all (fun j=>eqD (ds.getD j .non) (ds'.getD j .non))&&n==n'):=by
 rw[zDx,h,h']
theorem zOZ(I:zT X pins σ1 H s){n:Nat}{d d':D}{v v':V}{u u':Value}(h:zO X.K H d v)(h':zO X.K H d' v')(r:RelV v u)(r':RelV v' u')(f:flat n d=true)(f':flat n d'=true)(hu:A.units+n+1<cLine) :
  SeqAt.RcAt A s u u' (eqD d d'):=by
 have hu0:A.units<cLine:=by omega
 have tupI:∀ {d:D} {v:V} {u:Value} {ds:List D},d=.tup ds->zO X.K H d v->RelV v u->∃ a xs its,u=.ref a/\Dens X.K H ds xs/\zc xs its/\s.heap.IsTuple a its.toArray:=fun {d v u ds} e h r=>by
  subst e;unfold zO at h;obtain⟨a,xs,rfl,hs,hd⟩:=h;cases r;obtain⟨its,rv,tp,_⟩:=I.tuple hs;exact⟨a,xs,its,rfl,hd,rv,tp⟩
 cases d with
 | tup ds =>
  obtain⟨a,xs,its,rfl,hd,rv,tp⟩:=tupI rfl h r;cases d' with
  | tup ds' =>
   obtain⟨a',xs',its',rfl,hd',rv',tp'⟩:=tupI rfl h' r';cases n with
   | zero=>simp[flat] at f
   | succ n =>
    have q:=SeqAt.RcAt.tuples (A:=A) (s:=s) tp tp' hu0 (zDc (A:=A.in1) I hd hd' rv rv' (by simpa[flat] using f) (by simpa[flat] using f') (by rw[in1_units];omega));have e:eqD (.tup ds) (.tup ds')=((cH (min its.toArray.size its'.toArray.size)).all (fun j=>eqD (ds.getD j .non) (ds'.getD j .non))&&its.toArray.size==its'.toArray.size) :=
     zBW (by simp[hd.length,rv.length]) (by simp[hd'.length,rv'.length])
    rw[e];exact q
  | adr _=>cases n<;>simp[flat] at f'
  | dic _=>cases n<;>simp[flat] at f'
  | non=>unfold zO at h';subst h';cases r';exact SeqAt.RcAt.tuple_none tp hu0
  | bl _=>unfold zO at h';subst h';cases r';exact SeqAt.RcAt.tuple_bool _ tp hu0
  | int _=>unfold zO at h';subst h';obtain⟨t,rfl⟩:=r';exact SeqAt.RcAt.tuple_int _ _ tp hu0
  | str _=>unfold zO at h';subst h';obtain⟨t,rfl⟩:=r';exact SeqAt.RcAt.tuple_str _ _ tp hu0
 | adr _=>cases n<;>simp[flat] at f
 | dic _=>cases n<;>simp[flat] at f
 | non =>
  unfold zO at h;subst h;cases r;cases d' with
  | tup ds'=>obtain⟨a',xs',its',rfl,hd',rv',tp'⟩:=tupI rfl h' r';exact SeqAt.RcAt.none_tuple tp' hu0
  | adr _=>cases n<;>simp[flat] at f'
  | dic _=>cases n<;>simp[flat] at f'
  | non=>unfold zO at h';subst h';cases r';exact SeqAt.RcAt.none_none
  | bl _=>unfold zO at h';subst h';cases r';exact SeqAt.RcAt.none_bool _
  | int _=>unfold zO at h';subst h';obtain⟨t,rfl⟩:=r';exact SeqAt.RcAt.none_int _ _
  | str _=>unfold zO at h';subst h';obtain⟨t,rfl⟩:=r';exact SeqAt.RcAt.none_str _ _
 | bl _ =>
  unfold zO at h;subst h;cases r;cases d' with
  | tup ds'=>obtain⟨a',xs',its',rfl,hd',rv',tp'⟩:=tupI rfl h' r';exact SeqAt.RcAt.bool_tuple _ tp' hu0
  | adr _=>cases n<;>simp[flat] at f'
  | dic _=>cases n<;>simp[flat] at f'
  | non=>unfold zO at h';subst h';cases r';exact SeqAt.RcAt.bool_none _
  | bl _=>unfold zO at h';subst h';cases r';exact SeqAt.RcAt.bool_bool _ _
  | int _=>unfold zO at h';subst h';obtain⟨t,rfl⟩:=r';exact SeqAt.RcAt.bool_int _ _ _
  | str _=>unfold zO at h';subst h';obtain⟨t,rfl⟩:=r';exact SeqAt.RcAt.bool_str _ _ _
 | int _ =>
  unfold zO at h;subst h;obtain⟨t,rfl⟩:=r;cases d' with
  | tup ds'=>obtain⟨a',xs',its',rfl,hd',rv',tp'⟩:=tupI rfl h' r';exact SeqAt.RcAt.int_tuple _ _ tp' hu0
  | adr _=>cases n<;>simp[flat] at f'
  | dic _=>cases n<;>simp[flat] at f'
  | non=>unfold zO at h';subst h';cases r';exact SeqAt.RcAt.int_none _ _
  | bl _=>unfold zO at h';subst h';cases r';exact SeqAt.RcAt.int_bool _ _ _
  | int _=>unfold zO at h';subst h';obtain⟨t,rfl⟩:=r';exact SeqAt.RcAt.int_int _ _ _ _
  | str _=>unfold zO at h';subst h';obtain⟨t,rfl⟩:=r';exact SeqAt.RcAt.int_str _ _ _ _
 | str _ =>
  unfold zO at h;subst h;obtain⟨t,rfl⟩:=r;cases d' with
  | tup ds'=>obtain⟨a',xs',its',rfl,hd',rv',tp'⟩:=tupI rfl h' r';exact SeqAt.RcAt.str_tuple _ _ tp' hu0
  | adr _=>cases n<;>simp[flat] at f'
  | dic _=>cases n<;>simp[flat] at f'
  | non=>unfold zO at h';subst h';cases r';exact SeqAt.RcAt.str_none _ _
  | bl _=>unfold zO at h';subst h';cases r';exact SeqAt.RcAt.str_bool _ _ _
  | int _=>unfold zO at h';subst h';obtain⟨t,rfl⟩:=r';exact SeqAt.RcAt.str_int _ _ _ _
  | str _=>unfold zO at h';subst h';obtain⟨t,rfl⟩:=r';exact SeqAt.RcAt.str_str _ _ _ _
theorem zOa(I:zT X pins σ1 H s){n:Nat}{ds ds':List D}{xs xs':List V}{a a':Addr}(hs:SqL X.K H a xs)(hd:Dens X.K H ds xs)(hs':SqL X.K H a' xs')(hd':Dens X.K H ds' xs')(f:∀ d∈ds,flat n d=true)(f':∀ d∈ds',flat n d=true)(hu:A.units+n+1<cLine) :
  SeqAt.RcAt A s (.ref a) (.ref a') (eqDs ds ds'):=by
 have hu0:A.units<cLine:=by omega
 obtain⟨its,rv,pl,_⟩:=I.list hs;obtain⟨its',rv',pl',_⟩:=I.list hs';have e:=zBW (ds:=ds) (ds':=ds') (n:=its.toArray.size) (n':=its'.toArray.size) (by simp[hd.length,rv.length]) (by simp[hd'.length,rv'.length]);by_cases hl:its.toArray.size=its'.toArray.size
 ·have q:=SeqAt.RcAt.lists (A:=A) (s:=s) pl.isList pl'.isList hl hu0 (zDc (A:=A.in1) I hd hd' rv rv' f f' (by rw[in1_units];omega))
  have e':eqDs ds ds'=(cH its.toArray.size).all (fun j=>eqD (ds.getD j .non) (ds'.getD j .non)):=by
   rw[e,<-hl];simp
  rw[e'];exact q
 ·have e':eqDs ds ds'=false:=by
   rw[e];have:(its.toArray.size==its'.toArray.size)=false:=by simpa using hl
   rw[this,Bool.and_false]
  rw[e'];exact SeqAt.RcAt.lists_lengths pl.isList pl'.isList (by simpa using hl) hu0
noncomputable def zOb(K:PySem.W.Frag)(ng:Bool):R2:=fun x y H Q=>(∃ d d',zO K H d x/\zO K H d' y/\flat 8 d=true/\flat 8 d'=true/\Q (.bl (if ng then !eqD d d' else eqD d d')) H) \/
 (∃ a a' xs xs' ds ds',x=.ref a/\y=.ref a'/\SqL K H a xs/\SqL K H a' xs'/\Dens K H ds xs/\Dens K H ds' xs'/\(∀ d∈ds,flat 8 d=true)/\(∀ d∈ds',flat 8 d=true)/\Q (.bl (if ng then !eqDs ds ds' else eqDs ds ds')) H)
theorem zKP(hu:X.A.units+10<cLine):OpR X (compareOp .Eq) (zOb X.K false):=by
 intro pins s σ H x y v u Q I rx ry h;rcases h with ⟨d,d',h1,h2,f1,f2,q⟩ | ⟨a,a',xs,xs',ds,ds',rfl,rfl,h1,h2,h3,h4,f1,f2,q⟩
 ·exact zOZ (A:=X.A) I h1 h2 rx ry f1 f2 (by omega) X.prog X.w X.xe _ ⟨.bl _,H,I,rfl,q⟩
 ·cases rx;cases ry
  exact zOa (A:=X.A) I h1 h3 h2 h4 f1 f2 (by omega) X.prog X.w X.xe _ ⟨.bl _,H,I,rfl,q⟩
theorem zOc(I:zT X pins σ1 H s){n:Nat}{d d':D}{v v':V}{u u':Value}(h:zO X.K H d v)(h':zO X.K H d' v')(r:RelV v u)(r':RelV v' u')(f:flat n d=true)(f':flat n d'=true)(hu:A.units+n+1<cLine) :
  SeqAt.RcNeAt A s u u' (!eqD d d'):=by
 have hu0:A.units<cLine:=by omega
 have tupI:∀ {d:D} {v:V} {u:Value} {ds:List D},d=.tup ds->zO X.K H d v->RelV v u->∃ a xs its,u=.ref a/\Dens X.K H ds xs/\zc xs its/\s.heap.IsTuple a its.toArray:=fun {d v u ds} e h r=>by
  subst e;unfold zO at h;obtain⟨a,xs,rfl,hs,hd⟩:=h;cases r;obtain⟨its,rv,tp,_⟩:=I.tuple hs;exact⟨a,xs,its,rfl,hd,rv,tp⟩
 cases d with
 | tup ds =>
  obtain⟨a,xs,its,rfl,hd,rv,tp⟩:=tupI rfl h r;cases d' with
  | tup ds' =>
   obtain⟨a',xs',its',rfl,hd',rv',tp'⟩:=tupI rfl h' r';cases n with
   | zero=>simp[flat] at f
   | succ n =>
    have q:=SeqAt.RcNeAt.tuples (A:=A) (s:=s) tp tp' hu0 (zDc (A:=A.in1) I hd hd' rv rv' (by simpa[flat] using f) (by simpa[flat] using f') (by rw[in1_units];omega));have e:eqD (.tup ds) (.tup ds')=((cH (min its.toArray.size its'.toArray.size)).all (fun j=>eqD (ds.getD j .non) (ds'.getD j .non))&&its.toArray.size==its'.toArray.size) :=
     zBW (by simp[hd.length,rv.length]) (by simp[hd'.length,rv'.length])
    rw[e];exact q
  | adr _=>cases n<;>simp[flat] at f'
  | dic _=>cases n<;>simp[flat] at f'
  | non=>unfold zO at h';subst h';cases r';exact SeqAt.RcNeAt.tuple_none tp hu0
  | bl _=>unfold zO at h';subst h';cases r';exact SeqAt.RcNeAt.tuple_bool _ tp hu0
  | int _=>unfold zO at h';subst h';obtain⟨t,rfl⟩:=r';exact SeqAt.RcNeAt.tuple_int _ _ tp hu0
  | str _=>unfold zO at h';subst h';obtain⟨t,rfl⟩:=r';exact SeqAt.RcNeAt.tuple_str _ _ tp hu0
 | adr _=>cases n<;>simp[flat] at f
 | dic _=>cases n<;>simp[flat] at f
 | non =>
  unfold zO at h;subst h;cases r;cases d' with
  | tup ds'=>obtain⟨a',xs',its',rfl,hd',rv',tp'⟩:=tupI rfl h' r';exact SeqAt.RcNeAt.none_tuple tp' hu0
  | adr _=>cases n<;>simp[flat] at f'
  | dic _=>cases n<;>simp[flat] at f'
  | non=>unfold zO at h';subst h';cases r';exact SeqAt.RcNeAt.none_none
  | bl _=>unfold zO at h';subst h';cases r';exact SeqAt.RcNeAt.none_bool _
  | int _=>unfold zO at h';subst h';obtain⟨t,rfl⟩:=r';exact SeqAt.RcNeAt.none_int _ _
  | str _=>unfold zO at h';subst h';obtain⟨t,rfl⟩:=r';exact SeqAt.RcNeAt.none_str _ _
 | bl _ =>
  unfold zO at h;subst h;cases r;cases d' with
  | tup ds'=>obtain⟨a',xs',its',rfl,hd',rv',tp'⟩:=tupI rfl h' r';exact SeqAt.RcNeAt.bool_tuple _ tp' hu0
  | adr _=>cases n<;>simp[flat] at f'
  | dic _=>cases n<;>simp[flat] at f'
  | non=>unfold zO at h';subst h';cases r';exact SeqAt.RcNeAt.bool_none _
  | bl _=>unfold zO at h';subst h';cases r';exact SeqAt.RcNeAt.bool_bool _ _
  | int _=>unfold zO at h';subst h';obtain⟨t,rfl⟩:=r';exact SeqAt.RcNeAt.bool_int _ _ _
  | str _=>unfold zO at h';subst h';obtain⟨t,rfl⟩:=r';exact SeqAt.RcNeAt.bool_str _ _ _
 | int _ =>
  unfold zO at h;subst h;obtain⟨t,rfl⟩:=r;cases d' with
  | tup ds'=>obtain⟨a',xs',its',rfl,hd',rv',tp'⟩:=tupI rfl h' r';exact SeqAt.RcNeAt.int_tuple _ _ tp' hu0
  | adr _=>cases n<;>simp[flat] at f'
  | dic _=>cases n<;>simp[flat] at f'
  | non=>unfold zO at h';subst h';cases r';exact SeqAt.RcNeAt.int_none _ _
  | bl _=>unfold zO at h';subst h';cases r';exact SeqAt.RcNeAt.int_bool _ _ _
  | int _=>unfold zO at h';subst h';obtain⟨t,rfl⟩:=r';exact SeqAt.RcNeAt.int_int _ _ _ _
  | str _=>unfold zO at h';subst h';obtain⟨t,rfl⟩:=r';exact SeqAt.RcNeAt.int_str _ _ _ _
 | str _ =>
  unfold zO at h;subst h;obtain⟨t,rfl⟩:=r;cases d' with
  | tup ds'=>obtain⟨a',xs',its',rfl,hd',rv',tp'⟩:=tupI rfl h' r';exact SeqAt.RcNeAt.str_tuple _ _ tp' hu0
  | adr _=>cases n<;>simp[flat] at f'
  | dic _=>cases n<;>simp[flat] at f'
  | non=>unfold zO at h';subst h';cases r';exact SeqAt.RcNeAt.str_none _ _
  | bl _=>unfold zO at h';subst h';cases r';exact SeqAt.RcNeAt.str_bool _ _ _
  | int _=>unfold zO at h';subst h';obtain⟨t,rfl⟩:=r';exact SeqAt.RcNeAt.str_int _ _ _ _
  | str _=>unfold zO at h';subst h';obtain⟨t,rfl⟩:=r';exact SeqAt.RcNeAt.str_str _ _ _ _
theorem zOd(I:zT X pins σ1 H s){n:Nat}{ds ds':List D}{xs xs':List V}{a a':Addr}(hs:SqL X.K H a xs)(hd:Dens X.K H ds xs)(hs':SqL X.K H a' xs')(hd':Dens X.K H ds' xs')(f:∀ d∈ds,flat n d=true)(f':∀ d∈ds',flat n d=true)(hu:A.units+n+1<cLine) :
  SeqAt.RcNeAt A s (.ref a) (.ref a') (!eqDs ds ds'):=by
 have hu0:A.units<cLine:=by omega
 obtain⟨its,rv,pl,_⟩:=I.list hs;obtain⟨its',rv',pl',_⟩:=I.list hs';have e:=zBW (ds:=ds) (ds':=ds') (n:=its.toArray.size) (n':=its'.toArray.size) (by simp[hd.length,rv.length]) (by simp[hd'.length,rv'.length]);by_cases hl:its.toArray.size=its'.toArray.size
 ·have q:=SeqAt.RcNeAt.lists (A:=A) (s:=s) pl.isList pl'.isList hl hu0 (zDc (A:=A.in1) I hd hd' rv rv' f f' (by rw[in1_units];omega))
  have e':eqDs ds ds'=(cH its.toArray.size).all (fun j=>eqD (ds.getD j .non) (ds'.getD j .non)):=by
   rw[e,<-hl];simp
  rw[e'];exact q
 ·have e':eqDs ds ds'=false:=by
   rw[e];have:(its.toArray.size==its'.toArray.size)=false:=by simpa using hl
   rw[this,Bool.and_false]
  rw[e'];exact SeqAt.RcNeAt.lists_lengths pl.isList pl'.isList (by simpa using hl) hu0
theorem zOe(hu:X.A.units+10<cLine):OpR X (compareOp .NotEq) (zOb X.K true):=by
 intro pins s σ H x y v u Q I rx ry h;rcases h with ⟨d,d',h1,h2,f1,f2,q⟩ | ⟨a,a',xs,xs',ds,ds',rfl,rfl,h1,h2,h3,h4,f1,f2,q⟩
 ·exact zOc (A:=X.A) I h1 h2 rx ry f1 f2 (by omega) X.prog X.w X.xe _ ⟨.bl _,H,I,rfl,q⟩
 ·cases rx;cases ry
  exact zOd (A:=X.A) I h1 h3 h2 h4 f1 f2 (by omega) X.prog X.w X.xe _ ⟨.bl _,H,I,rfl,q⟩
noncomputable def zOf(K:PySem.W.Frag)(ng:Bool):R2:=fun x y H Q=>∃ d ds a xs,zO K H d x/\y=.ref a/\(SqL K H a xs\/SqT K H a xs)/\Dens K H ds xs/\flat 8 d=true/\(∀ z∈ds,flat 8 z=true)/\Q (.bl (if ng then !ds.any fun z=>eqD z d else ds.any fun z=>eqD z d)) H
theorem zEt{its:List Value}{ds:List D}(g:D->Bool)(hl:its.length=ds.length)(hinj:∀(i j:Nat) (u:Value) (z z':D),its[i]?=some u->its[j]?=some u->ds[i]?=some z->ds[j]?=some z'->z=z') :
  ∃ e:Value->Bool,(∀(j:Nat) (u:Value) (z:D),its[j]?=some u->ds[j]?=some z->e u=g z)/\its.any e=ds.any g:=by
 classical
 have key:∀(j:Nat) (u:Value) (z:D),its[j]?=some u->ds[j]?=some z->decide (∃(j:Nat) (z:D),its[j]?=some u/\ds[j]?=some z/\g z=true)=g z:=by
  intro j u z h1 h2;cases hg:g z with
  | true=>exact decide_eq_true ⟨j,z,h1,h2,hg⟩
  | false =>
   refine decide_eq_false ?_;rintro⟨j',z',h3,h4,h5⟩;rw[hinj j j' u z z' h1 h3 h2 h4,h5] at hg;cases hg
 refine⟨fun u=>decide (∃(j:Nat) (z:D),its[j]?=some u/\ds[j]?=some z/\g z=true),key,?_⟩;rw[da,List.any_eq_true,List.any_eq_true];constructor
 ·rintro⟨u,hu,he⟩
  obtain⟨j,z,h1,h2,h3⟩:=of_decide_eq_true he;exact⟨z,dE h2,h3⟩
 ·rintro⟨z,hz,hg⟩
  obtain⟨j,hj⟩:=List.getElem?_of_mem hz;have hj':j<ds.length:=(cJ.mp hj).1;refine⟨its[j]'(by omega),dG _,decide_eq_true ⟨j,z,by simp,hj,hg⟩⟩
theorem zDd(I:zT X pins σ1 H s){n:Nat}{ds:List D}{xs:List V}{its:List Value}{d:D}{v:V}{u:Value}(hd:Dens X.K H ds xs)(rv:zc xs its)(h:zO X.K H d v)(r:RelV v u)(f:∀ z∈ds,flat n z=true)(f':flat n d=true)(hu:A.units+n<cLine) :
  ∃ e:Value->Bool,(∀ y,y∈its.toArray->SeqAt.EqAt A s y u (e y))/\its.toArray.any e=ds.any fun z=>eqD z d:=by
 have l1:=hd.length;have l2:=rv.length;obtain⟨e,h1,h2⟩:=zEt (its:=its) (ds:=ds) (fun z=>eqD z d) (by omega) (by
  intro i j w z z' a1 a2 a3 a4;obtain⟨x,b1,b2⟩:=hd.get a3;obtain⟨x',b3,b4⟩:=hd.get a4;obtain⟨w1,c1,c2⟩:=rv.get b1;obtain⟨w2,c3,c4⟩:=rv.get b3;rw[a1] at c1;cases c1;rw[a2] at c3;cases c3;have:=c2.inj c4;subst this;exact zO.inj I b2 b4 (f z (dE a3)) (f z' (dE a4)))
 refine⟨e,fun y hy=>?_,by simpa using h2⟩;have hy':y∈its:=by simpa using hy
 obtain⟨j,hj⟩:=List.getElem?_of_mem hy';have hjl:j<its.length:=(cJ.mp hj).1;obtain⟨x,b1,b2⟩:=hd.get (i:=j) (d:=ds[j]'(by omega)) (by simp);obtain⟨w1,c1,c2⟩:=rv.get b1;rw[hj] at c1;cases c1;rw[h1 j _ (ds[j]'(by omega)) hj (by simp)];exact zHE I n _ _ x v _ u A b2 h c2 r (f _ (dG _)) f' hu
theorem zOg(hu:X.A.units+10<cLine):OpR X (compareOp .In) (zOf X.K false):=by
 intro pins s σ H x y v u Q I rx ry h;obtain⟨d,ds,a,xs,h1,rfl,h2,h3,f1,f2,q⟩:=h;cases ry;rcases h2 with h2 | h2
 ·obtain⟨its,rv,pl,_⟩:=I.list h2
  obtain⟨e,e1,e2⟩:=zDd (A:=X.A.in1) I h3 rv h1 rx f2 f1 (by rw[in1_units];omega);exact SeqAt.in_listAt e pl.isList e1 ⟨.bl _,H,I,rfl,by rw[e2];exact q⟩
 ·obtain⟨its,rv,tp,_⟩:=I.tuple h2
  obtain⟨e,e1,e2⟩:=zDd (A:=X.A.in1) I h3 rv h1 rx f2 f1 (by rw[in1_units];omega);exact SeqAt.in_tupleAt e (show s.heap.IsTuple a its.toArray from tp) e1 ⟨.bl _,H,I,rfl,by rw[e2];exact q⟩
theorem zI5(hu:X.A.units+10<cLine):OpR X (compareOp .NotIn) (zOf X.K true):=by
 intro pins s σ H x y v u Q I rx ry h;obtain⟨d,ds,a,xs,h1,rfl,h2,h3,f1,f2,q⟩:=h;cases ry;rcases h2 with h2 | h2
 ·obtain⟨its,rv,pl,_⟩:=I.list h2
  obtain⟨e,e1,e2⟩:=zDd (A:=X.A.in1) I h3 rv h1 rx f2 f1 (by rw[in1_units];omega);exact SeqAt.notIn_listAt e pl.isList e1 ⟨.bl _,H,I,rfl,by rw[e2];exact q⟩
 ·obtain⟨its,rv,tp,_⟩:=I.tuple h2
  obtain⟨e,e1,e2⟩:=zDd (A:=X.A.in1) I h3 rv h1 rx f2 f1 (by rw[in1_units];omega);exact SeqAt.notIn_tupleAt e (show s.heap.IsTuple a its.toArray from tp) e1 ⟨.bl _,H,I,rfl,by rw[e2];exact q⟩
end
section
variable {X:Cx} {a b c e o:Expr} {es:List Expr} {pos p:Pos} {ta tb te:zf}
noncomputable def fEq(ng:Bool):D->D->Gp->Q2->Prop:=fun x y G R=>match x,y with
 | .adr l,.adr l'=>∃ ds ds',Ls G l ds/\Ls G l' ds'/\(∀ d∈ds,flat 8 d=true)/\(∀ d∈ds',flat 8 d=true)/\R (.bl (if ng then !eqDs ds ds' else eqDs ds ds')) G
 | x,y=>flat 8 x=true/\flat 8 y=true/\R (.bl (if ng then !eqD x y else eqD x y)) G
theorem zHF{K:PySem.W.Frag}{ng:Bool}:Fit K (zOb K ng) (fEq ng):=by
 intro dx dy G R x y H Q h r d1 d2 k;unfold fEq at h;split at h
 ·rename_i l l'
  obtain⟨ds,ds',e1,e2,f1,f2,h⟩:=h;obtain⟨xs,s1,t1⟩:=r.sq e1;obtain⟨xs',s2,t2⟩:=r.sq e2;unfold zO at d1 d2;exact .inr ⟨l,l',xs,xs',ds,ds',d1,d2,s1,s2,t1,t2,f1,f2,k _ G h _ H (.refl H) r (by unfold zO;rfl)⟩
 ·obtain⟨f1,f2,h⟩:=h
  exact .inl ⟨_,_,d1,d2,f1,f2,k _ G h _ H (.refl H) r (by unfold zO;rfl)⟩
noncomputable def fIn(ng:Bool):D->D->Gp->Q2->Prop:=fun x y G R=>match y with
 | .adr l=>∃ ds,Ls G l ds/\flat 8 x=true/\(∀ d∈ds,flat 8 d=true)/\R (.bl (if ng then !ds.any fun z=>eqD z x else ds.any fun z=>eqD z x)) G
 | .tup ds=>flat 8 x=true/\(∀ d∈ds,flat 8 d=true)/\R (.bl (if ng then !ds.any fun z=>eqD z x else ds.any fun z=>eqD z x)) G
 | _=>False
theorem zKQ{K:PySem.W.Frag}{ng:Bool}:Fit K (zOf K ng) (fIn ng):=by
 intro dx dy G R x y H Q h r d1 d2 k;unfold fIn at h;split at h
 ·rename_i l
  obtain⟨ds,e1,f1,f2,h⟩:=h;obtain⟨xs,s1,t1⟩:=r.sq e1;unfold zO at d2;exact⟨dx,ds,l,xs,d1,d2,.inl s1,t1,f1,f2,k _ G h _ H (.refl H) r (by unfold zO;rfl)⟩
 ·rename_i ds
  obtain⟨f1,f2,h⟩:=h;unfold zO at d2;obtain⟨l,xs,e,s1,t1⟩:=d2;exact⟨dx,ds,l,xs,d1,e,.inr s1,t1,f1,f2,k _ G h _ H (.refl H) r (by unfold zO;rfl)⟩
 ·exact h.elim
theorem zMJ{k:Nat}(hr:yM k X.A)(ha:E2 X a ta)(hb:E2 X b tb):E2 X (.Compare a [.Eq] [b] pos) (zS (fEq false) ta tb):=zNa (zKP (by have:=hr.units;omega)) zHF ha hb (zBu _)
theorem zDz{k:Nat}(hr:yM k X.A)(ha:E2 X a ta)(hb:E2 X b tb):T2 X (.Compare a [.Eq] [b] pos) (xB (zS (fEq false) ta tb)):=zCk (zKP (by have:=hr.units;omega)) zHF ha hb (zBu _)
theorem zEb{k:Nat}(hr:yM k X.A)(ha:E2 X a ta)(hb:E2 X b tb):T2 X (.Compare a [.NotEq] [b] pos) (xB (zS (fEq true) ta tb)):=zCk (zOe (by have:=hr.units;omega)) zHF ha hb (zBu _)
theorem zQg{k:Nat}(hr:yM k X.A)(ha:E2 X a ta)(hb:E2 X b tb)(hm:autoParam (behindInMarks .In b=false) Zq4._auto_1):T2 X (.Compare a [.In] [b] pos) (xB (zS (fIn false) ta tb)):=zCk (zOg (by have:=hr.units;omega)) zKQ ha hb hm
theorem zH9{k:Nat}(hr:yM k X.A)(ha:E2 X a ta)(hb:E2 X b tb)(hm:autoParam (behindInMarks .NotIn b=false) Zq4._auto_1):T2 X (.Compare a [.NotIn] [b] pos) (xB (zS (fIn true) ta tb)):=zCk (zI5 (by have:=hr.units;omega)) zKQ ha hb hm
noncomputable def ye:D->D->Gp->Q2->Prop:=fun x y G R=>match x,y with
 | .adr l,.int k=>∃ ds d,Ls G l ds/\atI ds k=some d/\R d G
 | .tup ds,.int k=>match atI ds k with | some d=>R d G | none=>False
 | _,_=>False
theorem zGC{K:PySem.W.Frag}{H:Hp}{ds:List D}{xs:List V}{k:Int}{d:D}(h:Dens K H ds xs)(e:atI ds k=some d):∃ x,atI xs k=some x/\zO K H d x:=by
 unfold atI at e ⊢;rw[h.length] at e;cases q:ixN xs.length k with
 | none=>rw[q] at e;cases e
 | some j =>
  rw[q] at e;exact h.get e
theorem zOh{K:PySem.W.Frag}:Fit K (fun x y H Q=>zPi K x y H Q\/zPj K x y H Q) ye:=by
 intro dx dy G R x y H Q h r d1 d2 k;unfold ye at h;split at h
 ·rename_i l i
  obtain⟨ds,d,e1,e2,h⟩:=h;obtain⟨xs,s1,t1⟩:=r.sq e1;obtain⟨z,e3,t2⟩:=zGC t1 e2;unfold zO at d1 d2;exact .inl ⟨l,xs,i,z,d1,d2,s1,e3,k _ G h _ H (.refl H) r t2⟩
 ·rename_i ds i
  split at h
  ·rename_i d e2
   unfold zO at d1 d2;obtain⟨l,xs,e,s1,t1⟩:=d1;obtain⟨z,e3,t2⟩:=zGC t1 e2;exact .inr ⟨l,xs,i,z,e,d2,s1,e3,k _ G h _ H (.refl H) r t2⟩
  ·exact h.elim
 ·exact h.elim
theorem ya(ha:E2 X a ta)(hb:E2 X b tb)(hs:autoParam (zFO b) Zq8._auto_1):E2 X (.Subscript a b pos) (zS ye ta tb) :=
 PE.mono (zNZ (zMA.or zOS) ha hb hs) fun σ1 H Q h=>zF9 zOh h
noncomputable def zFU(K:PySem.W.Frag)(r:List V->Hp->VK->Prop)(f:wU):Prop :=
 ∀ ds G R vs H Q,f ds G R->zt K G H->Dens K H ds vs->(∀ d G',R d G'->∀ v H',zp H H'->zt K G' H'->zO K H' d v->Q v H')->r vs H Q
theorem zEu{K:PySem.W.Frag}{r:List V->Hp->VK->Prop}{f:wU}{t:wE}(hf:zFU K r f){σ1:L2.St}{H:Hp}{Q:VK}(h:lE K (zI f t) σ1 H Q):tCB r (lA K t) σ1 H Q:=by
 obtain⟨σ,G,R,rl,q,k⟩:=h;exact⟨σ,G,_,rl,q,fun ds G1 q1 vs H1 g1 r1 d1=>hf ds G1 R vs H1 Q q1 r1 d1 fun d G' q' v H' g'=>k d G' q' v H' (g1.trans g')⟩
theorem zDe{id:String}{x:Str}{r:List V->Hp->VK->Prop}{f:wU}{t:wE}(hc:wD X (.builtin id) r)(hf:zFU X.K r f)(hg:Gl X x)(hm:X.mg x=none)(hv:bootBuiltins x=some (.builtin id))(ha:A2 X (e::es) t)(hn:autoParam (x≠"__name__") Zq2._auto_1)(hdb:autoParam ((x==("__debug__":Str))=false) Zq2._auto_1)
  (he:autoParam (starEach (e::es) X.env=(false,eval e X.env)::starEach es X.env) Zq4._auto_1) (hpl:autoParam ((backTo pos (starEach es X.env)).any (·.1)=false) Zq4._auto_1):E2 X (.Call (.Name x p) (e::es) [] pos) (zI f t) :=
 PE.mono (zAp hc hg hm hv ha hn hdb he hpl) fun σ1 H Q h=>zEu hf h
theorem zD0{T:String}{x:Str}{r:List V->Hp->VK->Prop}{f:wU}{t:wE}(hc:wD X (.type T) r)(hf:zFU X.K r f)(hg:Gl X x)(hm:X.mg x=none)(hv:bootBuiltins x=some (.type T))(ha:A2 X (e::es) t)(hn:autoParam (x≠"__name__") Zq2._auto_1)(hdb:autoParam ((x==("__debug__":Str))=false) Zq2._auto_1)
  (he:autoParam (starEach (e::es) X.env=(false,eval e X.env)::starEach es X.env) Zq4._auto_1) (hpl:autoParam ((backTo pos (starEach es X.env)).any (·.1)=false) Zq4._auto_1):E2 X (.Call (.Name x p) (e::es) [] pos) (zI f t) :=
 PE.mono (zB9 hc hg hm hv ha hn hdb he hpl) fun σ1 H Q h=>zEu hf h
noncomputable def zGD(G:Gp):D->List D->Prop
 | .tup es,ds=>es=ds
 | .adr l,ds=>Ls G l ds
 | _,_=>False
theorem zIA{K:PySem.W.Frag}{G:Gp}{H:Hp}{d:D}{v:V}{ds:List D}(r:zt K G H)(h:zO K H d v)(e:zGD G d ds):∃ l xs,v=.ref l/\(SqL K H l xs\/SqT K H l xs)/\Dens K H ds xs:=by
 cases d with
 | tup _ =>
  have e:_=ds:=e;subst e;unfold zO at h;obtain⟨l,xs,e,s1,t1⟩:=h;exact⟨l,xs,e,.inr s1,t1⟩
 | adr l =>
  unfold zO at h;obtain⟨xs,s1,t1⟩:=r.sq (show Ls G l ds from e);exact⟨l,xs,h,.inl s1,t1⟩
 | _=>exact e.elim
theorem zAc{K:PySem.W.Frag}{H:Hp}{d:D}{vs:List V}(h:Dens K H [d] vs):∃ v,vs=[v]/\zO K H d v:=by
 unfold Dens at h;obtain⟨v,r,e,h1,h2⟩:=h;unfold Dens at h2;subst h2;exact⟨v,e,h1⟩
theorem zNd{K:PySem.W.Frag}{H:Hp}{d d':D}{vs:List V}(h:Dens K H [d,d'] vs):∃ v v',vs=[v,v']/\zO K H d v/\zO K H d' v':=by
 unfold Dens at h;obtain⟨v,r,e,h1,h2⟩:=h;obtain⟨v',e2,h3⟩:=zAc h2;subst e2;exact⟨v,v',e,h1,h3⟩
noncomputable def yG:wU:=fun ds G R=>match ds with | [d]=>∃ l,zGD G d l/\R (.int l.length) G | _=>False
theorem zMK:zFU X.K (fun xs H Q=>∃ p ys,xs=[.ref p]/\(SqL X.K H p ys\/SqT X.K H p ys)/\Q (.int ys.length) H) yG:=by
 intro ds G R vs H Q h r d k;unfold yG at h;split at h
 ·rename_i d0
  obtain⟨v,rfl,d1⟩:=zAc d;obtain⟨l,e,h⟩:=h;obtain⟨a,xs,rfl,s1,t1⟩:=zIA r d1 e;exact⟨a,xs,rfl,s1,k _ G h _ H (.refl H) r (by rw[<-t1.length];unfold zO;rfl)⟩
 ·exact h.elim
theorem zAU{t:wE}(hg:Gl X "len")(hm:X.mg "len"=none)(ha:A2 X [e] t)(he:autoParam (starEach [e] X.env=(false,eval e X.env)::starEach [] X.env) Zq4._auto_1)(hpl:autoParam ((backTo pos (starEach [] X.env)).any (·.1)=false) Zq4._auto_1):E2 X (.Call (.Name "len" p) [e] [] pos) (zI yG t):=zDe zFQ zMK hg hm PySem.boot_len ha (by decide) (by decide) he hpl
noncomputable def zBL:wU:=fun ds G R=>match ds with | [.int i,.int j]=>R (.int (if j<i then j else i)) G | _=>False
noncomputable def zBo:wU:=fun ds G R=>match ds with | [.int i,.int j]=>R (.int (if j>i then j else i)) G | _=>False
theorem zKR{f:Int->Int->Int}{sp:wU}(hs:∀ ds G R,sp ds G R->∃ i j,ds=[.int i,.int j]/\R (.int (f i j)) G):zFU X.K (fun xs H Q=>∃ i j,xs=[.int i,.int j]/\Q (.int (f i j)) H) sp:=by
 intro ds G R vs H Q h r d k;obtain⟨i,j,rfl,h'⟩:=hs ds G R h;obtain⟨v,v',rfl,d1,d2⟩:=zNd d;unfold zO at d1 d2;subst d1 d2;exact⟨i,j,rfl,k _ G h' _ H (.refl H) r (by unfold zO;rfl)⟩
theorem zPq{t:wE}{e':Expr}(hc:X.calm=true)(hg:Gl X "min")(hm:X.mg "min"=none)(ha:A2 X [e,e'] t)(he:autoParam (starEach [e,e'] X.env=(false,eval e X.env)::starEach [e'] X.env) Zq4._auto_1)(hpl:autoParam ((backTo pos (starEach [e'] X.env)).any (·.1)=false) Zq4._auto_1):E2 X (.Call (.Name "min" p) [e,e'] [] pos) (zI zBL t):=zDe (zIy hc) (zKR fun ds G R h=>by unfold zBL at h;split at h;exact⟨_,_,rfl,h⟩;exact h.elim) hg hm (by decide +kernel) ha (by decide) (by decide) he hpl
theorem zPr{t:wE}{e':Expr}(hc:X.calm=true)(hg:Gl X "max")(hm:X.mg "max"=none)(ha:A2 X [e,e'] t)(he:autoParam (starEach [e,e'] X.env=(false,eval e X.env)::starEach [e'] X.env) Zq4._auto_1)(hpl:autoParam ((backTo pos (starEach [e'] X.env)).any (·.1)=false) Zq4._auto_1):E2 X (.Call (.Name "max" p) [e,e'] [] pos) (zI zBo t):=zDe (zIx hc) (zKR fun ds G R h=>by unfold zBo at h;split at h;exact⟨_,_,rfl,h⟩;exact h.elim) hg hm (by decide +kernel) ha (by decide) (by decide) he hpl
end
section
variable {X:Cx} {a b c e o:Expr} {es:List Expr} {pos p p2:Pos} {ta tb te to:zf} {tl:TL2}
noncomputable def zML(K:PySem.W.Frag)(r:List V->Hp->VK->Prop)(g:wU):Prop :=
 ∀ ds G R l xs H Q,g ds G R->zt K G H->H l=some (.lst xs)->Dens K H ds xs->(∀ d G',R d G'->∀ v H',zp H H'->zt K G' H'->zO K H' d v->Q v H')->r [.ref l] H Q
noncomputable def zn(g:wU)(t:TL2):zf:=fun σ G R=>t σ G fun ds G1=>g ds G1 R
theorem zD1{K:PySem.W.Frag}{r:List V->Hp->VK->Prop}{g:wU}(hf:zML K r g){σ1:L2.St}{H:Hp}{Q:VK}(h:lE K (zn g tl) σ1 H Q):tCB r (zJ5 (lL K tl) zOO) σ1 H Q:=by
 obtain⟨σ,G,R,rl,q,k⟩:=h;exact⟨σ,G,_,rl,q,fun ds G1 q1 l xs H1 g1 r1 n e d1=>hf ds G1 R l xs H1 Q q1 r1 e d1 fun d G' q' v H' g'=>k d G' q' v H' (g1.trans g')⟩
theorem zI6{T:String}{x:Str}{r:List V->Hp->VK->Prop}{g:wU}(hc:wD X (.type T) r)(hf:zML X.K r g)(hg:Gl X x)(hm:X.mg x=none)(hv:bootBuiltins x=some (.type T))(ha:F2 X e tl)(hn:autoParam (x≠"__name__") Zq2._auto_1)(hdb:autoParam ((x==("__debug__":Str))=false) Zq2._auto_1)
  (he:autoParam (starEach [e] X.env=(false,eval e X.env)::starEach [] X.env) Zq4._auto_1) (hpl:autoParam ((backTo pos (starEach [] X.env)).any (·.1)=false) Zq4._auto_1):E2 X (.Call (.Name x p) [e] [] pos) (zn g tl) :=
 PE.mono (zB9 hc hg hm hv (wC ha zAo he) hn hdb he hpl) fun σ1 H Q h=>zD1 hf h
theorem zKS{id:String}{x:Str}{r:List V->Hp->VK->Prop}{g:wU}(hc:wD X (.builtin id) r)(hf:zML X.K r g)(hg:Gl X x)(hm:X.mg x=none)(hv:bootBuiltins x=some (.builtin id))(ha:F2 X e tl)(hn:autoParam (x≠"__name__") Zq2._auto_1)(hdb:autoParam ((x==("__debug__":Str))=false) Zq2._auto_1)
  (he:autoParam (starEach [e] X.env=(false,eval e X.env)::starEach [] X.env) Zq4._auto_1) (hpl:autoParam ((backTo pos (starEach [] X.env)).any (·.1)=false) Zq4._auto_1):E2 X (.Call (.Name x p) [e] [] pos) (zn g tl) :=
 PE.mono (zAp hc hg hm hv (wC ha zAo he) hn hdb he hpl) fun σ1 H Q h=>zD1 hf h
noncomputable def yS:wU:=fun ds G R=>R (.tup ds) G
theorem zHG{K:PySem.W.Frag}:zML K (fun xs H Q=>∃ p ys,xs=[.ref p]/\((SqL K H p ys/\∀ l,H l=none->Q (.ref l) (wo H l (.tup ys)))\/(SqT K H p ys/\Q (.ref p) H))) yS:=by
 intro ds G R l xs H Q h r e d k;refine⟨l,xs,rfl,.inl ⟨.of e,fun l' n=>k _ G h _ _ (.fresh n) (r.fresh n) ?_⟩⟩;unfold zO;exact⟨l',xs,rfl,.of zm,d.grow (.fresh n)⟩
theorem zBX(hg:Gl X "tuple")(hm:X.mg "tuple"=none)(ha:F2 X e tl)(he:autoParam (starEach [e] X.env=(false,eval e X.env)::starEach [] X.env) Zq4._auto_1)(hpl:autoParam ((backTo pos (starEach [] X.env)).any (·.1)=false) Zq4._auto_1) :
  E2 X (.Call (.Name "tuple" p) [e] [] pos) (zn yS tl):=zI6 zCP zHG hg hm (by decide +kernel) ha (by decide) (by decide) he hpl
noncomputable def zDf:wU:=fun ds G R=>match ds with | [d]=>∃ l,zGD G d l/\R (.tup l) G | _=>False
theorem zI7{K:PySem.W.Frag}:zFU K (fun xs H Q=>∃ p ys,xs=[.ref p]/\((SqL K H p ys/\∀ l,H l=none->Q (.ref l) (wo H l (.tup ys)))\/(SqT K H p ys/\Q (.ref p) H))) zDf:=by
 intro ds G R vs H Q h r d k;unfold zDf at h;split at h
 ·rename_i d0
  obtain⟨v,rfl,d1⟩:=zAc d;obtain⟨l,e,h⟩:=h;obtain⟨a,xs,rfl,s1,t1⟩:=zIA r d1 e;rcases s1 with s1 | s1
  ·refine⟨a,xs,rfl,.inl ⟨s1,fun l' n=>k _ G h _ _ (.fresh n) (r.fresh n) ?_⟩⟩
   unfold zO;exact⟨l',xs,rfl,.of zm,t1.grow (.fresh n)⟩
  ·refine⟨a,xs,rfl,.inr ⟨s1,k _ G h _ H (.refl H) r ?_⟩⟩
   unfold zO;exact⟨a,xs,rfl,s1,t1⟩
 ·exact h.elim
theorem zMM{t:wE}(hg:Gl X "tuple")(hm:X.mg "tuple"=none)(ha:A2 X [e] t)(he:autoParam (starEach [e] X.env=(false,eval e X.env)::starEach [] X.env) Zq4._auto_1)(hpl:autoParam ((backTo pos (starEach [] X.env)).any (·.1)=false) Zq4._auto_1) :
  E2 X (.Call (.Name "tuple" p) [e] [] pos) (zI zDf t):=zD0 zCP zI7 hg hm (by decide +kernel) ha (by decide) (by decide) he hpl
theorem zDO:∀ {xs:List V} {us:List Value},xs.length=us.length->(∀(i:Nat) (x:V) (u:Value),xs[i]?=some x->us[i]?=some u->RelV x u)->zc xs us
 | [],[],_,_=>.nil
 | [],_::_,h,_=>by cases h
 | _::_,[],h,_=>by cases h
 | x::xs,u::us,h,g=>.cons (g 0 x u rfl rfl) (zDO (by simpa using h) fun i y w e1 e2=>g (i+1) y w (by simpa using e1) (by simpa using e2))
theorem Dens.ints_inv{K:PySem.W.Frag}{H:Hp}:∀ {ns:List Int} {xs:List V},Dens K H (ns.map D.int) xs->xs=ns.map V.int
 | [],xs,h=>by unfold Dens at h;exact h
 | n::r,xs,h=>by
  rw[dt] at h;unfold Dens at h;obtain⟨x,y,rfl,h1,h2⟩:=h;unfold zO at h1;rw[h1,Dens.ints_inv h2];rfl
theorem zI8{t:TA}(hg:Gl X "range")(hm:X.mg "range"=none)(ha:PA X [a] t)(hs:autoParam (starEach [a] X.env=[(false,eval a X.env)]) Zq4._auto_1) :
  PE X (.Call (.Name "range" p) [a] [] pos) (fun σ H Q=>t σ H fun vs H1=>∃ j:Int,vs=[.int j]/\∀ l,H1 l=none->Q (.ref l) (wo H1 l (.rng 0 j))):=by
 intro pins s σ H Q I h;refine Call_ (zCZ I hg hm boot_range (PyProof.Rows.callWith_type1 (yj (ha pos pins s σ H _ I h) fun us s1 ⟨vs,H1,I1,r1,q1⟩=>?_) hs rfl));obtain⟨j,e,q⟩:=q1;subst e;cases r1 with
 | cons r rr =>
  cases rr;obtain⟨t,rfl⟩:=r;refine call_range_1 ?_;have hn:H1 s1.heap.objs.size=none:=I1.hok.fresh (cN _);exact⟨.ref s1.heap.objs.size,_,I1.laid (o:=.rng 0 j) (fun b u e=>cL _ e) (cN _) ⟨_,_,_,de _ rfl⟩,rfl,q _ hn⟩
theorem zHH(hc:X.calm=true):wD X (.type "list") (fun xs H Q=>∃ p j,xs=[.ref p]/\H p=some (.rng 0 j)/\(0<=j/\j<=1000000)/\∀ l,H l=none->Q (.ref l) (wo H l (.lst ((cH j.toNat).map fun(k:Nat)=>V.int k)))):=by
 intro pins s σ H xs us Q I r h;obtain⟨p,j,rfl,hp,⟨h0,h1⟩,q⟩:=h;obtain⟨u,rfl,rx⟩:=vals1 r;cases rx;obtain⟨t1,t2,t3,ho⟩:∃ t u v,s.heap.get? p=some { cls:=.type "range",data:=.fields #[.int 0 t,.int j u,.int 1 v] }:=I.hok p _ hp;have hsz:Builtin.Range.rangeSize 0 j 1=((j.toNat:Nat):Int):=by rw[rangeSize_one];split<;>omega
 refine call_list_range (I.ok.hd hc) (show IsRange s.heap p 0 j 1 t1 t2 t3 from ho) (small_one (by omega) (by omega) (by omega) (by omega)) hsz (by omega) fun h' tk acc' c' kp e hacc=>?_;have hn:H s.heap.objs.size=none:=I.hok.fresh (cN _);refine⟨.ref s.heap.objs.size,_,I.laid (o:=.lst ((cH j.toNat).map fun(k:Nat)=>V.int k)) kp (cN _) ?_,rfl,q _ hn⟩;refine⟨?_,acc'.toList,c',?_,by rw[e]⟩
 ·rw[cI,eD,sizeLine_eq];omega
 ·refine zDO (by simp[hacc.1]) fun i x v e1 e2=>?_
  have e2':acc'[i]?=some v:=by simpa using e2
  obtain⟨t,rfl⟩:=hacc.2 i v e2';rw[dl] at e1;cases q':(cH j.toNat)[i]? with
  | none=>rw[q'] at e1;cases e1
  | some k =>
   rw[q'] at e1;cases e1;have hk:k=i:=by
    have:=(cJ.mp q').2;simpa using this.symm
   subst hk;refine⟨t,?_⟩;congr 1;omega
noncomputable def zHI(t:wE):TL2:=fun σ G R=>t σ G fun ds G1=>match ds with | [.int j]=>(0<=j/\j<=1000000)/\R (yy 0 j.toNat) G1 | _=>False
theorem zMN{t:wE}{pos':Pos}(hc:X.calm=true)(hg:Gl X "list")(hm:X.mg "list"=none)(hg2:Gl X "range")(hm2:X.mg "range"=none)(ha:A2 X [a] t)(hs:autoParam (starEach [a] X.env=[(false,eval a X.env)]) Zq4._auto_1)
  (he:autoParam (starEach [.Call (.Name "range" p2) [a] [] pos] X.env=(false,eval (.Call (.Name "range" p2) [a] [] pos) X.env)::starEach [] X.env) Zq4._auto_1) (hpl:autoParam ((backTo pos' (starEach [] X.env)).any (·.1)=false) Zq4._auto_1) :
  F2 X (.Call (.Name "list" p) [.Call (.Name "range" p2) [a] [] pos] [] pos') (zHI t):=by
 refine PE.mono (zB9 (zHH hc) hg hm (by decide +kernel) (wC (zI8 hg2 hm2 ha hs) zAo he) (by decide) (by decide) he hpl) ?_;rintro σ1 H Q ⟨σ,G,R,rl,q,k⟩;refine⟨σ,G,_,rl,q,fun ds G1 q1 vs H1 g1 r1 d1=>?_⟩;split at q1
 ·rename_i j
  obtain⟨v,rfl,d2⟩:=zAc d1;unfold zO at d2;subst d2;refine⟨j,rfl,fun l n=>⟨l,j,rfl,zm,q1.1,fun l' n'=>?_⟩⟩;have g2:zp H1 (wo H1 l (.rng 0 j)):=.fresh n;have r2:=r1.fresh (o:=.rng 0 j) n;refine k _ G1 q1.2 l' _ _ ((g1.trans g2).trans (.fresh n')) (r2.fresh n') (r2.free n') zm ?_;have:(cH j.toNat).map (fun(k:Nat)=>V.int k)=((cH j.toNat).map fun(k:Nat)=>(k:Int)).map V.int:=by simp
  rw[this];have e2:yy 0 j.toNat=((cH j.toNat).map fun(k:Nat)=>(k:Int)).map D.int:=by simp[yy]
  rw[e2];exact Dens.ints _
 ·exact q1.elim
noncomputable def zKT(ta tb:zf):TL2:=fun σ G R=>ta σ G fun x G1=>tb σ G1 fun y G2=>match x,y with
 | .adr l,.int k=>match G2.m l with
  | some ds=>(0<=k/\k<=1000)/\ds.length<=1000/\R ((cK k.toNat ds).flatten) G2
  | none=>False
 | _,_=>False
theorem Dens.rep{K:PySem.W.Frag}{H:Hp}{ds:List D}{xs:List V}(h:Dens K H ds xs):∀ n:Nat,Dens K H (cK n ds).flatten (cK n xs).flatten
 | 0=>.nil
 | n+1=>by
  rw[cA,em,cA,em];exact h.append (Dens.rep h n)
theorem zNe(ha:E2 X a ta)(hb:E2 X b tb):F2 X (.BinOp a .Mult b pos) (zKT ta tb):=by
 refine PE.mono (zJz zOW ha hb) ?_;rintro σ1 H Q ⟨σ,G,R,rl,q,k⟩;refine⟨σ,G,_,rl,q,fun dx G1 q1 x H1 g1 r1 d1=>⟨σ,G1,_,rl.to g1 r1,q1,fun dy G2 q2 y H2 g2 r2 d2=>?_⟩⟩;split at q2
 ·rename_i l i
  split at q2
  ·rename_i ds e
   obtain⟨⟨h0,h1⟩,hz,q3⟩:=q2;have d1':=d1.grow g2;unfold zO at d1' d2;subst d1' d2;obtain⟨xs,e1,e2⟩:=r2.m l ds e;have hlen:=e2.length;refine⟨l,i,xs,rfl,rfl,e1,by omega,by omega,?_,fun l' n'=>?_⟩
   ·have h3:i.toNat<=1000:=by omega
    have h4:xs.length<=1000:=by omega
    have:=Nat.mul_le_mul h4 h3;rw[sizeLine_eq];omega
   ·exact k _ G2 q3 l' _ _ ((g1.trans g2).trans (.fresh n')) (r2.fresh n') (r2.free n') zm ((e2.rep i.toNat).grow (.fresh n'))
  ·exact q2.elim
 ·exact q2.elim
noncomputable def zKU(to:zf)(t:wE):zf:=fun σ G R=>to σ G fun x G1=>match x with
 | .adr l=>match G1.m l with
  | some _=>t σ G1 fun ds G2=>match ds with
   | [d]=>(match G2.m l with | some xs=>xs.length<=1000000/\R .non (zQ G2 l (xs++[d])) | none=>False)
   | _=>False
  | none=>False
 | _=>False
theorem zGE{t:wE}{apos:Pos}(ho:E2 X o to)(ha:A2 X [e] t)
  (hbase:autoParam (attributeBase o "append" X.env (eval o X.env)=eval o X.env) Zq4._auto_1)
  (hfew:autoParam (((backTo pos (starEach [e] X.env)).all (fun x=>!x.1)&&(backToKw pos (keywordEach [] X.env)).all (fun x=>x.1.isSome)
   && decide ([e].length+([]:List Keyword).length+(if ([]:List Keyword).isEmpty then 0 else 1)<30))=true) Zq4._auto_1)
  (hline:autoParam ((apos.endLine==pos.line)=true) Zq4._auto_1) (hs:autoParam (starEach [e] X.env=(false,eval e X.env)::starEach [] X.env) Zq4._auto_1) (hplain:autoParam ((backTo pos (starEach [] X.env)).any (·.1)=false) Zq4._auto_1) :
  E2 X (.Call (.Attribute o "append" apos) [e] [] pos) (zKU to t):=by
 refine PE.mono (zDr PySem.F.plainAttrs_list PySem.F.slot_list_append PySem.F.type_list_append zEo ho ha hbase hfew hline hs hplain) ?_;rintro σ1 H Q ⟨σ,G,R,rl,q,k⟩;refine⟨σ,G,_,rl,q,fun dx G1 q1 x H1 g1 r1 d1=>?_⟩;split at q1
 ·rename_i l
  split at q1
  ·rename_i ds0 e0
   unfold zO at d1;subst d1;obtain⟨xs0,a1,a2⟩:=r1.m l ds0 e0;refine⟨.inl ⟨rfl,xs0,.of a1⟩,σ,G1,_,rl.to g1 r1,q1,fun ds G2 q2 vs H2 g2 r2 d2=>?_⟩;split at q2
   ·rename_i d
    split at q2
    ·rename_i xs e1
     obtain⟨v,rfl,d3⟩:=zAc d2;obtain⟨ys,b1,b2⟩:=r2.m l xs e1;have hlen:=b2.length;refine⟨l,ys,v,rfl,rfl,b1,by rw[sizeLine_eq];omega,?_⟩;exact k _ _ q2.2 _ _ ((g1.trans g2).trans (.lst b1)) (r2.put b1 (b2.append (.cons d3 .nil))) (by unfold zO;rfl)
    ·exact q2.elim
   ·exact q2.elim
  ·exact q1.elim
 ·exact q1.elim
noncomputable def zMO(to:zf)(t:TL2):zf:=fun σ G R=>to σ G fun x G1=>match x with
 | .adr l=>match G1.m l with
  | some _=>t σ G1 fun zs G2=>match G2.m l with | some xs=>xs.length+zs.length<=1000000/\R .non (zQ G2 l (xs++zs)) | none=>False
  | none=>False
 | _=>False
theorem zKV{apos:Pos}(ho:E2 X o to)(ha:F2 X e tl)
  (hbase:autoParam (attributeBase o "extend" X.env (eval o X.env)=eval o X.env) Zq4._auto_1)
  (hfew:autoParam (((backTo pos (starEach [e] X.env)).all (fun x=>!x.1)&&(backToKw pos (keywordEach [] X.env)).all (fun x=>x.1.isSome)
   && decide ([e].length+([]:List Keyword).length+(if ([]:List Keyword).isEmpty then 0 else 1)<30))=true) Zq4._auto_1)
  (hline:autoParam ((apos.endLine==pos.line)=true) Zq4._auto_1) (hs:autoParam (starEach [e] X.env=(false,eval e X.env)::starEach [] X.env) Zq4._auto_1) (hplain:autoParam ((backTo pos (starEach [] X.env)).any (·.1)=false) Zq4._auto_1) :
  E2 X (.Call (.Attribute o "extend" apos) [e] [] pos) (zMO to tl):=by
 refine PE.mono (zDr PySem.F.plainAttrs_list PySem.F.slot_list_extend PySem.F.type_list_extend zI0 ho (wC ha zAo hs) hbase hfew hline hs hplain) ?_;rintro σ1 H Q ⟨σ,G,R,rl,q,k⟩;refine⟨σ,G,_,rl,q,fun dx G1 q1 x H1 g1 r1 d1=>?_⟩;split at q1
 ·rename_i l
  split at q1
  ·rename_i ds0 e0
   unfold zO at d1;subst d1;obtain⟨xs0,a1,a2⟩:=r1.m l ds0 e0;refine⟨.inl ⟨rfl,xs0,.of a1⟩,σ,G1,_,rl.to g1 r1,q1,fun zs G2 q2 l2 ys H2 g2 r2 n2 e2 d2=>?_⟩;split at q2
   ·rename_i xs e1
    obtain⟨ws,b1,b2⟩:=r2.m l xs e1;have hl1:=b2.length;have hl2:=d2.length;refine⟨l,l2,ws,ys,rfl,rfl,b1,e2,by rw[sizeLine_eq];omega,?_⟩;exact k _ _ q2.2 _ _ ((g1.trans g2).trans (.lst b1)) (r2.put b1 (b2.append d2)) (by unfold zO;rfl)
   ·exact q2.elim
  ·exact q1.elim
 ·exact q1.elim
noncomputable def zGF(to:zf)(t:wE):zf:=fun σ G R=>to σ G fun x G1=>match x with
 | .adr l=>match G1.m l with
  | some _=>t σ G1 fun ds G2=>match ds with
   | [.int i]=>(match G2.m l with
    | some xs=>(0<=i/\i<xs.length/\i<=1000000)/\(match xs[i.toNat]? with | some d=>R d (zQ G2 l (xs.eraseIdx i.toNat)) | none=>False)
    | none=>False)
   | _=>False
  | none=>False
 | _=>False
theorem zKW{t:wE}{apos:Pos}(ho:E2 X o to)(ha:A2 X [e] t)
  (hbase:autoParam (attributeBase o "pop" X.env (eval o X.env)=eval o X.env) Zq4._auto_1)
  (hfew:autoParam (((backTo pos (starEach [e] X.env)).all (fun x=>!x.1)&&(backToKw pos (keywordEach [] X.env)).all (fun x=>x.1.isSome)
   && decide ([e].length+([]:List Keyword).length+(if ([]:List Keyword).isEmpty then 0 else 1)<30))=true) Zq4._auto_1)
  (hline:autoParam ((apos.endLine==pos.line)=true) Zq4._auto_1) (hs:autoParam (starEach [e] X.env=(false,eval e X.env)::starEach [] X.env) Zq4._auto_1) (hplain:autoParam ((backTo pos (starEach [] X.env)).any (·.1)=false) Zq4._auto_1) :
  E2 X (.Call (.Attribute o "pop" apos) [e] [] pos) (zGF to t):=by
 refine PE.mono (zDr PySem.F.plainAttrs_list PySem.F.slot_list_pop PySem.F.type_list_pop zKC ho ha hbase hfew hline hs hplain) ?_;rintro σ1 H Q ⟨σ,G,R,rl,q,k⟩;refine⟨σ,G,_,rl,q,fun dx G1 q1 x H1 g1 r1 d1=>?_⟩;split at q1
 ·rename_i l
  split at q1
  ·rename_i ds0 e0
   unfold zO at d1;subst d1;obtain⟨xs0,a1,a2⟩:=r1.m l ds0 e0;refine⟨.inl ⟨rfl,xs0,.of a1⟩,σ,G1,_,rl.to g1 r1,q1,fun ds G2 q2 vs H2 g2 r2 d2=>?_⟩;split at q2
   ·rename_i i
    split at q2
    ·rename_i xs e1
     obtain⟨⟨h0,h1,h9⟩,q2⟩:=q2;split at q2
     ·rename_i d e2
      obtain⟨v,rfl,d3⟩:=zAc d2;unfold zO at d3;subst d3;obtain⟨ys,b1,b2⟩:=r2.m l xs e1;have hlen:=b2.length;obtain⟨z,c1,c2⟩:=b2.get e2;refine⟨l,ys,i,i.toNat,z,rfl,rfl,b1,by omega,by omega,?_,c1,?_⟩
      ·have hi:¬ i<0:=by omega
       unfold seqIndex?;simp only[if_neg hi];rw[if_pos (by rw[di];exact⟨decide_eq_true h0,decide_eq_true (by omega)⟩)]
      ·exact k _ _ q2 _ _ ((g1.trans g2).trans (.lst b1)) (r2.put b1 (b2.eraseIdx i.toNat)) (c2.grow (.lst b1))
     ·exact q2.elim
    ·exact q2.elim
   ·exact q2.elim
  ·exact q1.elim
 ·exact q1.elim
noncomputable def zEv:D->String->Bool
 | .tup _,T=>decide (T="tuple")
 | .bl _,T=>decide (T="bool"\/T="int")
 | .int _,T=>decide (T="int")
 | .str _,T=>decide (T="str")
 | .non,_=>false
 | .adr _,_=>false
 | .dic _,T=>decide (T="dict")
noncomputable def tys:List String:=["tuple","bool","int","str","list","dict"]
theorem zGG{T:String}(hT:T∈tys):wD X (.builtin "isinstance") (fun xs H Q=>∃ x d,xs=[x,.ty T]/\zO X.K H d x/\((∀ l,d≠.adr l)/\Q (.bl (zEv d T)) H\/∃ l ys,d=.adr l/\SqL X.K H l ys/\Q (.bl (decide (T="list"))) H)):=by
 intro pins s σ H xs us Q I r h;obtain⟨x,d,rfl,hd,q⟩:=h;obtain⟨u,u',rfl,rx,ry⟩:=vals2 r;obtain rfl:u'=Value.type T:=ry;simp only[tys,db,List.not_mem_nil,or_false] at hT;rcases q with ⟨hna,q⟩ | ⟨l,ys,rfl,hs,q⟩
 ·cases d with
  | tup _ =>
   unfold zO at hd;obtain⟨a,ys,rfl,hs,_⟩:=hd;cases (show u=Value.ref a from rx);obtain⟨_,_,⟨o,h1,h2,_⟩,_⟩:=I.tuple hs;rcases hT with rfl | rfl | rfl | rfl | rfl | rfl<;>exact PySem.W.kia_one PySem.W.kitx_tuple I.kIn ⟨o,h1,h2⟩ (by rfl) (fun z=>nomatch z) fun tk=>⟨.bl _,H,I.tok _,rfl,q⟩
  | bl _ =>
   unfold zO at hd;subst hd;rcases hT with rfl | rfl | rfl | rfl | rfl | rfl<;>exact zB8 I rx (.bl _) (by rfl) fun tk=>⟨.bl _,H,I.tok _,rfl,q⟩
  | int _ =>
   unfold zO at hd;subst hd;rcases hT with rfl | rfl | rfl | rfl | rfl | rfl<;>exact zB8 I rx (.int _) (by rfl) fun tk=>⟨.bl _,H,I.tok _,rfl,q⟩
  | str _ =>
   unfold zO at hd;subst hd;rcases hT with rfl | rfl | rfl | rfl | rfl | rfl<;>exact zB8 I rx (.str _) (by rfl) fun tk=>⟨.bl _,H,I.tok _,rfl,q⟩
  | non =>
   unfold zO at hd;subst hd;rcases hT with rfl | rfl | rfl | rfl | rfl | rfl<;>exact zB8 I rx .non (by rfl) fun tk=>⟨.bl _,H,I.tok _,rfl,q⟩
  | dic a =>
   unfold zO at hd;obtain⟨rfl,o,y,hs,hc⟩:=hd;cases (show u=Value.ref a from rx);have h1:=(I.hok a _ hs).1;rcases hT with rfl | rfl | rfl | rfl | rfl | rfl<;>exact PySem.W.kia_one PySem.W.kitx_dict I.kIn ⟨o,h1,hc⟩ (by rfl) (fun z=>nomatch z) fun tk=>⟨.bl _,H,I.tok _,rfl,q⟩
  | adr l=>exact absurd rfl (hna l)
 ·unfold zO at hd
  subst hd;cases (show u=Value.ref l from rx);obtain⟨_,_,pl,_⟩:=I.list hs;obtain⟨o,h1,h2,_⟩:=pl.isList;rcases hT with rfl | rfl | rfl | rfl | rfl | rfl<;>exact PySem.W.kia_one PySem.W.kitx_list I.kIn ⟨o,h1,h2⟩ (by rfl) (fun z=>nomatch z) fun tk=>⟨.bl _,H,I.tok _,rfl,q⟩
noncomputable def zBY(T:String)(te:zf):zf:=fun σ G R=>te σ G fun d G1=>match d with
 | .adr l=>(∃ ds,Ls G1 l ds)/\R (.bl (decide (T="list"))) G1
 | d=>R (.bl (zEv d T)) G1
theorem zDP{T:String}{x:Str}(hg:Gl X "isinstance")(hm:X.mg "isinstance"=none)(hg2:Gl X x)(hm2:X.mg x=none)(hv:bootBuiltins x=some (.type T))(ha:E2 X e te)(hT:autoParam (T∈tys) Zq2._auto_1)
  (he:autoParam (starEach [e,.Name x p2] X.env=(false,eval e X.env)::starEach [.Name x p2] X.env) Zq4._auto_1) (he2:autoParam (starEach [.Name x p2] X.env=(false,eval (.Name x p2) X.env)::starEach [] X.env) Zq4._auto_1) (hpl:autoParam ((backTo pos (starEach [.Name x p2] X.env)).any (·.1)=false) Zq4._auto_1)
  (hn:autoParam (x≠"__name__") Zq2._auto_1) (hdb:autoParam ((x==("__debug__":Str))=false) Zq2._auto_1) :
  E2 X (.Call (.Name "isinstance" p) [e,.Name x p2] [] pos) (zBY T te):=by
 refine PE.mono (zAp (zGG (T:=T) hT) hg hm (by decide +kernel) (wC ha (wC (zH3 (v:=.ty T) hg2 hm2 hv rfl hn hdb) zAo he2) he) (by decide) (by decide) he hpl) ?_;rintro σ1 H Q ⟨σ,G,R,rl,q,k⟩;refine⟨σ,G,_,rl,q,fun d G1 q1 v H1 g1 r1 d1=>?_⟩;refine⟨v,d,rfl,d1,?_⟩;cases d with
 | adr l =>
  obtain⟨⟨ds,hl⟩,q1⟩:=q1;obtain⟨xs,hs,_⟩:=r1.sq hl;exact .inr ⟨l,xs,rfl,hs,k _ G1 q1 _ H1 g1 r1 (by unfold zO;rfl)⟩
 | _=>exact .inl ⟨fun l z=>(by cases z),k _ G1 q1 _ H1 g1 r1 (by unfold zO;rfl)⟩
noncomputable def zHJ(i:Nat)(te:zf)(f:Int->Int->Int):wP:=fun E σ G=>match look σ i with
 | some (.int a)=>te σ G fun y G1=>match y with | .int b=>E.nx (σ.set i (some (.int (f a b)))) G1 | _=>False
 | _=>False
end
section
variable {P:Program} {w:World} {K:PySem.W.Frag} {mg:Str->Option Value} {base:Heap}
noncomputable def FgR(R:Q2):Q2:=fun d G=>∃ G',Sub G' G/\R d G'
theorem FgR.of{R:Q2}{d:D}{G:Gp}(h:R d G):FgR R d G:=⟨G,.refl G,h⟩
noncomputable def zP(N:List Str)(ds:List D):S2:=ds.map some++cK (N.length-ds.length) none
theorem zCB{N:List Str}{ds:List D}{vs:List V}{G:Gp}{H:Hp}(r:zt K G H)(d:Dens K H ds vs):Rel K (zP N ds) G (L2.start N vs) H :=
 ⟨r,by simp[zP,L2.start,d.length],fun i x e=>by
  unfold zP at e;unfold L2.start;by_cases hi:i<ds.length
  ·rw[dI (by simpa using hi),dl] at e
   cases q:ds[i]? with
   | none=>rw[q] at e;cases e
   | some y =>
    rw[q] at e;cases e;obtain⟨v,e1,e2⟩:=d.get q;refine⟨v,?_,e2⟩;rw[dI (by rw[cI,<-d.length];exact hi),dl,e1];rfl
  ·rw[dX (by simpa using hi),eF] at e
   split at e<;>cases e⟩
theorem zPs{x qual:Str}{st:Stmt}{f:Addr}{fd:FuncData}{N ps:List Str}{k:Nat}{sp:wU}(F:Fun K x qual st f fd)(S:zb N ps (zE st))(hm:mg x=some (.ref f))(hb:Binds K fd ps [])(len:∀ ds G R,sp ds G R->ds.length=ps.length)
  (hbody:∀(cdv:Value) (A:Around) (outer:List Env) (s:Shared) (H:Hp) (E:XK),yM k (A.deeper (envOfC qual (zE st) s.heap.objs.size f cdv)) ->
   ∃ t,Ps2 (zBr CX0 P w K mg base N qual (zE st) f cdv A outer s H E).nox (zU st) t/\∀ ds G R,sp ds G R->t { nx:=fun _ G'=>FgR R .non G',rt:=FgR R } (zP N ds) G):Df P w K mg base (k+1) x ps sp:=by
 refine⟨f,fd,F.ok S ?_ ?_,hm,F.kp,hb⟩
 ·rintro vs H Q E ⟨ds,G,R,d,r,h,_⟩
  rw[<-d.length];exact len ds G R h
 ·intro cdv A outer s H vs Q E hr h
  obtain⟨ds,G,R,d,r,h,kk⟩:=h;obtain⟨t,ht,q⟩:=hbody cdv A outer s H E hr;refine⟨_,ht,zP N ds,G,_,zCB r d,q ds G R h,⟨?_,?_,?_,?_⟩⟩
  ·rintro σ G' ⟨G'',s',q'⟩ σ1 H' g' r'
   exact kk _ G'' q' _ H' g' (r'.g.sub s') (by unfold zO;rfl)
  ·intro σ G' h;exact h.elim
  ·intro σ G' h;exact h.elim
  ·rintro d' G' ⟨G'',s',q'⟩ v H' g' r' dv
   exact kk _ G'' q' _ H' g' (r'.sub s') dv
noncomputable abbrev zg(R:Q2):yr:={ nx:=fun _ G'=>FgR R .non G',rt:=FgR R }
theorem yV{x qual:Str}{st:Stmt}{f:Addr}{fd:FuncData}{N ps:List Str}{k:Nat}{sp:wU}(t:wP)(F:Fun K x qual st f fd)(S:zb N ps (zE st))(hm:mg x=some (.ref f))(hb:Binds K fd ps [])
  (ht:∀(cdv:Value) (A:Around) (outer:List Env) (s:Shared) (H:Hp) (E:XK),yM k (A.deeper (envOfC qual (zE st) s.heap.objs.size f cdv))->Ps2 (zBr CX0 P w K mg base N qual (zE st) f cdv A outer s H E).nox (zU st) t)
  (hs:∀ ds G R,sp ds G R->ds.length=ps.length/\t (zg R) (zP N ds) G):Df P w K mg base (k+1) x ps sp :=
 zPs F S hm hb (fun ds G R h=>(hs ds G R h).1) fun cdv A outer s H E hr=>⟨t,ht cdv A outer s H E hr,fun ds G R h=>(hs ds G R h).2⟩
theorem zOi{x qual:Str}{st:Stmt}{f:Addr}{fd:FuncData}{N ps:List Str}{k:Nat}{sp:wU}(t:wP)(F:Fun K x qual st f fd)(S:zb N ps (zE st))
  (ht:∀(cdv:Value) (A:Around) (outer:List Env) (s:Shared) (H:Hp) (E:XK),yM k (A.deeper (envOfC qual (zE st) s.heap.objs.size f cdv))->Ps2 (zBr CX0 P w K mg base N qual (zE st) f cdv A outer s H E).nox (zU st) t)
  (hs:∀ ds G R,sp ds G R->ds.length=ps.length/\t (zg R) (zP N ds) G):zCa P w K mg base CX0 (k+1) f fd ps (lSp K sp):=by
 refine F.ok S ?_ ?_
 ·rintro vs H Q E ⟨ds,G,R,d,r,h,_⟩
  rw[<-d.length];exact(hs ds G R h).1
 ·intro cdv A outer s H vs Q E hr h
  obtain⟨ds,G,R,d,r,h,kk⟩:=h;refine⟨_,ht cdv A outer s H E hr,zP N ds,G,_,zCB r d,(hs ds G R h).2,⟨?_,?_,?_,?_⟩⟩
  ·rintro σ G' ⟨G'',s',q'⟩ σ1 H' g' r'
   exact kk _ G'' q' _ H' g' (r'.g.sub s') (by unfold zO;rfl)
  ·intro σ G' h;exact h.elim
  ·intro σ G' h;exact h.elim
  ·rintro d' G' ⟨G'',s',q'⟩ v H' g' r' dv
   exact kk _ G'' q' _ H' g' (r'.sub s') dv
end
noncomputable def zEw(osc sc:Scope):List (Str×NameKind):=sc.names.map fun(n,k)=>if (k==NameKind.free&&osc.kind==.function&&osc.names.lookup n==some .cell) then (n,NameKind.cell) else (n,k)
noncomputable def zOj(ns:List (Str×NameKind))(x:Str):Bool:=match ns.lookup x with | some .local=>true | some .cell=>true | some .free=>true | _=>false
noncomputable def zNf(osc sc:Scope)(N N0 own:List Str):Bool :=
 decide (sc.kind=.function)&&sc.names.all (fun y=>decide (y.2≠.cell))&&sc.names.all (fun y=>decide (y.2=.local->sc.names.lookup y.1=some .local))
 && sc.names.all (fun y=>decide (y.2=.free->osc.names.lookup y.1=some .cell\/osc.names.lookup y.1=some .free))
 && decide (N0.length=N.length)&&(cH N0.length).all (fun i=>match N0[i]? with | some x=>!zOj (zEw osc sc) x||decide (N[i]?=some x/\sc.names.lookup x=some .free) | none=>true)
 && decide ((N0++own).Nodup)&&own.all (fun x=>decide ((zEw osc sc).lookup x=some .local))
structure zGH (X:Cx) (sc:Scope) (N0 own:List Str):Prop where
 ok:zCc X sc N0
 nd:(N0++own).Nodup
 loc:∀ x∈own,(relabel sc X.env).names.lookup x=some .local
theorem zv{X:Cx}{osc sc:Scope}{N N0 own:List Str}(h:zNf osc sc N N0 own=true)(e1:autoParam (X.env.scope=osc) Zq4._auto_1)(e2:autoParam (X.N=N) Zq4._auto_1):zGH X sc N0 own:=by
 subst e1 e2;unfold zNf at h;simp only[di,decide_eq_true_eq,dF] at h;obtain⟨⟨⟨⟨⟨⟨⟨h1,h2⟩,h3⟩,h4⟩,h5⟩,h6⟩,h7⟩,h8⟩:=h;refine⟨⟨h1,h2,h3,h4,h5,fun i x e v=>?_⟩,h7,h8⟩;have hi:i<N0.length:=(cJ.mp e).1;have q:=h6 i (cV.mpr hi);rw[e] at q;dsimp only at q;have hv:zOj (zEw X.env.scope sc) x=true:=by
  have v':(zEw X.env.scope sc).lookup x=some .local\/(zEw X.env.scope sc).lookup x=some .cell\/(zEw X.env.scope sc).lookup x=some .free:=v;unfold zOj;rcases v' with v' | v' | v'<;>rw[v']
 rw[hv] at q;simpa using q
section
variable {X:Cx} {elt iter:Expr} {pos:Pos} {te:zf} {ifs:List Expr} {sc:Scope} {N0:List Str} {wi:TI2} {tc:TT2}
theorem zCO(x:Str){px:Pos}(hc:X.calm=true)(T:zGH X sc N0 [x])(hi:I2 X (.Name x px) iter wi)
  (ht:∀ C s H fp pins,Ts2 (X.comp (N0++[x]) sc C s H fp pins) ifs tc) (he:∀ C s H fp pins,E2 (X.comp (N0++[x]) sc C s H fp pins) elt te)
  (hs:autoParam (∀ x,foldedSetIterable iter X.env x=pure x) Zq3._auto_1):F2 X (.ListComp elt [⟨.Name x px,iter,ifs,0⟩] sc pos) (zo wi bd1 tc te) :=
 zMH x hc T.ok hi T.nd (T.loc x (by simp)) ht he hs
theorem zQh(x y:Str){px py pt:Pos}{kk:Nat}(hc:X.calm=true)(T:zGH X sc N0 [x,y])(hi:I2 X (.Tuple [.Name x px,.Name y py] kk pt) iter wi)
  (ht:∀ C s H fp pins,Ts2 (X.comp (N0++[x,y]) sc C s H fp pins) ifs tc) (he:∀ C s H fp pins,E2 (X.comp (N0++[x,y]) sc C s H fp pins) elt te)
  (hs:autoParam (∀ x,foldedSetIterable iter X.env x=pure x) Zq3._auto_1):F2 X (.ListComp elt [⟨.Tuple [.Name x px,.Name y py] kk pt,iter,ifs,0⟩] sc pos) (zo wi bd2 tc te) :=
 zMI x y hc T.ok hi T.nd (T.loc x (by simp)) (T.loc y (by simp)) ht he hs
theorem zIB(i:Nat)(x:Str){y:Str}{px py spos:Pos}(hc:X.calm=true)(T:zGH X sc N0 [x])(hi:I2 X (.Name x px) iter wi)
  (ht:∀ C s H fp pins,Ts2 (X.comp (N0++[x]) sc C s H fp pins) ifs tc) (he:∀ C s H fp pins,E2 (X.comp (N0++[x]) sc C s H fp pins) elt te)
  (hN:X.N.Nodup) (hy:autoParam (X.N[i]?=some y) Zq4._auto_1) (hl:autoParam (X.env.scope.names.lookup y=some .local) Zq4._auto_1)
  (hsw:autoParam (swapsWith (.ListComp elt [⟨.Name x px,iter,ifs,0⟩] sc pos) (some (.Name y py)) spos.line X.env=pure true) Zq4._auto_1)
  (hs:autoParam (∀ x,foldedSetIterable iter X.env x=pure x) Zq3._auto_1):P2 X (.Assign [.Name y py] (.ListComp elt [⟨.Name x px,iter,ifs,0⟩] sc pos) spos) (zBJ i (zo wi bd1 tc te)) :=
 zHC i x hc T.ok hi T.nd (T.loc x (by simp)) ht he hN hy hl hsw hs
end
structure Ext (G G':Gp):Prop where
 sub:Sub G G'
 ro:G'.ro=G.ro
theorem Ext.refl(G:Gp):Ext G G:=⟨.refl G,rfl⟩
theorem Ext.trans{G G1 G2:Gp}(h:Ext G G1)(h':Ext G1 G2):Ext G G2:=⟨h.sub.trans h'.sub,h'.ro.trans h.ro⟩
theorem Ext.new{G:Gp}{l:Addr}{o:List D}(h:G.m l=none):Ext G (zQ G l o):=⟨.new h,rfl⟩
theorem Ext.ls{G G':Gp}(h:Ext G G'){a:Addr}{ds:List D}(e:Ls G a ds):Ls G' a ds:=e.sub h.sub
theorem Ext.own{G G':Gp}(h:Ext G G'){A:Addr}(n:G'.m A=none):G.m A=none:=by
 cases q:G.m A with
 | none=>rfl
 | some u=>rw[h.sub.m A u q] at n;cases n
noncomputable def ze(t:zf)(σ:S2)(G:Gp)(d:D):Prop:=∀ G2,Ext G G2->∀ R:D->Gp->Prop,R d G2->t σ G2 R
noncomputable def PuT(t:TT2)(σ:S2)(G:Gp)(b:Bool):Prop:=∀ G2,Ext G G2->∀ R:Bool->Gp->Prop,R b G2->t σ G2 R
noncomputable def PuL(t:TL2)(σ:S2)(G:Gp)(ds:List D):Prop:=∀ G2,Ext G G2->∀ R:List D->Gp->Prop,R ds G2->t σ G2 R
noncomputable def PuA(t:wE)(σ:S2)(G:Gp)(ds:List D):Prop:=∀ G2,Ext G G2->∀ R:List D->Gp->Prop,R ds G2->t σ G2 R
noncomputable def PuI(t:TI2)(σ:S2)(G:Gp)(ds:List D):Prop:=∀ G2,Ext G G2->∀ R:List D->(Gp->Prop)->Gp->Prop,(∀ gd G3,Ext G2 G3->(∀ G4,Ext G3 G4->gd G4)->R ds gd G3)->t σ G2 R
section
variable {σ:S2} {G:Gp}
theorem zG{i:Nat}{d:D}(h:look σ i=some d):ze (zC i) σ G d:=fun G2 _ R q=>by unfold zC;rw[h];exact q
theorem zY{d:D}:ze (xC d) σ G d:=fun _ _ _ q=>q
theorem zN:PuA zH σ G []:=fun _ _ _ q=>q
theorem zF{ta:zf}{tr:wE}{d:D}{ds:List D}(h:ze ta σ G d)(h':PuA tr σ G ds):PuA (zA ta tr) σ G (d::ds):=fun G2 x R q=>h G2 x _ (h' G2 x _ q)
theorem zCd{t:wE}{ds:List D}(h:PuA t σ G ds)(hl:ds.length<=100000):ze (zAE t) σ G (.tup ds):=fun G2 x R q=>h G2 x _ ⟨by rw[sizeLine_eq];omega,q⟩
theorem yk{f:D->D->Gp->Q2->Prop}{ta tb:zf}{x y d:D}(ha:ze ta σ G x)(hb:ze tb σ G y)(h:∀ G2,Ext G G2->∀ R:D->Gp->Prop,R d G2->f x y G2 R):ze (zS f ta tb) σ G d:=fun G2 e R q=>ha G2 e _ (hb G2 e _ (h G2 e R q))
theorem zIC{g:Int->Int->D}{ta tb:zf}{i j:Int}(ha:ze ta σ G (.int i))(hb:ze tb σ G (.int j)):ze (zS (fII g) ta tb) σ G (g i j):=yk ha hb fun _ _ _ q=>q
theorem zZ{sp:wU}{t:wE}{ds:List D}{d:D}(ha:PuA t σ G ds)(h:∀ G2,Ext G G2->∀ R:D->Gp->Prop,R d G2->sp ds G2 R):ze (zI sp t) σ G d:=fun G2 e R q=>ha G2 e _ (h G2 e R q)
theorem zCl{sp:List D->Gp->(List D->Gp->Prop)->Prop}{t:wE}{ds ls:List D}(ha:PuA t σ G ds)(h:∀ G2,Ext G G2->∀ R:List D->Gp->Prop,R ls G2->sp ds G2 R):PuL (yD sp t) σ G ls:=fun G2 e R q=>ha G2 e _ (h G2 e R q)
theorem yz{t:zf}{b:Bool}(h:ze t σ G (.bl b)):PuT (xB t) σ G b:=fun G2 e R q=>h G2 e _ q
theorem zOk:PuT wV σ G true:=fun _ _ _ q=>q
theorem zMP{t u:TT2}{b c:Bool}(h:PuT t σ G b)(h':b=true->PuT u σ G c):PuT (zA2 t u) σ G (b&&c):=fun G2 e R q=>h G2 e _ (by
 cases b with
 | false=>simpa using q
 | true=>rw[if_pos rfl];exact h' rfl G2 e _ (by simpa using q))
theorem zAu{t u:TT2}{b c:Bool}(h:PuT t σ G b)(h':b=false->PuT u σ G c):PuT (wL t u) σ G (b||c):=fun G2 e R q=>h G2 e _ (by
 cases b with
 | true=>simpa using q
 | false=>rw[if_neg (by simp)];exact h' rfl G2 e _ (by simpa using q))
theorem zw{t:TT2}{b:Bool}(h:PuT t σ G b):PuT (zu t) σ G (!b):=fun G2 e R q=>h G2 e _ q
theorem zCm{tl:TL2}{ds:List D}(h:PuL tl σ G ds):ze (zn yS tl) σ G (.tup ds):=fun G2 e R q=>h G2 e _ q
theorem zBM{t:zf}{ds:List D}(h:ze t σ G (.tup ds)):PuI (iV t) σ G ds:=fun G2 e R q=>h G2 e _ (q _ G2 (.refl _) fun _ _=>trivial)
end
end L3
namespace HT
section
variable {prog:Program} {w:World} {A:Around} {E:Value->Shared->Prop} {s:Shared}
theorem zKX{t b:Addr}{ws:List Value}{Q:Value->Shared->Prop}(ht:IsTup s.heap t #[])(hb:IsTup s.heap b ws.toArray)(h:Q (.ref b) s):wpAny (model prog w) A (binaryOp .Add (.ref t) (.ref b)) Q E s:=by
 obtain⟨⟨cls,dd,data,sl⟩,ho,hc,n,hd⟩:=id ht;obtain⟨⟨cls2,dd2,data2,sl2⟩,ho2,hc2,n2,hd2⟩:=id hb;simp only at hc hd hc2 hd2;subst hc hd hc2 hd2;exact concat_meets ⟨_,ho,rfl⟩ ⟨_,ho2,rfl⟩ noFill_tuple_add seq_tuple_add PySem.F.slot_tuple_add PySem.F.entry_tuple_add (PySem.F.args_tuple_add_2 _ _)
   (tuple_addW0 t b #[] ws.toArray n n2 dd dd2 sl sl2 rfl) ⟨ho,ho2,h⟩
end
noncomputable def zFV(items:Array Value)(x:Value):Nat->(Option PySem.Fin×Unit)->Sem (ForInStep (Option PySem.Fin×Unit)):=fun i _=>match items[i]? with
 | some y=>do
  let b <-eqBool y x
  if b=true then do
   let r <-retInt i
   pure (ForInStep.done (some r,()))
  else pure (ForInStep.yield (none,()))
 | _=>pure (ForInStep.yield (none,()))
theorem zGI{prog:Program}{w:World}{A:Around}{E:Value->Shared->Prop}{s:Shared}{items:Array Value}{x:Value}{e:Value->Bool}{j:Nat}(hj:j<items.size)(hit:e items[j]=true)(he:∀ y,y∈items->SeqAt.EqAt A s y x (e y)){Q:(Option PySem.Fin×Unit)->Shared->Prop}
  (hQ:Q (some (.done (.ret (.int j s.toks))),()) { s with toks:=s.toks+1 }):∀(k lo:Nat),lo<=j->j<lo+k->(∀ m (hm:m<items.size),lo<=m->m<j->e items[m]=false) ->
   wpAny (model prog w) A (forIn (List.range' lo k) (none,()) (zFV items x)) Q E s
 | 0,lo,h1,h2,_=>by omega
 | k+1,lo,h1,h2,hno=>by
  rw[List.range'_succ,List.forIn_cons];have hlo:lo<items.size:=by omega
  unfold zFV;have ei:items[lo]?=some items[lo]:=by simp[hlo]
  rw[ei];dsimp only;refine cT (cT (he _ (Array.getElem_mem hlo) prog w _ _ ?_));by_cases hl:lo=j
  ·subst hl
   rw[hit,if_pos rfl];obtain⟨hp,g,d,tk,os⟩:=s
   wp_walk
   exact hQ
  ·rw[hno lo hlo (cN _) (by omega),if_neg (by simp)]
   refine dA ?_;exact zGI hj hit he hQ k (lo+1) (by omega) (by omega) fun m hm a b=>hno m hm (by omega) b
theorem zFW(l:Addr)(items:Array Value)(n:Nat)(dd:Option Addr)(sl:Array (Option Value))(x:Value)(e:Value->Bool)(j:Nat)(hj:j<items.size)(hit:e items[j]=true)(hno:∀ m (hm:m<items.size),m<j->e items[m]=false) :
  Meets (Builtin.«tuple.index» ⟨[.ref l,x],[]⟩)
   (fun A R s=>s.heap.get? l=some { cls:=.type "tuple",dict:=dd,data:=.seq items n,slots:=sl }/\(∀ y,y∈items->SeqAt.EqAt A.in1 s y x (e y))/\R (.ok (.ret (.int j s.toks))) { s with toks:=s.toks+1 }) :=
 .of_wp fun prog w A R s h=>by
  obtain⟨hp,g,d,tk,os⟩:=s;obtain⟨hl,he,h⟩:=h
  wp_walk using wpAny_loadPart' hl
  show wpAny (model prog w) A.in1 (forIn ([: min items.size items.size]:Std.Legacy.Range) (none,()) (zFV items x)) _ _ _;rw[Std.Legacy.Range.forIn_eq_forIn_range'];have e1:List.range' ([: min items.size items.size]:Std.Legacy.Range).start ([: min items.size items.size]:Std.Legacy.Range).size ([: min items.size items.size]:Std.Legacy.Range).step=List.range' 0 items.size:=by
   simp[Std.Legacy.Range.size]
  rw[e1];refine zGI hj hit he ?_ _ _ (Nat.zero_le _) (by omega) fun m hm _ b=>hno m hm b;exact dA ⟨_,rfl,h⟩
end HT
namespace L3
open L2
section
variable {X:Cx} {a b c e o:Expr} {es:List Expr} {pos p:Pos} {ta tb te:zf}
noncomputable def zAC:D->D->Gp->Q2->Prop:=fun x y G R=>match x,y with
 | .int i,.int j=>R (.int (i+j)) G
 | .tup xs,.tup ys=>xs.length+ys.length<=1000000/\R (.tup (xs++ys)) G
 | _,_=>False
theorem OpR.or{f:Value->Value->Sem Value}{r r':R2}(h:OpR X f r)(h':OpR X f r'):OpR X f (fun x y H Q=>r x y H Q\/r' x y H Q):=by
 intro pins s σ H x y v u Q I rx ry q;rcases q with q | q
 ·exact h pins s σ H x y v u Q I rx ry q
 ·exact h' pins s σ H x y v u Q I rx ry q
noncomputable def zNg(K:PySem.W.Frag):R2:=fun x y H Q=>∃ a b ys,x=.ref a/\y=.ref b/\SqT K H a []/\SqT K H b ys/\Q (.ref b) H
theorem zMQ:OpR X (binaryOp .Add) (zNg X.K):=by
 intro pins s σ H x y v u Q I rx ry h;obtain⟨a,b,ys,rfl,rfl,ha,hb,q⟩:=h;cases rx;cases ry;obtain⟨its,r1,p1,_⟩:=I.tuple ha;obtain⟨its2,r2,p2,_⟩:=I.tuple hb;have:its=[]:=r1.nil_iff.mpr rfl;subst this;exact HT.zKX p1 p2 ⟨.ref b,H,I,rfl,q⟩
theorem zMR{K:PySem.W.Frag}:Fit K (fun x y H Q=>rI0 (fun i j=>.int (i+j)) x y H Q\/zNY K x y H Q\/zNg K x y H Q) zAC:=by
 intro dx dy G R x y H Q h r d1 d2 k;unfold zAC at h;split at h
 ·rename_i i j
  unfold zO at d1 d2;subst d1 d2;exact .inl ⟨i,j,rfl,rfl,k _ G h _ H (.refl H) r (by unfold zO;rfl)⟩
 ·rename_i xs ys
  obtain⟨hz,h⟩:=h;unfold zO at d1 d2;obtain⟨a,us,rfl,s1,t1⟩:=d1;obtain⟨b,ws,rfl,s2,t2⟩:=d2;have l1:=t1.length;have l2:=t2.length;by_cases hx:xs=[]
  ·subst hx
   have hu:us=[]:=eh.mp (by rw[<-l1];rfl);subst hu;exact .inr (.inr ⟨a,b,ws,rfl,rfl,s1,s2,k _ G h _ H (.refl H) r (by unfold zO;exact⟨b,ws,rfl,s2,by simpa using t2⟩)⟩)
  ·refine .inr (.inl ⟨a,b,us,ws,rfl,rfl,s1,s2,fun z=>hx (eh.mp (by rw[l1,z];rfl)),by rw[sizeLine_eq];omega,fun z=>?_,fun _ p hp=>?_⟩)
   ·have hy:ys=[]:=eh.mp (by rw[l2,z];rfl)
    subst hy;exact k _ G h _ H (.refl H) r (by unfold zO;exact⟨a,us,rfl,s1,by simpa using t1⟩)
   ·exact k _ G h _ _ (.fresh hp) (r.fresh hp) (by unfold zO;exact⟨p,us++ws,rfl,.of zm,(t1.append t2).grow (.fresh hp)⟩)
 ·exact h.elim
theorem zBp(ha:E2 X a ta)(hb:E2 X b tb):E2 X (.BinOp a .Add b pos) (zS zAC ta tb):=zHA (zOI.or (zL9.or zMQ)) zMR ha hb
noncomputable def zKY(ta tb:zf):TL2:=fun σ G R=>ta σ G fun x G1=>tb σ G1 fun y G2=>match x,y with
 | .adr l,.adr m=>∃ xs ys,G2.m l=some xs/\G2.m m=some ys/\xs.length+ys.length<=1000000/\R (xs++ys) G2
 | _,_=>False
theorem zPt(ha:E2 X a ta)(hb:E2 X b tb):F2 X (.BinOp a .Add b pos) (zKY ta tb):=by
 refine PE.mono (zJz zOV ha hb) ?_;rintro σ1 H Q ⟨σ,G,R,rl,q,k⟩;refine⟨σ,G,_,rl,q,fun dx G1 q1 x H1 g1 r1 d1=>⟨σ,G1,_,rl.to g1 r1,q1,fun dy G2 q2 y H2 g2 r2 d2=>?_⟩⟩;split at q2
 ·rename_i l m
  obtain⟨xs,ys,e1,e2,hz,q3⟩:=q2;have d1':=d1.grow g2;unfold zO at d1' d2;subst d1' d2;obtain⟨us,a1,a2⟩:=r2.m l xs e1;obtain⟨ws,b1,b2⟩:=r2.m m ys e2;have l1:=a2.length;have l2:=b2.length;refine⟨l,m,us,ws,rfl,rfl,a1,b1,by rw[sizeLine_eq];omega,fun p hp=>?_⟩;exact k _ G2 q3 p _ _ ((g1.trans g2).trans (.fresh hp)) (r2.fresh hp) (r2.free hp) zm ((a2.append b2).grow (.fresh hp))
 ·exact q2.elim
noncomputable abbrev TO2:=S2->Gp->(Option Int->Gp->Prop)->Prop
noncomputable def lO(K:PySem.W.Frag)(t:TO2):TO:=fun σ1 H Q=>∃ σ G R,Rel K σ G σ1 H/\t σ G R/\∀ o G',R o G'->∀ H',zp H H'->zt K G' H'->Q o H'
noncomputable def O2(X:Cx)(e:Option Expr)(t:TO2):Prop:=PO X e (lO X.K t)
noncomputable def zr:TO2:=fun _ G R=>R none G
noncomputable def yT(t:zf):TO2:=fun σ G R=>t σ G fun d G1=>match d with | .int i=>R (some i) G1 | _=>False
theorem zAX:O2 X none zr:=by
 intro pins s σ1 H Q I h;refine zL7 pins s σ1 H Q I ?_;obtain⟨σ,G,R,r,q,k⟩:=h;exact k none G q H (.refl H) r.g
theorem zAF(h:E2 X e te):O2 X (some e) (yT te):=by
 intro pins s σ1 H Q I q;refine zL8 h pins s σ1 H Q I ?_;obtain⟨σ,G,R,r,q,k⟩:=q;refine⟨σ,G,_,r,q,fun d G1 q1 v H1 g1 r1 d1=>?_⟩;cases d with
 | int i =>
  unfold zO at d1;exact⟨i,d1,k _ G1 q1 H1 g1 r1⟩
 | _=>exact q1.elim
noncomputable def cutD(xs:List D)(lo hi:Option Int):List D:=(xs.drop (HT.sIx xs.length 0 lo)).take (HT.sIx xs.length xs.length hi-HT.sIx xs.length 0 lo)
end
section
variable {σ:S2} {G:Gp}
theorem zBN{α:Type}{ds:List α}{i:Nat}{x:α}(h:ds[i]?=some x):ds.take (i+1)=ds.take i++[x]:=by
 rw[List.take_add_one,h];rfl
theorem zFX{wi:TI2}{bd:D->Option (List D)}{tc:TT2}{te:zf}{ds:List D}(p:D->Bool)(f:D->D)(us:D->List D)(hw:PuI wi σ G ds)
  (hx:∀ x∈ds,bd x=some (us x)/\PuT tc (σ++(us x).map some) G (p x)/\(p x=true->ze te (σ++(us x).map some) G (f x))):PuL (zo wi bd tc te) σ G ((ds.filter p).map f):=by
 intro G2 e R q;refine hw G2 e _ fun gd G3 e3 hgd A nA=>?_;refine⟨fun i acc G'=>G'=zQ G3 A acc/\acc=((ds.take i).filter p).map f,⟨rfl,by simp⟩,?_,?_,?_⟩
 ·rintro i acc G' hi ⟨rfl,rfl⟩
  refine⟨hgd _ (.new nA),zJ,?_⟩;rw[cI];exact dC (eT _ _) (by rw[ef];omega)
 ·rintro i x acc G' hi ⟨rfl,rfl⟩
  obtain⟨hb,ht,he⟩:=hx x (dE hi);rw[hb];dsimp only;have ex:Ext G (zQ G3 A (((ds.take i).filter p).map f)):=(e.trans e3).trans (.new nA);refine ht _ ex _ ?_;cases hp:p x with
  | false =>
   rw[if_neg (by simp)];exact .of ⟨rfl,by rw[zBN hi];simp[hp]⟩
  | true =>
   rw[if_pos rfl];refine he hp _ ex _ ⟨zJ,.of ⟨zBI,by rw[zBN hi];simp[hp]⟩⟩
 ·rintro acc G' ⟨rfl,rfl⟩
  exact⟨G2,e3.own nA,e3.sub.trans (.new nA),by rw[eV];exact q⟩
theorem zAY{wi:TI2}{bd:D->Option (List D)}{te:zf}{ds:List D}(f:D->D)(us:D->List D)(hw:PuI wi σ G ds)
  (hx:∀ x∈ds,bd x=some (us x)/\ze te (σ++(us x).map some) G (f x)):PuL (zo wi bd wV te) σ G (ds.map f):=by
 have:=zFX (tc:=wV) (fun _=>true) f us hw fun x h=>⟨(hx x h).1,zOk,fun _=>(hx x h).2⟩
 rwa [List.filter_eq_self.mpr (fun _ _=>rfl)] at this
theorem zCC{t:wE}{j:Int}(h:PuA t σ G [.int j])(hj:-1000000<=j/\j<=1000000):PuI (iR1 t) σ G (yy 0 j.toNat):=fun G2 e R q=>h G2 e _ ⟨hj,q _ G2 (.refl _) fun _ _=>trivial⟩
theorem zI9{t:wE}{i j:Int}(h:PuA t σ G [.int i,.int j])(hj:(-1000000<=i/\i<=1000000)/\-1000000<=j/\j<=1000000):PuI (iR2 t) σ G (yy i (j-i).toNat):=fun G2 e R q=>h G2 e _ ⟨hj,q _ G2 (.refl _) fun _ _=>trivial⟩
theorem zAe.nil:zAe [] []:=.refl _
theorem zAe.keep{o:Option D}{r r':S2}(h:zAe r r'):zAe (o::r) (o::r'):=⟨by simp[h.len],fun i d e=>by
 cases i with
 | zero=>simpa using e
 | succ i=>simpa using h.val i d (by simpa using e)⟩
theorem zAe.skip{o:Option D}{r r':S2}(h:zAe r r'):zAe (none::r) (o::r'):=⟨by simp[h.len],fun i d e=>by
 cases i with
 | zero=>simp at e
 | succ i=>simpa using h.val i d (by simpa using e)⟩
theorem zAe.trans{a b c:S2}(h:zAe a b)(h':zAe b c):zAe a c:=⟨h.len.trans h'.len,fun i d e=>h'.val i d (h.val i d e)⟩
theorem zMS{σ:S2}{G:Gp}:Fg (fun σ' G'=>σ'=σ/\G'=G)=fun σ' G'=>zAe σ σ'/\Sub G G':=by
 funext σ' G';apply propext;constructor
 ·rintro⟨_,_,h1,h2,rfl,rfl⟩
  exact⟨h1,h2⟩
 ·rintro⟨h1,h2⟩
  exact⟨σ,G,h1,h2,rfl,rfl⟩
noncomputable def zBw(wi:TI2)(g:TG2)(tb:wP):wP:=fun E σ G=>Fg (fun σ' G'=>zPn wi g tb E σ' G') σ G
theorem zD2{X:Cx}{tg iter:Expr}{pos:Pos}{wi:TI2}{g:TG2}{tb:wP}{body:List Stmt}(hp:PassesOwn (model X.prog X.w) X.A X.env X.xe)(hc:X.calm=true)(hi:I2 X tg iter wi)(hg:G2 X tg g)(hb:Ps2 X body tb)
  (hs:autoParam (∀ x,foldedSetIterable iter X.env x=pure x) Zq3._auto_1):P2 X (.For tg iter body [] pos) (zBw wi g tb):=by
 refine PS.mono (zPo hp hc hi hg hb hs) ?_;rintro E σ1 H ⟨σ,G,D2,r,⟨σ',G',s1,s2,q⟩,k⟩;exact⟨σ',G',D2,r.sub s1 s2,q,k⟩
theorem zKZ{wi:TI2}{g:TG2}{tb:wP}{E:yr}{ds:List D}(hw:PuI wi σ G ds)
  (hb:∀ x∈ds,∀ G1,Ext G G1->g x σ G1 fun σ2 G2=>tb { E with nx:=fun σ' G'=>zAe σ σ'/\Sub G1 G',ct:=fun σ' G'=>zAe σ σ'/\Sub G1 G',bk:=E.nx } σ2 G2) (h:∀ G1,Ext G G1->E.nx σ G1) {σ0:S2} (hf:autoParam (zAe σ σ0) Zq9._auto_1):zBw wi g tb E σ0 G:=by
 refine⟨σ,G,hf,.refl G,?_⟩;refine hw G (.refl G) _ fun gd G3 e3 hgd=>⟨fun i σ' G'=>σ'=σ/\G'=G3,⟨rfl,rfl⟩,?_,?_,?_⟩
 ·rintro i σ' G' _ ⟨rfl,rfl⟩
  exact hgd _ (.refl _)
 ·rintro i x σ' G' hi ⟨rfl,rfl⟩
  rw[zMS];exact hb x (dE hi) _ e3
 ·rintro σ' G' ⟨rfl,rfl⟩
  exact h _ e3
end
noncomputable def zOl(ds:List D)(gd:Gp->Prop)(G1:Gp)(g:TG2)(tb:wP)(E:yr)(σ:S2):Prop:=∃ Pv:Nat->S2->Gp->Prop,Pv 0 σ G1/\(∀ i σ G,i<=ds.length->Pv i σ G->gd G) /\
 (∀ i x σ G,ds[i]?=some x->Pv i σ G->g x σ G fun σ2 G2=>tb { E with nx:=Fg (Pv (i+1)),ct:=Fg (Pv (i+1)),bk:=E.nx } σ2 G2)/\∀ σ G,Pv ds.length σ G->E.nx σ G
theorem zOm{σ:S2}{I:Gp->Prop}:Fg (fun σ' G'=>σ'=σ/\I G')=fun σ' G'=>zAe σ σ'/\∃ G'',Sub G'' G'/\I G'':=by
 funext σ' G';apply propext;constructor
 ·rintro⟨_,G'',h1,h2,rfl,h3⟩
  exact⟨h1,G'',h2,h3⟩
 ·rintro⟨h1,G'',h2,h3⟩
  exact⟨σ,G'',h1,h2,rfl,h3⟩
theorem zID{ds:List D}{gd:Gp->Prop}{G1:Gp}{g:TG2}{tb:wP}{E:yr}{σ:S2}(I:Nat->Gp->Prop)(h0:I 0 G1)(hg:∀ i G',I i G'->gd G')
  (hb:∀ i x,ds[i]?=some x->∀ G2,I i G2->g x σ G2 fun σ2 G3=>tb { E with nx:=fun σ' G'=>zAe σ σ'/\∃ G'',Sub G'' G'/\I (i+1) G'',ct:=fun σ' G'=>zAe σ σ'/\∃ G'',Sub G'' G'/\I (i+1) G'',bk:=E.nx } σ2 G3)
  (h:∀ G2,I ds.length G2->E.nx σ G2):zOl ds gd G1 g tb E σ:=by
 refine⟨fun i σ' G'=>σ'=σ/\I i G',⟨rfl,h0⟩,?_,?_,?_⟩
 ·rintro i σ' G' _ ⟨_,h⟩
  exact hg i G' h
 ·rintro i x σ' G' hi ⟨rfl,hI⟩
  rw[zOm];exact hb i x hi G' hI
 ·rintro σ' G' ⟨rfl,hI⟩
  exact h G' hI
noncomputable def zNh(ds:List D)(gd:Gp->Prop)(G1:Gp)(A:Addr)(bd:D->Option (List D))(tc:TT2)(te:zf)(σ:S2)(R:List D->Gp->Prop):Prop:=∃ Pv:Nat->List D->Gp->Prop,Pv 0 [] (zQ G1 A [])/\(∀ i acc G,i<=ds.length->Pv i acc G->gd G/\G.m A=some acc/\acc.length<=i) /\
 (∀ i x acc G,ds[i]?=some x->Pv i acc G->match bd x with
  | some us=>tc (σ++us.map some) G fun b G3=>if b=true then te (σ++us.map some) G3 fun d G4=>G4.m A=some acc/\FgG (Pv (i+1) (acc++[d])) (zQ G4 A (acc++[d])) else FgG (Pv (i+1) acc) G3
  | none=>False)/\∀ acc G,Pv ds.length acc G->∃ G',G'.m A=none/\Sub G' G/\R acc G'
theorem zFY{wi:TI2}{bd:D->Option (List D)}{tc:TT2}{te:zf}{σ:S2}{G:Gp}{R:List D->Gp->Prop}(h:wi σ G fun ds gd G1=>∀ A,G1.m A=none->zNh ds gd G1 A bd tc te σ R):zo wi bd tc te σ G R:=h
theorem zD3{ds:List D}{gd:Gp->Prop}{G1:Gp}{bd:D->Option (List D)}{tc:TT2}{te:zf}{σ:S2}{R:List D->Gp->Prop}{A:Addr}(I:Nat->List D->Gp->Prop)(h0:I 0 [] (zQ G1 A []))(hg:∀ i acc G',I i acc G'->gd G'/\G'.m A=some acc/\acc.length<=i)
  (hb:∀ i x acc G',ds[i]?=some x->I i acc G'->∃ us,bd x=some us/\tc (σ++us.map some) G' fun b G3=>if b=true then te (σ++us.map some) G3 fun d G4=>G4.m A=some acc/\FgG (I (i+1) (acc++[d])) (zQ G4 A (acc++[d])) else FgG (I (i+1) acc) G3)
  (h:∀ acc G',I ds.length acc G'->∃ G'',G''.m A=none/\Sub G'' G'/\R acc G''):zNh ds gd G1 A bd tc te σ R:=by
 refine⟨I,h0,fun i acc G' _ q=>hg i acc G' q,fun i x acc G' hi q=>?_,h⟩;obtain⟨us,e,q⟩:=hb i x acc G' hi q;rw[e];exact q
noncomputable def zEx:wU:=fun ds G R=>∃(a:Addr) (ns:List Int),ds=[.adr a]/\G.ro a=some (ns.map D.int)/\ns.length<=63/\(∀ l,G.m l=none)/\R (.bl true) G
theorem zOn{K:PySem.W.Frag}{H:Hp}{a:Addr}{ns:List Int}(hl:ns.length<=63)(hO:zME H)(hS:SqL K H a (ns.map V.int)):lSp K zEx [.ref a] H (fun v _=>v=.bl true) fun _ _ _=>False:=by
 refine⟨[.adr a],⟨fun _=>none,fun b=>if b=a then some (ns.map D.int) else none⟩,fun d _=>d=.bl true,.cons (by unfold zO;rfl) .nil,⟨fun b ds e=>(by cases e),fun b ds e=>?_⟩,⟨a,ns,rfl,by simp,hl,fun _=>rfl,rfl⟩,fun d G' q v H' g r dv=>?_⟩
 ·by_cases hb:b=a
  ·subst hb
   simp at e;subst e;refine⟨_,?_,Dens.ints ns⟩;rcases hS with h | h
   ·rcases hO b with h' | ⟨o,xs,h'⟩ | ⟨ps,h'⟩
    ·rcases h with h | ⟨o,h⟩<;>(rw[h'] at h;cases h)
    ·rcases h with h | ⟨o',h⟩
     ·rw[h'] at h;cases h
     ·exact .inl ⟨o',h⟩
    ·rcases h with h | ⟨o',h⟩<;>(rw[h'] at h;cases h)
   ·exact .inr h
  ·simp[hb] at e
 ·subst q
  unfold zO at dv;exact dv
noncomputable def OkS(s:Int)(b:Bool):Prop:=b=false->0<=s/\s<2147483647
noncomputable def zAV(G:Gp)(l:Addr):Prop:=∃ s b,G.m l=some [.int s,.bl b]/\OkS s b
noncomputable def Dr(l:Addr)(G G':Gp):Prop:=∃ s b,G'=zQ G l [.int s,.bl b]/\OkS s b
theorem Dr.st{l:Addr}{G G':Gp}(h:Dr l G G'):zAV G' l:=by
 obtain⟨s,b,rfl,h⟩:=h;exact⟨s,b,zJ,h⟩
theorem Dr.trans{l:Addr}{G G1 G2:Gp}(h:Dr l G G1)(h':Dr l G1 G2):Dr l G G2:=by
 obtain⟨s,b,rfl,h⟩:=h;obtain⟨s',b',rfl,h'⟩:=h';exact⟨s',b',zBI,h'⟩
theorem zMT{G:Gp}{l:Addr}{o:List D}(h:G.m l=some o):zQ G l o=G:=by
 cases G with
 | mk m ro =>
  unfold zQ;congr 1;funext b;by_cases hb:b=l
  ·subst hb;rw[if_pos rfl];exact h.symm
  ·rw[if_neg hb]
theorem Dr.refl{l:Addr}{G:Gp}(h:zAV G l):Dr l G G:=by
 obtain⟨s,b,h1,h2⟩:=h;exact⟨s,b,(zMT h1).symm,h2⟩
theorem Dr.ro{l:Addr}{G G':Gp}(h:Dr l G G'):G'.ro=G.ro:=by
 obtain⟨s,b,rfl,h⟩:=h;rfl
theorem Dr.ne{l a:Addr}{G G':Gp}(h:Dr l G G')(ha:a≠l):G'.m a=G.m a:=by
 obtain⟨s,b,rfl,h⟩:=h;exact zV ha
theorem Dr.none{l a:Addr}{G G':Gp}(h:Dr l G G')(s:zAV G l)(ha:G.m a=none):G'.m a=none:=by
 obtain⟨_,_,h1,_⟩:=s;rw[h.ne (fun e=>by subst e;rw[h1] at ha;cases ha)];exact ha
theorem zAV.ne{l a:Addr}{G:Gp}(s:zAV G l)(ha:G.m a=none):a≠l:=fun e=>by
 obtain⟨_,_,h1,_⟩:=s;subst e;rw[h1] at ha;cases ha
theorem zAV.ext{l:Addr}{G G':Gp}(s:zAV G l)(h:Sub G G'):zAV G' l:=by
 obtain⟨x,b,h1,h2⟩:=s;exact⟨x,b,h.m l _ h1,h2⟩
theorem Dr.sub{l:Addr}{G G1 G2:Gp}(h:Dr l G1 G2)(e:Sub G G1):∃ G',Dr l G G'/\Sub G' G2:=by
 obtain⟨s,b,rfl,h⟩:=h;refine⟨zQ G l [.int s,.bl b],⟨s,b,rfl,h⟩,⟨fun a o q=>?_,fun a o q=>e.ro a o q⟩⟩;by_cases ha:a=l
 ·subst ha;rw[zJ] at q ⊢;exact q
 ·rw[zV ha] at q ⊢;exact e.m a o q
theorem zCS{α:Type}(x:α)(r:List α):atI (x::r) 0=some x:=yP (j:=0) rfl
theorem zEy{α:Type}(x y:α)(r:List α):atI (x::y::r) 1=some y:=yP (j:=1) rfl
theorem zKa{α:Type}(x y z:α)(r:List α):atI (x::y::z::r) 2=some z:=yP (j:=2) rfl
theorem zDQ{x:D}{r:List D}{G:Gp}{R:Q2}:ye (.tup (x::r)) (.int 0) G R=R x G:=by simp only[ye,zCS]
theorem zDR{x y:D}{r:List D}{G:Gp}{R:Q2}:ye (.tup (x::y::r)) (.int 1) G R=R y G:=by simp only[ye,zEy]
theorem zD4{x y z:D}{r:List D}{G:Gp}{R:Q2}:ye (.tup (x::y::z::r)) (.int 2) G R=R z G:=by simp only[ye,zKa]
theorem zBZ{x:D}{ng:Bool}{ds:List D}{G:Gp}{R:Q2}:fIn ng x (.tup ds) G R=(flat 8 x=true/\(∀ d∈ds,flat 8 d=true)/\R (.bl (if ng then !ds.any fun z=>eqD z x else ds.any fun z=>eqD z x)) G):=rfl
theorem zHK:(0<=sizeLine)=True:=by rw[sizeLine_eq];simp
theorem zHL:(1<=sizeLine)=True:=by rw[sizeLine_eq];simp
theorem zHM:(2<=sizeLine)=True:=by rw[sizeLine_eq];simp
theorem zHN:(3<=sizeLine)=True:=by rw[sizeLine_eq];simp
theorem zAN(p:Prop):(True/\p)=p:=by simp
theorem zBa{p q:Prop}:(if true=true then p else q)=p:=if_pos rfl
theorem zBb{p q:Prop}:(if false=true then p else q)=q:=if_neg (by simp)
section
variable {X:Cx} {pins:List (Addr×Obj)} {σ1:L2.St} {H:Hp} {s:Shared} {A:Around}
theorem zHO(I:zT X pins σ1 H s){n:Nat}{ds:List D}{xs:List V}{its:List Value}{d:D}{v:V}{u:Value}(hd:Dens X.K H ds xs)(rv:zc xs its)(h:zO X.K H d v)(r:RelV v u)(f:∀ z∈ds,flat n z=true)(f':flat n d=true)(hu:A.units+n<cLine) :
  ∃ e:Value->Bool,(∀ y,y∈its.toArray->SeqAt.EqAt A s y u (e y))/\its.length=ds.length/\∀(j:Nat) (w:Value) (z:D),its[j]?=some w->ds[j]?=some z->e w=eqD z d:=by
 have l1:=hd.length;have l2:=rv.length;obtain⟨e,h1,h2⟩:=zEt (its:=its) (ds:=ds) (fun z=>eqD z d) (by omega) (by
  intro i j w z z' a1 a2 a3 a4;obtain⟨x,b1,b2⟩:=hd.get a3;obtain⟨x',b3,b4⟩:=hd.get a4;obtain⟨w1,c1,c2⟩:=rv.get b1;obtain⟨w2,c3,c4⟩:=rv.get b3;rw[a1] at c1;cases c1;rw[a2] at c3;cases c3;have:=c2.inj c4;subst this;exact zO.inj I b2 b4 (f z (dE a3)) (f z' (dE a4)))
 refine⟨e,fun y hy=>?_,by omega,h1⟩;have hy':y∈its:=by simpa using hy
 obtain⟨j,hj⟩:=List.getElem?_of_mem hy';have hjl:j<its.length:=(cJ.mp hj).1;obtain⟨x,b1,b2⟩:=hd.get (i:=j) (d:=ds[j]'(by omega)) (by simp);obtain⟨w1,c1,c2⟩:=rv.get b1;rw[hj] at c1;cases c1;rw[h1 j _ (ds[j]'(by omega)) hj (by simp)];exact zHE I n _ _ x v _ u A b2 h c2 r (f _ (dG _)) f' hu
end
section
variable {X:Cx} {e o:Expr} {es:List Expr} {to:zf} {t:wE} {name:Str} {apos cpos:Pos}
noncomputable def zNi(G:Gp)(d:D):Prop:=∃ ds,zGD G d ds
noncomputable def xMt(sp:wU)(to:zf)(t:wE):zf:=fun σ G R=>to σ G fun d G1=>zNi G1 d/\t σ G1 fun ds G2=>sp (d::ds) G2 R
theorem zPu{idT idL:String}{rT rL:V->List V->Hp->VK->Prop}{sp:wU}(slT:Slot "tuple" name idT)(slL:Slot "list" name idL)(tyT:typeOf (.builtin idT)=pure (.type "method_descriptor"))(tyL:typeOf (.builtin idL)=pure (.type "method_descriptor"))
  (mT:MtR X idT rT) (mL:MtR X idL rL)
  (fT:∀ xs ds G R a vs us H Q,sp (.tup xs::ds) G R->zt X.K G H->SqT X.K H a us->Dens X.K H xs us->Dens X.K H ds vs->(∀ d G',R d G'->∀ v H',zp H H'->zt X.K G' H'->zO X.K H' d v->Q v H')->rT (.ref a) vs H Q)
  (fL:∀ l ds G R vs H Q,sp (.adr l::ds) G R->zt X.K G H->Dens X.K H ds vs->(∀ d G',R d G'->∀ v H',zp H H'->zt X.K G' H'->zO X.K H' d v->Q v H')->rL (.ref l) vs H Q)
  (ho:E2 X o to) (ha:A2 X (e::es) t)
  (hbase:autoParam (attributeBase o name X.env (eval o X.env)=eval o X.env) Zq4._auto_1)
  (hfew:autoParam (((backTo cpos (starEach (e::es) X.env)).all (fun x=>!x.1)&&(backToKw cpos (keywordEach [] X.env)).all (fun x=>x.1.isSome)
   && decide ((e::es).length+([]:List Keyword).length+(if ([]:List Keyword).isEmpty then 0 else 1)<30))=true) Zq4._auto_1)
  (hline:autoParam ((apos.endLine==cpos.line)=true) Zq4._auto_1) (hs:autoParam (starEach (e::es) X.env=(false,eval e X.env)::starEach es X.env) Zq4._auto_1) (hplain:autoParam ((backTo cpos (starEach es X.env)).any (·.1)=false) Zq4._auto_1) :
  E2 X (.Call (.Attribute o name apos) (e::es) [] cpos) (xMt sp to t):=by
 intro pins s σ1 H Q I h;obtain⟨σ,G,R,r,q,k⟩:=h;refine wpAny_Call_method_late hbase hfew hline rfl (yj (ho pins s σ1 H (fun v H1=>∃ d G1,zp H H1/\zt X.K G1 H1/\zO X.K H1 d v/\zNi G1 d/\t σ G1 fun ds G2=>sp (d::ds) G2 R) I ⟨σ,G,_,r,q,fun d G1 q1 v H1 g1 r1 d1=>⟨d,G1,g1,r1,d1,q1.1,q1.2⟩⟩) fun v s1 u9=>?_);obtain⟨x,H1,I1,r1,d,G1,g1,rg,dn,sq,q1⟩:=u9;have args:∀ {us:List Value} {QQ:List V->Hp->Prop} (hq:∀ ds G2,sp (d::ds) G2 R->∀ vs H2,zp H1 H2->zt X.K G2 H2->Dens X.K H2 ds vs->QQ vs H2),lA X.K t σ1 H1 QQ:=fun hq =>
  ⟨σ,G1,_,r.to g1 rg,q1,hq⟩
 cases d with
 | tup xs =>
  unfold zO at dn;obtain⟨a,us0,rfl,hsq,hd⟩:=dn;cases r1;obtain⟨h1,ob,h2,h3⟩:=I1.noDict hsq;refine⟨"tuple",idT,PySem.F.plainAttrs_tuple,slT,tyT,h1,fun b eb=>by cases eb;exact⟨ob,h2,h3⟩,?_⟩;have hA:=ha cpos pins s1 σ1 H1 (fun vs H2=>rT (.ref a) vs H2 Q) I1 (args (us:=[]) fun ds G2 q2 vs H2 g2 r2 d2=>fT xs ds G2 R a vs us0 H2 Q q2 r2 (g2.sqT hsq) (hd.grow g2) d2 fun d G' q' v H' g'=>k d G' q' v H' ((g1.trans g2).trans g'));rw[hs] at hA ⊢;refine Calls.callWith_builtin (by show(false||(backTo cpos (starEach es X.env)).any (·.1))=false;rw[hplain]<;>rfl) (Calls.evalArgs_plain ?_);exact yj hA fun us s2 ⟨vs,H2,I2,r2,q2⟩=>mT pins s2 σ1 H2 (.ref a) vs _ us Q I2 rfl r2 q2
 | adr l =>
  unfold zO at dn;subst dn;cases r1;obtain⟨ds0,hq0⟩:=sq;obtain⟨us0,hsq,hd⟩:=rg.sq (show Ls G1 l ds0 from hq0);obtain⟨h1,h2⟩:=zKB (T:="list") (x:=.ref l) I1 rfl (.inl ⟨rfl,us0,hsq⟩);refine⟨"list",idL,PySem.F.plainAttrs_list,slL,tyL,h1,h2,?_⟩;have hA:=ha cpos pins s1 σ1 H1 (fun vs H2=>rL (.ref l) vs H2 Q) I1 (args (us:=[]) fun ds G2 q2 vs H2 g2 r2 d2=>fL l ds G2 R vs H2 Q q2 r2 d2 fun d G' q' v H' g'=>k d G' q' v H' ((g1.trans g2).trans g'));rw[hs] at hA ⊢;refine Calls.callWith_builtin (by show(false||(backTo cpos (starEach es X.env)).any (·.1))=false;rw[hplain]<;>rfl) (Calls.evalArgs_plain ?_);exact yj hA fun us s2 ⟨vs,H2,I2,r2,q2⟩=>mL pins s2 σ1 H2 (.ref l) vs _ us Q I2 rfl r2 q2
 | _=>obtain⟨_,hq⟩:=sq;exact hq.elim
noncomputable def zIE(ds:List D)(d:D)(lo j:Nat):Prop:=lo<=j/\(∃ z,ds[j]?=some z/\eqD z d=true)/\∀ m z,lo<=m->m<j->ds[m]?=some z->eqD z d=false
noncomputable def zPv(K:PySem.W.Frag)(two:Bool):V->List V->Hp->VK->Prop:=fun x vs H Q=>∃(a:Addr) (xs:List V) (ds:List D) (d:D) (v:V) (lo j:Nat),x=.ref a/\vs=(if two then [v,.int (lo:Int)] else [v])/\(two=false->lo=0)/\SqT K H a xs/\Dens K H ds xs/\zO K H d v/\flat 8 d=true/\(∀ z∈ds,flat 8 z=true)/\zIE ds d lo j/\Q (.int (j:Int)) H
noncomputable def zPw(K:PySem.W.Frag):V->List V->Hp->VK->Prop:=fun x vs H Q=>∃(a:Addr) (xs:List V) (ds:List D) (d:D) (v:V) (j:Nat),x=.ref a/\vs=[v]/\SqL K H a xs/\Dens K H ds xs/\zO K H d v/\flat 8 d=true/\(∀ z∈ds,flat 8 z=true)/\zIE ds d 0 j/\Q (.int (j:Int)) H
theorem zKb(hu:X.A.units+10<cLine):MtR X "tuple.index" (zPv X.K false):=by
 intro pins s σ H x vs v us Q I rx rv h;obtain⟨a,xs,ds,d,v0,lo,j,rfl,rfl,h0,hs,hd,hv,f1,f2,⟨i1,⟨z,i2,i3⟩,i4⟩,q⟩:=h;have hlo:=h0 rfl;subst hlo;cases rx;obtain⟨u,rfl,ru⟩:=vals1 rv;obtain⟨its,r,ht,hz⟩:=I.tuple hs;obtain⟨e,e1,e2,e3⟩:=zHO (A:=X.A.in1) I hd r hv ru f2 f1 (by rw[in1_units];omega);obtain⟨⟨cls,dd,data,sl⟩,ho,hc,n,hdt⟩:=id ht;simp only at hc hdt;subst hc hdt;have hj:j<ds.length:=(cJ.mp i2).1;have hj':j<its.toArray.size:=by simpa[e2] using hj
 refine call_meets PySem.F.slot_tuple_index ⟨_,ho,rfl⟩ PySem.F.entry_tuple_index (PySem.F.args_tuple_index_2 _ _) (HT.zFW a its.toArray n dd sl u e j hj' ?_ fun m hm hmj=>?_) ⟨ho,e1,⟨.int j,H,I.tok _,⟨_,rfl⟩,q⟩⟩
 ·rw[e3 j _ z (by simp at hj' ⊢) i2];exact i3
 ·have hm':m<its.length:=by simpa using hm
  rw[e3 m _ (ds[m]'(by omega)) (by simp) (by simp)];exact i4 m _ (Nat.zero_le _) hmj (by simp)
theorem zMU(hu:X.A.units+10<cLine):MtR X "list.index" (zPw X.K):=by
 intro pins s σ H x vs v us Q I rx rv h;obtain⟨a,xs,ds,d,v0,j,rfl,rfl,hs,hd,hv,f1,f2,⟨i1,⟨z,i2,i3⟩,i4⟩,q⟩:=h;cases rx;obtain⟨u,rfl,ru⟩:=vals1 rv;obtain⟨its,r,pl,hz⟩:=I.list hs;obtain⟨e,e1,e2,e3⟩:=zHO (A:=X.A.in1) I hd r hv ru f2 f1 (by rw[in1_units];omega);obtain⟨⟨cls,dd,data,sl⟩,ho,hc,n,hdt⟩:=id pl.isList;simp only at hc hdt;subst hc hdt;have hj:j<ds.length:=(cJ.mp i2).1;have hj':j<its.toArray.size:=by simpa[e2] using hj
 have hz':its.length<=sizeLine:=by rw[<-r.length];exact hz
 rw[sizeLine_eq] at hz';refine call_meets PySem.F.slot_list_index ⟨_,ho,rfl⟩ PySem.F.entry_list_index (PySem.F.args_list_index_2 _ _) (SeqAt.list_indexAt a its.toArray n dd sl u e j hj' (by simp at hj';omega) ?_ fun m hm hmj=>?_) ⟨ho,e1,⟨.int j,H,I.tok _,⟨_,rfl⟩,q⟩⟩
 ·rw[e3 j _ z (by simp at hj' ⊢) i2];exact i3
 ·have hm':m<its.length:=by simpa using hm
  rw[e3 m _ (ds[m]'(by omega)) (by simp) (by simp)];exact i4 m _ (Nat.zero_le _) hmj (by simp)
noncomputable def wM:wU:=fun ds G R=>match ds with
 | [o,d]=>∃ xs j,zGD G o xs/\flat 8 d=true/\(∀ z∈xs,flat 8 z=true)/\zIE xs d 0 j/\R (.int (j:Int)) G
 | _=>False
theorem zGJ{k:Nat}(hr:yM k X.A)(ho:E2 X o to)(ha:A2 X [e] t)
  (hbase:autoParam (attributeBase o "index" X.env (eval o X.env)=eval o X.env) Zq4._auto_1)
  (hfew:autoParam (((backTo cpos (starEach [e] X.env)).all (fun x=>!x.1)&&(backToKw cpos (keywordEach [] X.env)).all (fun x=>x.1.isSome)
   && decide ([e].length+([]:List Keyword).length+(if ([]:List Keyword).isEmpty then 0 else 1)<30))=true) Zq4._auto_1)
  (hline:autoParam ((apos.endLine==cpos.line)=true) Zq4._auto_1) (hs:autoParam (starEach [e] X.env=(false,eval e X.env)::starEach [] X.env) Zq4._auto_1) (hplain:autoParam ((backTo cpos (starEach [] X.env)).any (·.1)=false) Zq4._auto_1) :
  E2 X (.Call (.Attribute o "index" apos) [e] [] cpos) (xMt wM to t):=by
 refine zPu PySem.F.slot_tuple_index PySem.F.slot_list_index PySem.F.type_tuple_index PySem.F.type_list_index (zKb (by have:=hr.units;omega)) (zMU (by have:=hr.units;omega)) ?_ ?_ ho ha hbase hfew hline hs hplain
 ·intro xs ds G R a vs us H Q q r hsq hd d2 k
  unfold wM at q;split at q
  ·rename_i o d e
   cases e;obtain⟨xs',j,e1,f1,f2,i,q⟩:=q;cases (show xs=xs' from e1);obtain⟨v,rfl,d3⟩:=zAc d2;exact⟨a,us,xs,d,v,0,j,rfl,rfl,fun _=>rfl,hsq,hd,d3,f1,f2,i,k _ G q _ H (.refl H) r (by unfold zO;rfl)⟩
  ·exact q.elim
 ·intro l ds G R vs H Q q r d2 k
  unfold wM at q;split at q
  ·rename_i o d e
   cases e;obtain⟨xs',j,e1,f1,f2,i,q⟩:=q;obtain⟨v,rfl,d3⟩:=zAc d2;obtain⟨us,hsq,hd⟩:=r.sq (show Ls G l xs' from e1);exact⟨l,us,xs',d,v,j,rfl,rfl,hsq,hd,d3,f1,f2,i,k _ G q _ H (.refl H) r (by unfold zO;rfl)⟩
  ·exact q.elim
noncomputable def zPx(K:PySem.W.Frag):V->List V->Hp->VK->Prop:=fun x vs H Q=>∃ a xs ds d v,x=.ref a/\vs=[v]/\SqT K H a xs/\Dens K H ds xs/\zO K H d v/\flat 8 d=true/\(∀ z∈ds,flat 8 z=true)/\Q (.int ((ds.countP fun z=>eqD z d:Nat):Int)) H
theorem zJA{its:List Value}{ds:List D}{e:Value->Bool}{g:D->Bool}:its.length=ds.length->(∀(j:Nat) (w:Value) (z:D),its[j]?=some w->ds[j]?=some z->e w=g z)->its.countP e=ds.countP g:=by
 induction its generalizing ds with
 | nil =>
  intro h _;have:ds=[]:=eh.mp h.symm;subst this;rfl
 | cons w r ih =>
  intro h hh;cases ds with
  | nil=>simp at h
  | cons z ds =>
   rw[List.countP_cons,List.countP_cons,ih (by simpa using h) fun j w' z' h1 h2=>hh (j+1) w' z' (by simpa using h1) (by simpa using h2),hh 0 w z rfl rfl]
theorem zMV(hu:X.A.units+10<cLine):MtR X "tuple.count" (zPx X.K):=by
 intro pins s σ H x vs v us Q I rx rv h;obtain⟨a,xs,ds,d,v0,rfl,rfl,hs,hd,hv,f1,f2,q⟩:=h;cases rx;obtain⟨u,rfl,ru⟩:=vals1 rv;obtain⟨its,r,ht,hz⟩:=I.tuple hs;obtain⟨e,e1,e2,e3⟩:=zHO (A:=X.A.in1) I hd r hv ru f2 f1 (by rw[in1_units];omega);obtain⟨⟨cls,dd,data,sl⟩,ho,hc,n,hdt⟩:=id ht;simp only at hc hdt;subst hc hdt;refine call_meets PySem.F.slot_tuple_count ⟨_,ho,rfl⟩ PySem.F.entry_tuple_count (PySem.F.args_tuple_count_2 _ _) (SeqAt.tuple_countAt a its.toArray n dd sl u e) ⟨ho,e1,?_⟩;rw[List.toList_toArray,zJA e2 e3];exact⟨.int _,H,I.tok _,⟨_,rfl⟩,q⟩
noncomputable def zBO:wU:=fun ds G R=>match ds with
 | [.tup xs,d]=>flat 8 d=true/\(∀ z∈xs,flat 8 z=true)/\R (.int ((xs.countP fun z=>eqD z d:Nat):Int)) G
 | _=>False
theorem zKc{k:Nat}(hr:yM k X.A)(ho:E2 X o to)(ha:A2 X [e] t)
  (hbase:autoParam (attributeBase o "count" X.env (eval o X.env)=eval o X.env) Zq4._auto_1)
  (hfew:autoParam (((backTo cpos (starEach [e] X.env)).all (fun x=>!x.1)&&(backToKw cpos (keywordEach [] X.env)).all (fun x=>x.1.isSome)
   && decide ([e].length+([]:List Keyword).length+(if ([]:List Keyword).isEmpty then 0 else 1)<30))=true) Zq4._auto_1)
  (hline:autoParam ((apos.endLine==cpos.line)=true) Zq4._auto_1) (hs:autoParam (starEach [e] X.env=(false,eval e X.env)::starEach [] X.env) Zq4._auto_1) (hplain:autoParam ((backTo cpos (starEach [] X.env)).any (·.1)=false) Zq4._auto_1) :
  E2 X (.Call (.Attribute o "count" apos) [e] [] cpos) (xMt zBO to t):=by
 refine zPu (rL:=fun _ _ _ _=>False) PySem.F.slot_tuple_count PySem.F.slot_list_count PySem.F.type_tuple_count PySem.F.type_list_count (zMV (by have:=hr.units;omega)) (fun _ _ _ _ _ _ _ _ _ _ _ _ z=>z.elim) ?_ ?_ ho ha hbase hfew hline hs hplain
 ·intro xs ds G R a vs us H Q q r hsq hd d2 k
  unfold zBO at q;split at q
  ·rename_i xs' d e
   cases e;obtain⟨f1,f2,q⟩:=q;obtain⟨v,rfl,d3⟩:=zAc d2;exact⟨a,us,xs,d,v,rfl,rfl,hsq,hd,d3,f1,f2,k _ G q _ H (.refl H) r (by unfold zO;rfl)⟩
  ·exact q.elim
 ·intro l ds G R vs H Q q r d2 k
  unfold zBO at q;split at q
  ·rename_i e;cases e
  ·exact q.elim
end
end L3
namespace HT
section
variable {prog:Program} {w:World} {A:Around} {R:Result->Shared->Prop} {I:Addr} {fp wr:List Addr} {n:Nat} {P:Nat->Value->Prop} {St:Nat->Heap->Prop}
end
section
variable {prog:Program} {w:World} {A:Around} {E:Value->Shared->Prop} {s:Shared}
end
end HT
namespace L3
open L2
section
variable {X:Cx} {a b c d e o:Expr} {es:List Expr} {pos p:Pos} {ta tb tc td te:zf} {tl:TL2}
theorem zIF{x:Str}{n:Int}{t:Tok}(hg:Gl X x)(hm:X.mg x=some (.int n t))(hd:autoParam ((x==("__debug__":Str))=false) Zq2._auto_1):E2 X (.Name x pos) (xC (.int n)):=by
 refine PE.mono (zDa (v:=.int n) hg hm ⟨t,rfl⟩ hd) ?_;rintro σ1 H Q ⟨σ,G,R,r,q,k⟩;exact k _ G q _ H (.refl H) r.g (by unfold zO;rfl)
theorem zGK{A:Around}{prog:Program}{w:World}{bs:List Bool}:TruthOf prog w A (fun i v=>(bs.map Value.bool).toArray[i]?=some v) (fun i=>bs.getD i false):=by
 intro i v s Q E h q;have hi:i<bs.length:=by
  have:=(Array.getElem?_eq_some_iff.mp h).1;simpa using this
 have:v=.bool bs[i]:=by
  have:=h;simp[hi] at this;exact this.symm
 subst this;have e:bs.getD i false=bs[i]:=by simp[eN,hi]
 have q':Q (bs.getD i false) s:=q;rw[e] at q';exact dY q'
theorem all_range(bs:List Bool):(cH bs.length).all (fun i=>bs.getD i false)=bs.all id:=by
 rw[da];simp only[dF,cV,id];constructor
 ·intro h x hx
  obtain⟨i,hi⟩:=List.getElem?_of_mem hx;have hl:i<bs.length:=(cJ.mp hi).1;have:=h i hl;simp[eN,hi] at this;exact this
 ·intro h i hi
  have:bs.getD i false=bs[i]:=by simp[eN,hi]
  rw[this];exact h _ (dG _)
theorem zD5:∀ {bs:List Bool} {us:List Value},zc (bs.map V.bl) us->us=bs.map Value.bool
 | [],_,h=>by cases h;rfl
 | b::r,_,h=>by
  rw[dt] at h;cases h with
  | cons h1 h2=>rw[zD5 h2,(show _=Value.bool b from h1)];rfl
theorem zJB(hc:X.calm=true):wD X (.builtin "all") (fun xs H Q=>∃ l bs,xs=[.ref l]/\SqL X.K H l (cM V.bl bs)/\Q (.bl (bs.all id)) H):=by
 intro pins s σ H xs us Q I r h;obtain⟨l,bs,rfl,hs,q⟩:=h;obtain⟨u,rfl,rx⟩:=vals1 r;cases rx;obtain⟨its,rv,pl,_⟩:=I.list hs;have:=zD5 rv;subst this;have hl:=pl.isList;have ll:l<s.heap.objs.size:=by obtain⟨o,e,_⟩:=hl;exact cS e
 refine call_all_walkS (wpAny_pyIter_list hl ?_);refine⟨_,_,_,_,_,_,_,fun i=>bs.getD i false,rfl,(Walks.list (A:=X.A.in1) (I.ok.hd hc) s.heap.objs.size l (dB ll) (bs.map Value.bool).toArray).toS,⟨⟨_,de _ rfl,rfl,rfl⟩,hl.push _⟩,zGK,fun s' hm=>?_⟩;have e1:(bs.map Value.bool).toArray.size=bs.length:=by simp
 rw[e1,all_range,Moved.eq_with hm];refine⟨.bl _,H,I.kept (t':=s'.toks) fun b o e=>hm.heap b o (fun z=>?_) (cL _ e),rfl,q⟩;rw[eC] at z;have:=cS e;rw[z] at this;exact absurd this (dZ _)
noncomputable def zGL:wU:=fun ds G R=>∃ bs:List Bool,ds=bs.map D.bl/\R (.bl (bs.all id)) G
theorem Dens.bools_inv{K:PySem.W.Frag}{H:Hp}:∀ {bs:List Bool} {xs:List V},Dens K H (bs.map D.bl) xs->xs=bs.map V.bl
 | [],xs,h=>by unfold Dens at h;exact h
 | n::r,xs,h=>by
  rw[dt] at h;unfold Dens at h;obtain⟨x,y,rfl,h1,h2⟩:=h;unfold zO at h1;rw[h1,Dens.bools_inv h2];rfl
theorem zIG(hc:X.calm=true)(hg:Gl X "all")(hm:X.mg "all"=none)(ha:F2 X e tl)(he:autoParam (starEach [e] X.env=(false,eval e X.env)::starEach [] X.env) Zq4._auto_1)(hpl:autoParam ((backTo pos (starEach [] X.env)).any (·.1)=false) Zq4._auto_1) :
  E2 X (.Call (.Name "all" p) [e] [] pos) (zn zGL tl):=zKS (zJB hc) (by
   rintro ds G R l xs H Q ⟨bs,rfl,h⟩ r e d k;have:=d.bools_inv;subst this;exact⟨l,bs,rfl,.of e,k _ G h _ H (.refl H) r (by unfold zO;rfl)⟩) hg hm (by decide +kernel) ha (by decide) (by decide) he hpl
noncomputable def zCD(f g:D->D->Gp->Q2->Prop)(ta tb tc:zf):zf:=fun σ G R=>ta σ G fun x G1=>tb σ G1 fun y G2=>f x y G2 fun z G3=>match z with | .bl k=>if k=true then tc σ G3 fun w G4=>g y w G4 R else R (.bl false) G3 | _=>False
section
variable {op op' op'':CmpOp} {r r' r'':R2} {f g h:D->D->Gp->Q2->Prop}
theorem zGM{K:PySem.W.Frag}(hf:Fit K r f)(hg:Fit K r' g){σ1:L2.St}{H:Hp}{Q:VK}(hh:lE K (zCD f g ta tb tc) σ1 H Q):zJ3 r r' (lE K ta) (lE K tb) (lE K tc) σ1 H Q:=by
 obtain⟨σ,G,R,rl,t,k⟩:=hh;refine⟨σ,G,_,rl,t,fun dx G1 t1 x H1 g1 r1 d1=>?_⟩;refine⟨σ,G1,_,rl.to g1 r1,t1,fun dy G2 t2 y H2 g2 r2 d2=>?_⟩;refine hf dx dy G2 _ x y H2 _ t2 r2 (d1.grow g2) d2 fun dz G3 t3 z H3 g3 r3 d3=>?_;cases dz with
 | bl kk =>
  unfold zO at d3;refine⟨kk,d3,?_⟩;cases kk with
  | true =>
   dsimp only at t3;rw[if_pos rfl] at t3;rw[if_pos rfl];refine⟨σ,G3,_,rl.to ((g1.trans g2).trans g3) r3,t3,fun dw G4 t4 w H4 g4 r4 d4=>?_⟩;exact hg dy dw G4 R y w H4 Q t4 r4 ((d2.grow g3).grow g4) d4 fun d G' q v H' g' r' d'=>k d G' q v H' ((((g1.trans g2).trans g3).trans g4).trans g') r' d'
  | false =>
   dsimp only at t3;rw[if_neg (by simp)] at t3;rw[if_neg (by simp)];exact k _ G3 t3 _ H3 ((g1.trans g2).trans g3) r3 (by unfold zO;rfl)
 | _=>exact t3.elim
theorem zNj(ho:OpR X (compareOp op) r)(ho':OpR X (compareOp op') r')(hf:Fit X.K r f)(hg:Fit X.K r' g)(ha:E2 X a ta)(hb:E2 X b tb)(hc:E2 X c tc)(hm:autoParam (lastMarks [op,op'] [b,c]=false) Zq5._auto_1) :
  T2 X (.Compare a [op,op'] [b,c] pos) (xB (zCD f g ta tb tc)):=by
 refine PT.mono (zJ4 ho ho' ha hb hc hm) ?_;rintro σ1 H Q ⟨σ,G,R,rl,t,k⟩;refine zGM hf hg ⟨σ,G,_,rl,t,fun d G' q v H' g' r' d'=>?_⟩;cases d with
 | bl b =>
  unfold zO at d';exact⟨b,d',k b G' q H' g' r'⟩
 | _=>exact q.elim
noncomputable def zIH(r r' r'':R2)(ta tb tc td:TE):TE:=fun σ H Q=>ta σ H fun x H1=>tb σ H1 fun y H2=>r x y H2 fun z H3=>∃ k,z=.bl k /\
 (if k=true then tc σ H3 fun w' H4=>r' y w' H4 fun z' H5=>∃ k',z'=.bl k'/\(if k'=true then td σ H5 fun u H6=>r'' w' u H6 Q else Q (.bl false) H5) else Q (.bl false) H3)
theorem zJC{ta tb tc td:TE}(ho:OpR X (compareOp op) r)(ho':OpR X (compareOp op') r')(ho'':OpR X (compareOp op'') r'')(ha:PE X a ta)(hb:PE X b tb)(hc:PE X c tc)(hd:PE X d td)
  (hm:autoParam (lastMarks [op,op',op''] [b,c,d]=false) Zq5._auto_1):PE X (.Compare a [op,op',op''] [b,c,d] pos) (zIH r r' r'' ta tb tc td):=by
 intro pins s σ H Q I h;refine Compare_chain (yj (ha pins s σ H _ I h) fun v s1 ⟨x,H1,I1,r1,q1⟩=>chain_link (yj (hb pins s1 σ H1 _ I1 q1) fun u s2 ⟨y,H2,I2,r2,q2⟩ =>
  yj (ho pins s2 σ H2 x y v u _ I2 r1 r2 q2) fun d s3 ⟨z,H3,I3,r3,k,e,q3⟩=>?_)) hm
 subst e;cases r3;refine dY ?_;cases k with
 | false=>exact ite_ff ⟨.bl false,H3,I3,rfl,q3⟩
 | true =>
  refine ite_tt (chain_link (yj (hc pins s3 σ H3 _ I3 q3) fun u' s4 ⟨y',H4,I4,r4,q4⟩=>yj (ho' pins s4 σ H4 y y' u u' _ I4 r2 r4 q4) fun d' s5 u9=>?_));obtain⟨z',H5,I5,r5,k',e',q5⟩:=u9;subst e';cases r5;refine dY ?_;cases k' with
  | false=>exact ite_ff ⟨.bl false,H5,I5,rfl,q5⟩
  | true=>exact ite_tt (chain_last (yj (hd pins s5 σ H5 _ I5 q5) fun w' s6 ⟨z2,H6,I6,r6,q6⟩=>ho'' pins s6 σ H6 y' z2 u' w' Q I6 r4 r6 q6))
noncomputable def zCn(f g h:D->D->Gp->Q2->Prop)(ta tb tc td:zf):zf:=fun σ G R=>ta σ G fun x G1=>tb σ G1 fun y G2=>f x y G2 fun z G3=>match z with
 | .bl k=>if k=true then tc σ G3 fun w G4=>g y w G4 fun z' G5=>(match z' with | .bl k'=>if k'=true then td σ G5 fun u G6=>h w u G6 R else R (.bl false) G5 | _=>False) else R (.bl false) G3
 | _=>False
theorem zGN{K:PySem.W.Frag}(hf:Fit K r f)(hg:Fit K r' g)(hq:Fit K r'' h){σ1:L2.St}{H:Hp}{Q:VK}(hh:lE K (zCn f g h ta tb tc td) σ1 H Q):zIH r r' r'' (lE K ta) (lE K tb) (lE K tc) (lE K td) σ1 H Q:=by
 obtain⟨σ,G,R,rl,t,k⟩:=hh;refine⟨σ,G,_,rl,t,fun dx G1 t1 x H1 g1 r1 d1=>?_⟩;refine⟨σ,G1,_,rl.to g1 r1,t1,fun dy G2 t2 y H2 g2 r2 d2=>?_⟩;refine hf dx dy G2 _ x y H2 _ t2 r2 (d1.grow g2) d2 fun dz G3 t3 z H3 g3 r3 d3=>?_;cases dz with
 | bl kk =>
  unfold zO at d3;refine⟨kk,d3,?_⟩;cases kk with
  | true =>
   dsimp only at t3;rw[if_pos rfl] at t3;rw[if_pos rfl];refine⟨σ,G3,_,rl.to ((g1.trans g2).trans g3) r3,t3,fun dw G4 t4 w H4 g4 r4 d4=>?_⟩;refine hg dy dw G4 _ y w H4 _ t4 r4 ((d2.grow g3).grow g4) d4 fun dz' G5 t5 z' H5 g5 r5 d5=>?_;cases dz' with
   | bl k2 =>
    unfold zO at d5;refine⟨k2,d5,?_⟩;cases k2 with
    | true =>
     dsimp only at t5;rw[if_pos rfl] at t5;rw[if_pos rfl];refine⟨σ,G5,_,rl.to ((((g1.trans g2).trans g3).trans g4).trans g5) r5,t5,fun du G6 t6 u H6 g6 r6 d6=>?_⟩;exact hq dw du G6 R w u H6 Q t6 r6 ((d4.grow g5).grow g6) d6 fun d G' q v H' g' r' d'=>k d G' q v H' ((((((g1.trans g2).trans g3).trans g4).trans g5).trans g6).trans g') r' d'
    | false =>
     dsimp only at t5;rw[if_neg (by simp)] at t5;rw[if_neg (by simp)];exact k _ G5 t5 _ H5 ((((g1.trans g2).trans g3).trans g4).trans g5) r5 (by unfold zO;rfl)
   | _=>exact t5.elim
  | false =>
   dsimp only at t3;rw[if_neg (by simp)] at t3;rw[if_neg (by simp)];exact k _ G3 t3 _ H3 ((g1.trans g2).trans g3) r3 (by unfold zO;rfl)
 | _=>exact t3.elim
theorem zPy(ho:OpR X (compareOp op) r)(ho':OpR X (compareOp op') r')(ho'':OpR X (compareOp op'') r'')(hf:Fit X.K r f)(hg:Fit X.K r' g)(hq:Fit X.K r'' h)(ha:E2 X a ta)(hb:E2 X b tb)(hc:E2 X c tc)(hd:E2 X d td)(hm:autoParam (lastMarks [op,op',op''] [b,c,d]=false) Zq5._auto_1) :
  E2 X (.Compare a [op,op',op''] [b,c,d] pos) (zCn f g h ta tb tc td):=PE.mono (zJC ho ho' ho'' ha hb hc hd hm) fun σ1 H Q h=>zGN hf hg hq h
end
noncomputable def zMW:D->D->Gp->Q2->Prop:=fun x y G R=>∃ ns ms:List Int,x=.tup (ns.map D.int)/\y=.tup (ms.map D.int)/\R (.bl (HT.lexLt ns ms)) G
theorem zMX{K:PySem.W.Frag}:Fit K (zPh K) zMW:=by
 rintro dx dy G R x y H Q ⟨ns,ms,rfl,rfl,h⟩ r d1 d2 k;unfold zO at d1 d2;obtain⟨a,us,rfl,s1,t1⟩:=d1;obtain⟨b,ws,rfl,s2,t2⟩:=d2;have e1:=t1.ints_inv;have e2:=t2.ints_inv;subst e1 e2;exact⟨a,b,ns,ms,rfl,rfl,s1,s2,k _ G h _ H (.refl H) r (by unfold zO;rfl)⟩
theorem zPz{k:Nat}(hr:yM k X.A)(ha:E2 X a ta)(hb:E2 X b tb):E2 X (.Compare a [.Lt] [b] pos) (zS zMW ta tb):=zNa (zOR (by have:=hr.units;omega)) zMX ha hb (zBu _)
end
end L3
namespace HT
section
variable {prog:Program} {w:World} {A:Around} {E:Value->Shared->Prop} {s:Shared}
end
end HT
namespace L3
open L2
section
variable {X:Cx} {a b c e o:Expr} {es:List Expr} {pos p:Pos} {ta tb te:zf}
end
section
variable {X:Cx} {a b c e o:Expr} {es:List Expr} {pos p:Pos} {ta tb te:zf} {tl:TL2}
noncomputable def tupI(ns:List Int):D:=.tup (ns.map D.int)
end
end L3
namespace HT
open PySem PyProof.Rows
section
open PySem.SeqAt
open PySem.MeetsSeq PySem.MeetsSeq2 PySem.MeetsSeq3
end
section
variable {prog:Program} {w:World} {A:Around} {E:Value->Shared->Prop} {s:Shared}
end
end HT
namespace L3
open L2
section
variable {X:Cx} {a b c e o:Expr} {es:List Expr} {pos p:Pos} {ta tb te:zf}
noncomputable def zJD(t:zf):zf:=fun σ G R=>t σ G fun d G1=>match d with | .int i=>R (.int (-i)) G1 | _=>False
theorem zP0(ha:E2 X a ta):E2 X (.UnaryOp .USub a pos) (zJD ta):=by
 refine PE.mono (zPc zON ha) ?_;rintro σ1 H Q ⟨σ,G,R,r,q,k⟩;refine⟨σ,G,_,r,q,fun d G1 q1 v H1 g1 r1 d1=>?_⟩;cases d with
 | int i =>
  unfold zO at d1;subst d1;exact⟨i,rfl,k _ G1 q1 _ H1 g1 r1 (by unfold zO;rfl)⟩
 | _=>exact q1.elim
noncomputable def zAf(t:zf)(tl th:TO2):TL2:=fun σ G R=>t σ G fun d G1=>tl σ G1 fun lo G2=>th σ G2 fun hi G3=>match d with | .adr l=>∃ ds,Ls G3 l ds/\R (cutD ds lo hi) G3 | _=>False
theorem zDg{lo hi:Option Expr}{tl th:TO2}{p2:Pos}(he:E2 X e te)(hl:O2 X lo tl)(hu:O2 X hi th):F2 X (.Subscript e (.Slice lo hi none p2) pos) (zAf te tl th):=by
 refine PE.mono (zF4 zMB he hl hu) ?_;rintro σ1 H Q ⟨σ,G,R,r,q,k⟩;refine⟨σ,G,_,r,q,fun d G1 q1 v H1 g1 r1 d1=>⟨σ,G1,_,r.to g1 r1,q1,fun o1 G2 q2 H2 g2 r2=>⟨σ,G2,_,r.to (g1.trans g2) r2,q2,fun o2 G3 q3 H3 g3 r3=>?_⟩⟩⟩;cases d with
 | adr l =>
  obtain⟨ds,ls,q3⟩:=q3;obtain⟨xs,s1,t1⟩:=r3.sq ls;unfold zO at d1;subst d1;have hl:=t1.length;refine⟨l,xs,rfl,s1,fun p hp=>k _ G3 q3 p _ _ (((g1.trans g2).trans g3).trans (.fresh hp)) (r3.fresh hp) (r3.free hp) zm ?_⟩;unfold cutD zJ9;rw[hl];exact((t1.drop).take).grow (.fresh hp)
 | _=>exact q3.elim
end
end L3
namespace HT
section
variable {prog:Program} {w:World} {A:Around} {E:Value->Shared->Prop} {s:Shared}
end
end HT
namespace L3
open L2
section
variable {X:Cx} {a b c e o:Expr} {es:List Expr} {pos p:Pos} {ta tb te:zf}
theorem zc.rep{xs:List V}{us:List Value}(r:zc xs us):∀ n:Nat,zc (cK n xs).flatten (cK n us).flatten
 | 0=>.nil
 | n+1=>by
  rw[cA,cA,em,em];exact r.append (zc.rep r n)
end
end L3
namespace HT
section
variable {prog:Program} {w:World} {A:Around} {E:Value->Shared->Prop} {s:Shared}
end
end HT
namespace L3
open L2
section
variable {X:Cx} {a b c e o:Expr} {es:List Expr} {pos p:Pos} {ta tb te:zf}
end
end L3
namespace HZ
structure Zs (prog:Program) (w:World) (i l:Addr) (xs:Array Value) where
 It:Nat->Heap->Prop
 Sq:Heap->Prop
 item:∀(A:Around) (E:Value->Shared->Prop) (s:Shared) (k:Nat) (x:Value) (Q:Value->Shared->Prop),It k s.heap->Sq s.heap->xs[k]?=some x->(∀ h',It (k+1) h'->Heap.SameBut i s.heap h'->Q x { s with heap:=h' })->wpAny (model prog w) A (Builtin.SmallTypes.nextOf (.ref i)) Q E s
 fin:∀(A:Around) (E:Value->Shared->Prop) (s:Shared) (k:Nat) (Q:Value->Shared->Prop),A.handled=none->It k s.heap->Sq s.heap->xs[k]?=none->(∀ h' e,Heap.ExtBut i s.heap h'->(∃ o,h'.get? e=some o/\o.cls=.type "StopIteration")->E (.ref e) { s with heap:=h' })->wpAny (model prog w) A (Builtin.SmallTypes.nextOf (.ref i)) Q E s
 itAt:∀ {k:Nat} {h h':Heap},It k h->(∀ o,h.get? i=some o->h'.get? i=some o)->It k h'
 sqAt:∀ {h h':Heap},Sq h->(∀ o,h.get? l=some o->h'.get? l=some o)->Sq h'
 itHas:∀ {k:Nat} {h:Heap},It k h->∃ o,h.get? i=some o/\∀ v,o.data≠.cell v
theorem Zs.lt{prog:Program}{w:World}{i l:Addr}{xs:Array Value}(Z:Zs prog w i l xs){k:Nat}{h:Heap}(x:Z.It k h):i<h.objs.size:=let ⟨_,e,_⟩:=Z.itHas x;cS e
section
variable {prog:Program} {w:World} {A:Around} {E:Value->Shared->Prop} {s:Shared}
end
section
variable {prog:Program} {w:World} {A:Around} {E:Value->Shared->Prop} {s:Shared} {z a b i j l m:Addr} {xs ys:Array Value} (Z1:Zs prog w i l xs) (Z2:Zs prog w j m ys)
end
end HZ
namespace L2
open HZ
end L2
namespace L3
open L2
end L3
namespace HZ
section
variable {prog:Program} {w:World} {A:Around} {E:Value->Shared->Prop}
end
end HZ
namespace L2
open HZ
variable {X:Cx} {pos:Pos}
end L2
namespace L3
open L2
section
variable {X:Cx} {e:Expr} {te:zf} {pos p p2 p3 p4:Pos}
end
end L3
namespace HS
structure SB (a0:Array Keyed) (kd:SortKind) (z:SortSt):Prop where
 pm:(arrOf z).Perm a0
 kd:kindOf z=kd
 fl:failedOf z=none
 pe:pendingOf z=#[]
theorem SB.sz{a0:Array Keyed}{kd:SortKind}{z:SortSt}(b:SB a0 kd z):(arrOf z).size=a0.size:=b.pm.size_eq
section
variable {prog:Program} {w:World} {A:Around} {E:Value->Shared->Prop} {s:Shared} {a0:Array Keyed} {kd:SortKind} {κ:KeyKind}
noncomputable abbrev Ky(κ:KeyKind)(z:SortSt)(i:Nat):κ.α:=KK κ (arrOf z) i
variable (L:∀(z:SortSt) (i j:Nat) (Q:Option Bool->SortSt->Prop),SB a0 kd z->i<a0.size->j<a0.size->Q (some (κ.blt (Ky κ z i) (Ky κ z j))) z->wpS (model prog w) A E s (ltAt' i j) Q z)
include L
omit L in
end
end HS
namespace HM
open HS
noncomputable def ky(κ:KeyKind)(p:Keyed):κ.α:=(κ.keyOf p.1).getD κ.dflt
section
variable {prog:Program} {w:World} {A:Around} {E:Value->Shared->Prop} {s:Shared} {kd:SortKind} {κ:KeyKind} {P:Keyed->Prop}
variable (L:∀(z:SortSt) (x y:Keyed) (Q:Option Bool->SortSt->Prop),kindOf z=kd->P x->P y->Q (some (κ.blt (ky κ x) (ky κ y))) z->wpS (model prog w) A E s (lt' x y) Q z)
include L
structure Turn (B:Nat->Bool) (n r:Nat):Prop where
 le:r<=n
 yes:∀ i,i<r->B i=true
 no:∀ i,r<=i->i<n->B i=false
end
section
variable {κ:KeyKind}
variable {a b out:Array Keyed} {ia ib:Nat}
end
section
variable {prog:Program} {w:World} {A:Around} {E:Value->Shared->Prop} {s:Shared} {kd:SortKind} {κ:KeyKind} {P:Keyed->Prop}
variable (L:∀(z:SortSt) (x y:Keyed) (Q:Option Bool->SortSt->Prop),kindOf z=kd->P x->P y->Q (some (κ.blt (ky κ x) (ky κ y))) z->wpS (model prog w) A E s (lt' x y) Q z)
include L
end
section
variable {κ:KeyKind}
variable {a b out:Array Keyed} {na nb:Nat}
end
section
variable {prog:Program} {w:World} {A:Around} {E:Value->Shared->Prop} {s:Shared} {kd:SortKind} {κ:KeyKind} {P:Keyed->Prop}
variable (L:∀(z:SortSt) (x y:Keyed) (Q:Option Bool->SortSt->Prop),kindOf z=kd->P x->P y->Q (some (κ.blt (ky κ x) (ky κ y))) z->wpS (model prog w) A E s (lt' x y) Q z)
include L
end
section
variable {κ:KeyKind}
variable {prog:Program} {w:World} {A:Around} {E:Value->Shared->Prop} {s:Shared} {kd:SortKind} {P:Keyed->Prop}
variable (L:∀(z:SortSt) (x y:Keyed) (Q:Option Bool->SortSt->Prop),kindOf z=kd->P x->P y->Q (some (κ.blt (ky κ x) (ky κ y))) z->wpS (model prog w) A E s (lt' x y) Q z)
include L
end
section
variable {κ:KeyKind}
variable {prog:Program} {w:World} {A:Around} {E:Value->Shared->Prop} {s:Shared} {kd:SortKind} {P:Keyed->Prop}
variable (L:∀(z:SortSt) (x y:Keyed) (Q:Option Bool->SortSt->Prop),kindOf z=kd->P x->P y->Q (some (κ.blt (ky κ x) (ky κ y))) z->wpS (model prog w) A E s (lt' x y) Q z)
include L
end
section
variable {κ:KeyKind}
variable {prog:Program} {w:World} {A:Around} {E:Value->Shared->Prop} {s:Shared} {kd:SortKind} {P:Keyed->Prop} {a0:Array Keyed}
variable (L:∀(z:SortSt) (x y:Keyed) (Q:Option Bool->SortSt->Prop),kindOf z=kd->P x->P y->Q (some (κ.blt (ky κ x) (ky κ y))) z->wpS (model prog w) A E s (lt' x y) Q z)
include L
end
section
variable {κ:KeyKind} {prog:Program} {w:World} {A:Around} {E:Value->Shared->Prop} {s:Shared} {kd:SortKind} {P:Keyed->Prop} {a0:Array Keyed}
variable (L:∀(z:SortSt) (x y:Keyed) (Q:Option Bool->SortSt->Prop),kindOf z=kd->P x->P y->Q (some (κ.blt (ky κ x) (ky κ y))) z->wpS (model prog w) A E s (lt' x y) Q z)
include L
end
end HM
namespace HS
noncomputable def ltI:List Int->List Int->Bool
 | [],[]=>false
 | [],_::_=>true
 | _::_,[]=>false
 | a::r,b::t=>if a=b then ltI r t else decide (a<b)
theorem zEz:∀ a b c,ltI a b=true->ltI b c=true->ltI a c=true
 | [],[],_,h,_=>by cases h
 | [],_::_,[],_,h=>by cases h
 | [],_::_,_::_,_,_=>rfl
 | _::_,[],_,h,_=>by cases h
 | _::_,_::_,[],_,h=>by cases h
 | x::a,y::b,z::c,h,h'=>by
  simp only[ltI] at h h' ⊢;split at h<;>split at h'
  ·rename_i e1 e2;rw[if_pos (e1.trans e2)];exact zEz a b c h h'
  ·rename_i e1 e2;subst e1;rw[if_neg e2];exact h'
  ·rename_i e1 e2;subst e2;rw[if_neg e1];exact h
  ·simp only[decide_eq_true_eq] at h h'
   rw[if_neg (by omega)];simp;omega
noncomputable def tAt(h:Heap):Value->Option (List Int)
 | .ref a=>match h.get? a with
  | some o=>match o.data with
   | .seq its _=>some (its.toList.map numOf)
   | _=>none
  | none=>none
 | _=>none
structure TI (h:Heap) (v:Value) (ns:List Int):Prop where
 ex:∃ a o its n,v=.ref a/\h.get? a=some o/\o.cls=.type "tuple"/\o.data=.seq its n/\IntsAre its.toList ns
 ne:ns≠[]
theorem TI.items{h:Heap}{v:Value}{ns:List Int}(t:TI h v ns):tAt h v=some ns:=by
 obtain⟨a,o,its,n,rfl,e,_,d,i⟩:=t.ex;unfold tAt;simp only[e,d];rw[i.nums]
section
variable {prog:Program} {w:World} {A:Around} {E:Value->Shared->Prop} {s:Shared}
end
end HS
namespace L3
open L2 HS
section
variable {X:Cx} {e:Expr} {pos p:Pos} {tl:TL2}
end
end L3
namespace HT
section
variable {prog:Program} {w:World} {A:Around} {E:Value->Shared->Prop} {s:Shared}
end
end HT
namespace L3
open L2
section
variable {X:Cx} {a b c e o:Expr} {es:List Expr} {pos p:Pos} {ta tb te:zf}
end
section
variable {X:Cx} {a b c e o we:Expr} {es:List Expr} {pos p:Pos} {ta tb te tw:zf}
noncomputable def zMY(tc:TT2)(ta tb:zf):zf:=fun σ G R=>tc σ G fun z G1=>if z=true then ta σ G1 R else tb σ G1 R
theorem zNk{tc:TT2}(hc:T2 X c tc)(ha:E2 X a ta)(hb:E2 X b tb):E2 X (.IfExp c a b pos) (zMY tc ta tb):=by
 refine PE.mono (zJw hc ha hb) ?_;rintro σ1 H Q ⟨σ,G,R,r,q,k⟩;refine⟨σ,G,_,r,q,fun z G1 q1 H1 g1 r1=>?_⟩;cases z with
 | true=>exact⟨σ,G1,R,r.to g1 r1,q1,fun d G' q' v H' g' r' d'=>k d G' q' v H' (g1.trans g') r' d'⟩
 | false=>exact⟨σ,G1,R,r.to g1 r1,q1,fun d G' q' v H' g' r' d'=>k d G' q' v H' (g1.trans g') r' d'⟩
end
end L3
namespace HI
noncomputable def Ris(xs:Array Nat):Prop:=xs.toList.Pairwise (·<·)
theorem Ris.lt{xs:Array Nat}(h:Ris xs){i k:Nat}(ik:i<k)(hk:k<xs.size):xs[i]'(Nat.lt_trans ik hk)<xs[k]:=by
 have:=List.pairwise_iff_getElem.mp h i k (by simpa using Nat.lt_trans ik hk) (by simpa using hk) ik;simpa using this
theorem zKd{xs:Array Nat}{j:Nat}(hr:Ris xs):∀(fuel lo hi:Nat),hi<=xs.size->lo<=hi->hi-lo<=fuel->(∀ i,(q:i<xs.size)->i<lo->xs[i]<j)->(∀ i,(q:i<xs.size)->hi<=i->j<=xs[i]) ->
  (∀ i,(q:i<xs.size)->i<dg.go xs j fuel lo hi->xs[i]<j)/\∀ i,(q:i<xs.size)->dg.go xs j fuel lo hi<=i->j<=xs[i]
 | 0,lo,hi,h1,h2,h3,a,b=>by
  unfold dg.go;obtain rfl:lo=hi:=by omega
  exact⟨fun i q e=>a i q e,fun i q e=>b i q e⟩
 | fuel+1,lo,hi,h1,h2,h3,a,b=>by
  unfold dg.go;by_cases c:lo<hi
  ·rw[if_pos c]
   dsimp only;have hm:(lo+hi) / 2<xs.size:=by omega
   have eg:xs.getD ((lo+hi) / 2) j=xs[(lo+hi) / 2]:=by simp[Array.getD,hm]
   rw[eg];by_cases d:xs[(lo+hi) / 2]<j
   ·rw[if_pos d]
    refine zKd hr fuel ((lo+hi) / 2+1) hi h1 (by omega) (by omega) (fun i q e=>?_) b;rcases Nat.lt_or_ge i ((lo+hi) / 2) with z | z
    ·exact Nat.lt_trans (hr.lt z hm) d
    ·obtain rfl:i=(lo+hi) / 2:=by omega
     exact d
   ·rw[if_neg d]
    refine zKd hr fuel lo ((lo+hi) / 2) (by omega) (by omega) (by omega) a (fun i q e=>?_);rcases Nat.lt_or_ge ((lo+hi) / 2) i with z | z
    ·exact dC (Nat.not_lt.mp d) (Nat.le_of_lt (hr.lt z q))
    ·obtain rfl:i=(lo+hi) / 2:=by omega
     exact Nat.not_lt.mp d
  ·rw[if_neg c]
   obtain rfl:lo=hi:=by omega
   exact⟨fun i q e=>a i q e,fun i q e=>b i q e⟩
theorem zGO{xs:Array Nat}{j:Nat}(hr:Ris xs):(∀ i,(q:i<xs.size)->i<dg xs j->xs[i]<j)/\∀ i,(q:i<xs.size)->dg xs j<=i->j<=xs[i]:=by
 unfold dg;exact zKd hr xs.size 0 xs.size (cN _) (Nat.zero_le _) (by omega) (fun i q e=>absurd e (Nat.not_lt_zero _)) (fun i q e=>absurd q (Nat.not_lt.mpr e))
theorem zMZ{xs:Array Nat}{j:Nat}(hr:Ris xs)(hn:xs[dg xs j]?≠some j):Ris (ej xs (dg xs j) j):=by
 obtain⟨b1,b2⟩:=zGO (j:=j) hr;generalize dg xs j=p at *;unfold Ris;rw[SetTable.toList_insertAt];have hd:∀ a∈xs.toList.drop p,j<a:=fun a ha=>by
  obtain⟨i,hi,rfl⟩:=List.mem_iff_getElem.mp ha;rw[eu,dh] at hi;have hpi:p+i<xs.size:=by omega
  rw[List.getElem_drop,Array.getElem_toList];have h1:=b2 (p+i) hpi (by omega);rcases Nat.eq_or_lt_of_le h1 with e | e
  ·exfalso
   cases i with
   | zero =>
    apply hn;rw[getElem?_pos xs p (by omega)];congr 1;simpa using e.symm
   | succ i =>
    have hp:p<xs.size:=by omega
    have:=b2 p hp (cN _);have l:=hr.lt (i:=p) (k:=p+(i+1)) (by omega) hpi;omega
  ·exact e
 have ht:∀ a∈xs.toList.take p,a<j:=fun a ha=>by
  obtain⟨i,hi,rfl⟩:=List.mem_iff_getElem.mp ha;rw[ef,dh] at hi;rw[List.getElem_take,Array.getElem_toList];exact b1 i (by omega) (by omega)
 refine List.pairwise_append.mpr ⟨hr.sublist (List.take_sublist _ _),List.pairwise_cons.mpr ⟨hd,hr.sublist (List.drop_sublist _ _)⟩,fun a ha b hb=>?_⟩;rcases db.mp hb with e | e
 ·rw[e];exact ht a ha
 ·exact Nat.lt_trans (ht a ha) (hd b e)
section
variable {prog:Program} {w:World} {A:Around} {E:Value->Shared->Prop} {s:Shared}
end
section
variable {prog:Program} {w:World} {A:Around} {R:Result->Shared->Prop} {I:Addr} {fp wr:List Addr} {G:Array GenState->Array GenState->Prop} {n:Nat} {P:Nat->Value->Prop} {St:Nat->Shared->Prop}
end
noncomputable abbrev zE0(w:World):Bool:=!(w.params.followText "set-order")
section
variable {prog:Program} {w:World} {A:Around} {E:Value->Shared->Prop} {s:Shared}
end
end HI
namespace L2
open HI
variable {X:Cx} {e:Expr} {t:TA} {p p2 pos pos2:Pos}
end L2
namespace L3
open L2
section
variable {X:Cx} {e:Expr} {p p2 pos pos2:Pos}
end
end L3
namespace HT3
open PySem
noncomputable abbrev Probe:=SetTable.Probe
noncomputable def adv(mask:Nat)(p:Probe):Probe :=
 if p.more>0 then { p with j:=p.j+1,more:=p.more-1 } else
 { p with j:=(ev mask p.i p.perturb).1,more:=eI mask (ev mask p.i p.perturb).1-(ev mask p.i p.perturb).1,i:=(ev mask p.i p.perturb).1,perturb:=(ev mask p.i p.perturb).2 }
noncomputable def pth(mask:Nat)(h:Int):Nat->Probe
 | 0=>{ j:=eA h%(mask+1),more:=eI mask (eA h%(mask+1))-eA h%(mask+1),i:=eA h%(mask+1),perturb:=eA h,dummy:=none }
 | n+1=>adv mask (pth mask h n)
noncomputable def lp(mask:Nat)(h:Int):Nat->Nat×Nat
 | 0=>(eA h%(mask+1),eA h)
 | n+1=>ev mask (lp mask h n).1 (lp mask h n).2
theorem zOo(mask i:Nat):eI mask i-i<=9:=by
 unfold eI;split<;>omega
section
variable {mask:Nat} {h:Int}
theorem zII{n i r q:Nat}(e:pth mask h n=⟨i,r,i,q,none⟩):∀ m,m<=r->pth mask h (n+m)=⟨i+m,r-m,i,q,none⟩
 | 0,_=>by simpa using e
 | m+1,hm=>by
  have:=zII e m (by omega);show adv mask (pth mask h (n+m))=_;rw[this];unfold adv;rw[if_pos (show r-m>0 by omega)];simp only[SetTable.Probe.mk.injEq,and_true];omega
theorem zKe:∀ k,∃ n,n<=10*k/\pth mask h n=⟨(lp mask h k).1,eI mask (lp mask h k).1-(lp mask h k).1,(lp mask h k).1,(lp mask h k).2,none⟩
 | 0=>⟨0,cN _,rfl⟩
 | k+1=>by
  obtain⟨n,hn,e⟩:=zKe k;have hr:=zOo mask (lp mask h k).1;have:=zII e _ (cN _);refine⟨n+(eI mask (lp mask h k).1-(lp mask h k).1)+1,by omega,?_⟩;show adv mask (pth mask h _)=_;rw[this];unfold adv;rw[if_neg (by simp)];rfl
theorem zKf:∀ k,(lp mask h k).2=eA h / 32 ^ k
 | 0=>by simp[lp]
 | k+1=>by
  show(ev mask (lp mask h k).1 (lp mask h k).2).2=_;unfold ev;simp only;rw[zKf k,Nat.div_div_eq_div_mul,eM]
theorem zMa:eA h<2 ^ 64:=by
 unfold eA;have h1:=eQ h (show(0:Int)<2 ^ 64 by decide);have h2:=eO h (show(2 ^ 64:Int)≠0 by decide);omega
theorem zQi{k:Nat}(hk:13<=k):(lp mask h k).2=0:=by
 rw[zKf];apply Nat.div_eq_of_lt;have h1:=zMa (h:=h);have h2:32 ^ 13<=32 ^ k:=Nat.pow_le_pow_right (by omega) hk;have h3:(2:Nat) ^ 64<=32 ^ 13:=by decide
 omega
noncomputable def fM(M x:Nat):Nat:=(x*5+1)%M
noncomputable def itr(M:Nat):Nat->Nat->Nat
 | 0,x=>x
 | m+1,x=>fM M (itr M m x)
theorem zCo(M:Nat)(a:Nat):∀ b x,itr M (a+b) x=itr M a (itr M b x):=by
 induction a with
 | zero=>intro b x;simp[itr]
 | succ a ih=>intro b x;rw[Nat.add_right_comm];show fM M _=fM M _;rw[ih]
theorem zFZ:∀ m,(lp mask h (13+m)).1=itr (mask+1) m (lp mask h 13).1
 | 0=>rfl
 | m+1=>by
  show(ev mask (lp mask h (13+m)).1 (lp mask h (13+m)).2).1=fM _ _;unfold ev fM;simp only;rw[zQi (by omega),zFZ m]
theorem zNl(k:Nat):(lp mask h k).1<mask+1:=by
 cases k with
 | zero=>exact Nat.mod_lt _ (by omega)
 | succ k=>exact Nat.mod_lt _ (by omega)
end
noncomputable def Cyc(M:Nat):Prop:=∀ i,i<M->∀ j,j<M->∃ m,m<M/\itr M m i=j
noncomputable def sm:Nat->Nat
 | 0=>0
 | m+1=>sm m*5+1
theorem zD6{M:Nat}(hM:0<M):∀ m,itr M m 0=sm m%M
 | 0=>by simp[itr,sm]
 | m+1=>by
  show(itr M m 0*5+1)%M=(sm m*5+1)%M;rw[zD6 hM m,Nat.add_mod,Nat.mod_mul_mod,<-Nat.add_mod]
theorem zKg:∀ m,4*sm m+1=5 ^ m
 | 0=>rfl
 | m+1=>by
  have:=zKg m;show 4*(sm m*5+1)+1=5 ^ (m+1);rw[eM];omega
theorem zHP(a:Nat):∀ b,sm (a+b)=5 ^ b*sm a+sm b
 | 0=>by simp[sm]
 | b+1=>by
  show sm (a+b)*5+1=5 ^ (b+1)*sm a+(sm b*5+1);rw[zHP a b,eM,Nat.add_mul,Nat.mul_right_comm];omega
theorem zKh:∀ m,sm m%2=m%2
 | 0=>rfl
 | m+1=>by
  have:=zKh m;show(sm m*5+1)%2=(m+1)%2;omega
theorem zKi(e:Nat):sm (e+e)=2*((2*sm e+1)*sm e):=by
 rw[zHP,<-zKg e,<-Nat.mul_assoc,Nat.mul_add,Nat.mul_one,<-Nat.mul_assoc,Nat.add_mul,Nat.add_mul];simp only[Nat.mul_assoc];omega
theorem zKj:∀ k d,2 ^ k ∣ sm d->2 ^ k ∣ d
 | 0,d,_=>by simp
 | k+1,d,h=>by
  have h2:2 ∣ sm d:=Nat.dvd_trans ⟨2 ^ k,by rw[eM,Nat.mul_comm]⟩ h;have hp:=zKh d;obtain⟨e,rfl⟩:∃ e,d=e+e:=⟨d / 2,by omega⟩
  rw[zKi,eM,Nat.mul_comm (2 ^ k)] at h;have h:=Nat.dvd_of_mul_dvd_mul_left (by omega) h;have hc:Nat.Coprime (2 ^ k) (2*sm e+1):=Nat.Coprime.pow_left k (by
   show Nat.gcd 2 (2*sm e+1)=1;rw[Nat.gcd_rec,show(2*sm e+1)%2=1 by omega];rfl)
  obtain⟨c,hc⟩:=zKj k e (hc.dvd_of_dvd_mul_left h);exact⟨c,by rw[eM,Nat.mul_right_comm,<-hc];omega⟩
theorem zKk:∀ k,2 ^ k ∣ sm (2 ^ k)
 | 0=>by simp
 | k+1=>by
  rw[show(2:Nat) ^ (k+1)=2 ^ k+2 ^ k by rw[eM];omega,zKi];obtain⟨c,hc⟩:=zKk k;generalize sm (2 ^ k)=x at hc;rw[hc];exact⟨(2*(2 ^ k*c)+1)*c,by rw[Nat.mul_left_comm _ (2 ^ k) c,<-Nat.two_mul,Nat.mul_assoc 2 (2 ^ k)]⟩
theorem zKl{k a b:Nat}(hab:a<=b)(hb:b-a<2 ^ k)(e:sm a%2 ^ k=sm b%2 ^ k):a=b:=by
 have e2:sm b=5 ^ a*sm (b-a)+sm a:=by
  have:=zHP (b-a) a;rw[show b-a+a=b by omega] at this;exact this
 have hd:2 ^ k ∣ 5 ^ a*sm (b-a):=by
  have:2 ^ k ∣ sm b-sm a:=Nat.dvd_of_mod_eq_zero (Nat.sub_mod_eq_zero_of_mod_eq e.symm);rw[e2,Nat.add_sub_cancel] at this;exact this
 have hc:Nat.Coprime (2 ^ k) (5 ^ a):=Nat.Coprime.pow k a (by decide);have h3:=zKj k (b-a) (hc.dvd_of_dvd_mul_left hd);rcases Nat.eq_zero_or_pos (b-a) with z | z
 ·omega
 ·have:=Nat.le_of_dvd z h3
  omega
theorem zIJ(k:Nat):Cyc (2 ^ k):=by
 have hM:0<2 ^ k:=Nat.pow_pos (by omega);have inj:∀ a b,a<=b->b<2 ^ k->sm a%2 ^ k=sm b%2 ^ k->a=b:=fun a b hab hb e=>zKl hab (by omega) e;have at0:∀ j,j<2 ^ k->∃ m,m<2 ^ k/\itr (2 ^ k) m 0=j:=fun j hj=>by
  have nd:((cH (2 ^ k)).map fun m=>sm m%2 ^ k).Nodup:=by
   refine eR.mpr (List.Pairwise.imp_of_mem (fun {a b} ha hb (ne:a≠b) e=>ne ?_) eK);have ha:=cV.mp ha;have hb:=cV.mp hb;rcases Nat.le_total a b with z | z
   ·exact inj a b z hb e
   ·exact(inj b a z ha e.symm).symm
  by_cases q:j∈(cH (2 ^ k)).map fun m=>sm m%2 ^ k
  ·obtain⟨m,hm,e⟩:=cQ.mp q
   exact⟨m,cV.mp hm,by rw[zD6 hM];exact e⟩
  ·exfalso
   have sub:((cH (2 ^ k)).map fun m=>sm m%2 ^ k) ⊆ (cH (2 ^ k)).filter (fun x=>decide (x≠j)):=fun x hx=>by
    obtain⟨m,_,rfl⟩:=cQ.mp hx;exact List.mem_filter.mpr ⟨cV.mpr (Nat.mod_lt _ hM),decide_eq_true fun z=>q (by rw[<-z];exact hx)⟩
   have h1:=nd.length_le_of_subset sub;have h2:((cH (2 ^ k)).filter (fun x=>decide (x≠j))).length<(cH (2 ^ k)).length:=List.length_filter_lt_length_iff_exists.mpr ⟨j,cV.mpr hj,by simp⟩;rw[cI] at h1;omega
 have hz:itr (2 ^ k) (2 ^ k) 0=0:=by
  rw[zD6 hM];exact Nat.mod_eq_zero_of_dvd (zKk k)
 intro i hi j hj;obtain⟨a,ha,rfl⟩:=at0 i hi;obtain⟨b,hb,rfl⟩:=at0 j hj;generalize 2 ^ k=M at *;rcases Nat.lt_or_ge b a with hab | hab
 ·refine⟨M+b-a,by omega,?_⟩
  rw[<-zCo,show M+b-a+a=b+M by omega,zCo,hz]
 ·refine⟨b-a,by omega,?_⟩
  rw[<-zCo,show b-a+a=b by omega]
theorem zIK{k i m m':Nat}(hi:i<2 ^ k)(h:m<=m')(hd:m'-m<2 ^ k)(e:itr (2 ^ k) m i=itr (2 ^ k) m' i):m=m':=by
 have hM:0<2 ^ k:=Nat.pow_pos (by omega);obtain⟨a,_,rfl⟩:=zIJ k 0 hM i hi;rw[<-zCo,<-zCo,zD6 hM,zD6 hM] at e;have:=zKl (a:=m+a) (b:=m'+a) (by omega) (by omega) e;omega
noncomputable def Msk(mask:Nat):Prop:=∃ k,3<=k/\mask+1=2 ^ k
theorem Msk.cyc{mask:Nat}(h:Msk mask):Cyc (mask+1):=by
 obtain⟨k,_,e⟩:=h;rw[e];exact zIJ k
open HI (Ris)
noncomputable def Ent(t:SetTable)(es:Array (Int×Value))(j:Nat)(h:Int)(x:Value):Prop:=∃ i:Nat,t.place[i]?=some j/\es[i]?=some (h,x)
noncomputable def zHQ(t:SetTable)(j:Nat):Prop:=t.slot j≠.empty
theorem zGP{xs:Array Nat}(hr:Ris xs){i j:Nat}(e:xs[i]?=some j):dg xs j=i:=by
 obtain⟨b1,b2⟩:=HI.zGO (j:=j) hr;obtain⟨hi,e⟩:=Array.getElem?_eq_some_iff.mp e;rcases Nat.lt_trichotomy (dg xs j) i with z | z | z
 ·have h1:=b2 (dg xs j) (by omega) (cN _)
  have h2:=hr.lt z hi;omega
 ·exact z
 ·have:=b1 i hi z
  omega
theorem zJE{t:SetTable}(hr:Ris t.place){i j:Nat}(e:t.place[i]?=some j):t.slot j=.live i:=by
 unfold SetTable.slot;simp only;rw[zGP hr e,e];simp
theorem zIL{xs:Array Nat}(hr:Ris xs){j:Nat}:SetTable.has xs j=true↔j∈xs:=by
 unfold SetTable.has;constructor
 ·intro q
  have q:xs[dg xs j]?=some j:=by simpa using q
  exact eU q
 ·intro q
  obtain⟨i,hi,e⟩:=Array.getElem_of_mem q;have e':xs[i]?=some j:=by simp[hi,e]
  rw[zGP hr e',e'];simp
theorem zCp{t:SetTable}(hr:Ris t.place)(hd:Ris t.dummies){j:Nat}:zHQ t j↔j∈t.place\/j∈t.dummies:=by
 unfold zHQ;constructor
 ·intro q
  unfold SetTable.slot at q;simp only at q;split at q
  ·rename_i z
   exact .inl (eU (by simpa using z))
  ·split at q
   ·rename_i z
    exact .inr ((zIL hd).mp z)
   ·exact(q rfl).elim
 ·rintro(q | q) z
  ·obtain⟨i,hi,e⟩:=Array.getElem_of_mem q
   rw[zJE hr (i:=i) (by simp[hi,e])] at z;cases z
  ·unfold SetTable.slot at z
   simp only at z;split at z
   ·cases z
   ·rw[if_pos ((zIL hd).mpr q)] at z
    cases z
structure Tab (t:SetTable) (es:Array (Int×Value)):Prop where
 msk:Msk t.mask
 size:t.place.size=es.size
 ris:Ris t.place
 risD:Ris t.dummies
 le:∀ j∈t.place,j<=t.mask
 leD:∀ j∈t.dummies,j<=t.mask
 room:t.fill<=t.mask
 way:∀ j h x,Ent t es j h x->∃ n,(pth t.mask h n).j=j/\∀ m,m<n->zHQ t (pth t.mask h m).j
 dis:∀ j∈t.dummies,j∉t.place
theorem zGQ{P:Nat->Prop}[DecidablePred P]{M:Nat}{l:List Nat}(h:∀ j,j<M->P j->j∈l)(hl:l.length<M):∃ j,j<M/\¬ P j:=by
 by_cases q:∃ j,j<M/\¬ P j
 ·exact q
 ·have hs:cH M ⊆ l:=fun j hj=>by
   have hj:=cV.mp hj;by_cases z:P j
   ·exact h j hj z
   ·exact(q ⟨j,hj,z⟩).elim
  have:=List.Nodup.length_le_of_subset eK hs;simp at this;omega
theorem Tab.free{t:SetTable}{es:Array (Int×Value)}(T:Tab t es):∃ j,j<=t.mask/\t.slot j=.empty:=by
 have:=zGQ (P:=fun j=>t.slot j≠.empty) (M:=t.mask+1) (l:=t.place.toList++t.dummies.toList) (fun j _ q=>by
  rcases(zCp T.ris T.risD).mp q with z | z
  ·exact dN _ (by simpa using z)
  ·exact cY _ (by simpa using z)) (by
  have:=T.room;unfold SetTable.fill at this;simp;omega)
 obtain⟨j,h1,h2⟩:=this;exact⟨j,by omega,Decidable.not_not.mp h2⟩
theorem zKm{p:Nat->Prop}:∀ n,p n->∃ m,m<=n/\p m/\∀ k,k<m->¬ p k:=by
 intro n
 induction n using Nat.strongRecOn with
 | ind n ih =>
  intro hn;by_cases q:∃ m,m<n/\p m
  ·obtain⟨m,hm,hp⟩:=q
   obtain⟨k,h1,h2⟩:=ih m hm hp;exact⟨k,by omega,h2⟩
  ·exact⟨n,cN _,hn,fun k hk z=>q ⟨k,hk,z⟩⟩
theorem Tab.stop{t:SetTable}{es:Array (Int×Value)}(T:Tab t es)(h:Int):∃ N,N<=10*(13+t.fill)/\t.slot (pth t.mask h N).j=.empty/\∀ m,m<N->zHQ t (pth t.mask h m).j:=by
 obtain⟨j,hj,he⟩:=T.free;obtain⟨kk,k3,ek⟩:=id T.msk;obtain⟨m0,h1,h2⟩:=T.msk.cyc (lp t.mask h 13).1 (zNl 13) j (by omega);obtain⟨m,hm0,hm,hmin⟩:=zKm (p:=fun m=>t.slot (lp t.mask h (13+m)).1=.empty) m0 (by
  show t.slot (lp t.mask h (13+m0)).1=.empty;rw[zFZ,h2];exact he)
 have hfill:m<=t.fill:=by
  have nd:((cH m).map fun x=>(lp t.mask h (13+x)).1).Nodup:=by
   refine eR.mpr (List.Pairwise.imp_of_mem (fun {a b} ha hb (ne:a≠b) e=>ne ?_) eK);have ha:=cV.mp ha;have hb:=cV.mp hb;rw[zFZ,zFZ] at e;have hl:=zNl (mask:=t.mask) (h:=h) 13;rw[ek] at e hl;rcases Nat.le_total a b with z | z
   ·exact zIK hl z (by omega) e
   ·exact(zIK hl z (by omega) e.symm).symm
  have sub:((cH m).map fun x=>(lp t.mask h (13+x)).1) ⊆ t.place.toList++t.dummies.toList:=fun x hx=>by
   obtain⟨y,hy,rfl⟩:=cQ.mp hx;rcases(zCp T.ris T.risD).mp (hmin y (cV.mp hy)) with z | z
   ·exact dN _ (by simpa using z)
   ·exact cY _ (by simpa using z)
  have:=nd.length_le_of_subset sub;unfold SetTable.fill;simpa using this
 obtain⟨n,h3,h4⟩:=zKe (mask:=t.mask) (h:=h) (13+m);have hn:n<=10*(13+t.fill):=by omega
 have e:t.slot (pth t.mask h n).j=.empty:=by rw[h4];exact hm
 have:∀ n,t.slot (pth t.mask h n).j=.empty->∃ N,N<=n/\t.slot (pth t.mask h N).j=.empty/\∀ m,m<N->zHQ t (pth t.mask h m).j:=by
  intro n
  induction n using Nat.strongRecOn with
  | ind n ih =>
   intro q;by_cases z:∃ m,m<n/\t.slot (pth t.mask h m).j=.empty
   ·obtain⟨m,hm,q'⟩:=z
    obtain⟨N,h1,h2⟩:=ih m hm q';exact⟨N,by omega,h2⟩
   ·exact⟨n,cN _,q,fun m hm q'=>z ⟨m,hm,q'⟩⟩
 obtain⟨N,h1,h2,h3⟩:=this n e;exact⟨N,by omega,h2,h3⟩
open HI (Ris)
end HT3
namespace HT3
open PySem PySem.Spec
open HI (Ris)
section
variable {prog:Program} {w:World} {P:Addr->Prop} {A:Around} {E:Value->Shared->Prop} {s:Shared}
noncomputable abbrev TK(prog:Program)(w:World)(P:Addr->Prop)(h:Heap)(ns:List Int)(b:Addr):Prop:=IsTupleKey (intKind prog w) h ns b/\P b
noncomputable abbrev hT(prog:Program)(w:World)(ns:List Int):Int:=tupleKeyHash (intKind prog w) ns
noncomputable def OkT(prog:Program)(w:World)(P:Addr->Prop)(h:Heap)(es:Array (Int×Value)):Prop:=∀(i:Nat) (e:Int×Value),es[i]?=some e->∃ c ms,e=(hT prog w ms,.ref c)/\TK prog w P h ms c
noncomputable def sf(es:Array (Int×Value))(i:Nat):Int:=(es[i]?.map (·.1)).getD 0
end
open HI (Ris)
theorem zIM{t:SetTable}{es:Array (Int×Value)}{j:Nat}{h:Int}{x:Value}:Ent t es j h x↔(j,(h,x))∈t.place.toList.zip es.toList:=by
 unfold Ent;rw[List.mem_iff_getElem?];constructor
 ·rintro⟨i,e1,e2⟩
  exact⟨i,by rw[List.getElem?_zip_eq_some];simpa using⟨e1,e2⟩⟩
 ·rintro⟨i,e⟩
  rw[List.getElem?_zip_eq_some] at e;exact⟨i,by simpa using e.1,by simpa using e.2⟩
theorem yJ{α:Type}(xs:Array α)(p:Nat):(dj xs p).toList=xs.toList.take p++xs.toList.drop (p+1):=by
 simp[dj,List.extract_eq_take_drop,dJ]
theorem zKn{α:Type}(l:List α)(p:Nat):(l.take p++l.drop (p+1)).Sublist l:=by
 conv=>rhs;rw[<-dM p l]
 exact(List.Sublist.refl _).append (by rw[<-List.drop_drop];exact List.drop_sublist 1 _)
theorem zOp{α:Type}{l:List α}{p:Nat}{x y:α}(hp:l[p]?=some x)(hy:y∈l)(hne:y≠x):y∈l.take p++l.drop (p+1):=by
 rw[<-dM p l] at hy;rcases dQ.mp hy with h | h
 ·exact dN _ h
 ·obtain⟨hlt,e⟩:=cJ.mp hp
  rw[List.drop_eq_getElem_cons hlt,e] at h;rcases db.mp h with h | h
  ·exact(hne h).elim
  ·exact cY _ h
theorem zMb{α:Type}{l:List α}{p:Nat}{x:α}(hp:l[p]?=some x):l.Perm (x::(l.take p++l.drop (p+1))):=by
 obtain⟨hlt,e⟩:=cJ.mp hp
 conv=>lhs;rw[<-dM p l,List.drop_eq_getElem_cons hlt,e]
 exact List.perm_middle
theorem zOq{xs:Array Nat}(hr:Ris xs){p j:Nat}(hp:xs.toList[p]?=some j):j∉xs.toList.take p++xs.toList.drop (p+1):=by
 have nd:xs.toList.Nodup:=List.Pairwise.imp (fun h=>dB h) hr;exact(e8.mp ((zMb hp).nodup_iff.mp nd)).1
theorem zJF{xs:Array Nat}(hr:Ris xs)(p:Nat):Ris (dj xs p):=by
 unfold Ris;rw[yJ];exact List.Pairwise.sublist (zKn _ _) hr
section
variable {t:SetTable} {es:Array (Int×Value)} {j:Nat} {h:Int} {x:Value}
end
section
variable {t:SetTable} {es:Array (Int×Value)} {i j:Nat}
theorem zOr{α β:Type}{l:List α}{l':List β}(hl:l.length=l'.length)(p:Nat){z:α×β}(h:z∈(l.take p++l.drop (p+1)).zip (l'.take p++l'.drop (p+1))):z∈l.zip l':=by
 rw[List.zip_append (by simp[hl])] at h;have e:l.zip l'=(l.take p).zip (l'.take p)++(l.drop p).zip (l'.drop p):=by
  rw[<-List.zip_append (by simp[hl]),dM,dM]
 rw[e];rcases dQ.mp h with q | q
 ·exact dN _ q
 ·refine cY _ ?_
  rw[<-List.drop_drop,<-List.drop_drop] at q;generalize l.drop p=a at q ⊢;generalize l'.drop p=b at q ⊢;cases a with
  | nil=>simp at q
  | cons a0 a1 =>
   cases b with
   | nil=>simp at q
   | cons b0 b1 =>
    have q:z∈a1.zip b1:=by simpa using q
    show z∈(a0,b0)::a1.zip b1;exact cU _ q
theorem Tab.drop(T:Tab t es)(hi:t.place[i]?=some j):Tab (t.drop i) (dj es i)/\(t.drop i).fill=t.fill:=by
 have ed:t.drop i={ t with place:=dj t.place i,dummies:=ej t.dummies (dg t.dummies j) j }:=by
  unfold SetTable.drop;rw[hi]
 have hp:t.place.toList[i]?=some j:=by simpa using hi
 have jp:j∈t.place:=eU hi;have jd:j∉t.dummies:=fun q=>T.dis j q jp;have hlt:i<t.place.size:=(Array.getElem?_eq_some_iff.mp hi).1;have rP:Ris (dj t.place i):=zJF T.ris i;have rD:Ris (ej t.dummies (dg t.dummies j) j):=HI.zMZ T.risD fun q=>jd (eU q);have pz:(dj t.place i).size=t.place.size-1:=by
  rw[<-dh,yJ,cZ,ef,eu];simp only[dh];omega
 have ez:(dj es i).size=es.size-1:=by
  have:=T.size;rw[<-dh,yJ,cZ,ef,eu];simp only[dh];omega
 have dz:(ej t.dummies (dg t.dummies j) j).size=t.dummies.size+1:=by
  have:=(SetTable.insertAt_perm t.dummies (dg t.dummies j) j).length_eq;simpa using this
 have dm:∀ y,y∈ej t.dummies (dg t.dummies j) j↔y∈t.dummies\/y=j:=fun y=>by
  rw[<-eJ,(SetTable.insertAt_perm _ _ _).mem_iff];simp
 rw[ed];have fl:∀ y,zHQ t y->zHQ { t with place:=dj t.place i,dummies:=ej t.dummies (dg t.dummies j) j } y:=fun y q=>by
  rw[zCp rP rD];rcases(zCp T.ris T.risD).mp q with z | z
  ·by_cases e:y=j
   ·exact .inr ((dm y).mpr (.inr e))
   ·left
    show y∈dj t.place i;rw[<-eJ,yJ];exact zOp hp (by simpa using z) e
  ·exact .inr ((dm y).mpr (.inl z))
 have sb:∀ y,y∈dj t.place i->y∈t.place:=fun y hy=>by
  rw[<-eJ,yJ] at hy;simpa using(zKn _ _).subset hy
 have fz:SetTable.fill { t with place:=dj t.place i,dummies:=ej t.dummies (dg t.dummies j) j }=t.fill:=by
  show(dj t.place i).size+(ej t.dummies (dg t.dummies j) j).size=t.place.size+t.dummies.size;omega
 refine⟨⟨T.msk,?_,rP,rD,fun y hy=>T.le y (sb y hy),fun y hy=>?_,?_,fun j' h' x' he=>?_,fun y hy hy'=>?_⟩,fz⟩
 ·show(dj t.place i).size=_
  rw[pz,ez,T.size]
 ·rcases(dm y).mp hy with q | q
  ·exact T.leD y q
  ·rw[q];exact T.le j jp
 ·rw[fz];exact T.room
 ·rw[zIM] at he
  have he:(j',(h',x'))∈(dj t.place i).toList.zip (dj es i).toList:=he;rw[yJ,yJ] at he;obtain⟨n',w1,w2⟩:=T.way j' h' x' (zIM.mpr (zOr (by simpa using T.size) i he));exact⟨n',w1,fun m hm=>fl _ (w2 m hm)⟩
 ·rcases(dm y).mp hy with q | q
  ·exact T.dis y q (sb y hy')
  ·subst q
   have hy':y∈dj t.place i:=hy';rw[<-eJ,yJ] at hy';exact zOq T.ris hp hy'
end
open HI (Ris)
noncomputable def hd(mask:Nat)(h:Int):Nat->Nat
 | 0=>0
 | k+1=>hd mask h k+(eI mask (lp mask h k).1-(lp mask h k).1)+1
section
variable {mask:Nat} {h:Int}
end
open HI (Ris)
noncomputable def zP1:Value->Int
 | .int k _=>k
 | _=>0
noncomputable def kyT(h:Heap)(e:Int×Value):List Int:=match e.2 with
 | .ref c=>(match h.get? c with | some o=>(match o.data with | .seq its _=>its.toList.map zP1 | _=>[]) | none=>[])
 | _=>[]
section
variable {prog:Program} {w:World} {P:Addr->Prop} {A:Around} {E:Value->Shared->Prop} {s:Shared}
theorem zJG{ns:List Int}{vs:List Value}(h:ItemsAre (intKind prog w) ns vs):vs.map zP1=ns:=by
 induction h with
 | nil=>rfl
 | cons h1 _ ih =>
  obtain⟨t,rfl⟩:=Value.isInt_shape h1;rw[dt,ih];rfl
theorem zNm{h:Heap}{ns:List Int}{c:Addr}(x:TK prog w P h ns c)(n:Int):kyT h (n,.ref c)=ns:=by
 obtain⟨⟨o,its,m,ho,hc,hd,hi⟩,_⟩:=x;unfold kyT;simp only[ho,hd];exact zJG hi
theorem OkT.mem{h:Heap}{es:Array (Int×Value)}(x:OkT prog w P h es):∀ e∈es.toList,∃ c,e=(hT prog w (kyT h e),.ref c)/\TK prog w P h (kyT h e) c:=fun e he=>by
 obtain⟨i,hi,rfl⟩:=List.getElem_of_mem he;obtain⟨c,ms,e1,e2⟩:=x i es.toList[i] (by simpa using hi);have:kyT h es.toList[i]=ms:=by rw[e1];exact zNm e2 _
 rw[this];exact⟨c,e1,e2⟩
theorem OkT.of{h:Heap}{es:Array (Int×Value)}(x:∀ e∈es.toList,∃ c ms,e=(hT prog w ms,.ref c)/\TK prog w P h ms c):OkT prog w P h es:=fun i e he=>x e (by
 have:=dE (l:=es.toList) (i:=i) (a:=e) (by simpa using he);exact this)
theorem TK.keep{h h':Heap}{ns:List Int}{c:Addr}(x:TK prog w P h ns c)(k:∀ o,h.get? c=some o->h'.get? c=some o):TK prog w P h' ns c:=let ⟨⟨o,i,n,e,r⟩,q⟩:=x;⟨⟨o,i,n,k o e,r⟩,q⟩
theorem OkT.keep{h h':Heap}{es:Array (Int×Value)}(x:OkT prog w P h es)(k:∀ c o its n,h.get? c=some o->o.data=.seq its n->h'.get? c=some o):OkT prog w P h' es/\es.toList.map (kyT h')=es.toList.map (kyT h):=by
 have tk:∀ {ns c},TK prog w P h ns c->TK prog w P h' ns c:=fun {ns c} q=>let ⟨⟨o,i,n,e,c1,d,r⟩,q⟩:=q;⟨⟨o,i,n,k _ o i n e d,c1,d,r⟩,q⟩;refine⟨fun i e he=>?_,dq fun e he=>?_⟩
 ·obtain⟨c,ms,e1,e2⟩:=x i e he
  exact⟨c,ms,e1,tk e2⟩
 ·obtain⟨c,e1,e2⟩:=x.mem e he
  have h1:=zNm (tk e2) (hT prog w (kyT h e));rw[<-e1] at h1;exact h1
noncomputable def ST(prog:Program)(w:World)(P:Addr->Prop)(h:Heap)(a:Addr)(kys:List (List Int)):Prop:=∃ o es ep t,h.get? a=some o/\o.ExactSet/\o.data=.set es ep t/\Tab t es/\OkT prog w P h es/\t.plain=true/\t.led=HI.zE0 w/\t.fill*5<t.mask*3/\kys.Perm (es.toList.map (kyT h))/\kys.Nodup/\t.dummies.size=0
theorem ST.keep{h h':Heap}{a:Addr}{kys:List (List Int)}(x:ST prog w P h a kys)(k:∀ b o,h.get? b=some o->h'.get? b=some o):ST prog w P h' a kys:=by
 obtain⟨o,es,ep,t,h1,h2,h3,h4,h5,h6,h7,h8,h9,h10⟩:=x;obtain⟨k1,k2⟩:=h5.keep fun c o _ _ e _=>k c o e;exact⟨o,es,ep,t,k _ _ h1,h2,h3,h4,k1,h6,h7,h8,by rw[k2];exact h9,h10⟩
end
end HT3
namespace HT2
open PySem PySem.Spec HT3
open HI (Ris)
section
variable {prog:Program} {w:World} {P:Addr->Prop} {A:Around} {E:Value->Shared->Prop} {s:Shared}
noncomputable def ST(prog:Program)(w:World)(P:Addr->Prop)(h:Heap)(a:Addr)(kys:List (List Int)):Prop:=∃ o es ep t,h.get? a=some o/\o.ExactSet/\o.data=.set es ep t/\Tab t es/\OkT prog w P h es/\t.plain=true/\t.led=HI.zE0 w/\t.fill*5<t.mask*3/\kys.Perm (es.toList.map (kyT h))/\kys.Nodup/\t.mask<=255
theorem ST.keep{h h':Heap}{a:Addr}{kys:List (List Int)}(x:ST prog w P h a kys)(k:∀ b o,h.get? b=some o->h'.get? b=some o):ST prog w P h' a kys:=by
 obtain⟨o,es,ep,t,h1,h2,h3,h4,h5,h6,h7,h8,h9,h10⟩:=x;obtain⟨k1,k2⟩:=h5.keep fun c o _ _ e _=>k c o e;exact⟨o,es,ep,t,k _ _ h1,h2,h3,h4,k1,h6,h7,h8,by rw[k2];exact h9,h10⟩
end
end HT2
namespace HT3
open PySem PySem.Spec
open HI (Ris)
section
variable {prog:Program} {w:World} {P:Addr->Prop} {A:Around} {E:Value->Shared->Prop} {s:Shared}
end
end HT3
namespace HT2
open PySem PySem.Spec HT3
open HI (Ris)
section
variable {prog:Program} {w:World} {P:Addr->Prop} {A:Around} {E:Value->Shared->Prop} {s:Shared}
end
end HT2
namespace HT2
open HT3
open HI (Ris zE0)
section
variable {prog:Program} {w:World} {P:Addr->Prop} {A:Around} {R:Result->Shared->Prop} {h0:Heap} {S I:Addr} {fp wr:List Addr} {n:Nat} {its:Array Value} {val:Nat->List Int} {St:Nat->Heap->Prop} {g:Array GenState} {d:Drawn} {os:OsState}
end
end HT2
namespace HT2
open PySem PySem.Spec HT3
open HI (Ris)
section
variable {prog:Program} {w:World} {P:Addr->Prop} {A:Around} {E:Value->Shared->Prop} {s:Shared}
end
open HI (Ris zE0)
section
variable {prog:Program} {w:World} {P:Addr->Prop} {A:Around} {E:Value->Shared->Prop} {s:Shared}
end
end HT2
namespace HT2
open HT3
open HI (Ris zE0)
section
variable {prog:Program} {w:World} {P:Addr->Prop} {A:Around} {E:Value->Shared->Prop} {s:Shared}
end
open HI (Ris zE0)
section
variable {prog:Program} {w:World} {P:Addr->Prop} {A:Around} {E:Value->Shared->Prop} {s:Shared}
end
open HI (Ris)
section
variable {prog:Program} {w:World} {P:Addr->Prop} {A:Around} {E:Value->Shared->Prop} {s:Shared}
end
open HS (TI tAt ltI)
section
variable {prog:Program} {w:World} {P:Addr->Prop} {A:Around} {E:Value->Shared->Prop} {s:Shared}
end
end HT2
namespace L2
end L2
namespace L3
open L2 HT2 HS
open HT3 hiding ST
section
variable {X:Cx} {pins:List (Addr×Obj)} {σ:L2.St} {H:Hp} {s:Shared}
end
end L3
namespace L3
open L2
section
variable {X:Cx} {elt iter:Expr} {pos:Pos} {te:zf} {ifs:List Expr} {sc:Scope} {N0:List Str} {wi:TI2} {tc:TT2}
theorem zMc(i:Nat)(x y:Str){z:Str}{px py pz spos pt:Pos}{kk:Nat}(hc:X.calm=true)(T:zGH X sc N0 [x,y])(hi:I2 X (.Tuple [.Name x px,.Name y py] kk pt) iter wi)
  (ht:∀ C s H fp pins,Ts2 (X.comp (N0++[x,y]) sc C s H fp pins) ifs tc) (he:∀ C s H fp pins,E2 (X.comp (N0++[x,y]) sc C s H fp pins) elt te)
  (hN:X.N.Nodup) (hy:autoParam (X.N[i]?=some z) Zq4._auto_1) (hl:autoParam (X.env.scope.names.lookup z=some .local) Zq4._auto_1)
  (hsw:autoParam (swapsWith (.ListComp elt [⟨.Tuple [.Name x px,.Name y py] kk pt,iter,ifs,0⟩] sc pos) (some (.Name z pz)) spos.line X.env=pure true) Zq4._auto_1)
  (hs:autoParam (∀ x,foldedSetIterable iter X.env x=pure x) Zq3._auto_1):P2 X (.Assign [.Name z pz] (.ListComp elt [⟨.Tuple [.Name x px,.Name y py] kk pt,iter,ifs,0⟩] sc pos) spos) (zBJ i (zo wi bd2 tc te)):=by
 have T':=T.ok;have hx:=T.loc x (by simp);have hy':=T.loc y (by simp);refine PS.at (zDt (own:=[x,y]) (g:=zLz X.K 2 (zDl (zBt X.N.length) (zDl (zBt (X.N.length+1)) zLy))) (tc:=lT X.K tc) (te:=lE X.K te) hc T' hi (fun C s H fp pins=>?_) ht he hN hy hl hsw hs) fun E σ1 H hl h=>?_
 ·have e1:(X.comp (N0++[x,y]) sc C s H fp pins).N[X.N.length]?=some x:=by
   show(N0++[x,y])[X.N.length]?=some x;rw[<-T'.len];simp
  have e2:(X.comp (N0++[x,y]) sc C s H fp pins).N[X.N.length+1]?=some y:=by
   show(N0++[x,y])[X.N.length+1]?=some y;rw[<-T'.len];simp
  exact zG3 (X:=X.comp (N0++[x,y]) sc C s H fp pins) (n:=2) hc (zBH (zAd T.nd e1 (.inl hx) (.inr hx)) (zBH (zAd T.nd e2 (.inl hy') (.inr hy')) zFK))
 ·obtain⟨σ,G,D2,r,q,k⟩:=h
  refine zCA (n:=2) (N:=X.N.length) zNb (fun d us e=>?_) hl ⟨σ,G,_,r,q,fun ds G' q' l xs H' g' r' n e d=>?_⟩
  ·unfold bd2 at e
   split at e<;>first | (cases e;rfl) | (cases e;done)
  ·exact k.nx _ _ (q' l n) _ H' g' ((r.to g' (r'.own e d)).set i (by unfold zO;rfl))
end
end L3
namespace HZ
section
variable {prog:Program} {w:World} {A:Around} {E:Value->Shared->Prop} {s:Shared} {e it l:Addr} {xs:Array Value} (Z:Zs prog w it l xs)
end
end HZ
namespace L2
open HZ
end L2
namespace L3
open L2
end L3
namespace HZ
end HZ
namespace L2
open HZ
end L2
namespace L3
open L2
end L3
namespace HI
section
variable {prog:Program} {w:World} {A:Around} {E:Value->Shared->Prop} {s:Shared}
end
end HI
namespace L2
open HI
variable {X:Cx} {e:Expr} {t:TA} {p p2 pos pos2:Pos}
end L2
namespace L3
open L2
section
variable {X:Cx} {e:Expr} {p p2 pos pos2:Pos}
end
end L3
namespace L2
section
variable {X:Cx} {pos:Pos}
theorem zKo:PE X (.Dict [] [] pos) (fun _ H Q=>∀ a o,H a=none->o.cls=.type "dict"->Q (.ref a) (wo H a (.frz o (.own a)))):=fun pins s σ H Q I h =>
 wpAny_Dict_empty ⟨.ref s.heap.objs.size,_,I.laid (a:=s.heap.objs.size) (o:=.frz _ (.own s.heap.objs.size)) (t':=s.toks) (fun _ _ q=>cL _ q) (cN _) ⟨de _ rfl,_,de _ rfl⟩,rfl,h _ _ (I.hok.fresh (cN _)) rfl⟩
end
end L2
namespace L3
open L2
section
variable {X:Cx} {e o:Expr} {te to:zf} {t:wE} {tl:TL2} {pos p apos cpos:Pos}
noncomputable def zKp:zf:=fun _ G R=>∀ a,R (.dic a) G
theorem zMd:E2 X (.Dict [] [] pos) zKp:=by
 refine PE.mono zKo ?_;rintro σ1 H Q ⟨σ,G,R,rl,q,k⟩;intro a o hn hc;exact k _ G (q a) _ _ (.fresh hn) (rl.g.fresh hn) (by unfold zO;exact⟨rfl,o,a,zm,hc⟩)
theorem zKq{st:Stmt}:P2 X st (fun _ _ _=>False):=by
 rintro pins s σ H E I ⟨σ',G,D2,r,q,k⟩;exact q.elim
end
section
variable {X:Cx} {a b e:Expr} {ta tb te:zf} {t:wE} {p pos:Pos}
theorem zKr{v:V}{u:Value}(h:RelV v u):(u==Value.none)=decide (v=V.non):=by
 cases v with
 | non=>cases h;rfl
 | bl b=>cases h;rfl
 | int i=>obtain⟨_,rfl⟩:=h;rfl
 | str i=>obtain⟨_,rfl⟩:=h;rfl
 | byt i=>obtain⟨_,rfl⟩:=h;rfl
 | flt i=>obtain⟨_,rfl⟩:=h;rfl
 | ref i=>cases h;rfl
 | ty i=>cases h;rfl
theorem zJ2:OpR X (compareOp .Is) (fun x y H Q=>y=.non/\Q (.bl (decide (x=.non))) H):=by
 intro pins s σ H x y v u Q I rx ry h;obtain⟨rfl,q⟩:=h;cases ry;refine is_none_gen ?_;rw[zKr rx];exact⟨.bl _,H,I,rfl,q⟩
noncomputable def zIN:D->Bool
 | .non=>true
 | _=>false
theorem zMe{K:PySem.W.Frag}{H:Hp}{d:D}{v:V}(h:zO K H d v):decide (v=V.non)=zIN d:=by
 cases d with
 | non=>unfold zO at h;subst h;rfl
 | tup xs=>unfold zO at h;obtain⟨a,us,rfl,_⟩:=h;rfl
 | dic a=>unfold zO at h;obtain⟨rfl,_⟩:=h;rfl
 | _=>unfold zO at h;subst h;rfl
noncomputable def zJH(ng:Bool):D->D->Gp->Q2->Prop:=fun x y G R=>match y with | .non=>R (.bl (if ng then !zIN x else zIN x)) G | _=>False
theorem zMf{K:PySem.W.Frag}{ng:Bool}:Fit K (fun x y H Q=>y=V.non/\Q (.bl (if ng then !decide (x=V.non) else decide (x=V.non))) H) (zJH ng):=by
 intro dx dy G R x y H Q h r d1 d2 k;unfold zJH at h;split at h
 ·unfold zO at d2
  refine⟨d2,k _ G h _ H (.refl H) r ?_⟩;rw[zMe d1];unfold zO;rfl
 ·exact h.elim
theorem zP2(ha:E2 X a ta)(hb:E2 X b tb):T2 X (.Compare a [.Is] [b] pos) (xB (zS (zJH false) ta tb)):=zCk zJ2 (zMf (ng:=false)) ha hb (zBu _)
end
end L3
namespace L3
open L2 HT2 HS
open HT3 hiding ST
end L3
namespace L3
open L2
section
variable {X:Cx} {e:Expr} {p pos:Pos}
theorem zJI{i:Int}(h:i.natAbs<1000000):i.natAbs.log2<1920:=by
 by_cases h0:i.natAbs=0
 ·rw[h0];decide
 ·exact(Nat.log2_lt h0).mpr (cO h (dC (by decide:1000000<=2 ^ 20) (Nat.pow_le_pow_right (by decide) (by decide))))
theorem zJJ:wD X (.type "str") (fun xs H Q=>∃ i:Int,xs=[.int i]/\i.natAbs<1000000/\Q (.str (toString i)) H):=by
 intro pins s σ H xs us Q I r h;obtain⟨i,rfl,hi,q⟩:=h;obtain⟨u,rfl,ru⟩:=vals1 r;obtain⟨t,rfl⟩:=ru;exact PySem.P.str_of_int (zJI hi) ⟨.str _,H,I.tok _,⟨_,rfl⟩,q⟩
noncomputable def yg:wU:=fun ds G R=>match ds with | [.int i]=>i.natAbs<1000000/\R (.str (toString i)) G | _=>False
theorem zKs{K:PySem.W.Frag}:zFU K (fun xs H Q=>∃ i:Int,xs=[.int i]/\i.natAbs<1000000/\Q (.str (toString i)) H) yg:=by
 intro ds G R vs H Q h r d k;unfold yg at h;split at h
 ·rename_i i
  obtain⟨v,rfl,d1⟩:=zAc d;unfold zO at d1;subst d1;exact⟨i,rfl,h.1,k _ G h.2 _ H (.refl H) r (by unfold zO;rfl)⟩
 ·exact h.elim
theorem zDF{t:wE}(hg:Gl X "str")(hm:X.mg "str"=none)(ha:A2 X [e] t)(he:autoParam (starEach [e] X.env=(false,eval e X.env)::starEach [] X.env) Zq4._auto_1)(hpl:autoParam ((backTo pos (starEach [] X.env)).any (·.1)=false) Zq4._auto_1) :
  E2 X (.Call (.Name "str" p) [e] [] pos) (zI yg t):=zD0 zJJ zKs hg hm (by decide +kernel) ha (by decide) (by decide) he hpl
end
section
variable {X:Cx} {a b:Expr} {ta tb:zf} {pos:Pos}
end
end L3
namespace L2
section
variable {X:Cx} {z:Str} {tg elt iter:Expr} {ifs:List Expr} {sc:Scope} {pos:Pos} {N0 own:List Str} {wi:TI} {g:TG} {tc:TT} {te:TE}
end
end L2
namespace L3
open L2
section
variable {X:Cx} {elt iter:Expr} {pos:Pos} {te:zf} {ifs:List Expr} {sc:Scope} {N0:List Str} {wi:TI2} {tc:TT2}
end
end L3
namespace HT
section
variable {prog:Program} {w:World} {A:Around} {E:Value->Shared->Prop} {s:Shared}
end
end HT
namespace L3
open L2
section
variable {X:Cx} {a b c d e o:Expr} {es:List Expr} {pos p:Pos} {ta tb tc td te:zf} {tl:TL2}
theorem zDG{ls:List Str}{ts:List Tok}(h:ts.length=ls.length):zc (ls.map V.str) (List.zipWith Value.str ls ts):=by
 induction ls generalizing ts with
 | nil=>exact .nil
 | cons a r ih =>
  cases ts with
  | nil=>cases h
  | cons t ts=>exact .cons ⟨t,rfl⟩ (ih (by simpa using h))
end
section
variable {X:Cx} {a b e o:Expr} {pos p apos cpos:Pos} {ta tb te:zf} {tl:TL2} {t:wE}
noncomputable def yl:D->D->Gp->Q2->Prop:=fun x y G R=>match x,y with | .str i,.str j=>i.length+j.length<=1000000/\R (.str (i++j)) G | _,_=>False
theorem zKt{K:PySem.W.Frag}:Fit K (fun x y H Q=>∃ i j,x=.str i/\y=.str j/\i.length+j.length<=sizeLine/\Q (.str (i++j)) H) yl:=by
 intro dx dy G R x y H Q h r d1 d2 k;unfold yl at h;split at h
 ·rename_i i j
  unfold zO at d1 d2;subst d1 d2;exact⟨i,j,rfl,rfl,by rw[sizeLine_eq];omega,k _ G h.2 _ H (.refl H) r (by unfold zO;rfl)⟩
 ·exact h.elim
theorem zAZ(ha:E2 X a ta)(hb:E2 X b tb):E2 X (.BinOp a .Add b pos) (zS yl ta tb):=zHA zG6 zKt ha hb
noncomputable def zKu:D->D->Gp->Q2->Prop:=fun x y G R=>match x,y with | .str i,.str j=>R (.bl (!(Builtin.Str.occurrences j i 0 j.length 1).isEmpty)) G | _,_=>False
theorem zMg{K:PySem.W.Frag}:Fit K (fun x y H Q=>∃ i j,x=.str i/\y=.str j/\Q (.bl (!(Builtin.Str.occurrences j i 0 j.length 1).isEmpty)) H) zKu:=by
 intro dx dy G R x y H Q h r d1 d2 k;unfold zKu at h;split at h
 ·rename_i i j
  unfold zO at d1 d2;subst d1 d2;exact⟨i,j,rfl,rfl,k _ G h _ H (.refl H) r (by unfold zO;rfl)⟩
 ·exact h.elim
theorem zP3(ha:E2 X a ta)(hb:E2 X b tb)(hm:autoParam (behindInMarks .In b=false) Zq4._auto_1):T2 X (.Compare a [.In] [b] pos) (xB (zS zKu ta tb)):=zCk zIw zMg ha hb hm
noncomputable def zCe:wU:=fun ds G R=>match ds with | [.str z]=>z.length<=1000000/\R (.int z.length) G | _=>False
theorem zKv{K:PySem.W.Frag}:zFU K (fun xs H Q=>∃ z,xs=[.str z]/\z.length<=sizeLine/\Q (.int z.length) H) zCe:=by
 intro ds G R vs H Q h r d k;unfold zCe at h;split at h
 ·rename_i z
  obtain⟨v,rfl,d1⟩:=zAc d;unfold zO at d1;subst d1;exact⟨z,rfl,by rw[sizeLine_eq];omega,k _ G h.2 _ H (.refl H) r (by unfold zO;rfl)⟩
 ·exact h.elim
theorem zGR(hg:Gl X "len")(hm:X.mg "len"=none)(ha:A2 X [e] t)(he:autoParam (starEach [e] X.env=(false,eval e X.env)::starEach [] X.env) Zq4._auto_1)(hpl:autoParam ((backTo pos (starEach [] X.env)).any (·.1)=false) Zq4._auto_1) :
  E2 X (.Call (.Name "len" p) [e] [] pos) (zI zCe t):=zDe zFR zKv hg hm boot_len ha (by decide) (by decide) he hpl
theorem zJK:wD X (.type "int") (fun xs H Q=>∃ n:Int,xs=[.str (Str.ofString (toString n))]/\0<=n/\n<10 ^ 10/\Q (.int n) H):=by
 intro pins s σ H xs us Q I r h;obtain⟨n,rfl,h0,h1,q⟩:=h;obtain⟨u,rfl,ru⟩:=vals1 r;obtain⟨t,rfl⟩:=ru;exact PySem.W.KIN.call_num h0 h1 ⟨.int n,H,I.tok _,⟨_,rfl⟩,q⟩
noncomputable def wR:wU:=fun ds G R=>match ds with | [.str z]=>∃ n:Nat,z=Str.ofString (toString (n:Int))/\n<1000/\R (.int n) G | _=>False
theorem zKw{K:PySem.W.Frag}:zFU K (fun xs H Q=>∃ n:Int,xs=[.str (Str.ofString (toString n))]/\0<=n/\n<10 ^ 10/\Q (.int n) H) wR:=by
 intro ds G R vs H Q h r d k;unfold wR at h;split at h
 ·rename_i z
  obtain⟨n,rfl,h1,h⟩:=h;obtain⟨v,rfl,d1⟩:=zAc d;unfold zO at d1;subst d1;refine⟨n,rfl,by omega,?_,k _ G h _ H (.refl H) r (by unfold zO;rfl)⟩;have:(1000:Int)<=10 ^ 10:=by decide
  omega
 ·exact h.elim
theorem zD7(hg:Gl X "int")(hm:X.mg "int"=none)(ha:A2 X [e] t)(he:autoParam (starEach [e] X.env=(false,eval e X.env)::starEach [] X.env) Zq4._auto_1)(hpl:autoParam ((backTo pos (starEach [] X.env)).any (·.1)=false) Zq4._auto_1) :
  E2 X (.Call (.Name "int" p) [e] [] pos) (zI wR t):=zD0 zJK zKw hg hm (by decide +kernel) ha (by decide) (by decide) he hpl
theorem zMh{x z:Str}{tk:Tok}(hg:Gl X x)(hm:X.mg x=some (.str z tk))(hd:autoParam ((x==("__debug__":Str))=false) Zq2._auto_1):E2 X (.Name x pos) (xC (.str z)):=by
 refine PE.mono (zDa (v:=.str z) hg hm ⟨tk,rfl⟩ hd) ?_;rintro σ1 H Q ⟨σ,G,R,r,q,k⟩;exact k _ G q _ H (.refl H) r.g (by unfold zO;rfl)
theorem zD8:∀ {ss:List Str} {us:List Value},zc (ss.map V.str) us->∃ l:List (Str×Tok),us=strValues l/\l.map (·.1)=ss
 | [],_,h=>by cases h;exact⟨[],rfl,rfl⟩
 | a::ss,_,h=>by
  cases h with
  | cons r rr =>
   obtain⟨tk,rfl⟩:=r;obtain⟨l,rfl,e⟩:=zD8 rr;exact⟨(a,tk)::l,rfl,by rw[dt,e]⟩
theorem zIO:MtR X "str.join" (fun x xs H Q=>∃ sep l ss,x=.str sep/\xs=[.ref l]/\SqL X.K H l (ss.map V.str)/\JoinOk sep ss=true/\Q (.str (Str.join sep ss)) H):=by
 intro pins s σ H x xs v us Q I rx rs h;obtain⟨sep,l,ss,rfl,rfl,hq,hok,q⟩:=h;obtain⟨tk,rfl⟩:=rx;obtain⟨u,rfl,ru⟩:=vals1 rs;cases ru;obtain⟨its,r,pl,hz⟩:=I.list hq;obtain⟨lv,rfl,e⟩:=zD8 r;refine SC.join pl.isList e hok fun t' k=>⟨.str _,H,I.tok _,⟨t',?_⟩,q⟩
 rw[show Txt.join sep ss=Str.join sep ss from StrLaws.glued_eq_join sep ss]
noncomputable def Short(sep:Str)(ss:List Str):Prop:=ss.length<=1000/\(∀ y∈ss,y.length<=10000)/\sep.length<=10
theorem Short.ok{sep:Str}{ss:List Str}(h:Short sep ss):JoinOk sep ss=true:=by
 unfold JoinOk;rw[StrLaws.joinFits (B:=10000) h.2.1]
 ·rfl
 ·have h1:=h.1
  have h2:=h.2.2;have:ss.length*sep.length<=1000*10:=Nat.mul_le_mul h1 h2;omega
noncomputable def zD9(sep:Str)(tl:TL2):zf:=fun σ G R=>tl σ G fun ds G1=>∃ ss:List Str,ds=ss.map D.str/\Short sep ss/\R (.str (Str.join sep ss)) G1
theorem zAv{K:PySem.W.Frag}{H:Hp}:∀ {ss:List Str} {xs:List V},Dens K H (ss.map D.str) xs->xs=ss.map V.str
 | [],_,h=>by unfold Dens at h;exact h
 | a::r,_,h=>by
  unfold Dens at h;obtain⟨x,t,rfl,h1,h2⟩:=h;unfold zO at h1;rw[h1,zAv h2];rfl
theorem zIP{sep:Str}{j:Nat}{p1:Pos}(ha:F2 X e tl)
  (hbase:autoParam (attributeBase (.Constant (.str sep) j p1) "join" X.env (eval (.Constant (.str sep) j p1) X.env)=eval (.Constant (.str sep) j p1) X.env) Zq4._auto_1)
  (hfew:autoParam (((backTo cpos (starEach [e] X.env)).all (fun x=>!x.1)&&(backToKw cpos (keywordEach [] X.env)).all (fun x=>x.1.isSome)
   && decide ([e].length+([]:List Keyword).length+(if ([]:List Keyword).isEmpty then 0 else 1)<30))=true) Zq4._auto_1)
  (hline:autoParam ((apos.endLine==cpos.line)=true) Zq4._auto_1) (hs:autoParam (starEach [e] X.env=(false,eval e X.env)::starEach [] X.env) Zq4._auto_1) (hplain:autoParam ((backTo cpos (starEach [] X.env)).any (·.1)=false) Zq4._auto_1) :
  E2 X (.Call (.Attribute (.Constant (.str sep) j p1) "join" apos) [e] [] cpos) (zD9 sep tl):=by
 refine PE.mono (zDr F.plainAttrs_str F.slot_str_join F.type_str_join zIO zG2 (wC ha zAo hs) hbase hfew hline hs hplain) ?_;rintro σ1 H Q ⟨σ,G,R,r,q,k⟩;refine⟨rfl,σ,G,_,r,q,fun ds G1 q1 l xs H1 g1 r1 n e1 d1=>?_⟩;obtain⟨ss,rfl,hsh,q1⟩:=q1;have ex:=zAv d1;subst ex;exact⟨sep,l,ss,rfl,rfl,.inl (.of e1),hsh.ok,k _ G1 q1 _ H1 g1 r1 (by unfold zO;rfl)⟩
noncomputable def zFa(sep:Str)(t:wE):zf:=fun σ G R=>t σ G fun ds G1=>∃(l:Addr) (ss:List Str),ds=[.adr l]/\Ls G1 l (ss.map D.str)/\Short sep ss/\R (.str (Str.join sep ss)) G1
theorem zMi{sep:Str}{j:Nat}{p1:Pos}(ha:A2 X [e] t)
  (hbase:autoParam (attributeBase (.Constant (.str sep) j p1) "join" X.env (eval (.Constant (.str sep) j p1) X.env)=eval (.Constant (.str sep) j p1) X.env) Zq4._auto_1)
  (hfew:autoParam (((backTo cpos (starEach [e] X.env)).all (fun x=>!x.1)&&(backToKw cpos (keywordEach [] X.env)).all (fun x=>x.1.isSome)
   && decide ([e].length+([]:List Keyword).length+(if ([]:List Keyword).isEmpty then 0 else 1)<30))=true) Zq4._auto_1)
  (hline:autoParam ((apos.endLine==cpos.line)=true) Zq4._auto_1) (hs:autoParam (starEach [e] X.env=(false,eval e X.env)::starEach [] X.env) Zq4._auto_1) (hplain:autoParam ((backTo cpos (starEach [] X.env)).any (·.1)=false) Zq4._auto_1) :
  E2 X (.Call (.Attribute (.Constant (.str sep) j p1) "join" apos) [e] [] cpos) (zFa sep t):=by
 refine PE.mono (zDr F.plainAttrs_str F.slot_str_join F.type_str_join zIO zG2 ha hbase hfew hline hs hplain) ?_;rintro σ1 H Q ⟨σ,G,R,r,q,k⟩;refine⟨rfl,σ,G,_,r,q,fun ds G1 q1 vs H1 g1 r1 d1=>?_⟩;obtain⟨l,ss,rfl,hl,hsh,q1⟩:=q1;obtain⟨v,rfl,d2⟩:=zAc d1;unfold zO at d2;subst d2;obtain⟨us,hsq,hd⟩:=r1.sq hl;have ex:=zAv hd;subst ex;exact⟨sep,l,ss,rfl,rfl,hsq,hsh.ok,k _ G1 q1 _ H1 g1 r1 (by unfold zO;rfl)⟩
noncomputable def zQj:V->Option Int->Option Int->Hp->VK->Prop:=fun x lo hi H Q=>∃ z,x=.str z/\z.length<=sizeLine/\Q (.str (Txt.slice z lo hi)) H
theorem part_of{v:Value}{p:Option Int}(h:IsPart v p):∃ l:Option (Int×Tok),v=partValue l/\l.map (·.1)=p:=by
 cases h with
 | none=>exact⟨none,rfl,rfl⟩
 | int=>exact⟨some (_,_),rfl,rfl⟩
theorem zOs:SlR X zQj:=by
 intro pins s σ H x v vl vu lo hi sl Q I rx hs pl pu h;obtain⟨z,rfl,hz,q⟩:=h;obtain⟨tk,rfl⟩:=rx;obtain⟨l,rfl,rfl⟩:=part_of pl;obtain⟨u,rfl,rfl⟩:=part_of pu;refine⟨"str",_,F.slot_str_getitem.lookup,typeIs_str _ _ _,wpAny_getItem_str_slice (l:=l) (u:=u) (st:=none) hs rfl ?_⟩;exact post_val_or_str ⟨dC (Txt.slice_le z _ _) hz,fun t' k=>⟨.str _,H,I.tok _,⟨t',rfl⟩,q⟩⟩
noncomputable def yH(t:zf)(tl th:TO2):zf:=fun σ G R=>t σ G fun d G1=>tl σ G1 fun lo G2=>th σ G2 fun hi G3=>match d with | .str z=>z.length<=1000000/\R (.str (Txt.slice z lo hi)) G3 | _=>False
theorem zAG{lo hi:Option Expr}{tl th:TO2}{p2:Pos}(he:E2 X e te)(hl:O2 X lo tl)(hu:O2 X hi th):E2 X (.Subscript e (.Slice lo hi none p2) pos) (yH te tl th):=by
 refine PE.mono (zF4 zOs he hl hu) ?_;rintro σ1 H Q ⟨σ,G,R,r,q,k⟩;refine⟨σ,G,_,r,q,fun d G1 q1 v H1 g1 r1 d1=>⟨σ,G1,_,r.to g1 r1,q1,fun o1 G2 q2 H2 g2 r2=>⟨σ,G2,_,r.to (g1.trans g2) r2,q2,fun o2 G3 q3 H3 g3 r3=>?_⟩⟩⟩;cases d with
 | str z =>
  unfold zO at d1;subst d1;exact⟨z,rfl,by rw[sizeLine_eq];omega,k _ G3 q3.2 _ H3 ((g1.trans g2).trans g3) r3 (by unfold zO;rfl)⟩
 | _=>exact q3.elim
theorem zBx:∀ l:List (Str×Tok),zc ((l.map (·.1)).map V.str) (strValues l)
 | []=>.nil
 | (a,tk)::r=>.cons ⟨tk,rfl⟩ (zBx r)
theorem zKx:MtR X "str.split" (fun x xs H Q=>∃ z sep,x=.str z/\xs=[.str sep]/\(sep.length==0)=false/\z.length<=1000000/\∀ l,H l=none->Q (.ref l) (wo H l (.lst ((Txt.split z sep).map V.str)))):=by
 intro pins s σ H x xs v us Q I rx rs h;obtain⟨z,sep,rfl,rfl,hy,hz,q⟩:=h;obtain⟨tk,rfl⟩:=rx;obtain⟨u,rfl,ru⟩:=vals1 rs;obtain⟨tu,rfl⟩:=ru;have hx:z.length<=sizeLine:=by rw[sizeLine_eq];omega
 have hl:=split_le z sep;have fin:∀(l:List (Str×Tok)) (k:Nat),l.map (·.1)=Txt.split z sep->EP X pins σ Q (.ref s.heap.objs.size) { s with toks:=k,heap:=s.heap.push { cls:=.type "list",data:=.seq (strValues l).toArray } }:=fun l k e=>by
  refine⟨.ref _,_,I.laid (t':=k) (o:=.lst ((Txt.split z sep).map V.str)) (fun b ob q=>cL _ q) (cN _) ?_,rfl,q _ (I.hok.fresh (cN _))⟩;refine⟨by rw[cI,sizeLine_eq];omega,strValues l,0,?_,de _ rfl⟩;rw[<-e];exact zBx l
 cases h1:(decide (z.length<sep.length)||decide (Builtin.Str.strKind z<Builtin.Str.strKind sep))
 ·cases hf:(Builtin.Str.occurrences z sep 0 z.length (z.length+1)).isEmpty
  ·have hn:(Builtin.Str.partsBetween z (Builtin.Str.occurrences z sep 0 z.length (z.length+1)) sep.length).length<=sizeLine:=by
    have:Txt.split z sep=Builtin.Str.partsBetween z (Builtin.Str.occurrences z sep 0 z.length (z.length+1)) sep.length:=(if_neg (ne_true_of_eq_false h1)).trans (if_neg (ne_true_of_eq_false hf));rw[<-this,sizeLine_eq];omega
   refine call_meets F.slot_str_split (typeIs_str _ _ _) F.entry_str_split (F.args_str_split_2 _ _) (meets_str_split_sep z sep tk tu h1 hy hf hx hn) ?_;show EP X pins σ Q _ { s with toks:=_,heap:=s.heap.push { cls:=.type "list",data:=.seq (strsFrom s.toks (Builtin.Str.partsBetween z (Builtin.Str.occurrences z sep 0 z.length (z.length+1)) sep.length)).toArray } };rw[strsFrom_eq];exact fin (numbered s.toks _) _ ((numbered_texts _ _).trans ((if_neg (ne_true_of_eq_false h1)).trans (if_neg (ne_true_of_eq_false hf))).symm)
  ·exact call_meets F.slot_str_split (typeIs_str _ _ _) F.entry_str_split (F.args_str_split_2 _ _) (meets_str_split_not_found z sep tk tu h1 hy hf)
    (fin [(z,tk)] _ ((if_neg (ne_true_of_eq_false h1)).trans (if_pos hf)).symm)
 ·exact call_meets F.slot_str_split (typeIs_str _ _ _) F.entry_str_split (F.args_str_split_2 _ _) (meets_str_split_cannot_occur z sep tk tu h1)
   (fin [(z,tk)] _ (if_pos h1).symm)
noncomputable def zDH(to:zf)(t:wE):TL2:=fun σ G R=>to σ G fun d G1=>match d with | .str z=>t σ G1 fun ds G2=>(match ds with | [.str sep]=>(sep.length==0)=false/\z.length<=1000000/\R ((Txt.split z sep).map D.str) G2 | _=>False) | _=>False
theorem zAw{K:PySem.W.Frag}{H:Hp}:∀ ls:List Str,Dens K H (ls.map D.str) (ls.map V.str)
 | []=>by unfold Dens;rfl
 | a::r=>by
  unfold Dens;exact⟨_,_,rfl,by unfold zO;rfl,zAw r⟩
theorem zDh{to:zf}(ho:E2 X o to)(ha:A2 X [e] t)
  (hbase:autoParam (attributeBase o "split" X.env (eval o X.env)=eval o X.env) Zq4._auto_1)
  (hfew:autoParam (((backTo cpos (starEach [e] X.env)).all (fun x=>!x.1)&&(backToKw cpos (keywordEach [] X.env)).all (fun x=>x.1.isSome)
   && decide ([e].length+([]:List Keyword).length+(if ([]:List Keyword).isEmpty then 0 else 1)<30))=true) Zq4._auto_1)
  (hline:autoParam ((apos.endLine==cpos.line)=true) Zq4._auto_1) (hs:autoParam (starEach [e] X.env=(false,eval e X.env)::starEach [] X.env) Zq4._auto_1) (hplain:autoParam ((backTo cpos (starEach [] X.env)).any (·.1)=false) Zq4._auto_1) :
  F2 X (.Call (.Attribute o "split" apos) [e] [] cpos) (zDH to t):=by
 refine PE.mono (zDr F.plainAttrs_str F.slot_str_split F.type_str_split zKx ho ha hbase hfew hline hs hplain) ?_;rintro σ1 H Q ⟨σ,G,R,r,q,k⟩;refine⟨σ,G,_,r,q,fun d G1 q1 v H1 g1 r1 d1=>?_⟩;cases d with
 | str z =>
  unfold zO at d1;subst d1;refine⟨rfl,σ,G1,_,r.to g1 r1,q1,fun ds G2 q2 vs H2 g2 r2 d2=>?_⟩;split at q2
  ·rename_i sep
   obtain⟨w,rfl,d3⟩:=zAc d2;unfold zO at d3;subst d3;refine⟨z,sep,rfl,rfl,q2.1,q2.2.1,fun l hl=>?_⟩;exact k _ G2 q2.2.2 l _ _ ((g1.trans g2).trans (.fresh hl)) (r2.fresh hl) (r2.free hl) zm (zAw _)
  ·exact q2.elim
 | _=>exact q1.elim
end
end L3
namespace K
open L2 L3
noncomputable abbrev nD(n:Nat):D:=.int (n:Int)
noncomputable def yL(n:Nat):List (Nat×Nat):=(cH n).flatMap fun i=>(cH (n-(i+1))).map fun k=>(i,i+1+k)
noncomputable def yf(p:Nat×Nat):D:=.tup [nD p.1,nD p.2]
noncomputable def zCq(n:Nat)(q:Nat×Nat->Bool):D:=.tup [nD n,.tup (((yL n).filter q).map yf)]
theorem zCr{n:Nat}{p:Nat×Nat}:p∈yL n↔p.1<p.2/\p.2<n:=by
 obtain⟨i,j⟩:=p;unfold yL;simp only[List.mem_flatMap,cQ,cV,Prod.mk.injEq];constructor
 ·rintro⟨a,ha,k,hk,rfl,rfl⟩;omega
 ·rintro⟨h1,h2⟩;exact⟨i,by omega,j-(i+1),by omega,rfl,by omega⟩
theorem zCT{α β:Type}{f:α->List β}:∀ {l:List α},l.Nodup->(∀ x∈l,(f x).Nodup)->(∀ x∈l,∀ y∈l,x≠y->∀ z,z∈f x->z∉f y)->(l.flatMap f).Nodup
 | [],_,_,_=>by simp
 | a::r,h,h1,h2=>by
  rw[List.flatMap_cons];obtain⟨ha,hr⟩:=e8.mp h;refine List.nodup_append.mpr ⟨h1 a (by simp),zCT hr (fun x hx=>h1 x (by simp[hx])) (fun x hx y hy=>h2 x (by simp[hx]) y (by simp[hy])),fun x hx y hy e=>?_⟩;subst e;obtain⟨b,hb,hz⟩:=List.mem_flatMap.mp hy;exact h2 a (by simp) b (by simp[hb]) (fun e=>ha (e▸hb)) x hx hz
theorem zCU{α β:Type}{f:α->β}(hf:∀ x y,f x=f y->x=y):∀ {l:List α},l.Nodup->(l.map f).Nodup
 | [],_=>by simp
 | a::r,h=>by
  obtain⟨ha,hr⟩:=e8.mp h;rw[dt];refine e8.mpr ⟨fun hm=>?_,zCU hf hr⟩;obtain⟨b,hb,e⟩:=cQ.mp hm;exact ha (hf _ _ e▸hb)
theorem zJL(n:Nat):(yL n).Nodup:=by
 unfold yL;refine zCT eK (fun i _=>zCU (fun x y e=>by simpa using e) eK) fun i _ j _ hne z hz hz'=>?_;obtain⟨k,_,rfl⟩:=cQ.mp hz;obtain⟨k',_,e⟩:=cQ.mp hz';exact hne (by simpa using(congrArg Prod.fst e).symm)
theorem zEA{n:Nat}(h:n<=100):(yL n).length<=10000:=by
 unfold yL;rw[List.length_flatMap];have:∀ l:List Nat,(∀ x∈l,x<=100)->l.sum<=100*l.length:=by
  intro l
  induction l with
  | nil=>simp
  | cons a r ih =>
   intro h;have h1:=h a (by simp);have h2:=ih fun x hx=>h x (by simp[hx]);simp only[List.sum_cons,cD];omega
 have q:=this ((cH n).map fun i=>((cH (n-(i+1))).map fun k=>(i,i+1+k)).length) (by simp;omega);simp only[cI,eD] at q ⊢;omega
theorem zCE{i j:Int}:eqD (.int i) (.int j)=decide (i=j):=by show(i==j)=decide (i=j);rw[da];simp
theorem zDZ{a b:Nat}:((a:Int)=(b:Int))↔a=b:=by omega
theorem zBy{n:Nat}{q:Nat×Nat->Bool}{G:Gp}{R:Q2}:ye (zCq n q) (.int 0) G R=R (nD n) G:=zDQ
theorem zBz{n:Nat}{q:Nat×Nat->Bool}{G:Gp}{R:Q2}:ye (zCq n q) (.int 1) G R=R (.tup (((yL n).filter q).map yf)) G:=zDR
noncomputable def zEB:List D->Gp->(List D->Gp->Prop)->Prop:=fun ds G R=>∃ n:Nat,ds=[nD n]/\n<=100/\R ((yL n).map yf) G
theorem zHR:∀ ds G R R',(∀ ls G',R ls G'->R' ls G')->zEB ds G R->zEB ds G R':=by
 rintro ds G R R' h ⟨n,e,hn,q⟩;exact⟨n,e,hn,h _ _ q⟩
noncomputable def yF:=zEB
theorem zBc:∀ ds G R R',(∀ ls G',R ls G'->R' ls G')->yF ds G R->yF ds G R':=zHR
theorem zCF(n:Nat):yy 0 ((n:Int)).toNat=(cH n).map nD:=by simp[yy,nD]
noncomputable def zEC(d:D):Nat×Nat:=match d with | .tup [.int i,.int j]=>(i.toNat,j.toNat) | _=>(0,0)
theorem zE1(p:Nat×Nat):zEC (yf p)=p:=rfl
theorem zP4{σ:S2}{G:Gp}{n:Nat}{q:Nat×Nat->Bool}{t:zf}(h:ze t σ G (zCq n q)):ze (zS ye t (xC (.int 0))) σ G (nD n):=yk h zY fun _ _ _ q=>by rw[zBy];exact q
theorem zP5{σ:S2}{G:Gp}{n:Nat}{q:Nat×Nat->Bool}{t:zf}(h:ze t σ G (zCq n q)):ze (zS ye t (xC (.int 1))) σ G (.tup (((yL n).filter q).map yf)):=yk h zY fun _ _ _ q=>by rw[zBz];exact q
theorem zAa{l:Addr}{x:D}{ds:List D}{k:Int}{G:Gp}{R:Q2}(h:G.m l=some ds)(e:atI ds k=some x)(q:R x G):ye (.adr l) (.int k) G R:=⟨ds,x,.inl h,e,q⟩
theorem zNn{i:Nat}{l:Addr}{x d:D}{r:List D}{σ:S2}{G:Gp}{R:S2->Gp->Prop}(ho:look σ i=some (.adr l))(h:G.m l=some (x::r))(q:R σ (zQ G l (d::r))):gIx (zC i) (xC (.int 0)) d σ G R:=by
 unfold gIx zC;rw[ho];show match G.m l with | some ds=>_ | none=>_
 rw[h];have e:ixN (x::r).length 0=some 0:=by simp[ixN]
 show match ixN (x::r).length 0 with | some j=>R σ (zQ G l ((x::r).set j d)) | none=>False
 rw[e];exact q
noncomputable def zAH:wU:=fun ds G R=>∃(a:Addr) (ns:List Int) (k:Nat),ds=[.adr a,nD k]/\Ls G a (ns.map D.int)/\∀ c:Int,R (.int c) G
noncomputable def zA3:wP:=(zX (xIf (xB (zS (fII fun i j=>.bl (decide (i<j))) (zC 1) (zI yG (zA (zC 0) zH)))) (zq (zS ye (zC 0) (zC 1))) zx) (zq (xC (.int 0))))
theorem zGS(ds:List D)(G:Gp)(R:Q2)(h:zAH ds G R):ds.length=2/\zA3 (zg R) (zP ["script","k"] ds) G:=by
 obtain⟨a,ns,k,rfl,ha,h⟩:=h;refine⟨rfl,?_⟩;unfold zA3
 ((try dsimp only [zq,zX,zy,xIf,zAr,zx,gN,gNN,zS,zAE,zAM,yB,zA,zH,zI,yD,zn,yS,zC,look,zP,zBL,zBo,zBZ,zDQ,zDR,zD4,zBy,zBz,fII,yx,zAC,fEq,xC,xB,wL,zA2,zu,zHJ,cM,cE,cG,cy,cz,cD,cF,cA,cB,Nat.reduceSub,Nat.reduceAdd,zHK,zHL,zHM,zHN,zAN,zBa,zBb,if_true,if_false,cC]) <;> (try simp only [zq,zX,zy,xIf,zAr,zx,gN,gNN,zS,zAE,zAM,yB,zA,zH,zI,yD,zn,yS,zC,look,zP,zBL,zBo,zBZ,zDQ,zDR,zD4,zBy,zBz,fII,yx,zAC,fEq,xC,xB,wL,zA2,zu,zHJ,cM,cE,cG,cy,cz,cD,cF,cA,cB,Nat.reduceSub,Nat.reduceAdd,zHK,zHL,zHM,zHN,zAN,zBa,zBb,if_true,if_false,cC]))
 refine⟨ns.map D.int,ha,?_⟩;dsimp only;by_cases hk:k<ns.length
 ·rw[decide_eq_true (by rw[cI];omega),if_pos rfl]
  exact⟨_,.int ns[k],ha,yP (by simp[hk]),FgR.of (h _)⟩
 ·rw[decide_eq_false (by rw[cI];omega),if_neg (by simp)]
  exact FgR.of (h 0)
noncomputable def yn:List D->Gp->(List D->Gp->Prop)->Prop:=fun ds G R=>∃(a:Addr) (ns:List Int) (k:Nat),ds=[.adr a,nD k]/\Ls G a (ns.map D.int)/\∀ s b,OkS s b->R [.int s,.bl b] G
theorem zFb:∀ ds G R R',(∀ ls G',R ls G'->R' ls G')->yn ds G R->yn ds G R':=by
 rintro ds G R R' h ⟨a,ns,k,e,ha,q⟩;exact⟨a,ns,k,e,ha,fun s b o=>h _ _ (q s b o)⟩
noncomputable def zCG:wP:=(zX (zy (zI zAH (zA (zC 0) (zA (zC 1) zH))) (gN 2)) (zX (xIf (xB (zS (fII fun i j=>.bl (decide (j<=i))) (zC 2) (zS (yx zIv fun i j=>.int (i ^ j.toNat)) (xC (.int 10)) (xC (.int 18))))) (zq (yB (zAM (zA (zS (fII fun i j=>.int (i-j)) (zC 2) (zS (yx zIv fun i j=>.int (i ^ j.toNat)) (xC (.int 10)) (xC (.int 18)))) (zA (xC (.bl true)) zH))))) zx) (zq (yB (zAM (zA (zS (yx (fun _ j=>0<j) fun i j=>.int (i%j)) (zC 2) (xC (.int 2147483647))) (zA (xC (.bl false)) zH)))))))
theorem zKy:zIv 10 18:=by unfold zIv;decide
theorem zJM(ds:List D)(G:Gp)(R:Q2)(h:spL yn ds G R):ds.length=2/\zCG (zg R) (zP ["script","k","cell"] ds) G:=by
 obtain⟨a,ns,k,rfl,ha,h⟩:=h;refine⟨rfl,?_⟩;unfold zCG
 ((try dsimp only [zq,zX,zy,xIf,zAr,zx,gN,gNN,zS,zAE,zAM,yB,zA,zH,zI,yD,zn,yS,zC,look,zP,zBL,zBo,zBZ,zDQ,zDR,zD4,zBy,zBz,fII,yx,zAC,fEq,xC,xB,wL,zA2,zu,zHJ,cM,cE,cG,cy,cz,cD,cF,cA,cB,Nat.reduceSub,Nat.reduceAdd,zHK,zHL,zHM,zHN,zAN,zBa,zBb,if_true,if_false,cC]) <;> (try simp only [zq,zX,zy,xIf,zAr,zx,gN,gNN,zS,zAE,zAM,yB,zA,zH,zI,yD,zn,yS,zC,look,zP,zBL,zBo,zBZ,zDQ,zDR,zD4,zBy,zBz,fII,yx,zAC,fEq,xC,xB,wL,zA2,zu,zHJ,cM,cE,cG,cy,cz,cD,cF,cA,cB,Nat.reduceSub,Nat.reduceAdd,zHK,zHL,zHM,zHN,zAN,zBa,zBb,if_true,if_false,cC]))
 refine⟨a,ns,k,rfl,ha,fun c=>?_⟩
 ((try dsimp only [zq,zX,zy,xIf,zAr,zx,gN,gNN,zS,zAE,zAM,yB,zA,zH,zI,yD,zn,yS,zC,look,zP,zBL,zBo,zBZ,zDQ,zDR,zD4,zBy,zBz,fII,yx,zAC,fEq,xC,xB,wL,zA2,zu,zHJ,cM,cE,cG,cy,cz,cD,cF,cA,cB,Nat.reduceSub,Nat.reduceAdd,zHK,zHL,zHM,zHN,zAN,zBa,zBb,if_true,if_false,cC]) <;> (try simp only [zq,zX,zy,xIf,zAr,zx,gN,gNN,zS,zAE,zAM,yB,zA,zH,zI,yD,zn,yS,zC,look,zP,zBL,zBo,zBZ,zDQ,zDR,zD4,zBy,zBz,fII,yx,zAC,fEq,xC,xB,wL,zA2,zu,zHJ,cM,cE,cG,cy,cz,cD,cF,cA,cB,Nat.reduceSub,Nat.reduceAdd,zHK,zHL,zHM,zHN,zAN,zBa,zBb,if_true,if_false,cC]))
 refine⟨zKy,?_⟩;split
 ·refine⟨zKy,fun l hl=>?_⟩
  exact FgR.of (h _ true (fun z=>by cases z) l hl)
 ·refine⟨by decide,fun l hl=>?_⟩
  exact FgR.of (h _ false (fun _=>⟨eO _ (by decide),eQ _ (by decide)⟩) l hl)
noncomputable def zj:wU:=fun ds G R=>∃(l:Addr) (m:Nat),ds=[.adr l,nD m]/\zAV G l/\0<m/\m<1000000/\∀(r:Nat) G',r<m->Dr l G G'->R (nD r) G'
noncomputable def zCs:wP:=(zX (xIf (xB (zS ye (zC 0) (xC (.int 1)))) (zX (zy (zS (yx (fun _ j=>0<j) fun i j=>.int (i%j)) (zS ye (zC 0) (xC (.int 0))) (zC 1)) (gN 2)) (zX (zy (zS (yx zF2 fun i j=>.int (i / j)) (zS ye (zC 0) (xC (.int 0))) (zC 1)) (gIx (zC 0) (xC (.int 0)))) (zq (zC 2)))) zx) (zX (zy (zS (yx (fun _ j=>0<j) fun i j=>.int (i%j)) (zS zAC (zS (yx zCN fun i j=>.int (i*j)) (zS ye (zC 0) (xC (.int 0))) (xC (.int 48271))) (xC (.int 29))) (xC (.int 2147483647))) (gIx (zC 0) (xC (.int 0)))) (zX (zy (zS (yx (fun _ j=>0<j) fun i j=>.int (i%j)) (zS zAC (zS zAC (zS (yx zCN fun i j=>.int (i*j)) (zS ye (zC 0) (xC (.int 0))) (zS ye (zC 0) (xC (.int 0)))) (zS (yx zCN fun i j=>.int (i*j)) (xC (.int 39373)) (zS ye (zC 0) (xC (.int 0))))) (xC (.int 7))) (xC (.int 2147483629))) (gN 3)) (zX (zy (zS (yx (fun _ j=>0<j) fun i j=>.int (i%j)) (zS zAC (zS (yx zCN fun i j=>.int (i*j)) (zC 3) (zC 3)) (zS (yx zCN fun i j=>.int (i*j)) (xC (.int 16807)) (zC 3))) (xC (.int 2147483587))) (gN 3)) (zq (zS (yx (fun _ j=>0<j) fun i j=>.int (i%j)) (zS (yx zF2 fun i j=>.int (i / j)) (zC 3) (xC (.int 8))) (zC 1)))))))
theorem zED{x:Int}{m:Nat}(h:0<m):∃ r:Nat,r<m/\x%(m:Int)=r:=⟨(x%(m:Int)).toNat,by
 have h1:=eO x (b:=(m:Int)) (by omega);have h2:=eQ x (b:=(m:Int)) (by omega);omega,by
 have h1:=eO x (b:=(m:Int)) (by omega);omega⟩
theorem zKz(ds:List D)(G:Gp)(R:Q2)(h:zj ds G R):ds.length=2/\zCs (zg R) (zP ["state","many","found","mixed"] ds) G:=by
 obtain⟨l,m,rfl,⟨s,b,hG,ok⟩,hm,hm2,h⟩:=h;refine⟨rfl,?_⟩;unfold zCs
 ((try dsimp only [zq,zX,zy,xIf,zAr,zx,gN,gNN,zS,zAE,zAM,yB,zA,zH,zI,yD,zn,yS,zC,look,zP,zBL,zBo,zBZ,zDQ,zDR,zD4,zBy,zBz,fII,yx,zAC,fEq,xC,xB,wL,zA2,zu,zHJ,cM,cE,cG,cy,cz,cD,cF,cA,cB,Nat.reduceSub,Nat.reduceAdd,zHK,zHL,zHM,zHN,zAN,zBa,zBb,if_true,if_false,cC]) <;> (try simp only [zq,zX,zy,xIf,zAr,zx,gN,gNN,zS,zAE,zAM,yB,zA,zH,zI,yD,zn,yS,zC,look,zP,zBL,zBo,zBZ,zDQ,zDR,zD4,zBy,zBz,fII,yx,zAC,fEq,xC,xB,wL,zA2,zu,zHJ,cM,cE,cG,cy,cz,cD,cF,cA,cB,Nat.reduceSub,Nat.reduceAdd,zHK,zHL,zHM,zHN,zAN,zBa,zBb,if_true,if_false,cC]))
 refine zAa hG (zEy _ _ _) ?_;cases b with
 | true =>
  ((try dsimp only [zq,zX,zy,xIf,zAr,zx,gN,gNN,zS,zAE,zAM,yB,zA,zH,zI,yD,zn,yS,zC,look,zP,zBL,zBo,zBZ,zDQ,zDR,zD4,zBy,zBz,fII,yx,zAC,fEq,xC,xB,wL,zA2,zu,zHJ,cM,cE,cG,cy,cz,cD,cF,cA,cB,Nat.reduceSub,Nat.reduceAdd,zHK,zHL,zHM,zHN,zAN,zBa,zBb,if_true,if_false,cC]) <;> (try simp only [zq,zX,zy,xIf,zAr,zx,gN,gNN,zS,zAE,zAM,yB,zA,zH,zI,yD,zn,yS,zC,look,zP,zBL,zBo,zBZ,zDQ,zDR,zD4,zBy,zBz,fII,yx,zAC,fEq,xC,xB,wL,zA2,zu,zHJ,cM,cE,cG,cy,cz,cD,cF,cA,cB,Nat.reduceSub,Nat.reduceAdd,zHK,zHL,zHM,zHN,zAN,zBa,zBb,if_true,if_false,cC]))
  refine zAa hG (zCS _ _) ?_
  ((try dsimp only [zq,zX,zy,xIf,zAr,zx,gN,gNN,zS,zAE,zAM,yB,zA,zH,zI,yD,zn,yS,zC,look,zP,zBL,zBo,zBZ,zDQ,zDR,zD4,zBy,zBz,fII,yx,zAC,fEq,xC,xB,wL,zA2,zu,zHJ,cM,cE,cG,cy,cz,cD,cF,cA,cB,Nat.reduceSub,Nat.reduceAdd,zHK,zHL,zHM,zHN,zAN,zBa,zBb,if_true,if_false,cC]) <;> (try simp only [zq,zX,zy,xIf,zAr,zx,gN,gNN,zS,zAE,zAM,yB,zA,zH,zI,yD,zn,yS,zC,look,zP,zBL,zBo,zBZ,zDQ,zDR,zD4,zBy,zBz,fII,yx,zAC,fEq,xC,xB,wL,zA2,zu,zHJ,cM,cE,cG,cy,cz,cD,cF,cA,cB,Nat.reduceSub,Nat.reduceAdd,zHK,zHL,zHM,zHN,zAN,zBa,zBb,if_true,if_false,cC]))
  refine⟨by omega,zAa hG (zCS _ _) ?_⟩
  ((try dsimp only [zq,zX,zy,xIf,zAr,zx,gN,gNN,zS,zAE,zAM,yB,zA,zH,zI,yD,zn,yS,zC,look,zP,zBL,zBo,zBZ,zDQ,zDR,zD4,zBy,zBz,fII,yx,zAC,fEq,xC,xB,wL,zA2,zu,zHJ,cM,cE,cG,cy,cz,cD,cF,cA,cB,Nat.reduceSub,Nat.reduceAdd,zHK,zHL,zHM,zHN,zAN,zBa,zBb,if_true,if_false,cC]) <;> (try simp only [zq,zX,zy,xIf,zAr,zx,gN,gNN,zS,zAE,zAM,yB,zA,zH,zI,yD,zn,yS,zC,look,zP,zBL,zBo,zBZ,zDQ,zDR,zD4,zBy,zBz,fII,yx,zAC,fEq,xC,xB,wL,zA2,zu,zHJ,cM,cE,cG,cy,cz,cD,cF,cA,cB,Nat.reduceSub,Nat.reduceAdd,zHK,zHL,zHM,zHN,zAN,zBa,zBb,if_true,if_false,cC]))
  refine⟨⟨by omega,by omega⟩,zNn rfl hG ?_⟩
  ((try dsimp only [zq,zX,zy,xIf,zAr,zx,gN,gNN,zS,zAE,zAM,yB,zA,zH,zI,yD,zn,yS,zC,look,zP,zBL,zBo,zBZ,zDQ,zDR,zD4,zBy,zBz,fII,yx,zAC,fEq,xC,xB,wL,zA2,zu,zHJ,cM,cE,cG,cy,cz,cD,cF,cA,cB,Nat.reduceSub,Nat.reduceAdd,zHK,zHL,zHM,zHN,zAN,zBa,zBb,if_true,if_false,cC]) <;> (try simp only [zq,zX,zy,xIf,zAr,zx,gN,gNN,zS,zAE,zAM,yB,zA,zH,zI,yD,zn,yS,zC,look,zP,zBL,zBo,zBZ,zDQ,zDR,zD4,zBy,zBz,fII,yx,zAC,fEq,xC,xB,wL,zA2,zu,zHJ,cM,cE,cG,cy,cz,cD,cF,cA,cB,Nat.reduceSub,Nat.reduceAdd,zHK,zHL,zHM,zHN,zAN,zBa,zBb,if_true,if_false,cC]))
  obtain⟨r,hr,e⟩:=zED (x:=s) hm;rw[e];exact FgR.of (h r _ hr ⟨_,true,rfl,fun z=>by cases z⟩)
 | false =>
  obtain⟨h0,h1⟩:=ok rfl
  ((try dsimp only [zq,zX,zy,xIf,zAr,zx,gN,gNN,zS,zAE,zAM,yB,zA,zH,zI,yD,zn,yS,zC,look,zP,zBL,zBo,zBZ,zDQ,zDR,zD4,zBy,zBz,fII,yx,zAC,fEq,xC,xB,wL,zA2,zu,zHJ,cM,cE,cG,cy,cz,cD,cF,cA,cB,Nat.reduceSub,Nat.reduceAdd,zHK,zHL,zHM,zHN,zAN,zBa,zBb,if_true,if_false,cC]) <;> (try simp only [zq,zX,zy,xIf,zAr,zx,gN,gNN,zS,zAE,zAM,yB,zA,zH,zI,yD,zn,yS,zC,look,zP,zBL,zBo,zBZ,zDQ,zDR,zD4,zBy,zBz,fII,yx,zAC,fEq,xC,xB,wL,zA2,zu,zHJ,cM,cE,cG,cy,cz,cD,cF,cA,cB,Nat.reduceSub,Nat.reduceAdd,zHK,zHL,zHM,zHN,zAN,zBa,zBb,if_true,if_false,cC]))
  refine zAa hG (zCS _ _) ?_
  ((try dsimp only [zq,zX,zy,xIf,zAr,zx,gN,gNN,zS,zAE,zAM,yB,zA,zH,zI,yD,zn,yS,zC,look,zP,zBL,zBo,zBZ,zDQ,zDR,zD4,zBy,zBz,fII,yx,zAC,fEq,xC,xB,wL,zA2,zu,zHJ,cM,cE,cG,cy,cz,cD,cF,cA,cB,Nat.reduceSub,Nat.reduceAdd,zHK,zHL,zHM,zHN,zAN,zBa,zBb,if_true,if_false,cC]) <;> (try simp only [zq,zX,zy,xIf,zAr,zx,gN,gNN,zS,zAE,zAM,yB,zA,zH,zI,yD,zn,yS,zC,look,zP,zBL,zBo,zBZ,zDQ,zDR,zD4,zBy,zBz,fII,yx,zAC,fEq,xC,xB,wL,zA2,zu,zHJ,cM,cE,cG,cy,cz,cD,cF,cA,cB,Nat.reduceSub,Nat.reduceAdd,zHK,zHL,zHM,zHN,zAN,zBa,zBb,if_true,if_false,cC]))
  refine⟨.inl ⟨by omega,by omega⟩,by decide,zNn rfl hG ?_⟩;have p0:=eO (s*48271+29) (b:=2147483647) (by decide);have p1:=eQ (s*48271+29) (b:=2147483647) (by decide);generalize (s*48271+29)%2147483647=s1 at p0 p1 ⊢;have hG1:(zQ G l [D.int s1,D.bl false]).m l=some [D.int s1,D.bl false]:=zJ
  ((try dsimp only [zq,zX,zy,xIf,zAr,zx,gN,gNN,zS,zAE,zAM,yB,zA,zH,zI,yD,zn,yS,zC,look,zP,zBL,zBo,zBZ,zDQ,zDR,zD4,zBy,zBz,fII,yx,zAC,fEq,xC,xB,wL,zA2,zu,zHJ,cM,cE,cG,cy,cz,cD,cF,cA,cB,Nat.reduceSub,Nat.reduceAdd,zHK,zHL,zHM,zHN,zAN,zBa,zBb,if_true,if_false,cC]) <;> (try simp only [zq,zX,zy,xIf,zAr,zx,gN,gNN,zS,zAE,zAM,yB,zA,zH,zI,yD,zn,yS,zC,look,zP,zBL,zBo,zBZ,zDQ,zDR,zD4,zBy,zBz,fII,yx,zAC,fEq,xC,xB,wL,zA2,zu,zHJ,cM,cE,cG,cy,cz,cD,cF,cA,cB,Nat.reduceSub,Nat.reduceAdd,zHK,zHL,zHM,zHN,zAN,zBa,zBb,if_true,if_false,cC]))
  refine zAa hG1 (zCS _ _) (zAa hG1 (zCS _ _) ?_)
  ((try dsimp only [zq,zX,zy,xIf,zAr,zx,gN,gNN,zS,zAE,zAM,yB,zA,zH,zI,yD,zn,yS,zC,look,zP,zBL,zBo,zBZ,zDQ,zDR,zD4,zBy,zBz,fII,yx,zAC,fEq,xC,xB,wL,zA2,zu,zHJ,cM,cE,cG,cy,cz,cD,cF,cA,cB,Nat.reduceSub,Nat.reduceAdd,zHK,zHL,zHM,zHN,zAN,zBa,zBb,if_true,if_false,cC]) <;> (try simp only [zq,zX,zy,xIf,zAr,zx,gN,gNN,zS,zAE,zAM,yB,zA,zH,zI,yD,zn,yS,zC,look,zP,zBL,zBo,zBZ,zDQ,zDR,zD4,zBy,zBz,fII,yx,zAC,fEq,xC,xB,wL,zA2,zu,zHJ,cM,cE,cG,cy,cz,cD,cF,cA,cB,Nat.reduceSub,Nat.reduceAdd,zHK,zHL,zHM,zHN,zAN,zBa,zBb,if_true,if_false,cC]))
  refine⟨.inl ⟨by omega,by omega⟩,zAa hG1 (zCS _ _) ?_⟩
  ((try dsimp only [zq,zX,zy,xIf,zAr,zx,gN,gNN,zS,zAE,zAM,yB,zA,zH,zI,yD,zn,yS,zC,look,zP,zBL,zBo,zBZ,zDQ,zDR,zD4,zBy,zBz,fII,yx,zAC,fEq,xC,xB,wL,zA2,zu,zHJ,cM,cE,cG,cy,cz,cD,cF,cA,cB,Nat.reduceSub,Nat.reduceAdd,zHK,zHL,zHM,zHN,zAN,zBa,zBb,if_true,if_false,cC]) <;> (try simp only [zq,zX,zy,xIf,zAr,zx,gN,gNN,zS,zAE,zAM,yB,zA,zH,zI,yD,zn,yS,zC,look,zP,zBL,zBo,zBZ,zDQ,zDR,zD4,zBy,zBz,fII,yx,zAC,fEq,xC,xB,wL,zA2,zu,zHJ,cM,cE,cG,cy,cz,cD,cF,cA,cB,Nat.reduceSub,Nat.reduceAdd,zHK,zHL,zHM,zHN,zAN,zBa,zBb,if_true,if_false,cC]))
  refine⟨.inl ⟨by omega,by omega⟩,by decide,?_⟩;have p2:=eO (s1*s1+39373*s1+7) (b:=2147483629) (by decide);have p3:=eQ (s1*s1+39373*s1+7) (b:=2147483629) (by decide);generalize (s1*s1+39373*s1+7)%2147483629=s2 at p2 p3 ⊢;refine⟨.inl ⟨by omega,by omega⟩,.inl ⟨by omega,by omega⟩,by decide,⟨by decide,by decide⟩,by omega,?_⟩;obtain⟨r,hr,e⟩:=zED (x:=(s2*s2+16807*s2)%2147483587 / 8) hm;rw[e];exact FgR.of (h r _ hr ⟨_,false,rfl,fun _=>⟨p0,p1⟩⟩)
noncomputable def zB0(n i:Nat):List (Nat×Nat):=(cH i).flatMap fun i=>(cH (n-(i+1))).map fun k=>(i,i+1+k)
theorem zE2(n:Nat):zB0 n n=yL n:=rfl
theorem zEE(n i:Nat):zB0 n (i+1)=zB0 n i++(cH (n-(i+1))).map fun k=>(i,i+1+k):=by
 unfold zB0;rw[List.range_succ,List.flatMap_append];simp
theorem zJN{n i:Nat}(hi:i<=n)(h:n<=100):(zB0 n i).length<=10000:=by
 have:(zB0 n i).length<=(yL n).length:=by
  obtain⟨k,rfl⟩:=Nat.exists_eq_add_of_le hi;rw[<-zE2];have:∀ k,(zB0 (i+k) i).length<=(zB0 (i+k) (i+k)).length:=fun k=>by
   unfold zB0;rw[List.range_add,List.flatMap_append,cZ];omega
  exact this k
 have:=zEA h;omega
theorem zHS{n i:Nat}{x:D}(h:((cH n).map nD)[i]?=some x):x=nD i/\i<n:=by
 rw[dl] at h;cases q:(cH n)[i]? with
 | none=>rw[q] at h;cases h
 | some k =>
  rw[q] at h;cases h;obtain⟨h1,h2⟩:=cJ.mp q;simp at h1 h2;subst h2;exact⟨rfl,h1⟩
theorem zHT{wi:TI2}{g:TG2}{tb:wP}{E:yr}{σ:S2}{G:Gp}(h:wi σ G fun ds gd G1=>zOl ds gd G1 g tb E σ):zBw wi g tb E σ G:=.of h
theorem zK0{t:wE}{g:TG2}{tb:wP}{E:yr}{σ:S2}{G:Gp}{n:Nat}(ht:PuA t σ G [nD n])(hn:n<=1000)(h:zOl ((cH n).map nD) (fun _=>True) G g tb E σ):zBw (iR1 t) g tb E σ G:=by
 refine zHT (ht G (.refl G) _ ⟨by omega,?_⟩);rw[zCF];exact h
theorem zIQ{i:Nat}{l:Addr}{d:D}{xs:List D}{σ:S2}{G:Gp}{t:wE}{R:Q2}(ho:look σ i=some (.adr l))(h:G.m l=some xs)(ht:∀ Q:List D->Gp->Prop,Q [d] G->t σ G Q)(hz:xs.length<=1000000)(q:R .non (zQ G l (xs++[d]))):zKU (zC i) t σ G R:=by
 unfold zKU zC;rw[ho];show match G.m l with | some _=>_ | none=>_
 rw[h];refine ht _ ?_;show match G.m l with | some xs=>_ | none=>_
 rw[h];exact⟨hz,q⟩
theorem zMj{i:Nat}{l:Addr}{zs xs:List D}{σ:S2}{G:Gp}{t:TL2}{R:Q2}(ho:look σ i=some (.adr l))(h:G.m l=some xs)(ht:∀ Q:List D->Gp->Prop,Q zs G->t σ G Q)(hz:xs.length+zs.length<=1000000)(q:R .non (zQ G l (xs++zs))):zMO (zC i) t σ G R:=by
 unfold zMO zC;rw[ho];show match G.m l with | some _=>_ | none=>_
 rw[h];refine ht _ ?_;show match G.m l with | some xs=>_ | none=>_
 rw[h];exact⟨hz,q⟩
noncomputable def zCH:wP:=(zX (zy (yB (zAM zH)) (gN 1)) (zX (zBw (iR1 (zA (zC 0) zH)) (gN 2) (zAr (zMO (zC 1) (zo (iR2 (zA (zS zAC (zC 2) (xC (.int 1))) (zA (zC 0) zH))) bd1 wV (zAE (zA (zC 2) (zA (zC 3) zH))))))) (zq (zC 1))))
theorem zJO(ds:List D)(G:Gp)(R:Q2)(h:spL yF ds G R):ds.length=1/\zCH (zg R) (zP ["many","found","one"] ds) G:=by
 obtain⟨n,rfl,hn,h⟩:=h;refine⟨rfl,?_⟩;unfold zCH
 ((try dsimp only [zq,zX,zy,xIf,zAr,zx,gN,gNN,zS,zAE,zAM,yB,zA,zH,zI,yD,zn,yS,zC,look,zP,zBL,zBo,zBZ,zDQ,zDR,zD4,zBy,zBz,fII,yx,zAC,fEq,xC,xB,wL,zA2,zu,zHJ,cM,cE,cG,cy,cz,cD,cF,cA,cB,Nat.reduceSub,Nat.reduceAdd,zHK,zHL,zHM,zHN,zAN,zBa,zBb,if_true,if_false,cC]) <;> (try simp only [zq,zX,zy,xIf,zAr,zx,gN,gNN,zS,zAE,zAM,yB,zA,zH,zI,yD,zn,yS,zC,look,zP,zBL,zBo,zBZ,zDQ,zDR,zD4,zBy,zBz,fII,yx,zAC,fEq,xC,xB,wL,zA2,zu,zHJ,cM,cE,cG,cy,cz,cD,cF,cA,cB,Nat.reduceSub,Nat.reduceAdd,zHK,zHL,zHM,zHN,zAN,zBa,zBb,if_true,if_false,cC]))
 intro l hl;refine zK0 (n:=n) (zF (zG rfl) zN) (by omega) ?_;refine zID (fun i G'=>G'=zQ G l ((zB0 n i).map yf)) rfl (fun _ _ _=>trivial) ?_ ?_
 ·rintro i x hx G2 rfl
  obtain⟨rfl,hi⟩:=zHS hx;have hlen:=zJN (n:=n) (i:=i+1) (by omega) hn;rw[zEE,cZ,cI,eD] at hlen;have hw:PuI (iR2 (zA (zS zAC (zC 2) (xC (.int 1))) (zA (zC 0) zH))) [some (nD n),some (.adr l),some (nD i)] (zQ G l ((zB0 n i).map yf)) (yy ((i:Int)+1) ((n:Int)-((i:Int)+1)).toNat) :=
   zI9 (zF (yk (zG rfl) zY fun _ _ _ q=>q) (zF (zG rfl) zN)) (by omega)
  have:=zAY (bd:=bd1) (te:=zAE (zA (zC 2) (zA (zC 3) zH))) (fun d=>.tup [nD i,d]) (fun d=>[d]) hw fun x hx=>⟨rfl,zCd (zF (zG rfl) (zF (zG rfl) zN)) (by simp)⟩
  ((try dsimp only [zq,zX,zy,xIf,zAr,zx,gN,gNN,zS,zAE,zAM,yB,zA,zH,zI,yD,zn,yS,zC,look,zP,zBL,zBo,zBZ,zDQ,zDR,zD4,zBy,zBz,fII,yx,zAC,fEq,xC,xB,wL,zA2,zu,zHJ,cM,cE,cG,cy,cz,cD,cF,cA,cB,Nat.reduceSub,Nat.reduceAdd,zHK,zHL,zHM,zHN,zAN,zBa,zBb,if_true,if_false,cC]) <;> (try simp only [zq,zX,zy,xIf,zAr,zx,gN,gNN,zS,zAE,zAM,yB,zA,zH,zI,yD,zn,yS,zC,look,zP,zBL,zBo,zBZ,zDQ,zDR,zD4,zBy,zBz,fII,yx,zAC,fEq,xC,xB,wL,zA2,zu,zHJ,cM,cE,cG,cy,cz,cD,cF,cA,cB,Nat.reduceSub,Nat.reduceAdd,zHK,zHL,zHM,zHN,zAN,zBa,zBb,if_true,if_false,cC]))
  have e:((n:Int)-((i:Int)+1)).toNat=n-(i+1):=by omega
  have e2:cM (fun d=>D.tup [nD i,d]) (yy ((i:Int)+1) ((n:Int)-((i:Int)+1)).toNat)=((cH (n-(i+1))).map fun k=>(i,i+1+k)).map yf:=by
   rw[e];unfold yy;rw[cX,cX];refine dq fun k _=>?_;simp[yf,nD]
  rw[e2] at this;refine zMj rfl zJ (fun Q q=>this _ (.refl _) Q q) (by simp only[cI,eD];omega) ⟨.keep (.keep (.skip .nil)),_,.refl _,?_⟩;rw[zBI,zEE,dU]
 ·rintro G2 rfl
  rw[cI,eD,zE2];exact FgR.of (h l hl)
theorem zOt(l:List Nat)(i:Nat):((l.map nD).any fun z=>eqD z (nD i))=decide (i∈l):=by
 rw[List.any_map,da];simp only[List.any_eq_true,Function.comp,zCE,decide_eq_true_eq,zDZ];constructor
 ·rintro⟨x,h,rfl⟩;exact h
 ·intro h;exact⟨i,h,rfl⟩
theorem zK1(l:List Nat):∀ d∈l.map nD,flat 8 d=true:=by
 intro d hd;obtain⟨k,_,rfl⟩:=cQ.mp hd;rfl
theorem zOu{σ:S2}{G:Gp}{t u:zf}{ng:Bool}{x:D}{ds:List D}{b:Bool}(h:ze t σ G x)(h':ze u σ G (.tup ds))(f:flat 8 x=true)(fs:∀ d∈ds,flat 8 d=true)(e:(if ng then !ds.any fun z=>eqD z x else ds.any fun z=>eqD z x)=b):ze (zS (fIn ng) t u) σ G (.bl b) :=
 yk h h' fun _ _ _ q=>⟨f,fs,by rw[e];exact q⟩
theorem zOv{σ:S2}{G:Gp}{t u:zf}{i j:Int}(h:ze t σ G (.int i))(h':ze u σ G (.int j)):ze (zS zAC t u) σ G (.int (i+j)):=yk h h' fun _ _ _ q=>q
noncomputable def wj(n:Nat)(r:List Nat):Prop:=r.Perm (cH n++cH n)
theorem wj.len{n:Nat}{r:List Nat}(h:wj n r):r.length=2*n:=by
 have:=h.length_eq;simp at this;omega
theorem wj.mem{n:Nat}{r:List Nat}(h:wj n r){x:Nat}:x∈r↔x<n:=by
 rw[h.mem_iff];simp
theorem zGT{n i:Nat}:(cH n).count i=if i<n then 1 else 0:=by
 induction n with
 | zero=>simp
 | succ n ih =>
  rw[List.range_succ,eS,ih];by_cases h:i=n
  ·subst h;simp
  ·have:(n==i)=false:=by simpa using fun e=>h e.symm
   simp[List.count_cons,this];split<;>split<;>omega
theorem wj.count{n:Nat}{r:List Nat}(h:wj n r){i:Nat}(hi:i<n):r.count i=2:=by
 rw[h.count_eq,eS,zGT,if_pos hi]
noncomputable def both(r:List Nat)(p:Nat×Nat):List Nat:=r.filter fun x=>decide (x=p.1)||decide (x=p.2)
noncomputable def zAx(r:List Nat)(p:Nat×Nat):Bool:=match both r p with | a::b::c::_=>decide (a≠b)&&decide (b≠c) | _=>false
theorem zK2{n:Nat}{r:List Nat}(h:wj n r){p:Nat×Nat}(hp:p∈yL n):(both r p).length=4:=by
 obtain⟨i,j⟩:=p;obtain⟨h1,h2⟩:=zCr.mp hp;have:∀ l:List Nat,(l.filter fun x=>decide (x=i)||decide (x=j)).length=l.count i+l.count j:=by
  intro l
  induction l with
  | nil=>rfl
  | cons a r ih =>
   simp only[List.filter_cons,List.count_cons];by_cases ha:a=i
   ·subst ha
    have:¬ a=j:=by dsimp only at h1;omega
    simp[this,ih];omega
   ·by_cases hb:a=j
    ·subst hb;simp[ha,ih];omega
    ·simp[ha,hb,ih]
 unfold both;rw[this,h.count (by dsimp only at h1 h2;omega),h.count h2]
theorem _root_.L3.Sub.put{G G':Gp}{f:Addr}{x:List D}(h:Sub G G')(n:G.m f=none):Sub G (zQ G' f x) :=
 ⟨fun a o e=>by rw[zV (gne e n)];exact h.m a o e,fun a o e=>h.ro a o e⟩
noncomputable def zAW:wU:=fun ds G R=>∃(n:Nat) (r:List Nat),ds=[.tup (r.map nD)]/\wj n r/\n<=100/\R (zCq n (zAx r)) G
noncomputable def zBd:wP:=(zX (zy (zS (yx zF2 fun i j=>.int (i / j)) (zI yG (zA (zC 0) zH)) (xC (.int 2))) (gN 1)) (zX (zy (yB (zAM zH)) (gN 2)) (zX (zBw (iF (yD yF (zA (zC 1) zH))) (gNN 3 4) (zX (zBJ 5 (zo (iV (zC 0)) bd1 (xB (zS (fIn false) (zC 6) (zAE (zA (zC 3) (zA (zC 4) zH))))) (zC 6))) (xIf (zA2 (xB (zS (fEq true) (zS ye (zC 5) (xC (.int 0))) (zS ye (zC 5) (xC (.int 1))))) (xB (zS (fEq true) (zS ye (zC 5) (xC (.int 1))) (zS ye (zC 5) (xC (.int 2)))))) (zAr (zKU (zC 2) (zA (zAE (zA (zC 3) (zA (zC 4) zH))) zH))) zx))) (zq (zAE (zA (zC 1) (zA (zI zDf (zA (zC 2) zH)) zH)))))))
theorem zMk{σ:S2}{G:Gp}{r:List Nat}{p:Nat×Nat}{x1 x2 x5:Option D}(h:σ=[some (.tup (r.map nD)),x1,x2,some (nD p.1),some (nD p.2),x5]) :
  PuL (zo (iV (zC 0)) bd1 (xB (zS (fIn false) (zC 6) (zAE (zA (zC 3) (zA (zC 4) zH))))) (zC 6)) σ G ((both r p).map nD):=by
 subst h;have:=zFX (bd:=bd1) (tc:=(xB (zS (fIn false) (zC 6) (zAE (zA (zC 3) (zA (zC 4) zH)))))) (te:=zC 6) (fun d=>match d with | .int x=>decide (x.toNat=p.1)||decide (x.toNat=p.2) | _=>false) (fun d=>d) (fun d=>[d])
  (zBM (σ:=[some (.tup (r.map nD)),x1,x2,some (nD p.1),some (nD p.2),x5]) (G:=G) (zG (i:=0) rfl)) fun x hx=>by
   obtain⟨k,hk,rfl⟩:=cQ.mp hx;refine⟨rfl,yz (zOu (zG (d:=nD k) rfl) (zCd (zF (zG (d:=nD p.1) rfl) (zF (zG (d:=nD p.2) rfl) zN)) (by simp)) rfl (zK1 [p.1,p.2]) ?_),fun _=>zG rfl⟩;have:=zOt [p.1,p.2] k;simp only[cM] at this;simp only[cC,if_false,this];rw[da];simp
 have e:cM (fun d=>d) (List.filter (fun d=>match d with | .int x=>decide (x.toNat=p.1)||decide (x.toNat=p.2) | _=>false) (r.map nD))=(both r p).map nD:=by
  rw[List.map_id',List.filter_map];rfl
 rw[e] at this;exact this
theorem zFL{α:Type}{f:α->D}{l:List α}{i:Nat}{x:D}(h:(l.map f)[i]?=some x):∃ a,l[i]?=some a/\x=f a:=by
 rw[dl] at h;cases q:l[i]? with
 | none=>rw[q] at h;cases h
 | some a=>rw[q] at h;cases h;exact⟨a,rfl,rfl⟩
theorem zHU(ds:List D)(G:Gp)(R:Q2)(h:zAW ds G R):ds.length=1/\zBd (zg R) (zP ["ring","many","found","one","other","some"] ds) G:=by
 obtain⟨n,r,rfl,hr,hn,h⟩:=h;refine⟨rfl,?_⟩;unfold zBd
 ((try dsimp only [zq,zX,zy,xIf,zAr,zx,gN,gNN,zS,zAE,zAM,yB,zA,zH,zI,yD,zn,yS,zC,look,zP,zBL,zBo,zBZ,zDQ,zDR,zD4,zBy,zBz,fII,yx,zAC,fEq,xC,xB,wL,zA2,zu,zHJ,zBJ,cM,cE,cG,cy,cz,cD,cF,cA,cB,Nat.reduceSub,Nat.reduceAdd,zHK,zHL,zHM,zHN,zAN,zBa,zBb,if_true,if_false,cC]) <;> (try simp only [zq,zX,zy,xIf,zAr,zx,gN,gNN,zS,zAE,zAM,yB,zA,zH,zI,yD,zn,yS,zC,look,zP,zBL,zBo,zBZ,zDQ,zDR,zD4,zBy,zBz,fII,yx,zAC,fEq,xC,xB,wL,zA2,zu,zHJ,zBJ,cM,cE,cG,cy,cz,cD,cF,cA,cB,Nat.reduceSub,Nat.reduceAdd,zHK,zHL,zHM,zHN,zAN,zBa,zBb,if_true,if_false,cC]))
 refine⟨r.map nD,rfl,?_⟩
 ((try dsimp only [zq,zX,zy,xIf,zAr,zx,gN,gNN,zS,zAE,zAM,yB,zA,zH,zI,yD,zn,yS,zC,look,zP,zBL,zBo,zBZ,zDQ,zDR,zD4,zBy,zBz,fII,yx,zAC,fEq,xC,xB,wL,zA2,zu,zHJ,zBJ,cM,cE,cG,cy,cz,cD,cF,cA,cB,Nat.reduceSub,Nat.reduceAdd,zHK,zHL,zHM,zHN,zAN,zBa,zBb,if_true,if_false,cC]) <;> (try simp only [zq,zX,zy,xIf,zAr,zx,gN,gNN,zS,zAE,zAM,yB,zA,zH,zI,yD,zn,yS,zC,look,zP,zBL,zBo,zBZ,zDQ,zDR,zD4,zBy,zBz,fII,yx,zAC,fEq,xC,xB,wL,zA2,zu,zHJ,zBJ,cM,cE,cG,cy,cz,cD,cF,cA,cB,Nat.reduceSub,Nat.reduceAdd,zHK,zHL,zHM,zHN,zAN,zBa,zBb,if_true,if_false,cC]))
 refine⟨⟨by decide,by decide⟩,fun f hf=>?_⟩;have e:(((r.map nD).length:Int) / 2)=(n:Int):=by rw[cI,hr.len];omega
 rw[e];refine zHT ⟨n,rfl,hn,fun a ha=>?_⟩;have fa:a≠f:=fun e=>by rw[e,zJ] at ha;cases ha
 have ga:G.m a=none:=by rw[zV fa] at ha;exact ha
 refine zID (fun k G'=>G'.m f=some ((((yL n).take k).filter (zAx r)).map yf)/\G'.m a=some ((yL n).map yf)/\Sub G G') ⟨?_,zJ,?_⟩ (fun _ _ h=>.inl h.2.1) ?_ ?_
 ·rw[zV (Ne.symm fa)];exact zJ
 ·exact((Sub.refl G).put hf).put ga
 ·rintro k x hx G2 ⟨h1,h2,h3⟩
  obtain⟨p,hp,rfl⟩:=zFL hx;have hp':=dE hp;have hc:(((yL n).take (k+1)).filter (zAx r))=(((yL n).take k).filter (zAx r))++(if zAx r p=true then [p] else []):=by
   rw[zBN hp,List.filter_append];congr 1;simp[List.filter_cons]
  show gNN 3 4 (.tup [nD p.1,nD p.2]) _ _ _
  ((try dsimp only [zq,zX,zy,xIf,zAr,zx,gN,gNN,zS,zAE,zAM,yB,zA,zH,zI,yD,zn,yS,zC,look,zP,zBL,zBo,zBZ,zDQ,zDR,zD4,zBy,zBz,fII,yx,zAC,fEq,xC,xB,wL,zA2,zu,zHJ,zBJ,cM,cE,cG,cy,cz,cD,cF,cA,cB,Nat.reduceSub,Nat.reduceAdd,zHK,zHL,zHM,zHN,zAN,zBa,zBb,if_true,if_false,cC]) <;> (try simp only [zq,zX,zy,xIf,zAr,zx,gN,gNN,zS,zAE,zAM,yB,zA,zH,zI,yD,zn,yS,zC,look,zP,zBL,zBo,zBZ,zDQ,zDR,zD4,zBy,zBz,fII,yx,zAC,fEq,xC,xB,wL,zA2,zu,zHJ,zBJ,cM,cE,cG,cy,cz,cD,cF,cA,cB,Nat.reduceSub,Nat.reduceAdd,zHK,zHL,zHM,zHN,zAN,zBa,zBb,if_true,if_false,cC]))
  refine zMk rfl G2 (.refl G2) _ fun s hs=>?_;have hl:=zK2 hr hp';have hz:((((yL n).take k).filter (zAx r)).map yf).length<=1000000:=by
   rw[cI];have:=eT (zAx r) ((yL n).take k);rw[ef] at this;have:=zEA hn;omega
  have sf:s≠f:=fun e=>by rw[e,h1] at hs;cases hs
  have sa:s≠a:=fun e=>by rw[e,h2] at hs;cases hs
  have gs:G.m s=none:=by
   cases q:G.m s with
   | none=>rfl
   | some o=>rw[h3.m s o q] at hs;cases hs
  match hb:both r p,hl with
  | [x,y,z,w],_ =>
   have hcr:zAx r p=(decide (x≠y)&&decide (y≠z)):=by unfold zAx;rw[hb]
   rw[hcr] at hc
   ((try dsimp only [zq,zX,zy,xIf,zAr,zx,gN,gNN,zS,zAE,zAM,yB,zA,zH,zI,yD,zn,yS,zC,look,zP,zBL,zBo,zBZ,zDQ,zDR,zD4,zBy,zBz,fII,yx,zAC,fEq,xC,xB,wL,zA2,zu,zHJ,zBJ,cM,cE,cG,cy,cz,cD,cF,cA,cB,Nat.reduceSub,Nat.reduceAdd,zHK,zHL,zHM,zHN,zAN,zBa,zBb,if_true,if_false,cC]) <;> (try simp only [zq,zX,zy,xIf,zAr,zx,gN,gNN,zS,zAE,zAM,yB,zA,zH,zI,yD,zn,yS,zC,look,zP,zBL,zBo,zBZ,zDQ,zDR,zD4,zBy,zBz,fII,yx,zAC,fEq,xC,xB,wL,zA2,zu,zHJ,zBJ,cM,cE,cG,cy,cz,cD,cF,cA,cB,Nat.reduceSub,Nat.reduceAdd,zHK,zHL,zHM,zHN,zAN,zBa,zBb,if_true,if_false,cC]))
   refine zAa zJ (zCS _ _) (zAa zJ (zEy _ _ _) ?_)
   ((try dsimp only [zq,zX,zy,xIf,zAr,zx,gN,gNN,zS,zAE,zAM,yB,zA,zH,zI,yD,zn,yS,zC,look,zP,zBL,zBo,zBZ,zDQ,zDR,zD4,zBy,zBz,fII,yx,zAC,fEq,xC,xB,wL,zA2,zu,zHJ,zBJ,cM,cE,cG,cy,cz,cD,cF,cA,cB,Nat.reduceSub,Nat.reduceAdd,zHK,zHL,zHM,zHN,zAN,zBa,zBb,if_true,if_false,cC]) <;> (try simp only [zq,zX,zy,xIf,zAr,zx,gN,gNN,zS,zAE,zAM,yB,zA,zH,zI,yD,zn,yS,zC,look,zP,zBL,zBo,zBZ,zDQ,zDR,zD4,zBy,zBz,fII,yx,zAC,fEq,xC,xB,wL,zA2,zu,zHJ,zBJ,cM,cE,cG,cy,cz,cD,cF,cA,cB,Nat.reduceSub,Nat.reduceAdd,zHK,zHL,zHM,zHN,zAN,zBa,zBb,if_true,if_false,cC]))
   refine⟨rfl,rfl,?_⟩;have exy:(!eqD (nD x) (nD y))=decide (x≠y):=by rw[zCE];rw[da];simp;omega
   have eyz:(!eqD (nD y) (nD z))=decide (y≠z):=by rw[zCE];rw[da];simp;omega
   rw[exy];have no:(decide (x≠y)&&decide (y≠z))=false->zAe [some (.tup (r.map nD)),some (.int n),some (.adr f),none,none,none] [some (.tup (r.map nD)),some (.int n),some (.adr f),some (nD p.1),some (nD p.2),some (.adr s)]/\∃ G'',Sub G'' (zQ G2 s ([x,y,z,w].map nD))/\(G''.m f=some ((((yL n).take (k+1)).filter (zAx r)).map yf)/\G''.m a=some ((yL n).map yf)/\Sub G G''):=fun hf=>by
    refine⟨.keep (.keep (.keep (.skip (.skip (.skip .nil))))),G2,.new hs,?_,h2,h3⟩;rw[hc,hf];simpa using h1
   by_cases c1:x≠y
   ·rw[decide_eq_true c1]
    ((try dsimp only [zq,zX,zy,xIf,zAr,zx,gN,gNN,zS,zAE,zAM,yB,zA,zH,zI,yD,zn,yS,zC,look,zP,zBL,zBo,zBZ,zDQ,zDR,zD4,zBy,zBz,fII,yx,zAC,fEq,xC,xB,wL,zA2,zu,zHJ,zBJ,cM,cE,cG,cy,cz,cD,cF,cA,cB,Nat.reduceSub,Nat.reduceAdd,zHK,zHL,zHM,zHN,zAN,zBa,zBb,if_true,if_false,cC]) <;> (try simp only [zq,zX,zy,xIf,zAr,zx,gN,gNN,zS,zAE,zAM,yB,zA,zH,zI,yD,zn,yS,zC,look,zP,zBL,zBo,zBZ,zDQ,zDR,zD4,zBy,zBz,fII,yx,zAC,fEq,xC,xB,wL,zA2,zu,zHJ,zBJ,cM,cE,cG,cy,cz,cD,cF,cA,cB,Nat.reduceSub,Nat.reduceAdd,zHK,zHL,zHM,zHN,zAN,zBa,zBb,if_true,if_false,cC]))
    refine zAa zJ (zEy _ _ _) (zAa zJ (zKa _ _ _ _) ?_)
    ((try dsimp only [zq,zX,zy,xIf,zAr,zx,gN,gNN,zS,zAE,zAM,yB,zA,zH,zI,yD,zn,yS,zC,look,zP,zBL,zBo,zBZ,zDQ,zDR,zD4,zBy,zBz,fII,yx,zAC,fEq,xC,xB,wL,zA2,zu,zHJ,zBJ,cM,cE,cG,cy,cz,cD,cF,cA,cB,Nat.reduceSub,Nat.reduceAdd,zHK,zHL,zHM,zHN,zAN,zBa,zBb,if_true,if_false,cC]) <;> (try simp only [zq,zX,zy,xIf,zAr,zx,gN,gNN,zS,zAE,zAM,yB,zA,zH,zI,yD,zn,yS,zC,look,zP,zBL,zBo,zBZ,zDQ,zDR,zD4,zBy,zBz,fII,yx,zAC,fEq,xC,xB,wL,zA2,zu,zHJ,zBJ,cM,cE,cG,cy,cz,cD,cF,cA,cB,Nat.reduceSub,Nat.reduceAdd,zHK,zHL,zHM,zHN,zAN,zBa,zBb,if_true,if_false,cC]))
    refine⟨rfl,rfl,?_⟩;rw[eyz];by_cases c2:y≠z
    ·rw[decide_eq_true c2]
     ((try dsimp only [zq,zX,zy,xIf,zAr,zx,gN,gNN,zS,zAE,zAM,yB,zA,zH,zI,yD,zn,yS,zC,look,zP,zBL,zBo,zBZ,zDQ,zDR,zD4,zBy,zBz,fII,yx,zAC,fEq,xC,xB,wL,zA2,zu,zHJ,zBJ,cM,cE,cG,cy,cz,cD,cF,cA,cB,Nat.reduceSub,Nat.reduceAdd,zHK,zHL,zHM,zHN,zAN,zBa,zBb,if_true,if_false,cC]) <;> (try simp only [zq,zX,zy,xIf,zAr,zx,gN,gNN,zS,zAE,zAM,yB,zA,zH,zI,yD,zn,yS,zC,look,zP,zBL,zBo,zBZ,zDQ,zDR,zD4,zBy,zBz,fII,yx,zAC,fEq,xC,xB,wL,zA2,zu,zHJ,zBJ,cM,cE,cG,cy,cz,cD,cF,cA,cB,Nat.reduceSub,Nat.reduceAdd,zHK,zHL,zHM,zHN,zAN,zBa,zBb,if_true,if_false,cC]))
     refine zIQ (d:=yf p) rfl (by rw[zV (Ne.symm sf)];exact h1) (fun Q q=>by ((try dsimp only [zq,zX,zy,xIf,zAr,zx,gN,gNN,zS,zAE,zAM,yB,zA,zH,zI,yD,zn,yS,zC,look,zP,zBL,zBo,zBZ,zDQ,zDR,zD4,zBy,zBz,fII,yx,zAC,fEq,xC,xB,wL,zA2,zu,zHJ,zBJ,cM,cE,cG,cy,cz,cD,cF,cA,cB,Nat.reduceSub,Nat.reduceAdd,zHK,zHL,zHM,zHN,zAN,zBa,zBb,if_true,if_false,cC]) <;> (try simp only [zq,zX,zy,xIf,zAr,zx,gN,gNN,zS,zAE,zAM,yB,zA,zH,zI,yD,zn,yS,zC,look,zP,zBL,zBo,zBZ,zDQ,zDR,zD4,zBy,zBz,fII,yx,zAC,fEq,xC,xB,wL,zA2,zu,zHJ,zBJ,cM,cE,cG,cy,cz,cD,cF,cA,cB,Nat.reduceSub,Nat.reduceAdd,zHK,zHL,zHM,zHN,zAN,zBa,zBb,if_true,if_false,cC]));exact q) hz ⟨.keep (.keep (.keep (.skip (.skip (.skip .nil))))),_,.refl _,?_,?_,?_⟩
     ·rw[zJ,hc,decide_eq_true c1,decide_eq_true c2]
      simp
     ·rw[zV fa,zV (Ne.symm sa)];exact h2
     ·exact(h3.put gs).put hf
    ·rw[decide_eq_false c2]
     ((try dsimp only [zq,zX,zy,xIf,zAr,zx,gN,gNN,zS,zAE,zAM,yB,zA,zH,zI,yD,zn,yS,zC,look,zP,zBL,zBo,zBZ,zDQ,zDR,zD4,zBy,zBz,fII,yx,zAC,fEq,xC,xB,wL,zA2,zu,zHJ,zBJ,cM,cE,cG,cy,cz,cD,cF,cA,cB,Nat.reduceSub,Nat.reduceAdd,zHK,zHL,zHM,zHN,zAN,zBa,zBb,if_true,if_false,cC]) <;> (try simp only [zq,zX,zy,xIf,zAr,zx,gN,gNN,zS,zAE,zAM,yB,zA,zH,zI,yD,zn,yS,zC,look,zP,zBL,zBo,zBZ,zDQ,zDR,zD4,zBy,zBz,fII,yx,zAC,fEq,xC,xB,wL,zA2,zu,zHJ,zBJ,cM,cE,cG,cy,cz,cD,cF,cA,cB,Nat.reduceSub,Nat.reduceAdd,zHK,zHL,zHM,zHN,zAN,zBa,zBb,if_true,if_false,cC]))
     exact no (by simp[c2])
   ·rw[decide_eq_false c1]
    ((try dsimp only [zq,zX,zy,xIf,zAr,zx,gN,gNN,zS,zAE,zAM,yB,zA,zH,zI,yD,zn,yS,zC,look,zP,zBL,zBo,zBZ,zDQ,zDR,zD4,zBy,zBz,fII,yx,zAC,fEq,xC,xB,wL,zA2,zu,zHJ,zBJ,cM,cE,cG,cy,cz,cD,cF,cA,cB,Nat.reduceSub,Nat.reduceAdd,zHK,zHL,zHM,zHN,zAN,zBa,zBb,if_true,if_false,cC]) <;> (try simp only [zq,zX,zy,xIf,zAr,zx,gN,gNN,zS,zAE,zAM,yB,zA,zH,zI,yD,zn,yS,zC,look,zP,zBL,zBo,zBZ,zDQ,zDR,zD4,zBy,zBz,fII,yx,zAC,fEq,xC,xB,wL,zA2,zu,zHJ,zBJ,cM,cE,cG,cy,cz,cD,cF,cA,cB,Nat.reduceSub,Nat.reduceAdd,zHK,zHL,zHM,zHN,zAN,zBa,zBb,if_true,if_false,cC]))
    exact no (by simp[c1])
 ·rintro G2 ⟨h1,h2,h3⟩
  rw[cI,eV] at h1
  ((try dsimp only [zq,zX,zy,xIf,zAr,zx,gN,gNN,zS,zAE,zAM,yB,zA,zH,zI,yD,zn,yS,zC,look,zP,zBL,zBo,zBZ,zDQ,zDR,zD4,zBy,zBz,fII,yx,zAC,fEq,xC,xB,wL,zA2,zu,zHJ,zBJ,cM,cE,cG,cy,cz,cD,cF,cA,cB,Nat.reduceSub,Nat.reduceAdd,zHK,zHL,zHM,zHN,zAN,zBa,zBb,if_true,if_false,cC]) <;> (try simp only [zq,zX,zy,xIf,zAr,zx,gN,gNN,zS,zAE,zAM,yB,zA,zH,zI,yD,zn,yS,zC,look,zP,zBL,zBo,zBZ,zDQ,zDR,zD4,zBy,zBz,fII,yx,zAC,fEq,xC,xB,wL,zA2,zu,zHJ,zBJ,cM,cE,cG,cy,cz,cD,cF,cA,cB,Nat.reduceSub,Nat.reduceAdd,zHK,zHL,zHM,zHN,zAN,zBa,zBb,if_true,if_false,cC]))
  refine⟨((yL n).filter (zAx r)).map yf,.inl h1,?_⟩;exact⟨G,h3,h⟩
theorem zEF{α:Type}:∀(l:List α) (i:Nat) (h:i<l.length),(l[i]::l.eraseIdx i).Perm l
 | a::r,0,_=>by simp
 | a::r,i+1,h=>by
  have hi:i<r.length:=by simpa using h
  simp only[List.getElem_cons_succ,List.eraseIdx_cons_succ];exact(List.Perm.swap a (r[i]'hi) _).trans ((zEF r i (by simpa using h)).cons a)
theorem zBE{α β:Type}(f:α->β):∀(l:List α) (i:Nat),(l.map f).eraseIdx i=(l.eraseIdx i).map f
 | [],_=>by simp
 | a::r,0=>by simp
 | a::r,i+1=>by simp[zBE f r i]
noncomputable def DrS(l:Addr)(G G':Gp):Prop:=∃ G1,Dr l G G1/\Sub G1 G'
theorem DrS.dr{l:Addr}{G G1 G2:Gp}(h:DrS l G G1)(d:Dr l G1 G2):DrS l G G2:=by
 obtain⟨G0,d0,s0⟩:=h;obtain⟨G3,d3,s3⟩:=d.sub s0;exact⟨G3,d0.trans d3,s3⟩
theorem DrS.put{l f:Addr}{G G1:Gp}{x:List D}(h:DrS l G G1)(s:zAV G l)(n:G.m f=none):DrS l G (zQ G1 f x):=by
 obtain⟨G0,d0,s0⟩:=h;exact⟨G0,d0,s0.put (d0.none s n)⟩
theorem DrS.refl{l:Addr}{G:Gp}(s:zAV G l):DrS l G G:=⟨G,.refl s,.refl G⟩
theorem DrS.st{l:Addr}{G G':Gp}(h:DrS l G G'):zAV G' l:=by
 obtain⟨G0,d0,s0⟩:=h;exact d0.st.ext s0
theorem DrS.own{l:Addr}{G G':Gp}(h:DrS l G G')(s:zAV G l){a:Addr}(n:G'.m a=none):G.m a=none:=by
 obtain⟨G0,d0,s0⟩:=h;have n0:G0.m a=none:=by
  cases q:G0.m a with
  | none=>rfl
  | some o=>rw[s0.m a o q] at n;cases n
 by_cases ha:a=l
 ·subst ha
  obtain⟨_,_,e,_⟩:=d0.st;rw[e] at n0;cases n0
 ·rw[d0.ne ha] at n0;exact n0
theorem DrS.fin{l:Addr}{G G':Gp}{d:D}{R:Q2}(h:DrS l G G')(q:∀ G',Dr l G G'->R d G'):FgR R d G':=by
 obtain⟨G0,d0,s0⟩:=h;exact⟨G0,s0,q G0 d0⟩
theorem drawn{σ:S2}{G G0:Gp}{st lf:Addr}{xs:List Nat}{i0 i2 k:Nat}{t:wE}{R:Q2}(h0:look σ i0=some (.adr st))(h2:look σ i2=some (.adr lf))(hk:σ.length=k)
  (ht:PuA t σ G [nD xs.length]) (hs:zAV G st) (hs0:zAV G0 st) (hne:lf≠st) (hx:G.m lf=some (xs.map nD)) (h0lf:G0.m lf=none) (hd:DrS st G0 G) (hlen:xs.length<=1000)
  (hR:∀(ys:List Nat) (G':Gp),ys.Perm xs->DrS st G0 G'->R (.tup (ys.map nD)) G') :
  zn yS (zo (iR1 t) bd1 wV (zGF (zC i2) (zA (zI zj (zA (zC i0) (zA (zI yG (zA (zC i2) zH)) zH))) zH))) σ G R:=by
 have lk:∀(j:Nat) (o:D) (d:D),look σ j=some o->look (σ++[some d]) j=some o:=fun j o d h=>by
  clear h0 h2 hk ht
  induction σ generalizing j with
  | nil=>cases h
  | cons a r ih =>
   cases j with
   | zero=>exact h
   | succ j=>exact ih j h
 refine zFY (ht G (.refl G) _ ⟨by omega,fun A hA=>?_⟩);rw[zCF];have Alf:A≠lf:=fun e=>by rw[e,hx] at hA;cases hA
 have Ast:A≠st:=hs.ne hA;refine zD3 (fun i acc G'=>∃ ys zs:List Nat,acc=ys.map nD/\ys.length=i/\(ys++zs).Perm xs/\G'.m A=some acc/\G'.m lf=some (zs.map nD)/\DrS st G0 G')
  ⟨[],xs,rfl,rfl,.refl _,zJ,by rw[zV (Ne.symm Alf)];exact hx,hd.put hs0 (hd.own hs0 hA)⟩ (fun i acc G' ⟨ys,zs,h1,h2,h3,h4,h5,h6⟩=>⟨trivial,h4,by rw[h1,cI];omega⟩) ?_ ?_
 ·rintro i x acc G' hi ⟨ys,zs,rfl,h2',h3,h4,h5,h6⟩
  obtain⟨rfl,hi⟩:=zHS hi;refine⟨[nD i],rfl,?_⟩;have hz:ys.length+zs.length=xs.length:=by have:=h3.length_eq;rwa [cZ] at this
  have st':=h6.st;unfold wV;dsimp only;rw[if_pos rfl];unfold zGF;rw[show zC i2=fun σ G R=>match look σ i2 with | some d=>R d G | none=>False from rfl];dsimp only;rw[show cM some [nD i]=[some (nD i)] from rfl,lk i2 _ _ h2];dsimp only;rw[h5];dsimp only;simp only[zA,zI,zC,zH,lk i0 _ _ h0,lk i2 _ _ h2];refine⟨zs.map nD,.inl h5,?_⟩;rw[cI];refine⟨st,zs.length,rfl,st',by omega,by omega,fun r G1 hr d1=>?_⟩;have e1:G1.m lf=some (zs.map nD):=by rw[d1.ne hne];exact h5
  dsimp only;rw[e1];dsimp only;refine⟨⟨by omega,by rw[cI];omega,by omega⟩,?_⟩;have e2:(cM nD zs)[(r:Int).toNat]?=some (nD zs[r]):=by simp[hr]
  rw[e2];dsimp only;have Aa:(zQ G1 lf ((cM nD zs).eraseIdx (r:Int).toNat)).m A=some (ys.map nD):=by rw[zV Alf,d1.ne Ast];exact h4
  refine⟨Aa,.of ⟨ys++[zs[r]],zs.eraseIdx r,by simp,by simp[h2'],?_,zJ,?_,?_⟩⟩
  ·rw[List.append_assoc]
   exact((zEF zs r hr).append_left ys).trans h3
  ·rw[zV (Ne.symm Alf),zJ]
   simp[zBE]
  ·have hA0:G0.m A=none:=hd.own hs0 hA
   exact(((h6.dr d1).put hs0 h0lf).put hs0 hA0)
 ·rintro acc G' ⟨ys,zs,rfl,h2',h3,h4,h5,h6⟩
  rw[cI,eD] at h2';have hz:ys.length+zs.length=xs.length:=by have:=h3.length_eq;rwa [cZ] at this
  have:zs=[]:=eh.mp (by omega);subst this;rw[eo] at h3
  -- forget the list itself
  obtain⟨G1,d1,s1⟩:=h6;refine⟨G1,d1.none hs0 (hd.own hs0 hA),s1,?_⟩;exact hR ys G1 h3 ⟨G1,d1,.refl _⟩
noncomputable def wp:wU:=fun ds G R=>∃(l:Addr) (n:Nat),ds=[.adr l,nD n]/\zAV G l/\n<=100/\∀(r:List Nat) (G':Gp),wj n r->Dr l G G'->R (.tup (r.map nD)) G'
noncomputable def zCt:wP:=(zX (zy (yB (zKT (yB (zHI (zA (zC 1) zH))) (xC (.int 2)))) (gN 2)) (zq (zn yS (zo (iR1 (zA (zS (yx zCN fun i j=>.int (i*j)) (xC (.int 2)) (zC 1)) zH)) bd1 wV (zGF (zC 2) (zA (zI zj (zA (zC 0) (zA (zI yG (zA (zC 2) zH)) zH))) zH))))))
theorem zK3(ds:List D)(G:Gp)(R:Q2)(h:wp ds G R):ds.length=2/\zCt (zg R) (zP ["state","many","left"] ds) G:=by
 obtain⟨l,n,rfl,hs,hn,h⟩:=h;refine⟨rfl,?_⟩;unfold zCt zX zy yB zKT zHI
 ((try dsimp only [zq,zX,zy,xIf,zAr,zx,gN,gNN,zS,zAE,zAM,yB,zA,zH,zI,yD,zn,yS,zC,look,zP,zBL,zBo,zBZ,zDQ,zDR,zD4,zBy,zBz,fII,yx,zAC,fEq,xC,xB,wL,zA2,zu,zHJ,zBJ,cM,cE,cG,cy,cz,cD,cF,cA,cB,Nat.reduceSub,Nat.reduceAdd,zHK,zHL,zHM,zHN,zAN,zBa,zBb,if_true,if_false,cC]) <;> (try simp only [zq,zX,zy,xIf,zAr,zx,gN,gNN,zS,zAE,zAM,yB,zA,zH,zI,yD,zn,yS,zC,look,zP,zBL,zBo,zBZ,zDQ,zDR,zD4,zBy,zBz,fII,yx,zAC,fEq,xC,xB,wL,zA2,zu,zHJ,zBJ,cM,cE,cG,cy,cz,cD,cF,cA,cB,Nat.reduceSub,Nat.reduceAdd,zHK,zHL,zHM,zHN,zAN,zBa,zBb,if_true,if_false,cC]))
 refine⟨by omega,fun a ha=>?_⟩;rw[zJ];dsimp only;rw[zCF];refine⟨by omega,by simp;omega,fun lf hlf=>?_⟩;have e:(cK (2:Int).toNat (cM nD (cH n))).flatten=(cH n++cH n).map nD:=by
  show(cK 2 _).flatten=_;simp[cA]
 rw[e];have hlf0:G.m lf=none:=by
  have:lf≠a:=fun e=>by rw[e,zJ] at hlf;cases hlf
  rw[zV this] at hlf;exact hlf
 have la:lf≠l:=hs.ne hlf0;have hsG:zAV (zQ (zQ G a (cM nD (cH n))) lf ((cH n++cH n).map nD)) l:=(hs.ext (.new ha)).ext (.new hlf);have hdr:DrS l G (zQ (zQ G a (cM nD (cH n))) lf ((cH n++cH n).map nD)):=((DrS.refl hs).put hs ha).put hs hlf0;have hlen:(cH n++cH n).length=2*n:=by simp;omega
 refine drawn (k:=3) (xs:=cH n++cH n) (i0:=0) (i2:=2) rfl rfl rfl (zF ?_ zN) hsG hs la zJ hlf0 hdr (by omega) fun ys G' hp hd=>hd.fin fun G1 d1=>h ys G1 hp d1;have:nD (cH n++cH n).length=.int (2*(n:Int)):=by rw[hlen];unfold nD;congr 1
 rw[this];exact yk zY (zG rfl) fun _ _ _ q=>⟨.inl ⟨by decide,by decide⟩,q⟩
theorem zEG{l s:List (Nat×Nat)}(h:s.Sublist l)(nd:l.Nodup):(l.filter fun x=>decide (x∈s))=s:=by
 induction h with
 | slnil=>rfl
 | @cons s l a h ih =>
  obtain⟨h1,h2⟩:=e8.mp nd;have:a∉s:=fun m=>h1 (h.subset m);rw[List.filter_cons,if_neg (by simpa using this)];exact ih h2
 | @cons_cons s l a h ih =>
  obtain⟨h1,h2⟩:=e8.mp nd;rw[List.filter_cons,if_pos (by simp)];congr 1;refine Eq.trans (List.filter_congr fun x hx=>?_) (ih h2);have:x≠a:=fun e=>h1 (e▸hx);simp[this]
theorem zMl{n:Nat}{s:List (Nat×Nat)}(h:s.Sublist (yL n)):zCq n (fun p=>decide (p∈s))=.tup [nD n,.tup (s.map yf)]:=by
 unfold zCq;rw[zEG h (zJL n)]
theorem picked{σ:S2}{G G0:Gp}{st pl:Addr}{n i0 i4 k:Nat}{tc:TT2}{R:List D->Gp->Prop}(h0:look σ i0=some (.adr st))(h4:look σ i4=some (.adr pl))(hk:σ.length=k)
  (hs0:zAV G0 st) (hne:pl≠st) (hx:G.m pl=some ((yL n).map yf)) (hd:DrS st G0 G)
  (hc:∀(p:Nat×Nat) (G':Gp) (Q:Bool->Gp->Prop),p∈yL n->zAV G' st->(∀ b G1,Dr st G' G1->Q b G1)->tc (σ++[some (yf p)]) G' Q)
  (hR:∀(s:List (Nat×Nat)) (G':Gp),s.Sublist (yL n)->DrS st G0 G'->R (s.map yf) G') :
  zo (iV (zC i4)) bd1 tc (zC k) σ G R:=by
 have lk:∀ d,look (σ++[some d]) k=some d:=fun d=>by
  subst hk;clear h0 h4 hc
  induction σ with
  | nil=>rfl
  | cons a r ih=>exact ih
 refine zFY ?_;unfold iV zC;rw[h4];refine⟨(yL n).map yf,.inl hx,fun A hA=>?_⟩;have Apl:A≠pl:=fun e=>by rw[e,hx] at hA;cases hA
 have Ast:A≠st:=hd.st.ne hA;have hA0:=hd.own hs0 hA;refine zD3 (fun i acc G'=>∃ s:List (Nat×Nat),acc=s.map yf/\s.Sublist ((yL n).take i)/\G'.m A=some acc/\G'.m pl=some ((yL n).map yf)/\DrS st G0 G')
  ⟨[],rfl,by simp,zJ,by rw[zV (Ne.symm Apl)];exact hx,hd.put hs0 hA0⟩ (fun i acc G' ⟨s,h1,h2,h3,h4,h5⟩=>⟨.inl h4,h3,by rw[h1,cI];exact dC h2.length_le (by rw[ef];omega)⟩) ?_ ?_
 ·rintro i x acc G' hi ⟨s,rfl,h2,h3,h4',h5⟩
  obtain⟨p,hp,rfl⟩:=zFL hi;refine⟨[yf p],rfl,hc p G' _ (dE hp) h5.st fun b G1 d1=>?_⟩;have m1:G1.m A=some (s.map yf):=by rw[d1.ne Ast];exact h3
  have m2:G1.m pl=some ((yL n).map yf):=by rw[d1.ne hne];exact h4'
  cases b with
  | false =>
   rw[if_neg (by simp)];exact .of ⟨s,rfl,by rw[zBN hp];exact h2.trans (List.sublist_append_left _ _),m1,m2,h5.dr d1⟩
  | true =>
   rw[if_pos rfl];show match look (σ++[some (yf p)]) k with | some d=>_ | none=>_
   rw[lk];refine⟨m1,.of ⟨s++[p],by simp,by rw[zBN hp];exact h2.append (List.Sublist.refl _),zJ,by rw[zV (Ne.symm Apl)];exact m2,(h5.dr d1).put hs0 hA0⟩⟩
 ·rintro acc G' ⟨s,rfl,h2,h3,h4',h5⟩
  rw[cI,eV] at h2;obtain⟨G1,d1,s1⟩:=h5;exact⟨G1,d1.none hs0 hA0,s1,hR s G1 h2 ⟨G1,d1,.refl _⟩⟩
noncomputable def zB1:wU:=fun ds G R=>∃(l:Addr) (m:Nat),ds=[.adr l,nD m]/\zAV G l/\1<=m/\m<=50/\∀(n:Nat) (q:Nat×Nat->Bool) (G':Gp),1<=n->n<=m->Dr l G G'->R (zCq n q) G'
noncomputable def zDi:wP:=(zX (zy (zS zAC (xC (.int 1)) (zI zj (zA (zC 0) (zA (zC 1) zH)))) (gN 2)) (zX (zy (zI zj (zA (zC 0) (zA (xC (.int 5)) zH))) (gN 3)) (zX (zy (yB (yD yF (zA (zC 2) zH))) (gN 4)) (zX (xIf (xB (zS (fEq false) (zC 3) (xC (.int 0)))) (zq (zI zAW (zA (zI wp (zA (zC 0) (zA (zC 2) zH))) zH))) zx) (zX (xIf (xB (zS (fEq false) (zC 3) (xC (.int 1)))) (zq (zAE (zA (zC 2) (zA (zn yS (zo (iV (zC 4)) bd1 (wL (xB (zS (fEq false) (zS ye (zC 6) (xC (.int 1))) (zS zAC (zS ye (zC 6) (xC (.int 0))) (xC (.int 1))))) (xB (zS (fEq false) (zI zj (zA (zC 0) (zA (xC (.int 6)) zH))) (xC (.int 0))))) (zC 6))) zH)))) zx) (zX (zy (zS ye (yB (zAM (zA (xC (.int 2)) (zA (xC (.int 3)) (zA (xC (.int 4)) zH))))) (zS (fII fun i j=>.int (i-j)) (zC 3) (xC (.int 2)))) (gN 5)) (zq (zAE (zA (zC 2) (zA (zn yS (zo (iV (zC 4)) bd1 (xB (zS (fEq false) (zI zj (zA (zC 0) (zA (zC 5) zH))) (xC (.int 0)))) (zC 6))) zH))))))))))
theorem zMm(ds:List D)(G:Gp)(R:Q2)(h:zB1 ds G R):ds.length=2/\zDi (zg R) (zP ["state","most","many","way","pairs_v","far"] ds) G:=by
 obtain⟨l,m,rfl,hs,hm1,hm,h⟩:=h;refine⟨rfl,?_⟩;unfold zDi
 ((try dsimp only [zq,zX,zy,xIf,zAr,zx,gN,gNN,zS,zAE,zAM,yB,zA,zH,zI,yD,zn,yS,zC,look,zP,zBL,zBo,zBZ,zDQ,zDR,zD4,zBy,zBz,fII,yx,zAC,fEq,xC,xB,wL,zA2,zu,zHJ,zBJ,cM,cE,cG,cy,cz,cD,cF,cA,cB,Nat.reduceSub,Nat.reduceAdd,zHK,zHL,zHM,zHN,zAN,zBa,zBb,if_true,if_false,cC]) <;> (try simp only [zq,zX,zy,xIf,zAr,zx,gN,gNN,zS,zAE,zAM,yB,zA,zH,zI,yD,zn,yS,zC,look,zP,zBL,zBo,zBZ,zDQ,zDR,zD4,zBy,zBz,fII,yx,zAC,fEq,xC,xB,wL,zA2,zu,zHJ,zBJ,cM,cE,cG,cy,cz,cD,cF,cA,cB,Nat.reduceSub,Nat.reduceAdd,zHK,zHL,zHM,zHN,zAN,zBa,zBb,if_true,if_false,cC]))
 refine⟨l,m,rfl,hs,by omega,by omega,fun r G1 hr d1=>?_⟩
 ((try dsimp only [zq,zX,zy,xIf,zAr,zx,gN,gNN,zS,zAE,zAM,yB,zA,zH,zI,yD,zn,yS,zC,look,zP,zBL,zBo,zBZ,zDQ,zDR,zD4,zBy,zBz,fII,yx,zAC,fEq,xC,xB,wL,zA2,zu,zHJ,zBJ,cM,cE,cG,cy,cz,cD,cF,cA,cB,Nat.reduceSub,Nat.reduceAdd,zHK,zHL,zHM,zHN,zAN,zBa,zBb,if_true,if_false,cC]) <;> (try simp only [zq,zX,zy,xIf,zAr,zx,gN,gNN,zS,zAE,zAM,yB,zA,zH,zI,yD,zn,yS,zC,look,zP,zBL,zBo,zBZ,zDQ,zDR,zD4,zBy,zBz,fII,yx,zAC,fEq,xC,xB,wL,zA2,zu,zHJ,zBJ,cM,cE,cG,cy,cz,cD,cF,cA,cB,Nat.reduceSub,Nat.reduceAdd,zHK,zHL,zHM,zHN,zAN,zBa,zBb,if_true,if_false,cC]))
 refine⟨l,5,rfl,d1.st,by omega,by omega,fun way G2 hway d2=>?_⟩;have d12:=d1.trans d2;have e1:(1:Int)+(r:Int)=((r+1:Nat):Int):=by omega
 ((try dsimp only [zq,zX,zy,xIf,zAr,zx,gN,gNN,zS,zAE,zAM,yB,zA,zH,zI,yD,zn,yS,zC,look,zP,zBL,zBo,zBZ,zDQ,zDR,zD4,zBy,zBz,fII,yx,zAC,fEq,xC,xB,wL,zA2,zu,zHJ,zBJ,cM,cE,cG,cy,cz,cD,cF,cA,cB,Nat.reduceSub,Nat.reduceAdd,zHK,zHL,zHM,zHN,zAN,zBa,zBb,if_true,if_false,cC]) <;> (try simp only [zq,zX,zy,xIf,zAr,zx,gN,gNN,zS,zAE,zAM,yB,zA,zH,zI,yD,zn,yS,zC,look,zP,zBL,zBo,zBZ,zDQ,zDR,zD4,zBy,zBz,fII,yx,zAC,fEq,xC,xB,wL,zA2,zu,zHJ,zBJ,cM,cE,cG,cy,cz,cD,cF,cA,cB,Nat.reduceSub,Nat.reduceAdd,zHK,zHL,zHM,zHN,zAN,zBa,zBb,if_true,if_false,cC]))
 rw[e1];refine⟨r+1,rfl,by omega,fun pl hpl=>?_⟩;have hpl0:G.m pl=none:=by
  have:pl≠l:=d2.st.ne hpl;rw[d12.ne this] at hpl;exact hpl
 have hne:pl≠l:=hs.ne hpl0;have hdr:DrS l G (zQ G2 pl ((yL (r+1)).map yf)):=(DrS.put (x:=(yL (r+1)).map yf) ⟨G2,d12,.refl _⟩ hs hpl0)
 have fin:∀(s:List (Nat×Nat)) (G':Gp),s.Sublist (yL (r+1))->DrS l G G'->FgR R (.tup [.int ((r+1:Nat):Int),.tup (s.map yf)]) G':=fun s G' hsub hd=>hd.fin fun G3 d3=>by
  have:=h (r+1) (fun p=>decide (p∈s)) G3 (by omega) (by omega) d3;rw[zMl hsub] at this;exact this
 have e0:eqD (nD way) (.int 0)=decide (way=0):=by rw[zCE];rw[da];simp
 have e1':eqD (nD way) (.int 1)=decide (way=1):=by rw[zCE];rw[da];simp;omega
 refine⟨rfl,rfl,?_⟩;rw[e0];by_cases w0:way=0
 ·rw[decide_eq_true w0,if_pos rfl]
  refine⟨l,r+1,rfl,hdr.st,by omega,fun ring G3 hring d3=>?_⟩
  ((try dsimp only [zq,zX,zy,xIf,zAr,zx,gN,gNN,zS,zAE,zAM,yB,zA,zH,zI,yD,zn,yS,zC,look,zP,zBL,zBo,zBZ,zDQ,zDR,zD4,zBy,zBz,fII,yx,zAC,fEq,xC,xB,wL,zA2,zu,zHJ,zBJ,cM,cE,cG,cy,cz,cD,cF,cA,cB,Nat.reduceSub,Nat.reduceAdd,zHK,zHL,zHM,zHN,zAN,zBa,zBb,if_true,if_false,cC]) <;> (try simp only [zq,zX,zy,xIf,zAr,zx,gN,gNN,zS,zAE,zAM,yB,zA,zH,zI,yD,zn,yS,zC,look,zP,zBL,zBo,zBZ,zDQ,zDR,zD4,zBy,zBz,fII,yx,zAC,fEq,xC,xB,wL,zA2,zu,zHJ,zBJ,cM,cE,cG,cy,cz,cD,cF,cA,cB,Nat.reduceSub,Nat.reduceAdd,zHK,zHL,zHM,zHN,zAN,zBa,zBb,if_true,if_false,cC]))
  refine⟨r+1,ring,rfl,hring,by omega,?_⟩;exact(hdr.dr d3).fin fun G4 d4=>h _ _ G4 (by omega) (by omega) d4
 ·rw[decide_eq_false w0,if_neg (by simp)]
  refine⟨rfl,rfl,?_⟩;rw[e1'];by_cases w1:way=1
  ·rw[decide_eq_true w1,if_pos rfl]
   refine picked (k:=6) (i0:=0) (n:=r+1) rfl rfl rfl hs hne zJ hdr (fun p G' Q hp hst hQ=>?_) fun s G' hsub hd=>?_
   ·show wL _ _ _ _ _
    unfold yf
    ((try dsimp only [zq,zX,zy,xIf,zAr,zx,gN,gNN,zS,zAE,zAM,yB,zA,zH,zI,yD,zn,yS,zC,look,zP,zBL,zBo,zBZ,zDQ,zDR,zD4,zBy,zBz,fII,yx,zAC,fEq,xC,xB,wL,zA2,zu,zHJ,zBJ,cM,cE,cG,cy,cz,cD,cF,cA,cB,Nat.reduceSub,Nat.reduceAdd,zHK,zHL,zHM,zHN,zAN,zBa,zBb,if_true,if_false,cC]) <;> (try simp only [zq,zX,zy,xIf,zAr,zx,gN,gNN,zS,zAE,zAM,yB,zA,zH,zI,yD,zn,yS,zC,look,zP,zBL,zBo,zBZ,zDQ,zDR,zD4,zBy,zBz,fII,yx,zAC,fEq,xC,xB,wL,zA2,zu,zHJ,zBJ,cM,cE,cG,cy,cz,cD,cF,cA,cB,Nat.reduceSub,Nat.reduceAdd,zHK,zHL,zHM,zHN,zAN,zBa,zBb,if_true,if_false,cC]))
    refine⟨rfl,rfl,?_⟩;cases eqD (nD p.2) (.int ((p.1:Int)+1)) with
    | true=>rw[if_pos rfl];exact hQ true G' (.refl hst)
    | false =>
     rw[if_neg (by simp)];refine⟨l,6,rfl,hst,by omega,by omega,fun x G3 hx d3=>?_⟩;exact⟨rfl,rfl,hQ _ G3 d3⟩
   ·exact fin s G' hsub hd
  ·rw[decide_eq_false w1,if_neg (by simp)]
   intro a ha;have hat:∃ far:Nat,atI [D.int 2,D.int 3,D.int 4] ((way:Int)-2)=some (nD far)/\0<far/\far<=4:=by
    have:way=2\/way=3\/way=4:=by omega
    rcases this with rfl | rfl | rfl
    ·exact⟨2,zCS _ _,by omega,by omega⟩
    ·exact⟨3,zEy _ _ _,by omega,by omega⟩
    ·exact⟨4,zKa _ _ _ _,by omega,by omega⟩
   obtain⟨far,hat,hf1,hf2⟩:=hat;refine zAa zJ hat ?_;have apl:pl≠a:=fun e=>by rw[<-e,zJ] at ha;cases ha
   have ha0:=hdr.own hs ha;refine picked (k:=6) (i0:=0) (n:=r+1) rfl rfl rfl hs hne (by rw[zV apl];exact zJ) (hdr.put hs ha0) (fun p G' Q hp hst hQ=>?_) fun s G' hsub hd=>?_
   ·show xB _ _ _ _
    ((try dsimp only [zq,zX,zy,xIf,zAr,zx,gN,gNN,zS,zAE,zAM,yB,zA,zH,zI,yD,zn,yS,zC,look,zP,zBL,zBo,zBZ,zDQ,zDR,zD4,zBy,zBz,fII,yx,zAC,fEq,xC,xB,wL,zA2,zu,zHJ,zBJ,cM,cE,cG,cy,cz,cD,cF,cA,cB,Nat.reduceSub,Nat.reduceAdd,zHK,zHL,zHM,zHN,zAN,zBa,zBb,if_true,if_false,cC]) <;> (try simp only [zq,zX,zy,xIf,zAr,zx,gN,gNN,zS,zAE,zAM,yB,zA,zH,zI,yD,zn,yS,zC,look,zP,zBL,zBo,zBZ,zDQ,zDR,zD4,zBy,zBz,fII,yx,zAC,fEq,xC,xB,wL,zA2,zu,zHJ,zBJ,cM,cE,cG,cy,cz,cD,cF,cA,cB,Nat.reduceSub,Nat.reduceAdd,zHK,zHL,zHM,zHN,zAN,zBa,zBb,if_true,if_false,cC]))
    refine⟨l,far,rfl,hst,by omega,by omega,fun x G3 hx d3=>?_⟩;exact⟨rfl,rfl,hQ _ G3 d3⟩
   ·exact fin s G' hsub hd
section
variable {σ:S2} {G:Gp}
theorem zGU{x y:D}{ng:Bool}{G:Gp}{R:Q2}(hx:flat 8 x=true)(hy:flat 8 y=true)(q:R (.bl (if ng then !eqD x y else eqD x y)) G):fEq ng x y G R:=by
 cases x with
 | adr _=>simp[flat] at hx
 | _=>exact⟨hx,hy,q⟩
theorem zEH{ta tb:zf}{x y:D}{ng b:Bool}(ha:ze ta σ G x)(hb:ze tb σ G y)(hx:flat 8 x=true)(hy:flat 8 y=true)(e:(if ng then !eqD x y else eqD x y)=b):ze (zS (fEq ng) ta tb) σ G (.bl b) :=
 yk ha hb fun _ _ _ q=>zGU hx hy (by rw[e];exact q)
theorem zEI{T:String}{t:zf}{d:D}{b:Bool}(h:ze t σ G d)(hd:∀ l,d≠.adr l)(hi:zEv d T=b):ze (zBY T t) σ G (.bl b):=fun G2 e R q=>h G2 e _ (by
 subst hi;cases d with
 | adr l=>exact absurd rfl (hd l)
 | _=>exact q)
theorem zK4{T:String}{t:zf}{d:D}(h:ze t σ G d)(hi:zEv d T=true):ze (zBY T t) σ G (.bl true):=zEI h (fun l z=>by subst z;cases hi) hi
theorem zOw{t u:TT2}(h:PuT t σ G false)(h':PuT u σ G false):PuT (wL t u) σ G false:=zAu h fun _=>h'
theorem zMn{T:String}{t:zf}{d:D}(h:ze t σ G d)(hi:zEv d T=true):PuT (zu (xB (zBY T t))) σ G false:=zw (yz (zK4 h hi))
theorem zK5{tc:TT2}{t u:wP}{E:yr}(h:PuT tc σ G false)(h':u E σ G):xIf tc t u E σ G:=h G (.refl G) _ (by rw[if_neg (by simp)];exact h')
theorem zP6{f:D->D->Gp->Q2->Prop}{ta tb:zf}{x:D}{R:Q2}(h:ze ta σ G x)(h':tb σ G fun y G2=>f x y G2 R):zS f ta tb σ G R:=h G (.refl G) _ h'
theorem yu{tc:TT2}{t u:wP}{E:yr}(h:PuT tc σ G false)(h':u E σ G):zX (xIf tc t zx) u E σ G:=h G (.refl G) _ (by rw[if_neg (by simp)];exact h')
theorem zAI{te:zf}{E:yr}{d:D}(h:ze te σ G d)(h':E.rt d G):zq te E σ G:=h G (.refl G) _ h'
theorem yh{te:zf}{g:TG2}{u:wP}{E:yr}(h:te σ G fun d G1=>g d σ G1 fun σ' G'=>u E σ' G'):zX (zy te g) u E σ G:=h
theorem zBF{sp:wU}{t:wE}{ds:List D}{R:Q2}(h:PuA t σ G ds)(h':sp ds G R):zI sp t σ G R:=h G (.refl G) _ h'
theorem zBe{ta:zf}{tr:wE}{d:D}{R:List D->Gp->Prop}(h:ze ta σ G d)(h':tr σ G fun xs G2=>R (d::xs) G2):zA ta tr σ G R:=h G (.refl G) _ h'
theorem zB2{ta:zf}{tr:wE}{R:List D->Gp->Prop}(h:ta σ G fun d G1=>tr σ G1 fun xs G2=>R (d::xs) G2):zA ta tr σ G R:=h
theorem zK6{sp:wU}{t:wE}{R:Q2}(h:t σ G fun ds G1=>sp ds G1 R):zI sp t σ G R:=h
theorem zAy{tl:TL2}{ds:List D}{R:Q2}(h:PuL tl σ G ds)(h':∀ l,G.m l=none->R (.adr l) (zQ G l ds)):yB tl σ G R:=h G (.refl G) _ h'
theorem zCI{te:zf}{g:TG2}{u:wP}{E:yr}{d:D}(h:ze te σ G d)(h':g d σ G fun σ' G'=>u E σ' G'):zX (zy te g) u E σ G:=h G (.refl G) _ h'
theorem _root_.L3.Dr.new{l:Addr}{G G':Gp}{x:List D}(h:Dr l (zQ G l x) G')(n:G.m l=none):Ext G G':=by
 obtain⟨s,b,rfl,_⟩:=h;rw[zBI];exact .new n
end
theorem zJP{σ:S2}{G:Gp}{a:Addr}{ns:List Int}{c:Int}(hc:1<=c/\c<=100)(h:look σ 0=some (.adr a))(ha:Ls G a (ns.map D.int)) :
  ∃ m:Nat,PuI (iR1 (zA (zI zBo (zA (xC (.int 1)) (zA (zI zBL (zA (zI yG (zA (zC 0) zH)) (zA (xC (.int c)) zH))) zH))) zH)) σ G ((cH m).map nD):=by
 have h1:ze (zI yG (zA (zC 0) zH)) σ G (.int (ns.length:Int)):=zZ (zF (zG h) zN) fun G2 e R q=>⟨ns.map D.int,e.ls ha,by rw[cI];exact q⟩
 have h2:ze (zI zBL (zA (zI yG (zA (zC 0) zH)) (zA (xC (.int c)) zH))) σ G (.int (if c<(ns.length:Int) then c else ns.length)):=zZ (zF h1 (zF zY zN)) fun _ _ _ q=>q;have h3:ze (zI zBo (zA (xC (.int 1)) (zA (zI zBL (zA (zI yG (zA (zC 0) zH)) (zA (xC (.int c)) zH))) zH))) σ G (.int (if (if c<(ns.length:Int) then c else ns.length)>1 then (if c<(ns.length:Int) then c else ns.length) else 1)):=zZ (zF zY (zF h2 zN)) fun _ _ _ q=>q;have hb:(if (if c<(ns.length:Int) then c else ns.length)>1 then (if c<(ns.length:Int) then c else (ns.length:Int)) else 1)<=100/\1<=(if (if c<(ns.length:Int) then c else ns.length)>1 then (if c<(ns.length:Int) then c else (ns.length:Int)) else 1):=by
  split<;>split<;>omega
 generalize (if (if c<(ns.length:Int) then c else ns.length)>1 then (if c<(ns.length:Int) then c else (ns.length:Int)) else 1)=m at h3 hb;refine⟨m.toNat,?_⟩;have:(m.toNat:Int)=m:=by omega
 have q:=zCC (zF h3 zN) (by omega);rw[<-this,zCF] at q;exact q
theorem zJQ{a:Addr}{G:Gp}{σ:S2}{k:Nat}{ns:List Int}{i j:Nat}(hs:look σ i=some (.adr a))(hk:look σ j=some (nD k))(ha:Ls G a (ns.map D.int)){R:Q2}(h:∀ l s b,G.m l=none->OkS s b->R (.adr l) (zQ G l [.int s,.bl b])):yB (yD yn (zA (zC i) (zA (zC j) zH))) σ G R:=by
 unfold yB yD zA zH zC;simp only[hs,hk];exact⟨a,ns,k,rfl,ha,fun s b o l hl=>h l s b hl o⟩
theorem zJR{a:Addr}{G:Gp}{σ:S2}{k x:Nat}{ns:List Int}{i j:Nat}{u:wP}{E:yr}(hs:look σ i=some (.adr a))(hk:look σ j=some (nD k))(ha:Ls G a (ns.map D.int))(h:∀ l s b,G.m l=none->OkS s b->u E (σ.set x (some (.adr l))) (zQ G l [.int s,.bl b])) :
  zX (zy (yB (yD yn (zA (zC i) (zA (zC j) zH)))) (gN x)) u E σ G:=by
 have:=zJQ (σ:=σ) (G:=G) (R:=fun d G1=>gN x d σ G1 (u E)) hs hk ha fun l s b hl ok=>h l s b hl ok;exact this
theorem zHV{σ:S2}{G:Gp}{t:zf}{ds:List D}(h:ze t σ G (.tup ds)):ze (zI yG (zA t zH)) σ G (nD ds.length):=zZ (zF h zN) fun _ _ _ q=>⟨ds,rfl,q⟩
theorem zDI(i j:Nat):eqD (nD i) (nD j)=decide (i=j):=by rw[zCE,da];simp;omega
theorem zP7{σ:S2}{G:Gp}{sp:wU}{to:zf}{t:wE}{xs:List D}{ds:List D}{d:D}(h:ze to σ G (.tup xs))(ha:PuA t σ G ds)(hs:∀ G2,Ext G G2->∀ R:Q2,R d G2->sp (.tup xs::ds) G2 R):ze (xMt sp to t) σ G d:=fun G2 e R q=>h G2 e _ ⟨⟨xs,rfl⟩,ha G2 e _ (hs G2 e R q)⟩
theorem zQk{σ:S2}{G:Gp}{t:TL2}{R:List D->(Gp->Prop)->Gp->Prop}(h:t σ G fun ds G1=>∀ a,G1.m a=none->R ds (fun G=>Ls G a ds) (zQ G1 a ds)):iF t σ G R:=h
theorem zCu{σ:S2}{G:Gp}{t:wE}{R:List D->Gp->Prop}(h:t σ G fun ds G1=>ds.length<=sizeLine/\R ds G1):zAM t σ G R:=h
theorem zBq{σ:S2}{G:Gp}{R:List D->Gp->Prop}(h:R [] G):zH σ G R:=h
noncomputable def yU:D->Bool
 | .int _=>true
 | _=>false
noncomputable def zh:wU:=fun ds G R=>∃ d,ds=[d]/\(((∀ l,d≠.adr l)/\R (.bl (yU d)) G)\/∃ l es,d=.adr l/\Ls G l es/\R (.bl false) G)
noncomputable def zA4:wP:=(zq (zGB (zBY "int" (zC 0)) (zOY (zBY "bool" (zC 0)))))
theorem zGV(ds:List D)(G:Gp)(R:Q2)(h:zh ds G R):ds.length=1/\zA4 (zg R) (zP ["thing"] ds) G:=by
 obtain⟨d,rfl,h⟩:=h;refine⟨rfl,?_⟩;unfold zA4 zq zGB zOY zBY zC;rcases h with ⟨hd,h⟩ | ⟨l,es,rfl,hl,h⟩
 ·cases d with
  | adr l=>exact absurd rfl (hd l)
  | _=>exact .of h
 ·refine⟨⟨es,hl⟩,?_⟩
  exact .of h
theorem zE3{σ:S2}{G:Gp}{f g:Int->Int->Bool}{ta tb tc:zf}{i j k:Int}(ha:ze ta σ G (.int i))(hb:ze tb σ G (.int j))(hc:ze tc σ G (.int k)):ze (zCD (fII fun i j=>.bl (f i j)) (fII fun i j=>.bl (g i j)) ta tb tc) σ G (.bl (f i j&&g j k)):=fun G2 e R q=>ha G2 e _ (hb G2 e _ (by
 show if f i j=true then _ else _;cases hf:f i j with
 | true=>rw[if_pos rfl];rw[hf] at q;exact hc G2 e _ q
 | false=>rw[if_neg (by simp)];rw[hf] at q;exact q))
theorem zJS{σ:S2}{G:Gp}{f g h:Int->Int->Bool}{ta tb tc td:zf}{i j k l:Int}(ha:ze ta σ G (.int i))(hb:ze tb σ G (.int j))(hc:ze tc σ G (.int k))(hd:ze td σ G (.int l)):ze (zCn (fII fun i j=>.bl (f i j)) (fII fun i j=>.bl (g i j)) (fII fun i j=>.bl (h i j)) ta tb tc td) σ G (.bl (f i j&&(g j k&&h k l))):=fun G2 e R q=>ha G2 e _ (hb G2 e _ (by
 show if f i j=true then _ else _;cases hf:f i j with
 | true =>
  rw[if_pos rfl];rw[hf] at q;refine hc G2 e _ ?_;show if g j k=true then _ else _;cases hg:g j k with
  | true=>rw[if_pos rfl];rw[hg] at q;exact hd G2 e _ q
  | false=>rw[if_neg (by simp)];rw[hg] at q;exact q
 | false=>rw[if_neg (by simp)];rw[hf] at q;exact q))
theorem zFc{σ:S2}{G:Gp}{tl:TL2}{bs:List Bool}(h:PuL tl σ G (bs.map D.bl)):ze (zn zGL tl) σ G (.bl (bs.all id)):=fun G2 e R q=>h G2 e _ ⟨bs,rfl,q⟩
theorem zOx{σ:S2}{G:Gp}{t u:zf}{l:List (Nat×Nat)}{i:Int}{k:Nat}(h:ze t σ G (.tup (l.map yf)))(h':ze u σ G (.int i))(hi:i=(k:Int))(hk:k<l.length):ze (zS ye t u) σ G (yf l[k]):=yk h h' fun _ _ _ q=>by
 have e:atI (l.map yf) i=some (yf l[k]):=by rw[hi];exact yP (by simp[hk])
 simp only[ye,e];exact q
theorem zHW{σ:S2}{G:Gp}{ta tb:zf}{b:Bool}(ha:ze ta σ G (.bl true))(hb:ze tb σ G (.bl b)):ze (zGB ta tb) σ G (.bl b):=fun G2 e R q=>ha G2 e _ (by
 show if true=true then _ else _;rw[if_pos rfl];exact hb G2 e _ q)
theorem zB3{σ:S2}{G:Gp}{t u:zf}{l:Addr}{ds:List D}{k:Int}{d:D}(h:ze t σ G (.adr l))(h':ze u σ G (.int k))(hl:Ls G l ds)(e:atI ds k=some d):ze (zS ye t u) σ G d:=yk h h' fun G2 e2 R q=>⟨ds,d,e2.ls hl,e,q⟩
theorem zMo{σ:S2}{G:Gp}{ta tb:zf}{a b:Bool}(ha:ze ta σ G (.bl a))(hb:a=true->ze tb σ G (.bl b)):ze (zGB ta tb) σ G (.bl (a&&b)):=by
 cases a with
 | true=>exact zHW ha (hb rfl)
 | false=>exact fun G2 e R q=>ha G2 e _ (by show if false=true then _ else _;rw[if_neg (by simp)];exact q)
theorem zA5{σ:S2}{G:Gp}{tc:TT2}{u:wP}{E:yr}{b:Bool}{te:zf}(h:PuT tc σ G b)(hy:b=true->zq te E σ G)(hn:b=false->u E σ G):zX (xIf tc (zq te) zx) u E σ G:=by
 cases b with
 | false=>exact yu h (hn rfl)
 | true=>exact h G (.refl G) _ (by rw[if_pos rfl];exact hy rfl)
theorem zDS{σ:S2}{G:Gp}{tl:TL2}{R:Q2}(h:tl σ G fun ds G1=>∀ l,G1.m l=none->R (.adr l) (zQ G1 l ds)):yB tl σ G R:=h
theorem zHX{σ:S2}{G:Gp}{f:D->D->Gp->Q2->Prop}{ta tb:zf}{R:Q2}(h:ta σ G fun x G1=>tb σ G1 fun y G2=>f x y G2 R):zS f ta tb σ G R:=h
theorem zMp{σ:S2}{G:Gp}{t:zf}{l:Addr}{es:List D}(h:ze t σ G (.adr l))(hl:Ls G l es):ze (zBY "tuple" t) σ G (.bl false):=fun G2 e R q=>h G2 e _ ⟨⟨es,e.ls hl⟩,q⟩
theorem zMq{α:Type}{xs:List α}(f:α->Bool):(xs.map fun d=>D.bl (f d))=(xs.map f).map D.bl:=by rw[cX];rfl
end K
namespace K
open L2 L3 HS
noncomputable def Lk(G:Gp)(d:D):Prop:=∀ a,d=.adr a->∃ es,Ls G a es
noncomputable def Wg(G:Gp):Nat->D->Prop
 | 0,d=>Lk G d
 | n+1,d=>Lk G d/\∀ xs,d=.tup xs->∀ x∈xs,Wg G n x
theorem Wg.lk{G:Gp}{n:Nat}{d:D}(h:Wg G n d):Lk G d:=by
 cases n with
 | zero=>exact h
 | succ n=>exact h.1
theorem Wg.at{G:Gp}{n:Nat}{xs:List D}(h:Wg G (n+1) (.tup xs)){x:D}(hx:x∈xs):Wg G n x:=h.2 xs rfl x hx
theorem Lk.ext{G G':Gp}{d:D}(h:Lk G d)(e:Ext G G'):Lk G' d:=fun a ha=>by
 obtain⟨es,q⟩:=h a ha;exact⟨es,e.ls q⟩
theorem Wg.ext{G G':Gp}:∀ {n:Nat} {d:D},Wg G n d->Ext G G'->Wg G' n d
 | 0,d,h,e=>Lk.ext h e
 | n+1,d,h,e=>⟨h.1.ext e,fun xs hx x hm=>(h.2 xs hx x hm).ext e⟩
theorem Lk.not{G:Gp}{d:D}(h:∀ a,d≠.adr a):Lk G d:=fun a ha=>absurd ha (h a)
theorem Wg.of{G:Gp}{n:Nat}{d:D}(h:∀ a,d≠.adr a)(h':∀ xs,d≠.tup xs):Wg G n d:=by
 cases n with
 | zero=>exact .not h
 | succ n=>exact⟨.not h,fun xs hx=>absurd hx (h' xs)⟩
theorem Wg.tup{G:Gp}{n:Nat}{xs:List D}(h:∀ x∈xs,Wg G n x):Wg G (n+1) (.tup xs):=⟨.not fun a z=>(by cases z),fun ys e x hx=>by cases e;exact h x hx⟩
noncomputable def zMr:D->Bool
 | .tup _=>true
 | _=>false
theorem zFd{σ:S2}{G:Gp}{t:zf}{d:D}(h:ze t σ G d)(hl:Lk G d):ze (zBY "tuple" t) σ G (.bl (zMr d)):=by
 cases d with
 | adr a =>
  obtain⟨es,q⟩:=hl a rfl;exact zMp h q
 | tup xs=>exact zK4 h rfl
 | _=>exact zEI h (fun l z=>by cases z) rfl
theorem zFe{σ:S2}{G:Gp}{t:zf}{d:D}(h:ze t σ G d)(hl:Lk G d):ze (zI zh (zA t zH)) σ G (.bl (yU d)):=by
 cases d with
 | adr a =>
  obtain⟨es,q⟩:=hl a rfl;exact zZ (zF h zN) fun _ e _ q'=>⟨_,rfl,.inr ⟨a,es,rfl,e.ls q,q'⟩⟩
 | _=>exact zZ (zF h zN) fun _ e _ q'=>⟨_,rfl,.inl ⟨fun l z=>(by cases z),q'⟩⟩
noncomputable def chB(n:Nat):D->D->Bool
 | .int a,.int b=>decide (0<=a)&&(decide (a<b)&&decide (b<(n:Int)))
 | _,_=>false
noncomputable def zEJ(n:Nat):D->Bool
 | .tup [x,y]=>chB n x y
 | _=>false
theorem zMs{n:Nat}{x y:D}(h:chB n x y=true):∃ p:Nat×Nat,D.tup [x,y]=yf p/\p∈yL n:=by
 cases x with
 | int a =>
  cases y with
  | int b =>
   simp only[chB,di,decide_eq_true_eq] at h;refine⟨(a.toNat,b.toNat),?_,zCr.mpr ⟨by dsimp only;omega,by dsimp only;omega⟩⟩;unfold yf nD;rw[Int.toNat_of_nonneg (by omega),Int.toNat_of_nonneg (by omega)]
  | _=>cases h
 | _=>cases h
theorem zMt{n:Nat}{d:D}(h:zEJ n d=true):∃ p:Nat×Nat,d=yf p/\p∈yL n:=by
 unfold zEJ at h;split at h
 ·exact zMs h
 ·cases h
theorem zMu{n:Nat}{p:Nat×Nat}(h:p∈yL n):zEJ n (yf p)=true:=by
 obtain⟨h1,h2⟩:=zCr.mp h;show(decide ((0:Int)<=(p.1:Int))&&(decide ((p.1:Int)<(p.2:Int))&&decide ((p.2:Int)<(n:Int))))=true;rw[decide_eq_true (by omega),decide_eq_true (by omega),decide_eq_true (by omega)];rfl
theorem zHY{σ:S2}{G:Gp}{t:zf}{x:D}{r:List D}(h:ze t σ G (.tup (x::r))):ze (zS ye t (xC (.int 0))) σ G x:=yk h zY fun _ _ _ q=>by simp only[ye,zCS];exact q
theorem zHZ{σ:S2}{G:Gp}{t:zf}{x y:D}{r:List D}(h:ze t σ G (.tup (x::y::r))):ze (zS ye t (xC (.int 1))) σ G y:=yk h zY fun _ _ _ q=>by simp only[ye,zEy];exact q
theorem zP8{σ:S2}{G:Gp}{ta tb tc:zf}{x y:D}{n:Nat}(ha:ze ta σ G x)(hb:ze tb σ G y)(hc:ze tc σ G (nD n))(hx:yU x=true)(hy:yU y=true):ze (zCn (fII fun i j=>.bl (decide (i<=j))) (fII fun i j=>.bl (decide (i<j))) (fII fun i j=>.bl (decide (i<j))) (xC (.int 0)) ta tb tc) σ G (.bl (chB n x y)):=by
 cases x with
 | int a =>
  cases y with
  | int b=>exact zJS (f:=fun i j=>decide (i<=j)) (g:=fun i j=>decide (i<j)) (h:=fun i j=>decide (i<j)) (zY (d:=.int 0)) ha hb hc
  | _=>cases hy
 | _=>cases hx
noncomputable def zDT:D->Bool
 | .tup [_,_]=>true
 | _=>false
theorem zGW{σ:S2}{G:Gp}{t:zf}{d:D}(h:ze t σ G d)(hl:Lk G d):PuT (wL (zu (xB (zBY "tuple" t))) (xB (zS (fEq true) (zI yG (zA t zH)) (xC (.int 2))))) σ G (!zDT d):=by
 cases d with
 | tup xs =>
  have:=zAu (zw (yz (zFd h hl))) fun _=>yz (zEH (ng:=true) (x:=nD xs.length) (y:=.int 2) (b:=!decide (xs.length=2)) (zHV h) zY rfl rfl (by rw[if_pos rfl];congr 1;exact zDI _ 2));have e:(!zMr (.tup xs)||!decide (xs.length=2))=!zDT (.tup xs):=by
   match xs with
   | []=>rfl
   | [_]=>rfl
   | [_,_]=>rfl
   | _::_::_::r=>simp[zMr,zDT]
  rw[<-e];exact this
 | _=>exact zAu (c:=true) (zw (yz (zFd h hl))) fun z=>by cases z
theorem zIR{d:D}(h:zDT d=true):∃ x y,d=.tup [x,y]:=by
 unfold zDT at h;split at h
 ·exact⟨_,_,rfl⟩
 ·cases h
theorem zOy{n:Nat}{d:D}(h:zDT d=false):zEJ n d=false:=by
 unfold zEJ;split
 ·cases h
 ·rfl
theorem zP9{n:Nat}{x y:D}(h:(yU x&&yU y)=false):chB n x y=false:=by
 unfold chB;split
 ·cases h
 ·rfl
noncomputable def wF:wU:=fun ds G R=>∃(n:Nat) (d:D),ds=[nD n,d]/\Wg G 1 d/\R (.bl (zEJ n d)) G
noncomputable def zCJ:wP:=(zX (xIf (wL (zu (xB (zBY "tuple" (zC 1)))) (xB (zS (fEq true) (zI yG (zA (zC 1) zH)) (xC (.int 2))))) (zq (xC (.bl false))) zx) (zX (xIf (wL (zu (xB (zI zh (zA (zS ye (zC 1) (xC (.int 0))) zH)))) (zu (xB (zI zh (zA (zS ye (zC 1) (xC (.int 1))) zH))))) (zq (xC (.bl false))) zx) (zq (zCn (fII fun i j=>.bl (decide (i<=j))) (fII fun i j=>.bl (decide (i<j))) (fII fun i j=>.bl (decide (i<j))) (xC (.int 0)) (zS ye (zC 1) (xC (.int 0))) (zS ye (zC 1) (xC (.int 1))) (zC 0)))))
theorem zJT(ds:List D)(G:Gp)(R:Q2)(h:wF ds G R):ds.length=2/\zCJ (zg R) (zP ["many","thing"] ds) G:=by
 obtain⟨n,d,rfl,hw,h⟩:=h;refine⟨rfl,?_⟩;unfold zCJ;rw[show zP ["many","thing"] [nD n,d]=[some (nD n),some d] from rfl];refine zA5 (zGW (d:=d) (zG rfl) hw.lk) (fun hb=>?_) fun hb=>?_
 ·rw[zOy (by simpa using hb)] at h
  exact zAI zY (.of h)
 obtain⟨x,y,rfl⟩:=zIR (show zDT d=true by simpa using hb);have v:ze (zC 1) [some (nD n),some (.tup [x,y])] G (.tup [x,y]):=zG rfl;have wx:Lk G x:=(hw.at (x:=x) (by simp)).lk;have wy:Lk G y:=(hw.at (x:=y) (by simp)).lk;have t:PuT (wL (zu (xB (zI zh (zA (zS ye (zC 1) (xC (.int 0))) zH)))) (zu (xB (zI zh (zA (zS ye (zC 1) (xC (.int 1))) zH))))) [some (nD n),some (.tup [x,y])] G (!yU x||!yU y):=zAu (zw (yz (zFe (zHY v) wx))) fun _=>zw (yz (zFe (zHZ v) wy));refine zA5 t (fun hb=>?_) fun hb=>?_
 ·have:zEJ n (.tup [x,y])=false:=zP9 (by cases hx:yU x<;>cases hy:yU y<;>simp_all)
  rw[this] at h;exact zAI zY (.of h)
 ·have hxy:yU x=true/\yU y=true:=by cases hx:yU x<;>cases hy:yU y<;>simp_all
  exact zAI (zP8 (zHY v) (zHZ v) (zG rfl) hxy.1 hxy.2) (.of h)
noncomputable def prJ(p:Nat×Nat):List Int:=[(p.1:Int),(p.2:Int)]
noncomputable def zDJ(l:List (Nat×Nat)):Bool:=(cH (l.length-1)).all fun k=>HT.lexLt (prJ (l.getD k (0,0))) (prJ (l.getD (k+1) (0,0)))
theorem zNo(p:Nat×Nat):yf p=.tup ((prJ p).map D.int):=rfl
noncomputable def wY:wU:=fun ds G R=>∃ l:List (Nat×Nat),ds=[.tup (l.map yf)]/\l.length<=1000/\R (.bl (zDJ l)) G
noncomputable def zAg:wP:=(zq (zn zGL (zo (iR1 (zA (zS (fII fun i j=>.int (i-j)) (zI yG (zA (zC 0) zH)) (xC (.int 1))) zH)) bd1 wV (zS zMW (zS ye (zC 0) (zC 1)) (zS ye (zC 0) (zS zAC (zC 1) (xC (.int 1))))))))
theorem zFf(ds:List D)(G:Gp)(R:Q2)(h:wY ds G R):ds.length=1/\zAg (zg R) (zP ["things"] ds) G:=by
 obtain⟨l,rfl,hl,h⟩:=h;refine⟨rfl,?_⟩;unfold zAg;have rg:PuI (iR1 (zA (zS (fII fun i j=>.int (i-j)) (zI yG (zA (zC 0) zH)) (xC (.int 1))) zH)) (zP ["things"] [.tup (l.map yf)]) G ((cH (l.length-1)).map nD):=by
  have:=zCC (zF (zIC (g:=fun i j=>.int (i-j)) (zHV (ds:=l.map yf) (zG (σ:=zP ["things"] [.tup (l.map yf)]) (G:=G) (i:=0) rfl)) (zY (d:=.int 1))) zN) (by rw[cI];omega);rw[show(((l.map yf).length:Int)-1).toNat=((l.length-1:Nat):Int).toNat by rw[cI];omega,zCF] at this;exact this
 have gd:∀ k,k<l.length->(l.getD k (0,0))=l[k]!:=fun k hk=>by simp[eN,hk]
 have m:=zAY (bd:=bd1) (te:=(zS zMW (zS ye (zC 0) (zC 1)) (zS ye (zC 0) (zS zAC (zC 1) (xC (.int 1)))))) (fun d=>match d with | .int v=>.bl (HT.lexLt (prJ (l.getD v.toNat (0,0))) (prJ (l.getD (v.toNat+1) (0,0)))) | _=>.non) (fun d=>[d]) rg fun x hx=>by
  obtain⟨k,hk,rfl⟩:=cQ.mp hx;have hk':=cV.mp hk;refine⟨rfl,?_⟩;have ix:∀ {t:zf} {i:Nat},ze t (zP ["things"] [.tup (l.map yf)]++[nD k].map some) G (nD i)->i<l.length->ze (zS ye (zC 0) t) (zP ["things"] [.tup (l.map yf)]++[nD k].map some) G (yf (l.getD i (0,0))):=fun {t i} ht hi=>by
   have:=zOx (l:=l) (k:=i) (zG (σ:=zP ["things"] [.tup (l.map yf)]++[nD k].map some) (G:=G) (i:=0) rfl) ht rfl hi;rw[show l.getD i (0,0)=l[i] by simp[eN,hi]];exact this
  have ad:ze (zS zAC (zC 1) (xC (.int 1))) (zP ["things"] [.tup (l.map yf)]++[nD k].map some) G (nD (k+1)):=by
   have:=zOv (σ:=zP ["things"] [.tup (l.map yf)]++[nD k].map some) (G:=G) (i:=(k:Int)) (j:=1) (zG (i:=1) rfl) zY;rwa [show(k:Int)+1=((k+1:Nat):Int) by omega] at this
  exact yk (ix (zG (i:=1) rfl) (by omega)) (ix ad (by omega)) fun _ _ _ q=>⟨_,_,zNo _,zNo _,q⟩
 have e:cM (fun d=>match d with | .int v=>D.bl (HT.lexLt (prJ (l.getD v.toNat (0,0))) (prJ (l.getD (v.toNat+1) (0,0)))) | _=>.non) ((cH (l.length-1)).map nD)=((cH (l.length-1)).map fun k=>HT.lexLt (prJ (l.getD k (0,0))) (prJ (l.getD (k+1) (0,0)))).map D.bl:=by
  rw[cX,cX];rfl
 rw[e] at m;have a:=zFc m;rw[List.all_map] at a;exact zAI a (.of h)
noncomputable def IsW(d:D)(n:Nat)(l:List (Nat×Nat)):Prop:=d=.tup [nD n,.tup (l.map yf)]/\1<=n/\n<=9/\(∀ p∈l,p∈yL n)/\l.length<=60
noncomputable def sm2(d:D):Prop:=∀ m xs,d=.tup [m,.tup xs]->xs.length<=60
theorem zIS{n:Nat}:∀ {xs:List D},xs.all (zEJ n)=true->∃ l:List (Nat×Nat),xs=l.map yf/\∀ p∈l,p∈yL n
 | [],_=>⟨[],rfl,fun p hp=>by cases hp⟩
 | d::xs,h=>by
  rw[List.all_cons,di] at h;obtain⟨l,rfl,hl⟩:=zIS h.2;obtain⟨p,rfl,hp⟩:=zMt h.1;exact⟨p::l,rfl,fun q hq=>by rcases db.mp hq with rfl | hq;exact hp;exact hl q hq⟩
theorem zK7{n:Nat}{l:List (Nat×Nat)}(h:∀ p∈l,p∈yL n):(l.map yf).all (zEJ n)=true:=by
 rw[List.all_map,dF];intro p hp;exact zMu (h p hp)
noncomputable def wG:wU:=fun ds G R=>∃ d,ds=[d]/\Wg G 3 d/\sm2 d/\((∃ n l,IsW d n l/\R (.bl (zDJ l)) G)\/((∀ n l,¬ IsW d n l)/\R (.bl false) G))
noncomputable def zCK:wP:=(zX (xIf (wL (zu (xB (zBY "tuple" (zC 0)))) (xB (zS (fEq true) (zI yG (zA (zC 0) zH)) (xC (.int 2))))) (zq (xC (.bl false))) zx) (zX (zy (zS ye (zC 0) (xC (.int 0))) (gN 1)) (zX (zy (zS ye (zC 0) (xC (.int 1))) (gN 2)) (zX (xIf (wL (zu (xB (zI zh (zA (zC 1) zH)))) (zu (xB (zCD (fII fun i j=>.bl (decide (i<=j))) (fII fun i j=>.bl (decide (i<=j))) (xC (.int 1)) (zC 1) (xC (.int 9)))))) (zq (xC (.bl false))) zx) (zX (xIf (zu (xB (zBY "tuple" (zC 2)))) (zq (xC (.bl false))) zx) (zq (zGB (zn zGL (zo (iV (zC 2)) bd1 wV (zI wF (zA (zC 1) (zA (zC 3) zH))))) (zI wY (zA (zC 2) zH)))))))))
noncomputable def zK8:D->Bool
 | .int x=>decide (1<=x)&&decide (x<=9)
 | _=>false
theorem zMv{d:D}(h:zK8 d=true):∃ n:Nat,d=nD n/\1<=n/\n<=9:=by
 cases d with
 | int x =>
  simp only[zK8,di,decide_eq_true_eq] at h;refine⟨x.toNat,?_,by omega,by omega⟩;show D.int x=D.int _;congr 1;omega
 | _=>cases h
theorem zMw{n:Nat}(h1:1<=n)(h9:n<=9):zK8 (nD n)=true:=by
 show(decide ((1:Int)<=(n:Int))&&decide ((n:Int)<=9))=true;rw[decide_eq_true (by omega),decide_eq_true (by omega)];rfl
theorem zFg{m n:Nat}(h:nD m=nD n):m=n:=by
 have:(m:Int)=n:=D.int.inj h;omega
theorem zOz{σ:S2}{G:Gp}{t:zf}{m:D}{sp:wU}(hsp:sp=zh)(v1:ze t σ G m)(wm:Lk G m):PuT (wL (zu (xB (zI sp (zA t zH)))) (zu (xB (zCD (fII fun i j=>.bl (decide (i<=j))) (fII fun i j=>.bl (decide (i<=j))) (xC (.int 1)) t (xC (.int 9)))))) σ G (!zK8 m):=by
 subst hsp;have nb:=zFe v1 wm;cases m with
 | int x =>
  have ch:=zE3 (f:=fun i j=>decide (i<=j)) (g:=fun i j=>decide (i<=j)) (zY (d:=.int 1)) v1 (zY (d:=.int 9));exact zAu (b:=false) (zw (b:=true) (yz nb)) fun _=>zw (yz ch)
 | _=>exact zAu (b:=true) (c:=true) (zw (b:=false) (yz nb)) fun z=>by cases z
theorem zJU(ds:List D)(G:Gp)(R:Q2)(h:wG ds G R):ds.length=1/\zCK (zg R) (zP ["thing","many","ties"] ds) G:=by
 obtain⟨d,rfl,hw,hsm,h⟩:=h;refine⟨rfl,?_⟩;have no:(∀ n l,¬ IsW d n l)->R (.bl false) G:=fun hn=>by
  rcases h with ⟨n,l,hl,_⟩ | ⟨_,h⟩
  ·exact absurd hl (hn n l)
  ·exact h
 unfold zCK;rw[show zP ["thing","many","ties"] [d]=[some d,none,none] from rfl];refine zA5 (zGW (d:=d) (zG rfl) hw.lk) (fun hb=>?_) fun hb=>?_
 ·exact zAI zY (.of (no fun n l hl=>by rw[hl.1] at hb;cases hb))
 obtain⟨m,t,rfl⟩:=zIR (show zDT d=true by simpa using hb);have wm:Lk G m:=(hw.at (x:=m) (by simp)).lk;have wt:Wg G 2 t:=hw.at (by simp);refine zCI (zHY (zG rfl)) ?_;simp only[gN,cz,cy];refine zCI (zHZ (zG rfl)) ?_;simp only[gN,cz,cy];refine zA5 (zOz rfl (zG rfl) wm) (fun hb=>?_) fun hb=>?_
 ·refine zAI zY (.of (no fun n l hl=>?_))
  have e:=hl.1;simp only[D.tup.injEq,List.cons.injEq,and_true] at e;rw[e.1,zMw hl.2.1 hl.2.2.1] at hb;cases hb
 obtain⟨n,rfl,h1,h9⟩:=zMv (show zK8 m=true by simpa using hb);have tt:PuT (zu (xB (zBY "tuple" (zC 2)))) [some (.tup [nD n,t]),some (nD n),some t] G (!zMr t):=zw (yz (zFd (zG rfl) wt.lk));refine zA5 tt (fun hb=>?_) fun hb=>?_
 ·refine zAI zY (.of (no fun n l hl=>?_))
  have e:=hl.1;simp only[D.tup.injEq,List.cons.injEq,and_true] at e;rw[e.2] at hb;cases hb
 cases t with
 | tup xs =>
  have hlen:=hsm _ xs rfl;have m:=zAY (σ:=[some (.tup [nD n,.tup xs]),some (nD n),some (.tup xs)]) (G:=G) (bd:=bd1) (te:=zI wF (zA (zC 1) (zA (zC 3) zH))) (fun d=>.bl (zEJ n d)) (fun d=>[d]) (zBM (zG (i:=2) (d:=.tup xs) rfl)) fun x hx=>⟨rfl,zZ (zF (zG (d:=nD n) rfl) (zF (zG (d:=x) rfl) zN)) fun _ e _ q=>⟨n,x,rfl,(wt.at hx).ext e,q⟩⟩
  rw[zMq] at m;have a:=zFc m;rw[List.all_map] at a;cases ha:xs.all (zEJ n) with
  | true =>
   obtain⟨l,rfl,hl⟩:=zIS ha;have a':ze (zn zGL (zo (iV (zC 2)) bd1 wV (zI wF (zA (zC 1) (zA (zC 3) zH))))) [some (.tup [nD n,.tup (l.map yf)]),some (nD n),some (.tup (l.map yf))] G (.bl true):=by rw[<-ha];exact a
   rw[cI] at hlen;refine zAI (zHW a' (zZ (zF (zG rfl) zN) fun _ _ _ q=>⟨l,rfl,by omega,q⟩)) (.of ?_);rcases h with ⟨n',l',hw',h⟩ | ⟨hn,_⟩
   ·have e:=hw'.1
    simp only[D.tup.injEq,List.cons.injEq,and_true] at e;have el:l=l':=by
     have:(l.map yf).map zEC=(l'.map yf).map zEC:=by rw[e.2]
     rw[cX,cX] at this;have ei:zEC∘yf=id:=funext fun p=>by simp only[Function.comp,zE1,id]
     rw[ei,eL,eL] at this;exact this
    rw[el];exact h
   ·exact absurd ⟨rfl,h1,h9,hl,hlen⟩ (hn n l)
  | false =>
   have a':ze (zn zGL (zo (iV (zC 2)) bd1 wV (zI wF (zA (zC 1) (zA (zC 3) zH))))) [some (.tup [nD n,.tup xs]),some (nD n),some (.tup xs)] G (.bl false):=by rw[<-ha];exact a
   refine zAI (zMo (b:=false) a' fun z=>by cases z) (.of (no fun n' l hl=>?_));have e:=hl.1;simp only[D.tup.injEq,List.cons.injEq,and_true] at e;have:=zFg e.1;subst this;rw[e.2,zK7 hl.2.2.2.1] at ha;cases ha
 | _=>cases hb
end K
namespace K
open L2 L3
noncomputable def inR(n:Nat)(x:Int):Bool:=decide (0<=x)&&decide (x<(n:Int))
theorem zIT(x:Int):∀ n:Nat,((cH n).map fun(i:Nat)=>if x=(i:Int) then 1 else 0).sum=if inR n x then 1 else 0
 | 0=>by rw[if_neg (by simp only[inR,di,decide_eq_true_eq];omega)];rfl
 | n+1=>by
  rw[List.range_succ,dU,List.sum_append,zIT x n];simp only[dt,List.map_nil,List.sum_cons,List.sum_nil,inR,di,decide_eq_true_eq];by_cases h:x=(n:Int)
  ·subst h
   rw[if_neg (by omega),if_pos rfl,if_pos (by omega)];rfl
  ·rw[if_neg h]
   by_cases h2:0<=x/\x<(n:Int)
   ·rw[if_pos h2,if_pos (by omega)];rfl
   ·rw[if_neg h2,if_neg (by omega)];rfl
theorem zIU(f g:Nat->Nat):∀ l:List Nat,(l.map fun i=>f i+g i).sum=(l.map f).sum+(l.map g).sum
 | []=>rfl
 | a::r=>by
  simp only[dt,List.sum_cons];rw[zIU f g r];omega
theorem zE4(n:Nat):∀ ns:List Int,((cH n).map fun(i:Nat)=>ns.count (i:Int)).sum=ns.countP (inR n)
 | []=>by
  simp only[List.count_nil,List.countP_nil];exact List.sum_eq_zero_iff_forall_eq_nat.mpr fun x hx=>by obtain⟨_,_,rfl⟩:=cQ.mp hx;rfl
 | x::r=>by
  have e:((cH n).map fun(i:Nat)=>(x::r).count (i:Int))=(cH n).map fun(i:Nat)=>r.count (i:Int)+if x=(i:Int) then 1 else 0:=by
   refine dq fun i _=>?_;rw[List.count_cons];by_cases h:x=(i:Int)<;>simp[h]
  rw[e,zIU,zE4 n r,zIT,List.countP_cons]
theorem zEK:∀(l:List Nat) (f:Nat->Nat),(∀ i∈l,f i<=2)->(l.map f).sum=2*l.length->∀ i∈l,f i=2
 | [],_,_,_,i,h=>by cases h
 | a::r,f,h,hs,i,hi=>by
  simp only[dt,List.sum_cons,cD] at hs;have ha:=h a (by simp);have hr:(r.map f).sum<=2*r.length:=by
   clear hs hi;have:∀ l:List Nat,(∀ i∈l,f i<=2)->(l.map f).sum<=2*l.length:=fun l=>by
    induction l with
    | nil=>intro _;simp
    | cons b t ih =>
     intro h;have h1:=h b (by simp);have h2:=ih fun i hi=>h i (by simp[hi]);simp only[dt,List.sum_cons,cD];omega
   exact this r fun i hi=>h i (by simp[hi])
  rcases db.mp hi with rfl | hi
  ·omega
  ·exact zEK r f (fun i hi=>h i (by simp[hi])) (by omega) i hi
theorem zJV{n:Nat}{ns:List Int}(hl:ns.length=2*n):(∀ i,i<n->ns.count (i:Int)=2)↔(∀ x∈ns,inR n x=true)/\∀ x∈ns,ns.count x=2:=by
 have hs:=zE4 n ns;constructor
 ·intro h
  have e:((cH n).map fun(i:Nat)=>ns.count (i:Int))=(cH n).map fun _=>2:=dq fun i hi=>h i (cV.mp hi);rw[e] at hs;have e2:((cH n).map fun _=>2).sum=2*n:=by
   have:∀ m:Nat,((cH m).map fun _=>2).sum=2*m:=fun m=>by
    induction m with
    | zero=>rfl
    | succ m ih=>rw[List.range_succ,dU,List.sum_append,ih];simp;omega
   exact this n
  rw[e2,<-hl] at hs;have all:=List.countP_eq_length.mp hs.symm;refine⟨all,fun x hx=>?_⟩;have hx2:=all x hx;simp only[inR,di,decide_eq_true_eq] at hx2;have:=h x.toNat (by omega);rwa [Int.toNat_of_nonneg hx2.1] at this
 ·rintro⟨h1,h2⟩ i hi
  have e:ns.countP (inR n)=ns.length:=List.countP_eq_length.mpr h1;rw[e,hl] at hs;refine zEK (cH n) (fun(i:Nat)=>ns.count (i:Int)) (fun i _=>?_) (by rw[eD];exact hs) i (cV.mpr hi);by_cases hm:(i:Int)∈ns
  ·rw[h2 _ hm];omega
  ·rw[dH hm];omega
noncomputable def cnt(xs:List D)(x:D):Nat:=xs.countP fun z=>eqD z x
noncomputable def zB4(xs:List D):Bool:=(decide (2<=xs.length)&&decide (xs.length<=18))&&(xs.all yU&&(decide (xs.length=2*(xs.length / 2))&&(cH (xs.length / 2)).all fun i=>decide (cnt xs (nD i)=2)))
theorem zMx{xs:List D}(h:xs.all yU=true):∃ ns:List Int,xs=ns.map D.int:=by
 induction xs with
 | nil=>exact⟨[],rfl⟩
 | cons d r ih =>
  rw[List.all_cons,di] at h;obtain⟨ns,rfl⟩:=ih h.2;cases d with
  | int i=>exact⟨i::ns,rfl⟩
  | _=>cases h.1
theorem zQA{d:D}(h:flat 8 d=true):∀ l,d≠.adr l:=fun l e=>by subst e;cases h
theorem zMy{σ:S2}{G:Gp}{ta tb:zf}{a b:Bool}(ha:ze ta σ G (.bl a))(hb:a=true->ze tb σ G (.bl b)):ze (zGB ta tb) σ G (.bl (a&&b)):=by
 cases a with
 | true=>exact zHW ha (hb rfl)
 | false=>exact fun G2 e R q=>ha G2 e _ (by show if false=true then _ else _;rw[if_neg (by simp)];exact q)
theorem zFh{σ:S2}{G:Gp}{tc:TT2}{u:wP}{E:yr}{b:Bool}{d:D}(h:PuT tc σ G b)(hy:b=true->E.rt d G)(hn:b=false->u E σ G):zX (xIf tc (zq (xC d)) zx) u E σ G:=by
 cases b with
 | false=>exact yu h (hn rfl)
 | true=>exact h G (.refl G) _ (by rw[if_pos rfl];exact hy rfl)
noncomputable def wH:wU:=fun ds G R=>∃ d,ds=[d]/\((∃ xs,d=.tup xs/\(∀ x∈xs,flat 8 x=true)/\xs.length<=1000/\R (.bl (zB4 xs)) G)\/((∀ xs,d≠.tup xs)/\(∀ l,d≠.adr l)/\R (.bl false) G)\/∃ l es,d=.adr l/\Ls G l es/\R (.bl false) G)
noncomputable def zCL:wP:=(zX (xIf (wL (zu (xB (zBY "tuple" (zC 0)))) (zu (xB (zCD (fII fun i j=>.bl (decide (i<=j))) (fII fun i j=>.bl (decide (i<=j))) (xC (.int 2)) (zI yG (zA (zC 0) zH)) (zS (yx zCN fun i j=>.int (i*j)) (xC (.int 2)) (xC (.int 9))))))) (zq (xC (.bl false))) zx) (zX (xIf (zu (xB (zn zGL (zo (iV (zC 0)) bd1 wV (zI zh (zA (zC 2) zH)))))) (zq (xC (.bl false))) zx) (zX (zy (zS (yx zF2 fun i j=>.int (i / j)) (zI yG (zA (zC 0) zH)) (xC (.int 2))) (gN 1)) (zq (zGB (zS (fEq false) (zI yG (zA (zC 0) zH)) (zS (yx zCN fun i j=>.int (i*j)) (xC (.int 2)) (zC 1))) (zn zGL (zo (iR1 (zA (zC 1) zH)) bd1 wV (zS (fEq false) (xMt zBO (zC 0) (zA (zC 2) zH)) (xC (.int 2))))))))))
theorem zO0{σ:S2}{G:Gp}{t:zf}{l:Addr}{es:List D}(h:ze t σ G (.adr l))(hl:Ls G l es):ze (zBY "tuple" t) σ G (.bl false):=fun G2 e R q=>h G2 e _ ⟨⟨es,e.ls hl⟩,q⟩
theorem zO1{d:D}(h:∀ xs,d≠.tup xs):zEv d "tuple"=false:=by
 cases d with
 | tup xs=>exact absurd rfl (h xs)
 | _=>rfl
theorem zK9{xs:List D}(f:D->Bool):(xs.map fun d=>D.bl (f d))=(xs.map f).map D.bl:=by rw[cX];rfl
theorem zJW(ds:List D)(G:Gp)(R:Q2)(h:wH ds G R):ds.length=1/\zCL (zg R) (zP ["thing","many"] ds) G:=by
 obtain⟨d,rfl,h⟩:=h;refine⟨rfl,?_⟩;unfold zCL;rcases h with ⟨xs,rfl,fx,hl,h⟩ | ⟨h1,h2,h⟩ | ⟨l,es,rfl,hl,h⟩
 ·have vl:∀ {σ:S2} {G:Gp},look σ 0=some (.tup xs)->ze (zI yG (zA (zC 0) zH)) σ G (nD xs.length):=fun {σ G} hh=>zHV (zG hh)
  have c18:ze (zS (yx zCN fun i j=>.int (i*j)) (xC (.int 2)) (xC (.int 9))) (zP ["thing","many"] [.tup xs]) G (.int 18):=yk (x:=.int 2) (y:=.int 9) zY zY fun _ _ _ q=>⟨by unfold zCN;omega,q⟩
  have ch:=zE3 (σ:=zP ["thing","many"] [.tup xs]) (G:=G) (f:=fun i j=>decide (i<=j)) (g:=fun i j=>decide (i<=j)) (zY (d:=.int 2)) (vl rfl) c18;have e1:(decide ((2:Int)<=(xs.length:Int))&&decide ((xs.length:Int)<=18))=(decide (2<=xs.length)&&decide (xs.length<=18)):=by
   rw[da];simp;omega
  rw[e1] at ch;refine zFh (zAu (zMn (T:="tuple") (d:=.tup xs) (zG rfl) rfl) fun _=>zw (yz ch)) (fun hb=>?_) fun hb=>?_
  ·have:zB4 xs=false:=by
    unfold zB4;cases q:(decide (2<=xs.length)&&decide (xs.length<=18)) with
    | true=>rw[q] at hb;cases hb
    | false=>rfl
   rw[this] at h;exact FgR.of h
  have hb1:(decide (2<=xs.length)&&decide (xs.length<=18))=true:=by simpa using hb
  have a1:=zAY (σ:=zP ["thing","many"] [.tup xs]) (G:=G) (bd:=bd1) (te:=zI zh (zA (zC 2) zH)) (fun d=>.bl (yU d)) (fun d=>[d]) (zBM (zG (i:=0) (d:=.tup xs) rfl)) fun x hx=>⟨rfl,zZ (zF (zG (d:=x) rfl) zN) fun _ _ _ q=>⟨x,rfl,.inl ⟨zQA (fx x hx),q⟩⟩⟩
  rw[zK9] at a1;have a2:=zFc a1;have e2:(xs.map yU).all id=xs.all yU:=by rw[List.all_map];rfl
  rw[e2] at a2;refine zFh (zw (yz a2)) (fun hb=>?_) fun hb=>?_
  ·have:zB4 xs=false:=by unfold zB4;rw[show xs.all yU=false by simpa using hb];simp
   rw[this] at h;exact FgR.of h
  have hb2:xs.all yU=true:=by simpa using hb
  have e3:((xs.length:Int) / 2)=((xs.length / 2:Nat):Int):=by omega
  refine zCI (d:=nD (xs.length / 2)) (yk (vl rfl) zY fun _ _ _ q=>⟨⟨by decide,by decide⟩,by dsimp only;rw[e3];exact q⟩) ?_;show zq _ _ [some (.tup xs),some (nD (xs.length / 2))] G;have hw:PuI (iR1 (zA (zC 1) zH)) [some (.tup xs),some (nD (xs.length / 2))] G ((cH (xs.length / 2)).map nD):=by
   rw[<-zCF];exact zCC (zF (zG rfl) zN) (by omega)
  have tw:ze (zS (yx zCN fun i j=>.int (i*j)) (xC (.int 2)) (zC 1)) [some (.tup xs),some (nD (xs.length / 2))] G (nD (2*(xs.length / 2))):=by
   refine yk (x:=.int 2) (y:=nD (xs.length / 2)) zY (zG rfl) fun _ _ _ q=>⟨by unfold zCN;omega,?_⟩
   have e2:(2:Int)*((xs.length / 2:Nat):Int)=((2*(xs.length / 2):Nat):Int):=by omega
   dsimp only;rw[e2];exact q
  have a3:=zAY (σ:=[some (.tup xs),some (nD (xs.length / 2))]) (G:=G) (bd:=bd1) (te:=(zS (fEq false) (xMt zBO (zC 0) (zA (zC 2) zH)) (xC (.int 2)))) (fun d=>.bl (decide (cnt xs d=2))) (fun d=>[d]) hw fun x hx=>by
   obtain⟨i,hi,rfl⟩:=cQ.mp hx;refine⟨rfl,zEH (x:=nD (cnt xs (nD i))) (y:=.int 2) (zP7 (xs:=xs) (zG rfl) (zF (zG (d:=nD i) rfl) zN) fun _ _ _ q=>⟨rfl,fx,q⟩) zY rfl rfl (by rw[if_neg (by simp)];exact zDI _ 2)⟩
  rw[zK9] at a3;have a4:=zFc a3;have e4:(((cH (xs.length / 2)).map nD).map fun d=>decide (cnt xs d=2)).all id=(cH (xs.length / 2)).all fun i=>decide (cnt xs (nD i)=2):=by rw[cX,List.all_map];rfl
  rw[e4] at a4;have fin:=zMy (zEH (x:=nD xs.length) (y:=nD (2*(xs.length / 2))) (ng:=false) (b:=decide (xs.length=2*(xs.length / 2))) (vl (σ:=[some (.tup xs),some (nD (xs.length / 2))]) (G:=G) rfl) tw rfl rfl (by rw[if_neg (by simp)];exact zDI _ _)) (fun _=>a4);refine zAI fin (FgR.of ?_);unfold zB4 at h;rw[hb1,hb2] at h;exact h
 ·exact zFh (zAu (c:=true) (zw (yz (zEI (T:="tuple") (d:=d) (zG rfl) h2 (zO1 h1)))) fun z=>by cases z) (fun _=>FgR.of h) fun z=>by cases z
 ·exact zFh (zAu (c:=true) (zw (yz (zO0 (l:=l) (zG rfl) hl))) fun z=>by cases z) (fun _=>FgR.of h) fun z=>by cases z
noncomputable def dig(k:Nat):Str:=Str.ofString (toString (k:Int))
noncomputable def zW(p:Nat×Nat):Str:=Str.join "-" [dig p.1,dig p.2]
noncomputable def zEc(n:Nat)(l:List (Nat×Nat)):Str:=Str.join " " (dig n::":"::l.map zW)
noncomputable def zCv(r:List Nat):Str:=Str.join " " (r.map dig)
theorem yi:∀ k,k<10->(dig k).length=1/\32∉(dig k).cps.toList:=by decide +kernel
theorem zE5:∀ a,a<10->∀ b,b<10->(zW (a,b)).length=3/\32∉(zW (a,b)).cps.toList:=by decide +kernel
theorem zO2:∀ k,k<10->(!(Builtin.Str.occurrences ("0123456789":Str) (dig k) 0 ("0123456789":Str).length 1).isEmpty)=true:=by decide +kernel
theorem zIV:∀ a,a<10->∀ b,b<10->Txt.slice (zW (a,b)) none (some 1)=dig a/\Txt.slice (zW (a,b)) (some 2) none=dig b/\Txt.slice (zW (a,b)) (some 1) (some 2)=("-":Str):=by decide +kernel
theorem zO3:(" ":Str)=⟨#[32]⟩:=by decide +kernel
end K
namespace K
open L2 L3 HS
theorem zDK{σ:S2}{G:Gp}{t:zf}{k:Nat}(h:ze t σ G (nD k))(hk:k<1000):ze (zI yg (zA t zH)) σ G (.str (dig k)):=zZ (zF h zN) fun _ _ _ q=>⟨by omega,q⟩
theorem zHa{r:List Nat}{sep:Str}(hr:∀ x∈r,x<10)(hl:r.length<=900)(hs:sep.length<=10):Short sep (r.map dig):=⟨by rw[cI];omega,fun y hy=>by
 obtain⟨k,hk,rfl⟩:=cQ.mp hy;rw[(yi k (hr k hk)).1];omega,hs⟩
theorem zMz{σ:S2}{G:Gp}{t:zf}{r:List Nat}{sep:Str}{i:Nat}(h:ze t σ G (.tup (r.map nD)))(hi:∀ d:D,look (σ++[d].map some) i=some d)(hr:∀ x∈r,x<10)(hl:r.length<=900)(hs:sep.length<=10):ze (zD9 sep (zo (iV t) bd1 wV (zI yg (zA (zC i) zH)))) σ G (.str (Str.join sep (r.map dig))):=by
 have m:=zAY (σ:=σ) (G:=G) (bd:=bd1) (te:=(zI yg (zA (zC i) zH))) (fun d=>match d with | .int v=>.str (dig v.toNat) | _=>.non) (fun d=>[d]) (zBM h) fun x hx=>by
  obtain⟨k,hk,rfl⟩:=cQ.mp hx;exact⟨rfl,zDK (zG (hi _)) (by have:=hr k hk;omega)⟩
 have e:cM (fun d=>match d with | .int v=>D.str (dig v.toNat) | _=>.non) (r.map nD)=(r.map dig).map D.str:=by rw[cX,cX];rfl
 rw[e] at m;exact fun G2 e R q=>m G2 e _ ⟨r.map dig,rfl,zHa hr hl hs,q⟩
noncomputable def zFi:wU:=fun ds G R=>∃ r:List Nat,ds=[.tup (r.map nD)]/\(∀ x∈r,x<10)/\r.length<=100/\R (.str (zCv r)) G
noncomputable def zAJ:wU:=zFi
noncomputable def zA6:wP:=(zq (zD9 " " (zo (iV (zC 0)) bd1 wV (zI yg (zA (zC 1) zH)))))
theorem zGX(ds:List D)(G:Gp)(R:Q2)(h:zAJ ds G R):ds.length=1/\zA6 (zg R) (zP ["some"] ds) G:=by
 obtain⟨r,rfl,h1,h2,h⟩:=h;refine⟨rfl,?_⟩;unfold zA6;exact zAI (d:=.str (zCv r)) (zMz (r:=r) (sep:=" ") (zG rfl) (fun d=>rfl) h1 (by omega) (by decide +kernel)) (.of h)
theorem zLA{n:Nat}{q:Nat×Nat->Bool}(h:n<=9):((yL n).filter q).length<=60:=by
 have a:=eT q (yL n);have b:∀ n,n<10->(yL n).length<=60:=by decide +kernel
 have:=b n (by omega);omega
theorem zFj{n:Nat}{q:Nat×Nat->Bool}(h:n<=9){p:Nat×Nat}(hp:p∈(yL n).filter q):p.1<10/\p.2<10:=by
 have:=zCr.mp (List.mem_filter.mp hp).1;omega
theorem zGY{p:Nat×Nat}(h:p.1<10/\p.2<10):(zW p).length=3:=(zE5 p.1 h.1 p.2 h.2).1
noncomputable def zGZ:wU:=fun ds G R=>∃(n:Nat) (q:Nat×Nat->Bool),ds=[zCq n q]/\n<=9/\R (.str (zEc n ((yL n).filter q))) G
noncomputable def zAz(p:Nat×Nat):Str:=(" ":Str)++dig p.1++"-"++dig p.2
theorem zBf(a b c:Str):a++b++c=a++(b++c):=Str.ext' (by show(a.cps++b.cps++c.cps)=a.cps++(b.cps++c.cps);rw[Array.append_assoc])
theorem zFk(p:Nat×Nat):zAz p=" "++zW p:=by
 unfold zAz zW;show(" ":Str)++dig p.1++"-"++dig p.2=" "++(dig p.1++"-"++dig p.2);rw[zBf,zBf,zBf]
theorem zEL:∀(l:List (Nat×Nat)) (s:Str),s++Str.join "" (l.map zAz)=Str.join " " (s::l.map zW)
 | [],s=>by
  show s++Str.empty=s;exact Str.ext' (by show s.cps++#[]=s.cps;simp)
 | [p],s=>by
  show s++zAz p=s++" "++zW p;rw[zFk,zBf]
 | p::q::r,s=>by
  have ih:=zEL (q::r) (zW p);show s++(zAz p++""++Str.join "" ((q::r).map zAz))=s++" "++Str.join " " (zW p::(q::r).map zW);rw[<-ih];have e:zAz p++("":Str)=zAz p:=Str.ext' (by show(zAz p).cps++#[]=(zAz p).cps;simp);rw[e,zFk,zBf,zBf]
theorem zM0(n:Nat)(l:List (Nat×Nat)):dig n++" :"++Str.join "" (l.map zAz)=zEc n l:=by
 rw[zEL];unfold zEc;have e:dig n++(" :":Str)=dig n++" "++":":=by
  rw[zBf];congr 1
 rw[e];cases l with
 | nil=>rfl
 | cons p r =>
  show dig n++" "++":"++" "++Str.join " " (zW p::r.map zW)=dig n++" "++((":":Str)++" "++Str.join " " (zW p::r.map zW));rw[zBf (dig n++" ") ":",zBf (dig n++" ") (":"++" ")]
noncomputable def wZ:wU:=zGZ
noncomputable def zAh:wP:=(zq (zS yl (zS yl (zI yg (zA (zS ye (zC 0) (xC (.int 0))) zH)) (xC (.str " :"))) (zD9 "" (zo (iV (zS ye (zC 0) (xC (.int 1)))) bd2 wV (zS yl (zS yl (zS yl (xC (.str " ")) (zI yg (zA (zC 1) zH))) (xC (.str "-"))) (zI yg (zA (zC 2) zH)))))))
theorem wf{σ:S2}{G:Gp}{t u:zf}{a b:Str}(h:ze t σ G (.str a))(h':ze u σ G (.str b))(hl:a.length+b.length<=1000000):ze (zS yl t u) σ G (.str (a++b)):=yk h h' fun _ _ _ q=>⟨hl,q⟩
theorem zBG(a b:Str):(a++b).length=a.length+b.length:=by
 show(a.cps++b.cps).size=a.cps.size+b.cps.size;simp
theorem zFl(ds:List D)(G:Gp)(R:Q2)(h:wZ ds G R):ds.length=1/\zAh (zg R) (zP ["web"] ds) G:=by
 obtain⟨n,q,rfl,h9,h⟩:=h;refine⟨rfl,?_⟩;unfold zAh;rw[show zP ["web"] [zCq n q]=[some (zCq n q)] from rfl];have l1:(" ":Str).length=1:=by decide +kernel
 have l2:("-":Str).length=1:=by decide +kernel
 have l3:(" :":Str).length=2:=by decide +kernel
 have m:=zAY (σ:=[some (zCq n q)]) (G:=G) (bd:=bd2) (te:=(zS yl (zS yl (zS yl (xC (.str " ")) (zI yg (zA (zC 1) zH))) (xC (.str "-"))) (zI yg (zA (zC 2) zH)))) (fun d=>match d with | .tup [.int a,.int b]=>.str (zAz (a.toNat,b.toNat)) | _=>.non) (fun d=>match d with | .tup us=>us | _=>[]) (zBM (zP5 (n:=n) (q:=q) (zG (i:=0) rfl))) fun x hx=>by
  obtain⟨p,hp,rfl⟩:=cQ.mp hx;obtain⟨a1,a2⟩:=zFj h9 hp;have d1:=(yi p.1 a1).1;have d2:=(yi p.2 a2).1;exact⟨rfl,show ze _ _ _ (.str (zAz p)) from wf (wf (wf zY (zDK (zG rfl) (by omega)) (by omega)) zY (by rw[zBG];omega)) (zDK (zG rfl) (by omega)) (by rw[zBG,zBG];omega)⟩
 have e:cM (fun d=>match d with | .tup [.int a,.int b]=>D.str (zAz (a.toNat,b.toNat)) | _=>.non) (((yL n).filter q).map yf)=(((yL n).filter q).map zAz).map D.str:=by rw[cX,cX];rfl
 rw[e] at m;have tl:=zLA (q:=q) h9;have tt:∀ p∈(yL n).filter q,(zAz p).length=4:=fun p hp=>by
  rw[zFk,zBG,l1,zGY (zFj h9 hp)]
 have sh:Short "" (((yL n).filter q).map zAz):=⟨by rw[cI];omega,fun y hy=>by
  obtain⟨p,hp,rfl⟩:=cQ.mp hy;rw[tt p hp];omega,by decide +kernel⟩
 have pj:ze (zD9 "" (zo (iV (zS ye (zC 0) (xC (.int 1)))) bd2 wV (zS yl (zS yl (zS yl (xC (.str " ")) (zI yg (zA (zC 1) zH))) (xC (.str "-"))) (zI yg (zA (zC 2) zH))))) [some (zCq n q)] G (.str (Str.join "" (((yL n).filter q).map zAz))):=fun G2 e R q'=>m G2 e _ ⟨_,rfl,sh,q'⟩;have jl:∀ l:List (Nat×Nat),(∀ p∈l,(zAz p).length=4)->(Str.join "" (l.map zAz)).length<=4*l.length:=by
  intro l
  induction l with
  | nil=>intro _;exact cN _
  | cons p r ih =>
   intro hp;have h4:=hp p (by simp);cases r with
   | nil=>show(zAz p).length<=_;simp;omega
   | cons q r =>
    have:=ih fun x hx=>hp x (cU _ hx);show(zAz p++""++Str.join "" ((q::r).map zAz)).length<=_;rw[zBG,zBG,h4];have:("":Str).length=0:=by decide +kernel
    simp only[cD] at *;omega
 have jb:=jl _ tt;have dn:=(yi n (by omega)).1;have:=wf (wf (zDK (zP4 (q:=q) (zG (σ:=[some (zCq n q)]) (G:=G) (i:=0) rfl)) (by omega)) (zY (d:=.str " :")) (by omega)) pj (by rw[zBG];omega);rw[zM0] at this;exact zAI this (.of h)
theorem zHb:∀ a b:List Int,HT.lexLt a b=ltI a b
 | [],[]=>rfl
 | [],_::_=>rfl
 | _::_,[]=>rfl
 | x::a,y::b=>by
  rw[HT.zDn];show _=(if x=y then ltI a b else decide (x<y))
  rw[zHb a b]
theorem zLB(l:List (Nat×Nat)):zDJ l=true↔(l.map prJ).Pairwise fun a b=>ltI a b=true:=by
 unfold zDJ;rw[dF];constructor
 ·intro h
  have step:∀ k,k+1<l.length->ltI (prJ (l.getD k (0,0))) (prJ (l.getD (k+1) (0,0)))=true:=fun k hk=>by
   rw[<-zHb];exact h k (cV.mpr (by omega))
  have far:∀ m i,i+m+1<l.length->ltI (prJ (l.getD i (0,0))) (prJ (l.getD (i+m+1) (0,0)))=true:=fun m=>by
   induction m with
   | zero=>intro i hi;exact step i hi
   | succ m ih=>intro i hi;exact zEz _ _ _ (ih i (by omega)) (step (i+m+1) (by omega))
  rw[eR,List.pairwise_iff_getElem];intro i j hi hj hij;have:=far (j-i-1) i (by omega);rw[show i+(j-i-1)+1=j by omega] at this;simpa only[eN,hi,hj,dR,Option.getD_some] using this
 ·intro h k hk
  have hk':=cV.mp hk;have h1:k<l.length:=by omega
  have h2:k+1<l.length:=by omega
  rw[zHb];rw[eR] at h;simp only[eN,h1,h2,dR,Option.getD_some];exact(List.pairwise_iff_getElem.mp h) k (k+1) h1 h2 (by omega)
noncomputable def Ll(l:Addr)(G:Gp)(d:D):Prop:=∀ a,d=.adr a->a≠l/\∃ es,G.m a=some es
noncomputable def Wl(l:Addr)(G:Gp):Nat->D->Prop
 | 0,d=>Ll l G d
 | n+1,d=>Ll l G d/\∀ xs,d=.tup xs->∀ x∈xs,Wl l G n x
theorem Wl.wg{l:Addr}{G:Gp}:∀ {n:Nat} {d:D},Wl l G n d->Wg G n d
 | 0,d,h=>fun a ha=>by obtain⟨_,es,q⟩:=h a ha;exact⟨es,.inl q⟩
 | n+1,d,h=>⟨fun a ha=>by obtain⟨_,es,q⟩:=h.1 a ha;exact⟨es,.inl q⟩,fun xs e x hx=>Wl.wg (h.2 xs e x hx)⟩
theorem Wl.flat{l:Addr}{G:Gp}:∀ {n k:Nat} {d:D},flat k d=true->Wl l G n d
 | 0,k,d,h=>fun a ha=>by subst ha;cases k<;>cases h
 | n+1,k,d,h=>by
  refine⟨fun a ha=>?_,fun xs e x hx=>?_⟩
  ·subst ha
   cases k<;>cases h
  ·subst e
   cases k with
   | zero=>cases h
   | succ k =>
    have:xs.all (L3.flat k)=true:=h;exact Wl.flat (dF.mp this x hx)
theorem zLC{n:Nat}{x y:D}(hx:L3.flat n x=true)(hy:L3.flat n y=true):L3.flat (n+1) (.tup [x,y])=true:=by
 show[x,y].all (L3.flat n)=true;simp[hx,hy]
theorem zE6{n:Nat}{xs:List D}(h:∀ x∈xs,L3.flat n x=true):L3.flat (n+1) (.tup xs)=true:=by
 show xs.all (L3.flat n)=true;exact dF.mpr h
theorem zM1{x y:D}(h:∀ ys,y=.tup ys->ys.length<=60):sm2 (.tup [x,y]):=fun m ys e=>by cases e;exact h ys rfl
end K
namespace L2
theorem wA.obj{P:Program}{w:World}{H:Hp}{h:Heap}{a:Addr}{o:HO}(x:wA P w H h a o):∃ u,h.get? a=some u:=by
 cases o with
 | lst xs=>obtain⟨_,_,_,_,e⟩:=x;exact⟨_,e⟩
 | tup xs=>obtain⟨_,_,_,_,e,_⟩:=x;exact⟨_,e⟩
 | dK kvs=>obtain⟨_,_,_,_,o,_,_,e,_⟩:=x;exact⟨_,e⟩
 | dT kvs=>obtain⟨_,_,_,_,o,_,_,e,_⟩:=x;exact⟨_,e⟩
 | set S n=>obtain⟨o,_,_,_,e,_⟩:=x;exact⟨_,e⟩
 | ins C dx fs=>obtain⟨_,_,_,e,_⟩:=x;exact⟨_,e⟩
 | own y=>obtain⟨o,e⟩:=x;exact⟨_,e⟩
 | xd fs=>obtain⟨_,⟨_,_,_,e,_⟩,_⟩:=x;exact⟨_,e⟩
 | rng lo hi=>obtain⟨_,_,_,e⟩:=x;exact⟨_,e⟩
 | frz ob u=>obtain⟨e,_⟩:=x;exact⟨_,e⟩
 | tbl ps=>obtain⟨_,_,_,_,e,_⟩:=x;exact⟨_,e⟩
 | met f y=>exact⟨_,(show h.get? a=some _ from x)⟩
 | ext φ=>obtain⟨_,⟨_,e⟩,_⟩:=x;exact⟨_,e⟩
theorem zLD{env:Env}{r:List Env}{L:Addr}(hf:env.frame=some L):L∈frs (env::r):=by
 unfold frs;rw[eG,hf];exact dc
theorem zB5{env:Env}{r:List Env}{b:Addr}(h:b∈frs r):b∈frs (env::r):=by
 unfold frs;rw[eG];cases env.frame with
 | none=>exact h
 | some L=>exact cU _ h
theorem zJX{env:Env}{r:List Env}{L b:Addr}(hf:env.frame=some L)(h:b∈frs (env::r)):b=L\/b∈frs r:=by
 unfold frs at h;rw[eG,hf] at h;exact db.mp h
theorem zLE{h base h' B:Heap}:∀ {l:List Env},h.FunFrames base l->(∀ L∈frs l,B.get? L=none)->(∀ L∈frs l,∀ o,h.get? L=some o->∃ sl,h'.get? L=some { o with slots:=sl })->h'.FunFrames B l
 | [],_,_,_=>trivial
 | env::r,⟨hk,⟨L,o,hf,hn,ho,hd⟩,hr⟩,hB,hs=>by
  have hL:L∈frs (env::r):=zLD hf;obtain⟨sl,e⟩:=hs L hL o ho;exact⟨hk,⟨L,_,hf,hB L hL,e,hd⟩,zLE hr (fun b hb=>hB b (zB5 hb)) fun b hb=>hs b (zB5 hb)⟩
noncomputable def Tr(h B:Heap)(e C:Addr):Prop:=(∃ a0,h.TracedW B e (.ref C) a0)\/∃ oe vs a0,h.get? e=some oe/\oe.cls=.ref C/\oe.data=.fields vs/\vs[1]?=some .none/\vs[0]?=some a0
structure XE (P:Program) (w:World) (outer:List Env) (H:Hp) (s:Shared) (C e:Addr) (H':Hp) (B:Heap) (s':Shared):Prop where
 os:s'.os=s.os
 bare:AllBare s'.gens
 un:Un (frs outer) [] H H' s.heap s'.heap
 hok:HOk P w H' s'.heap
 new:s.heap.get? e=none
 free:H' e=none
 stay:Heap.StaysIn B s'.heap
 eB:B.get? e=none
 frB:∀ L∈frs outer,B.get? L=none
 has1:∀ b u,H' b=some u->∃ o,B.get? b=some o
 has0:∀ b o,s.heap.get? b=some o->H b=none->b∉frs outer->B.get? b=some o
 th:∀ b o,s.heap.get? b=some o->b∉frs outer->∃ o',B.get? b=some o'
 tr:∃ a0,s'.heap.TracedW B e (.ref C) a0
structure XB (X:Cx) (C e:Addr) (H':Hp) (B:Heap) (s':Shared):Prop where
 ok:X.Ok
 stk:X.stack=X.env::X.outer
 frm:X.env.frame=some X.env.locals
 ex:X.ex=[]
 os:s'.os=X.s₀.os
 bare:AllBare s'.gens
 un:Un X.fs [] X.H₀ H' X.s₀.heap s'.heap
 hok:HOk X.prog X.w H' s'.heap
 new:X.s₀.heap.get? e=none
 free:H' e=none
 stay:Heap.StaysIn B s'.heap
 eB:B.get? e=none
 frB:∀ L∈frs X.stack,B.get? L=none
 funs:s'.heap.FunFrames B X.stack
 has1:∀ b u,H' b=some u->∃ o,B.get? b=some o
 has0:∀ b o,X.s₀.heap.get? b=some o->X.H₀ b=none->b∉frs X.stack->B.get? b=some o
 th:∀ b o,X.s₀.heap.get? b=some o->b∉frs X.stack->∃ o',B.get? b=some o'
 tr:Tr s'.heap B e C
section
variable {X:Cx} {C e:Addr} {H':Hp} {B:Heap} {s':Shared}
theorem XB.outL(x:XB X C e H' B s'){b:Addr}{o:Obj}(q:X.s₀.heap.get? b=some o)(hb:b∉X.fs):b∉frs X.stack:=fun z=>by
 rw[x.stk] at z;rcases zJX x.frm z with r | r
 ·exact absurd (cO (cS q) x.ok.above) (by rw[r];exact dZ _)
 ·exact hb r
theorem XB.left(x:XB X C e H' B s'){h'':Heap}{a0:Value}(l:Heap.LeftW B X.stack e (.ref C) a0 s'.heap h''):XE X.prog X.w X.outer X.H₀ X.s₀ C e H' B { s' with heap:=h'' }:=by
 obtain⟨l1,l2,l3,l4⟩:=l;have keep:∀ b o,X.s₀.heap.get? b=some o->X.H₀ b=none->b∉X.fs->h''.get? b=some o:=fun b o q n hb=>l1 b o (x.has0 b o q n (x.outL q hb));have slot:∀ b o,X.s₀.heap.get? b=some o->X.H₀ b=none->b∈X.fs->∃ sl,h''.get? b=some { o with slots:=sl }:=fun b o q n hb=>by
  obtain⟨sl,q1⟩:=x.un.slot b o q n hb (by simp);have hd:∀ vs,o.data≠.fields vs:=by
   obtain⟨_,o1,ho,hd⟩:=x.ok.funs.mem hb;rw[q] at ho;cases ho;exact hd
  obtain⟨sl2,q2⟩:=l4 b _ q1 hd;exact⟨sl2,q2⟩
 have th:∀ b o,X.s₀.heap.get? b=some o->∃ o',h''.get? b=some o':=fun b o q=>by
  by_cases hb:b∈X.fs
  ·obtain⟨sl,z⟩:=slot b o q (x.ok.frf b hb) hb
   exact⟨_,z⟩
  ·obtain⟨o',z⟩:=x.th b o q (x.outL q hb)
   exact⟨o',l1 b o' z⟩
 refine⟨x.os,x.bare,⟨fun b o q n hb _=>keep b o q n hb,fun b o q n hb _=>slot b o q n hb,fun b o q n _=>x.un.free b o q n (by simp),fun b o q _=>th b o q,x.un.tups,x.un.frzs,x.un.tbls⟩,?_,x.new,x.free,l1,x.eB,fun L hL=>x.frB L (by rw[x.stk];exact zB5 hL),x.has1,fun b o q n hb=>x.has0 b o q n (x.outL q hb),fun b o q hb=>x.th b o q (x.outL q hb),⟨a0,l3⟩⟩;intro b u q;refine(x.hok b u q).stay (fun c v hc r=>?_) (fun _ r=>r) (fun _ _ r=>r) fun _ _ _ r=>r;have:∃ o,B.get? c=some o:=by
  rcases hc with z | z
  ·subst z;exact x.has1 _ _ q
  ·exact x.has1 _ _ z
 obtain⟨o2,z⟩:=this;have z2:=x.stay c o2 z;rw[r] at z2;obtain rfl:v=o2:=Option.some.inj z2;exact l1 c v z
theorem XB.leave(x:XB X C e H' B s'){M:Model}{Q:Unit->Shared->Prop}{E:Value->Shared->Prop}(hQ:∀ h'',XE X.prog X.w X.outer X.H₀ X.s₀ C e H' B { s' with heap:=h'' }->Q () { s' with heap:=h'' }):wpAny M X.A (leaving X.env (.ref e)) Q E s':=by
 have fr:X.A.frames=some (X.env::X.outer):=by rw[x.ok.frames,x.stk]
 have ff:=x.funs;rw[x.stk] at ff;rcases x.tr with ⟨a0,t⟩ | ⟨oe,vs,a0,t1,t2,t3,t4,t5⟩
 ·exact wpAny_leaving_nextW fr ff x.frm t x.stay x.eB fun h' l=>hQ h' (x.left (a0:=a0) (by rw[x.stk];exact l))
 ·exact wpAny_leaving_firstW fr ff x.frm t1 x.stay x.eB t3 t4 t5 fun h' l=>hQ h' (x.left (a0:=a0) (by rw[x.stk,<-t2];exact l))
theorem XE.body{pins:List (Addr×Obj)}{σ:St}{H:Hp}{s:Shared}(stk:X.stack=X.env::X.outer)(frm:X.env.frame=some X.env.locals)(ex:X.ex=[])(I:zT X pins σ H s)(x:XE X.prog X.w X.stack H s C e H' B s'):XB X C e H' B s':=by
 have I2:zT X pins σ H' s':=I.call' x.os x.un x.hok x.bare (fun b hb=>absurd hb (by simp));have nex:∀ b,b∉X.ex:=fun b z=>by rw[ex] at z;exact absurd z (by simp)
 have un:=I2.base;rw[ex] at un;refine⟨I.ok,stk,frm,ex,x.os.trans I.os,x.bare,un,x.hok,?_,x.free,x.stay,x.eB,x.frB,?_,x.has1,fun b o q n hb=>?_,fun b o q hb=>?_,.inl x.tr⟩
 ·cases q:X.s₀.heap.get? e with
  | none=>rfl
  | some o =>
   obtain⟨o',z⟩:=I.base.there e o q (nex _);rw[x.new] at z;cases z
 ·exact zLE I.stack x.frB fun L hL o ho=>x.un.slot L o ho (I.stkFree L hL) hL (by simp)
 ·exact x.has0 b o (I.base.keep b o q n (fun z=>hb (by rw[stk];exact zB5 z)) (nex _)) (I.base.free b o q n (nex _)) hb
 ·obtain⟨o',z⟩:=I.base.there b o q (nex _)
  exact x.th b o' z hb
theorem XB.made{pins:List (Addr×Obj)}{σ:St}{H:Hp}{s:Shared}{h':Heap}{args:List Value}(stk:X.stack=X.env::X.outer)(frm:X.env.frame=some X.env.locals)(ex:X.ex=[])(I:zT X pins σ H s)(m:s.heap.MadeExcOf h' e (.ref C) args) :
  XB X C e H (PySem.W.hideAll s.heap (frs X.stack)) { s with heap:=h' }:=by
 have nex:∀ b,b∉X.ex:=fun b z=>by rw[ex] at z;exact absurd z (by simp)
 have I2:zT X pins σ H { s with heap:=h' }:=I.kept (t':=s.toks) m.keeps;have un:=I2.base;rw[ex] at un;have hid:∀ b o,(PySem.W.hideAll s.heap (frs X.stack)).get? b=some o->s.heap.get? b=some o/\b∉frs X.stack:=fun b o q=>⟨PySem.W.of_hideAll _ q,fun hb=>by rw[PySem.W.hideAll_none _ hb] at q;cases q⟩
 have get:∀ b o,s.heap.get? b=some o->b∉frs X.stack->(PySem.W.hideAll s.heap (frs X.stack)).get? b=some o:=fun b o q n=>PySem.W.hideAll_get (frs X.stack) q n;have none_of:∀ b,b∈frs X.stack->(PySem.W.hideAll s.heap (frs X.stack)).get? b=none:=fun b hb=>by
  cases q:(PySem.W.hideAll s.heap (frs X.stack)).get? b with
  | none=>rfl
  | some o=>exact absurd hb (hid b o q).2
 refine⟨I.ok,stk,frm,ex,I.os,I.bare,un,I2.hok,?_,?_,fun b o q=>m.keeps b o (hid b o q).1,?_,none_of,?_,fun b u q=>?_,fun b o q n hb=>?_,fun b o q hb=>?_,.inr ?_⟩
 ·cases q:X.s₀.heap.get? e with
  | none=>rfl
  | some o =>
   obtain⟨o',z⟩:=I.base.there e o q (nex _);rw[m.new] at z;cases z
 ·cases q:H e with
  | none=>rfl
  | some u =>
   obtain⟨o,z⟩:=(I.hok e u q).obj;rw[m.new] at z;cases z
 ·cases q:(PySem.W.hideAll s.heap (frs X.stack)).get? e with
  | none=>rfl
  | some o =>
   have z:=(hid e o q).1;rw[m.new] at z;cases z
 ·exact zLE I.stack none_of fun L hL o ho=>⟨o.slots,m.keeps L o ho⟩
 ·obtain⟨o,z⟩:=(I.hok b u q).obj
  exact⟨o,get b o z fun w=>by rw[I.stkFree b w] at q;cases q⟩
 ·exact get b o (I.base.keep b o q n (fun z=>hb (by rw[stk];exact zB5 z)) (nex _)) hb
 ·obtain⟨o',z⟩:=I.base.there b o q (nex _)
  exact⟨o',get b o' z hb⟩
 ·obtain⟨t,h1,_,_⟩:=m.there
  exact⟨_,_,.ref t,h1,rfl,rfl,rfl,rfl⟩
end
noncomputable abbrev bmV:List Value:=[.type "ValueError",.type "Exception",.type "BaseException",.type "object"]
theorem zM2{K:PySem.W.Frag}{h:Heap}{C:Addr}{bmB:List Value}{newId:String}(X:K.In h)(q:PySem.W.excIn K C bmB newId=true) :
  ∃ bm N nm qn bs hdct sn sub ab col dd k0 k1 k2 k3 k5 mN,h.get? C=some (excClassObj nm qn C N bs bm hdct sn sub ab col dd k0 k1 k2 k3 k5 newId)/\h.Ns N mN/\mN "__init__"=none/\OwnTail h bmB bm:=by
 unfold PySem.W.excIn at q;split at q
 ·rename_i dict cd sl heq
  split at q
  ·rename_i C' bm a0 a1 a2 a3 n a5 hm hs
   simp only[di,beq_iff_eq,Bool.not_eq_true'] at q;obtain⟨⟨⟨⟨⟨q1,q2⟩,q3⟩,q4⟩,q5⟩,q6⟩:=q;subst q1 q2;have hg:=X _ _ heq;obtain⟨mN,e1,e2⟩:∃ mN,h.Ns cd.ns mN/\mN "__init__"=none:=by
    exact⟨_,Heap.Ns.of_isNs (PySem.W.isNs_of_in X q5),PySem.W.nsMap_none_of_in X q5 q6⟩
   obtain⟨nm,bs,mro,ns,qn,hd,sn,sub,ab,col,del⟩:=cd;dsimp only at hm q3 e1 hg;subst hm q3;have hsl:sl=#[a0,a1,a2,a3,some (.builtin n),a5]:=by
    cases sl with
    | mk l=>dsimp only at hs;rw[hs]
   subst hsl;exact⟨bm,ns,nm,qn,bs,hd,sn,sub,ab,col,dict,a0,a1,a2,a3,a5,mN,hg,e1,e2,PySem.W.tail_of_in X q4⟩
  ·cases q
 ·cases q
end L2
namespace L3
open L2
noncomputable def Rz(P:Program)(w:World)(K:PySem.W.Frag)(mg:Str->Option Value)(base:Heap)(k:Nat)(x:Str)(ps:List Str)(cond:List D->Gp->(Gp->Prop)->Prop)(C:Addr):Prop :=
 ∃ f fd,mg x=some (.ref f)/\PySem.W.keepIn K (.ref f)=true/\Binds K fd ps []/\(∀ ds G E,cond ds G E->ds.length=ps.length) /\
  ∀(A:Around) (outer:List Env) (s:Shared) (H:Hp) (args:Args) (us:List Value) (vs:List V) (ds:List D) (G:Gp) (E:Gp->Prop),yM k A->zEX P w K mg base A outer s H->BindsTo s fd args (ps.zip us)->zc vs us->Dens K H ds vs->zt K G H->cond ds G E ->
   codeAny (model P w) A (.call (.ref f) args) (fun r s'=>∃ e H' B,r=.error (.ref e)/\XE P w outer H s C e H' B s'/\zp H H'/\∃ G',zt K G' H'/\E G') s
noncomputable def Xs(X:Cx)(C:Addr)(sts:List Stmt)(t:(Gp->Prop)->S2->Gp->Prop):Prop :=
 ∀(pins:List (Addr×Obj)) (s:Shared) (σ1:L2.St) (H:Hp) (σ:S2) (G:Gp) (E:Gp->Prop),zT X pins σ1 H s->Rel X.K σ G σ1 H->t E σ G ->
  wpAny (model X.prog X.w) X.A (execs sts X.env) (fun _ _=>False) (fun v s'=>∃ e H' B,v=.ref e/\XB X C e H' B s'/\zp H H'/\∃ G',zt X.K G' H'/\E G') s
noncomputable def Xe(X:Cx)(C:Addr)(ex:Expr)(t:(Gp->Prop)->S2->Gp->Prop):Prop :=
 ∀(pins:List (Addr×Obj)) (s:Shared) (σ1:L2.St) (H:Hp) (σ:S2) (G:Gp) (E:Gp->Prop),zT X pins σ1 H s->Rel X.K σ G σ1 H->t E σ G ->
  wpAny (model X.prog X.w) X.A (eval ex X.env) (fun _ _=>False) (fun v s'=>∃ e H' B,v=.ref e/\XB X C e H' B s'/\zp H H'/\∃ G',zt X.K G' H'/\E G') s
structure Own (X:Cx):Prop where
 no:∀ v s,¬ X.xe v s
 stk:X.stack=X.env::X.outer
 frm:X.env.frame=some X.env.locals
 ex:X.ex=[]
 calm:X.calm=true
section
variable {X:Cx} {C:Addr} {st:Stmt} {rest body els:List Stmt} {t:(Gp->Prop)->S2->Gp->Prop}
theorem zGa{t1:wP}(O:Own X)(h1:P2 X st t1)(h2:Xs X C rest t):Xs X C (st::rest) (fun E σ G=>t1 { nx:=t E,rt:=fun _ _=>False } σ G):=by
 intro pins s σ1 H σ G E I r h;refine dW (dP (h1 pins s σ1 H { nx:=fun σ1' H'=>zp H H'/\∃ σ' G',Rel X.K σ' G' σ1' H'/\t E σ' G',rt:=fun _ _=>False } I ⟨σ,G,_,r,h,⟨fun σ' G' q σ1' H' g r'=>⟨g,σ',G',r',q⟩,fun _ _ q=>q.elim,fun _ _ q=>q.elim,fun _ _ q=>q.elim⟩⟩) (fun f s' q=>?_) fun v s' q=>(O.no v s' q).elim);cases f with
 | next=>obtain⟨σ1',H',I',g,σ',G',r',q'⟩:=q;exact dP (h2 pins s' σ1' H' σ' G' E I' r' q') (fun _ _ z=>z) fun v s2 ⟨e,H2,B,e1,e2,g2,e3⟩=>⟨e,H2,B,e1,e2,g.trans g2,e3⟩
 | brk=>obtain⟨_,_,_,q⟩:=q;exact q
 | cont=>obtain⟨_,_,_,q⟩:=q;exact q
 | ret u=>obtain⟨_,_,_,_,_,q⟩:=q;exact q
theorem zM3{c:Expr}{tt:TT2}{pos:Pos}(O:Own X)(hc:T2 X c tt)(hb:Xs X C body t):Xs X C (.If c body els pos::rest) (fun E σ G=>tt σ G fun b G'=>b=true/\t E σ G'):=by
 intro pins s σ1 H σ G E I r h;refine dW (wpAny_If (dP (hc pins s σ1 H (fun b H'=>b=true/\zp H H'/\∃ G',Rel X.K σ G' σ1 H'/\t E σ G') I ⟨σ,G,_,r,h,fun b G' q H' g r'=>⟨q.1,g,G',r.to g r',q.2⟩⟩) (fun b s' q=>?_) fun v s' q=>(O.no v s' q).elim));obtain⟨H',I',rfl,g,G',r',q'⟩:=q;exact dP (hb pins s' σ1 H' σ G' E I' r' q') (fun _ _ z=>z.elim) fun v s2 ⟨e,H2,B,e1,e2,g2,e3⟩=>⟨e,H2,B,e1,e2,g.trans g2,e3⟩
theorem zIW{F:Str}{ps:List Str}{cond:List D->Gp->(Gp->Prop)->Prop}{k k':Nat}{e:Expr}{es:List Expr}{ta:wE}{p pos:Pos}(O:Own X)(R:Rz X.prog X.w X.K X.mg X.base k F ps cond C)(hr:yM k' X.A)(hk:k<=k')(hg:Gl X F)(ha:A2 X (e::es) ta)
  (hdb:autoParam ((F==("__debug__":Str))=false) Zq2._auto_1) (he:autoParam (starEach (e::es) X.env=(false,eval e X.env)::starEach es X.env) Zq4._auto_1) (hpl:autoParam ((backTo pos (starEach es X.env)).any (·.1)=false) Zq4._auto_1) :
  Xe X C (.Call (.Name F p) (e::es) [] pos) (fun E σ G=>ta σ G fun ds G'=>cond ds G' E):=by
 intro pins s σ1 H σ G E I r h;obtain⟨f,fd,hm,hkp,hb,hl,run⟩:=R;refine dS (zCg I hg hm ?_ hdb);refine PySem.W.callWith_K (h₀:=X.base) I.ok.mod.kin hkp (dP (ha pos pins s σ1 H (fun vs H'=>zp H H'/\∃ ds G',Dens X.K H' ds vs/\zt X.K G' H'/\cond ds G' E) I ⟨σ,G,_,r,h,fun ds G' q vs H' g r' d'=>⟨g,ds,G',d',r',q⟩⟩) (fun us s1 q=>?_) fun v s' q=>(O.no v s' q).elim) he hpl;obtain⟨vs,H1,I1,rv,g,ds,G',d',r',q'⟩:=q;refine⟨I1.kIn,wpAny_call (eE (run X.A X.stack s1 H1 ⟨us,[]⟩ us vs ds G' E (hr.mono hk) I1.env0 ?_ rv d' r' q') fun rr s' ⟨ee,H',B,e1,e2,g2,e3⟩=>?_)⟩
 ·have:=hb s1 us I1.kIn (by rw[eo,<-rv.length,<-d'.length];exact hl ds G' E q')
  rw[eo] at this;exact this
 ·subst e1
  exact⟨ee,H',B,rfl,e2.body O.stk O.frm O.ex I1,g.trans g2,e3⟩
theorem x_raise{cn:Str}{m:Expr}{tm:zf}{np cpos pos:Pos}(O:Own X)(hg:Gl X cn)(hm:X.mg cn=some (.ref C))(hc:PySem.W.excIn X.K C bmV "ValueError.__new__"=true)(he:E2 X m tm)
  (hdb:autoParam ((cn==("__debug__":Str))=false) Zq2._auto_1) (hst:autoParam (starEach [m] X.env=(false,eval m X.env)::starEach [] X.env) Zq4._auto_1):Xs X C (.Raise (some (.Call (.Name cn np) [m] [] cpos)) none pos::rest) (fun E σ G=>tm σ G fun _ G'=>E G'):=by
 intro pins s σ1 H σ G E I r h;have ha:PA X [m] (zJ5 (lE X.K tm) zOO):=wC he zAo hst;obtain⟨bm,N,nm,qn,bs,hdct,sn,sub,ab,col,dd,k0,k1,k2,k3,k5,mN,c1,c2,c3,c4⟩:=zM2 I.ok.mod.kin hc;refine dW (wpAny_Raise_call_subT (C:=C) (N:=N) (bm:=bm) (mN:=mN) (nm:=nm) (q:=qn) (bs:=bs) (hdct:=hdct) (sn:=sn) (sub:=sub) (ab:=ab) (col:=col) (dd:=dd) (k0:=k0) (k1:=k1) (k2:=k2) (k3:=k3) (k5:=k5) F.excBase_ValueError (c4.hasType F.excBase_ValueError.hasBase) (I.ok.hd O.calm) (by rw[hst];rfl) c3 (zCg I hg hm ⟨rfl,?_⟩ hdb));rw[hst];refine Calls.evalArgs_plain ?_;have h2:=ha cpos pins s σ1 H (fun vs H'=>vs.length=1/\zp H H'/\∃ G',zt X.K G' H'/\E G') I ⟨σ,G,fun _ G'=>E G',r,h,fun d G' q v H' g r' dv=>⟨rfl,g,G',r',q⟩⟩;rw[hst] at h2;refine dP h2 (fun us s1 ⟨vs,H1,I1,rv,hl,hgr,hG⟩=>?_) fun v s' q=>(O.no v s' q).elim;refine⟨rfl,?_,I1.bk _ _ c1,c2.keeps I1.bk,c4.keeps I1.bk,fun h' e mm=>⟨e,H1,_,rfl,XB.made O.stk O.frm O.ex I1 mm,hgr,hG⟩⟩;show us.length<=sizeLine;rw[<-rv.length,hl];decide
end
section
variable {P:Program} {w:World} {K:PySem.W.Frag} {mg:Str->Option Value} {base:Heap}
theorem wk{N:List Str}{qual:Str}{scope:Scope}{f:Addr}{cd:Value}{A:Around}{outer:List Env}{s:Shared}{H:Hp}{E:XK}:Own (zBr CX0 P w K mg base N qual scope f cd A outer s H E).nox:=⟨fun _ _ h=>h,rfl,rfl,rfl,rfl⟩
theorem zLF{x qual:Str}{st:Stmt}{f:Addr}{fd:FuncData}{N ps:List Str}{k:Nat}{C:Addr}{cond:List D->Gp->(Gp->Prop)->Prop}(t:(Gp->Prop)->S2->Gp->Prop)(F:Fun K x qual st f fd)(S:zb N ps (zE st))(hm:mg x=some (.ref f))(hb:Binds K fd ps [])
  (ht:∀(cdv:Value) (A:Around) (outer:List Env) (s:Shared) (H:Hp) (E:XK),yM k (A.deeper (envOfC qual (zE st) s.heap.objs.size f cdv))->Xs (zBr CX0 P w K mg base N qual (zE st) f cdv A outer s H E).nox C (zU st) t)
  (hs:∀ ds G E,cond ds G E->ds.length=ps.length/\t E (zP N ds) G):Rz P w K mg base (k+1) x ps cond C:=by
 refine⟨f,fd,hm,F.kp,hb,fun ds G E h=>(hs ds G E h).1,fun A outer s H args us vs ds G EE hr e0 hbd rv d r h=>?_⟩;obtain⟨oc,od,kV,doc,pm,an,cdv,ct,osl,rfl,lk,hcd⟩:=F.ex;obtain⟨hl,hq⟩:=hs ds G EE h;have hlv:vs.length=ps.length:=by rw[<-d.length];exact hl
 have KX:K.In s.heap:=e0.mod.kin.keeps fun b o e=>(e0.bs b o e).1;have lim:s.heap.NoLimit:=e0.mod.nolimit.keeps fun b o e=>(e0.bs b o e).1;have hkind:∀ y∈ps.zip us,(zE st).names.lookup y.1=some .local\/((zE st).names.lookup y.1=some .cell/\((cellsFrom (s.heap.objs.size+1) (zE st).names []).lookup y.1).isSome=true):=fun⟨n,v⟩ hy=>by
  rcases S.par n (List.of_mem_zip hy).1 with q | q
  ·exact .inl q
  ·exact .inr ⟨q,PySem.W.cellsFrom_some _ _ _ (.inl q)⟩
 refine codeAny_call_function hr.depth (KX _ _ lk) rfl S.co S.gen rfl (PySem.W.codeRec_of KX hcd) (hbd _ _ _ _ ?_);refine wpAny_newFunctionEnv_cells S.kind hkind fun env he s1 x=>?_;subst he;refine⟨lim.keeps x.toInCall.keep,codeAny_func ?_⟩;have I:zT (zBr CX0 P w K mg base N qual (zE st) f cdv A outer s H E0) [] (start N vs) H s1:=zDC S hr.hd e0 hlv rv x;refine dP (ht cdv A outer s H E0 (hr.deeper _) [] s1 (start N vs) H (zP N ds) G EE (I.wish _) (zCB r d) hq) (fun fl s' z=>z.elim) fun v s' z=>?_;obtain⟨e,H',B,rfl,xb,g,hG⟩:=z;exact xb.leave fun h'' q=>⟨e,H',B,rfl,q,g,hG⟩
end
end L3
namespace L2
theorem zIX{a b:Int}{t u:Tok}{c:Value}:∀ {l:List Value},TriplesOk l->TriplesOk (l++[.int a t,.int b u,c])/\∀ pos x,codeAmong pos (l++[.int a t,.int b u,c])=some x->codeAmong pos l=some x\/x=c
 | [],_=>⟨trivial,fun pos x e=>by
   have e':(if (a==↑pos.line&&b==↑pos.col)=true then some c else none)=some x:=e;split at e'
   ·cases e';exact .inr rfl
   ·cases e'⟩
 | .int i _::.int j _::z::r,h=>by
  obtain⟨h1,h2⟩:=zIX (a:=a) (b:=b) (t:=t) (u:=u) (c:=c) (l:=r) h;refine⟨h1,fun pos x e=>?_⟩;have e':(if (i==↑pos.line&&j==↑pos.col)=true then some z else codeAmong pos (r++[.int a t,.int b u,c]))=some x:=e;show(if (i==↑pos.line&&j==↑pos.col)=true then some z else codeAmong pos r)=some x\/x=c;split at e'
  ·rename_i hc;rw[if_pos hc];exact .inl e'
  ·rename_i hc;rw[if_neg hc];exact h2 pos x e'
noncomputable def BMn(h:Heap)(mg:Str->Option Value):Prop:=∃ bm ob,mg "__builtins__"=some (.ref bm)/\bm≠builtinsNs/\h.get? bm=some ob/\ob.cls=.type "module"/\ob.dict=some builtinsNs/\ob.data=.plain
noncomputable def zIY(H:Hp)(cv:Value)(q:Str):Prop:=∃(c:Addr) (o:Obj) (us:Array Value) (t':Tok),cv=.ref c/\H c=some (.frz o (.own 0))/\o.data=.fields us/\us[1]?=some (.str q t')
theorem zJY{X:Cx}{pins:List (Addr×Obj)}{σ:St}{H:Hp}{s:Shared}{params:Arguments}{body:Expr}{sc:Scope}{pos:Pos}{c P:Addr}{q:Str}{tq:Tok}{Q:Value->Shared->Prop}{E:Value->Shared->Prop}{A:Around}
  (I:zT X pins σ H s) (hcap:∀ y∈sc.names,y.2=.free->X.env.kindOf y.1=some .cell\/X.env.kindOf y.1=some .free) (hdf:defaultsOf params X.env=([],[])) (hcode:X.env.code=.ref c) (hC:PySem.W.CodeHd X.base c P) (hB:BMn X.base X.mg)
  (hq:X.env.qual++"<lambda>"=q) (hP:H P=some (.tbl #[.str q tq]))
  (h:∀(g:Addr) (H':Hp) (s':Shared) (cv ctv pm:Value),zT X pins σ H' s'->zCb H H'->Un X.fs [] H H' s.heap s'.heap->s.heap.objs.size<=g->H' g=none->s'.heap.get? g=some { cls:=.type "function",data:=.func (PySem.W.kla_fn "<lambda>" q params body sc (zBU sc X.env) pm cv ctv) }->zIY H' cv q->Q (.ref g) s') :
  wpAny (model X.prog X.w) A (eval (.Lambda params body sc pos) X.env) Q E s:=by
 have hfree:∀ y∈sc.names,y.2=.free->∃ c,X.env.cells.lookup y.1=some c:=fun y hy hf=>I.ok.has _ (hcap y hy hf);obtain⟨q',t',vs,e0,e1,e2,e3⟩:=(show wA X.prog X.w H s.heap P (.tbl #[.str q tq]) from I.hok P _ hP)
 cases e0;have hns:s.heap.Ns mainGlobals X.mg:=I.mod.glob.keeps I.bk;have hCh:PySem.W.CodeHd s.heap c P:=hC.keeps I.bk;have hBh:s.heap.BuiltinsAt X.mg P:=by
  obtain⟨bm,o,b1,b2,b5,b6,b7,b8⟩:=hB;obtain⟨g1,g2⟩:=I.bs _ _ b5;refine⟨bm,o,b1,b2,fun z=>?_,fun z=>?_,g1,b6,b7,b8⟩
  ·obtain⟨o',es,ep,n1,n2,_⟩:=hns
   rw[z,n1] at g1;cases g1;rw[n2] at b8;cases b8
  ·rw[z,hP] at g2;cases g2
 have hnP:mainGlobals≠P:=fun z=>by
  obtain⟨o,es,ep,n1,n2,_⟩:=hns;rw[z,e1] at n1;cases n1;cases n2
 refine PySem.W.kla_eval hdf ?_;rw[hq];cases hc:codeAmong pos vs.toList with
 | some cv =>
  refine PySem.W.kla_makeFunctionHit (zAT hfree) I.ok.glob hns hcode hCh e1 e2 hc hBh fun ctv h' tk kp hs=>?_;have kp2:∀ b u,s.heap.get? b=some u->(h'.push { cls:=.type "function",data:=.func (PySem.W.kla_fn "<lambda>" q params body sc (zBU sc X.env) ((X.mg "__name__").getD .none) cv ctv) }).get? b=some u:=fun b u z=>cL _ (kp b u z);exact h _ H _ cv ctv _ (I.kept (t':=tk) kp2) (.refl H) (Un.kept kp2) hs (I.hok.fresh hs) (de _ rfl) (e3 pos cv hc)
 | none =>
  refine PySem.W.kla_makeFunction (zAT hfree) I.ok.glob hns hcode hCh e1 e2 hc hnP hBh fun c' ctv h' tk eb hs1 hs2 cr eP=>?_;obtain⟨c1,oc,us,tt,z1,z2,z3,z4⟩:=cr;cases z1;have nc:H c'=none:=I.hok.fresh hs1;have hcP:c'≠P:=fun z=>by rw[z,hP] at nc;cases nc
  have hs:s.heap.objs.size<=h'.objs.size:=Nat.le_of_lt (Nat.lt_of_le_of_lt hs1 hs2);generalize hfo:PySem.W.kla_obj "<lambda>" q params body sc (zBU sc X.env) ((X.mg "__name__").getD .none) c' ctv=fo;have sm:zCb H (wo H c' (.frz oc (.own 0))):=fun b o z=>by rw[yC (yZ z nc)];exact z
  have kp:∀ b u,b≠P->s.heap.get? b=some u->(h'.push fo).get? b=some u:=fun b u n z=>cL _ (eb b u n z);have nP:∀ b,H b=none->b≠P:=fun b n z=>by rw[z,hP] at n;cases n
  obtain⟨t1,t2⟩:=zIX (a:=↑pos.line) (b:=↑pos.col) (t:=0) (u:=0) (c:=.ref c') e2;have gP:(h'.push fo).get? P=some (PySem.W.tabObj (vs++#[rawInt ↑pos.line,rawInt ↑pos.col,.ref c'])):=cL _ eP;have un:Un X.fs [] H (wo H c' (.frz oc (.own 0))) s.heap (h'.push fo):=by
   refine⟨fun b o z n _ _=>kp b o (nP b n) z,fun b o z n _ _=>⟨o.slots,kp b o (nP b n) z⟩,fun b o z n _=>?_,fun b o z _=>?_,fun b xs z=>sm _ _ z,fun b o u z=>sm _ _ z,fun b ps z=>sm _ _ z⟩
   ·rw[yC (dB (cO (cS z) hs1))];exact n
   ·by_cases hb:b=P
    ·exact⟨_,by rw[hb];exact gP⟩
    ·exact⟨o,kp b o hb z⟩
  have hok:HOk X.prog X.w (wo H c' (.frz oc (.own 0))) (h'.push fo):=by
   intro b u z;by_cases hb:b=c'
   ·subst hb
    rw[zm] at z;cases z;exact⟨cL _ z2,_,cL _ z2⟩
   ·rw[yC hb] at z
    by_cases hb2:b=P
    ·subst hb2
     rw[hP] at z;cases z;refine⟨q,tq,_,rfl,gP,?_,fun pos' cv e=>?_⟩
     ·rw[Array.toList_append];exact t1
     ·rw[Array.toList_append] at e
      rcases t2 pos' cv e with r | r
      ·obtain⟨c2,o2,us2,tt2,w1,w2,w3⟩:=e3 pos' cv r
       exact⟨c2,o2,us2,tt2,w1,sm _ _ w2,w3⟩
      ·exact⟨c',oc,us,tt,r,zm,z3,z4⟩
    ·refine(I.hok b u z).stay (fun d v hd r=>kp d v ?_ r) (fun _ r=>sm _ _ r) (fun _ _ r=>sm _ _ r) fun _ _ _ r=>sm _ _ r
     rcases hd with w | w
     ·rw[w];exact hb2
     ·intro w2;rw[w2,hP] at w;cases w
  refine h _ _ _ (.ref c') ctv ((X.mg "__name__").getD .none) (I.un (t':=tk) un hok) sm un hs ?_ ?_ ⟨c',oc,us,tt,rfl,zm,z3,z4⟩
  ·rw[yC (Nat.ne_of_gt hs2)];exact I.hok.fresh hs
  ·rw[<-hfo];exact de _ rfl
noncomputable def zEM(sc:Scope)(cl:List (Str×Addr))(q:Str)(g:Addr)(cv:Value)(L:Addr):Env:=newEnv sc L mainGlobals cl (q++".<locals>.") (some g) cv none builtinsNs
noncomputable def zJZ(X:Cx)(sc:Scope)(q:Str)(g:Addr)(cv:Value)(A:Around)(outer:List Env)(s:Shared)(H:Hp):Cx where
 prog:=X.prog
 w:=X.w
 K:=X.K
 mg:=X.mg
 base:=X.base
 A:=A.deeper (zEM sc (zBU sc X.env) q g cv s.heap.objs.size)
 N:=X.N
 s₀:=s
 H₀:=H
 env:=zEM sc (zBU sc X.env) q g cv s.heap.objs.size
 outer:=outer
 stack:=zEM sc (zBU sc X.env) q g cv s.heap.objs.size::outer
 ex:=[]
 calm:=true
 fn:=fun _=>false
 pn:=[]
 xe:=fun _ _=>False
structure zIZ (env:Env) (sc:Scope):Prop where
 kind:sc.kind=.function
 co:sc.isCoroutine=false
 gen:sc.isGenerator=false
 nocell:∀ y∈sc.names,y.2≠.cell
 noloc:∀ y∈sc.names,y.2≠.local
 cap:∀ y∈sc.names,y.2=.free->env.kindOf y.1=some .cell\/env.kindOf y.1=some .free
theorem zM4{X:Cx}{pins:List (Addr×Obj)}{σ:St}{H1 H2:Hp}{s1 s2:Shared}{sc:Scope}{q:Str}{g:Addr}{cv:Value}{A:Around}{outer:List Env}{k:Nat}{h':Heap}{tk:Nat}
  (I:zT X pins σ H1 s1) (T:zIZ X.env sc) (un:Un (frs X.stack) [] H1 H2 s1.heap s2.heap) (e0:zEX X.prog X.w X.K X.mg X.base A outer s2 H2) (hr:yM (k+1) A)
  (ns:h'.Ns s2.heap.objs.size fun _=>none) (kp:∀ b o,s2.heap.get? b=some o->h'.get? b=some o):zT (zJZ X sc q g cv A outer s2 H2) [] σ H2 { s2 with heap:=h',toks:=tk }:=by
 have cellK:∀ x c,X.env.cells.lookup x=some c->∀ v,s1.heap.IsCell c v->h'.IsCell c v:=fun x c e v ⟨o,ho,hd⟩=>by
  obtain⟨sl,z⟩:=un.any ho (I.freeC x c e) (by simp);exact⟨_,kp _ _ z,hd⟩
 have free_of:∀ x,(sc.names.lookup x=some .local\/sc.names.lookup x=some .cell\/sc.names.lookup x=some .free)->sc.names.lookup x=some .free:=fun x hx=>by
  rcases hx with z | z | z
  ·exact absurd rfl (T.noloc _ (PySem.mem_of_lookup z))
  ·exact absurd rfl (T.nocell _ (PySem.mem_of_lookup z))
  ·exact z
 have hfree:∀ y∈sc.names,y.2=.free->∃ c,X.env.cells.lookup y.1=some c:=fun y hy hf=>I.ok.has _ (T.cap y hy hf);have has:∀ x,sc.names.lookup x=some .free->∃ c,(zBU sc X.env).lookup x=some c:=fun x hx=>zCh (env:=X.env) (ns:=sc.names) (cs:=[]) (x:=x) hfree (.inr (PySem.mem_of_lookup hx));have noA:∀ b:Addr,b∉(zJZ X sc q g cv A outer s2 H2).ex:=fun b z=>absurd (show b∈([]:List Addr) from z) (by simp);refine⟨⟨e0.mod,T.kind,rfl,rfl,cN _,fun x y c h1 h2=>I.ok.inj x y c (zAl h1) (zAl h2),fun x hx=>?_,fun x c z=>(by cases z),fun _=>(hr.deeper _).hd,Around.frames_deeper e0.frames,.inr ⟨rfl,rfl⟩,fun b z=>absurd z (noA b),e0.bs,e0.bsz,fun b _ _=>noA b,fun b z=>absurd z (noA b),e0.funs,e0.frf,e0.tb⟩,
  rfl,e0.bare,Un.kept kp,⟨_,ns,fun i x v h1 h2 h3=>?_⟩,fun x c e=>?_,e0.hok.fresh (cN _),fun x c e=>?_,fun p hp=>absurd (show p∈([]:List (Addr×Obj)) from hp) (by simp),e0.hok.kept kp,I.len⟩
 ·exact has x (free_of x (.inr hx))
 ·have hf:=free_of x h3
  obtain⟨m,hn,hl⟩:=I.loc;have cp:=T.cap _ (PySem.mem_of_lookup hf) rfl;have vis:Vis X.env.scope x:=by
   rcases cp with z | z
   ·exact .inr (.inl z)
   ·exact .inr (.inr z)
  obtain⟨u,r,l⟩:=hl i x v h1 h2 vis;refine⟨u,r,?_⟩;obtain⟨c',hc'⟩:=has x hf;have hc2:=zAl hc';rcases l with ⟨z,_⟩ | ⟨_,c,e,z⟩
  ·rcases cp with z' | z'<;>(rw[z] at z';cases z')
  ·rw[e] at hc2
   have ec:c=c':=Option.some.inj hc2;rw[<-ec] at hc';exact .inr ⟨.inr hf,c,hc',cellK x c e _ z⟩
 ·have e':=zAl (show(zBU sc X.env).lookup x=some c from e)
  obtain⟨v,z⟩:=I.cell x c e';exact⟨v,cellK x c e' v z⟩
 ·have e':=zAl (show(zBU sc X.env).lookup x=some c from e)
  obtain⟨v,o,ho,_⟩:=I.cell x c e';exact un.free c o ho (I.freeC x c e') (by simp)
end L2
namespace L3
open L2
theorem zM5{X:Cx}{sc:Scope}{q:Str}{g:Addr}{cv:Value}{A:Around}{outer:List Env}{s:Shared}{H:Hp}:Own (zJZ X sc q g cv A outer s H):=⟨fun _ _ h=>h,rfl,rfl,rfl,rfl⟩
theorem zM6{X:Cx}{pins:List (Addr×Obj)}{σ1:L2.St}{σ:S2}{G:Gp}{E:Gp->Prop}{H1 H2:Hp}{s1 s2:Shared}{sc:Scope}{q:Str}{g C:Addr}{cv ctv pm:Value}{A:Around}{outer:List Env}{k:Nat}{params:Arguments}{body:Expr}{t:(Gp->Prop)->S2->Gp->Prop}
  (I:L2.zT X pins σ1 H1 s1) (T:zIZ X.env sc) (un:Un (frs X.stack) [] H1 H2 s1.heap s2.heap) (e0:zEX X.prog X.w X.K X.mg X.base A outer s2 H2) (hr:yM (k+1) A)
  (hbd:bindArgs (PySem.W.kla_fn "<lambda>" q params body sc (zBU sc X.env) pm cv ctv) ⟨[],[]⟩=pure [])
  (hg:s2.heap.get? g=some { cls:=.type "function",data:=.func (PySem.W.kla_fn "<lambda>" q params body sc (zBU sc X.env) pm cv ctv) }) (lc:zIY H2 cv q)
  (hx:Xe (zJZ X sc q g cv A outer s2 H2) C body t) (r:Rel X.K σ G σ1 H2) (ht:t E σ G) :
  codeAny (model X.prog X.w) A (.call (.ref g) ⟨[],[]⟩) (fun r s'=>∃ e H' B,r=.error (.ref e)/\XE X.prog X.w outer H2 s2 C e H' B s'/\zp H2 H'/\∃ G',zt X.K G' H'/\E G') s2:=by
 obtain⟨c,o,us,t',rfl,z2,z3,z4⟩:=lc;have hcr:s2.heap.CodeRec (.ref c) q:=⟨c,o,us,t',rfl,(e0.hok c _ z2).1,z3,z4⟩
 have lim:s2.heap.NoLimit:=e0.mod.nolimit.keeps fun b o e=>(e0.bs b o e).1;refine PySem.W.kla_callFunE hr.depth hg rfl T.co T.gen rfl hcr ?_;rw[hbd];refine dA (wpAny_newFunctionEnv T.nocell (fun y hy=>absurd hy (by simp)) (fun h' ns sb=>?_) T.kind);have kp:∀ b o,s2.heap.get? b=some o->h'.get? b=some o:=fun b o e=>by
  rw[sb.2 b (dB (cS e))];exact cL _ e
 refine⟨lim.keeps kp,PySem.W.kla_codeExpr ?_⟩;have I2:=zM4 (q:=q) (g:=g) (cv:=.ref c) (tk:=s2.toks+0) I T un e0 hr ns kp;refine dP (hx [] _ σ1 H2 σ G E I2 r ht) (fun v s' z=>z.elim) fun v s' z=>?_;obtain⟨e,H',B,rfl,xb,gr,hG⟩:=z;exact xb.leave fun h'' xe=>⟨e,H',B,rfl,xe,gr,hG⟩
end L3
namespace L2
theorem zHc{prog:Program}{w:World}{A:Around}{K:PySem.W.Frag}{x C:Addr}{R:Result->Shared->Prop}{tp:Value}{hh:Heap}{g:Array GenState}{dr:Drawn}{t:Nat}{os:OsState}(X:K.In hh)(L0:∀ M,PySem.W.Looks M hh (typeOf (.ref x)) (.ref C))(hm:PySem.W.mroIn K C (.type "object")=some true)
  (h:R (.ok (.ret (.ref C))) ⟨hh,g,dr,t,os⟩):codeAny (model prog w) A (.call (.builtin "getset_descriptor.__get__") ⟨[.builtin "object.__class__",.ref x,tp],[]⟩) R ⟨hh,g,dr,t,os⟩:=by
 have L1:∀ M,PySem.W.Looks M hh (isSubtype (.ref C) (.type "object")) true:=fun M=>PySem.W.looks_mroIn X hm;refine codeAny_call_builtin PySem.W.KF.slot_gs.plain PySem.W.KF.entry_gs (PySem.W.KF.slot_gs.check _ _ _ _ _ _ _ _ PySem.W.KF.type_class (PySem.W.KF.args_gs _ _ _) ?_);unfold Builtin.«getset_descriptor.__get__» Builtin.Getset_descriptor.descrGet;rw[PySem.W.dga_obj];refine cT (dA ?_);show wpAny _ _ (Builtin.Getset_descriptor.descrGetter (.builtin "object.__class__") (some (.ref x))) _ _ _;unfold Builtin.Getset_descriptor.descrGetter;dsimp only;unfold Builtin.Getset_descriptor.descrCheckInstance;have e1:Builtin.Getset_descriptor.descrNameAndClass (.builtin "object.__class__")=(pure (("__class__":Str),Value.type "object"):Sem (Str×Value)):=by
  unfold Builtin.Getset_descriptor.descrNameAndClass;dsimp only;rw[PySem.W.KF.owner_class]
 refine cT (cT (wpAny_of_eq e1 ?_));dsimp only;unfold isInstance;refine cT (cT (PySem.W.Looks.at (L0 _) (PySem.W.Looks.at (L1 _) ?_)));refine eH rfl (dA ?_);unfold again;refine dA ⟨Code.quiet_builtin _ (by decide +kernel),codeAny_builtin PySem.W.KF.entry_class ?_⟩;unfold Builtin.«object.__class__»;dsimp only;unfold shownTypeOf;refine cT (cT (PySem.W.Looks.at (L0 _) ?_));refine eH rfl (dA ?_);unfold ret;exact dA h
theorem zJa{prog:Program}{w:World}{A:Around}{E:Value->Shared->Prop}{K:PySem.W.Frag}{e C:Addr}{o:Obj}{h:Heap}{g:Array GenState}{d:Drawn}{t:Nat}{os:OsState}{Q:Option Value->Shared->Prop}(X:K.In h)(hx:h.get? e=some o)(hc:o.cls=.ref C)
  (k1:PySem.W.findIn K (.ref C) "__getattribute__"=some (some (.builtin "BaseException.__getattribute__"))) (k2:PySem.W.findIn K (.ref C) "__getattr__"=some none) (k3:PySem.W.findIn K (.ref C) "__class__"=some (some (.builtin "object.__class__")))
  (k4:PySem.W.specialIn K (.builtin "object.__class__") "__get__"=some (some (.builtin "getset_descriptor.__get__"))) (k5:PySem.W.takesIn K (.builtin "object.__class__")=some true) (k6:PySem.W.mroIn K C (.type "object")=some true) (k7:PySem.W.mroIn K C (.type "BaseException")=some true)
  (q:Q (some (.ref C)) ⟨h,g,d,t+1,os⟩):wpAny (model prog w) A (getAttr? (.ref e) "__class__") Q E ⟨h,g,d,t,os⟩:=by
 have L0:∀ M,PySem.W.Looks M h (typeOf (.ref e)) (.ref C):=fun M=>hc▸PySem.W.Looks.andThen (PySem.W.Looks.ld hx) PySem.W.Looks.now;have L7:∀ M,PySem.W.Looks M h (isSubtype (.ref C) (.type "BaseException")) true:=fun M=>PySem.W.looks_mroIn X k7;unfold getAttr?;refine cT (wpAny_mkText ?_);unfold getAttrBy?;refine cT (wpAny_attempt ?_);unfold getAttrBy;refine wpAny_holding (cT (PySem.W.Looks.at (L0 _) ?_));refine cT (PySem.W.Looks.at (PySem.W.looks_findIn X k1) ?_);dsimp only;refine eH rfl ?_;unfold getAttrByItsOwn;refine cT ?_;unfold hookBefore;refine wpAny_ite_true rfl (PySem.W.Looks.at (PySem.W.looks_findIn X k2) ?_);refine cT (wpAny_attempt (wpAny_holding ?_));unfold callGetattribute;refine eH rfl ?_;unfold boundAndCalled;refine cT (wpAny_of_eq (F.excAttr_ValueError.ga.bind (.ref e)) ?_);dsimp only;refine wpAny_call (codeAny_call_builtin F.excAttr_ValueError.ga.plain F.entry_bexc_ga ?_);have hk:builtinKind "BaseException.__getattribute__"=some Manifest.AttrKind.slot:=by decide +kernel
 have hsp:splitId "BaseException.__getattribute__"=some ("BaseException","__getattribute__"):=by decide +kernel
 have ha:argsOk "BaseException.__getattribute__" { pos:=[Value.ref e,Value.str "__class__" t] }:=F.args_bexc_ga _ _;unfold checkBuiltinCall;rw[hk,hsp];dsimp only[cE,cG];unfold isInstance;refine cT (cT (PySem.W.Looks.at (L0 _) (PySem.W.Looks.at (L7 _) ?_)));refine eH rfl (wpAny_of_eq ha ?_);unfold Builtin.«object.__getattribute__»;refine cT ?_;unfold slotArgs;refine eH rfl (eH rfl (dA ?_));dsimp only;refine cT ?_;unfold Builtin.ObjectAttr.attrName;refine dA ?_;refine cT (PySem.W.Looks.at (L0 _) ?_);refine cT ?_;unfold Builtin.ObjectAttr.find;refine cT (PySem.W.Looks.at (PySem.W.looks_findIn X k3) ?_);refine cT ?_;unfold Builtin.ObjectAttr.getOf;refine PySem.W.Looks.at (PySem.W.looks_specialIn X k4) ?_;refine cT ?_;unfold Builtin.ObjectAttr.dataDescriptor?;refine cT (PySem.W.Looks.at (PySem.W.looks_takesIn X k5) ?_);refine wpAny_ite_true rfl (dA ?_);dsimp only;refine cT (wpAny_rule (dA ?_));dsimp only;unfold Builtin.ObjectAttr.bindTo;dsimp only;refine cT (wpAny_holding (wpAny_call (zHc X L0 k6 ?_)));unfold ret;refine dA ?_;dsimp only;exact PySem.W.handed_on rfl (dA q)
structure zEd (K:PySem.W.Frag) (C:Addr):Prop where
 ex0:PySem.W.excIn K C bmV "ValueError.__new__"=true
 cl:(PySem.W.clsIn K C).isSome=true
 k1:PySem.W.findIn K (.ref C) "__getattribute__"=some (some (.builtin "BaseException.__getattribute__"))
 k2:PySem.W.findIn K (.ref C) "__getattr__"=some none
 k3:PySem.W.findIn K (.ref C) "__class__"=some (some (.builtin "object.__class__"))
 k4:PySem.W.specialIn K (.builtin "object.__class__") "__get__"=some (some (.builtin "getset_descriptor.__get__"))
 k5:PySem.W.takesIn K (.builtin "object.__class__")=some true
 k6:PySem.W.mroIn K C (.type "object")=some true
 k7:PySem.W.mroIn K C (.type "BaseException")=some true
theorem zO4{K:PySem.W.Frag}{C:Addr}(h:(PySem.W.clsIn K C).isSome=true):∃ c d cd sl,K.lookup C=some ⟨c,d,.cls cd,sl⟩:=by
 unfold PySem.W.clsIn at h;split at h
 ·rename_i c d cd sl e;exact⟨c,d,cd,sl,e⟩
 ·cases h
theorem zLG{K:PySem.W.Frag}{e C:Addr}(k:zEd K C):PySem.W.KitX K (.ref e) (.ref C) (fun h=>∃ o,h.get? e=some o/\o.cls=.ref C):=by
 obtain⟨c0,d0,cd,sl,hl⟩:=zO4 k.cl;refine⟨fun M h _ ⟨o,hx,hc⟩=>hc▸PySem.W.Looks.andThen (PySem.W.Looks.ld hx) PySem.W.Looks.now,fun M h X _ A Q E s kp q=>?_,fun h tp dd its n s2 X ht=>?_,fun {prog w A E Q s} X ⟨o,hx,hc⟩ q=>?_⟩
 ·unfold isType
  exact cT (wpAny_loadPart (kp _ _ (X _ _ hl)) (dA q))
 ·refine Bool.eq_false_iff.mpr fun z=>?_
  have z':=Value.ref.inj (beq_iff_eq.mp z);have z2:=X _ _ hl;rw[z',ht] at z2;cases z2
 ·obtain⟨hh,g,d,t,os⟩:=s
  exact zJa X hx hc k.k1 k.k2 k.k3 k.k4 k.k5 k.k6 k.k7 q
end L2
namespace HD
section
variable {prog:Program} {w:World} {A:Around} {E:Value->Shared->Prop} {s:Shared}
end
section
variable {prog:Program} {w:World} {A:Around} {R:Result->Shared->Prop} {h0:Heap} {S I l:Addr} {its:Array Value} {ks:Nat->Int} {vs:Nat->Value} {g:Array GenState} {d:Drawn} {os:OsState}
end
section
variable {prog:Program} {w:World} {A:Around} {E:Value->Shared->Prop} {s:Shared}
end
end HD
namespace L2
open HD
noncomputable abbrev zJb(X:Cx)(a:Addr)(o:Obj):Cx:={ X with pn:=(a,o)::X.pn }
section
variable {X:Cx} {pins:List (Addr×Obj)} {σ:List (Option V)} {H:Hp} {s:Shared} {a:Addr} {o:Obj}
theorem zT.pinD(I:zT X pins σ H s)(e:s.heap.get? a=some o)(n:H a=none)(l:a≠X.env.locals)(f:a∉X.fs)(c:∀ v,o.data≠.cell v):zT X ((a,o)::pins) σ H s :=
 ⟨I.ok,I.os,I.bare,I.base,I.loc,I.cell,I.free,I.freeC,fun p hp=>by
  rcases dQ.mp hp with hp | hp
  ·exact I.pin p (dN _ hp)
  ·rcases db.mp hp with rfl | hp
   ·exact⟨e,n,l,f,c⟩
   ·exact I.pin p (cY _ hp),I.hok,I.len⟩
theorem Cx.Ok.pin(k:X.Ok):(zJb X a o).Ok:=⟨k.mod,k.kind,k.glob,k.blt,k.above,k.inj,k.has,k.cab,k.hd,k.frames,k.stk,k.exf,k.bs,k.bsz,k.noex,k.exfs,k.funs,k.frf,k.tb⟩
theorem zT.into(I:zT X ((a,o)::pins) σ H s):zT (zJb X a o) pins σ H s :=
 ⟨I.ok.pin,I.os,I.bare,I.base,I.loc,I.cell,I.free,I.freeC,fun p hp=>I.pin p (by
  rcases dQ.mp hp with hp | hp
  ·rcases db.mp hp with rfl | hp
   ·exact cY _ dc
   ·exact dN _ hp
  ·exact cY _ (cU _ hp)),I.hok,I.len⟩
end
end L2
namespace L3
open L2
end L3
namespace L2
theorem XE.after{P:Program}{w:World}{outer:List Env}{H H':Hp}{s s':Shared}{C e:Addr}{B base h'':Heap}(x:XE P w outer H s C e H' B s')(ff:s.heap.FunFrames base outer)(frf:∀ b∈frs outer,H b=none)(st:Heap.StaysIn B h'')
  (sl:∀ b o,s'.heap.get? b=some o->(∀ vs,o.data≠.fields vs)->∃ sl,h''.get? b=some { o with slots:=sl }):Un (frs outer) [] H H' s.heap h''/\HOk P w H' h'':=by
 have slot:∀ b o,s.heap.get? b=some o->H b=none->b∈frs outer->∃ sl,h''.get? b=some { o with slots:=sl }:=fun b o q n hb=>by
  obtain⟨s1,q1⟩:=x.un.slot b o q n hb (by simp);have hd:∀ vs,o.data≠.fields vs:=by
   obtain⟨_,o1,ho,hd⟩:=ff.mem hb;rw[q] at ho;cases ho;exact hd
  obtain⟨s2,q2⟩:=sl b _ q1 hd;exact⟨s2,q2⟩
 refine⟨⟨fun b o q n hb _=>st b o (x.has0 b o q n hb),fun b o q n hb _=>slot b o q n hb,fun b o q n _=>x.un.free b o q n (by simp),fun b o q _=>?_,x.un.tups,x.un.frzs,x.un.tbls⟩,fun b u q=>?_⟩
 ·by_cases hb:b∈frs outer
  ·obtain⟨s1,z⟩:=slot b o q (frf b hb) hb
   exact⟨_,z⟩
  ·obtain⟨o',z⟩:=x.th b o q hb
   exact⟨o',st b o' z⟩
 ·refine(x.hok b u q).stay (fun c v hc r=>?_) (fun _ r=>r) (fun _ _ r=>r) fun _ _ _ r=>r
  have:∃ o,B.get? c=some o:=by
   rcases hc with z | z
   ·subst z;exact x.has1 _ _ q
   ·exact x.has1 _ _ z
  obtain⟨o2,z⟩:=this;have z2:=x.stay c o2 z;rw[r] at z2;obtain rfl:v=o2:=Option.some.inj z2;exact st c v z
section
variable {X:Cx} {pins:List (Addr×Obj)} {σ:St} {H:Hp} {s:Shared}
theorem zFm{M:Model}{A:Around}{E:Value->Shared->Prop}{i:Nat}{x:Str}{pos:Pos}{Q:Unit->Shared->Prop}(I:zT X pins σ H s)(hN:X.N.Nodup)(hi:X.N[i]?=some x)(hk:X.env.scope.names.lookup x=some .local)
  (h:∀ s',zT X pins (σ.set i none) H s'->Q () s'):wpAny M A (do bindName X.env x Value.none;unbindBehindTheSuite X.env x pos) Q E s:=by
 obtain⟨m,hn,hl⟩:=id I.loc;have hcls:(X.env.scope.kind==.class||(X.env.scope.kind==.module&&X.env.locals != X.env.globals))=false:=by rw[I.ok.kind];rfl
 have hiσ:i<σ.length:=by rw[I.len];exact(cJ.mp hi).1
 have cne:=I.cne;refine wpAny_nameGoes_keeps hk hn hcls fun h' v hn' hs=>?_;obtain⟨oL,_,_,hoL,_⟩:=id hn;have tracked:HOk X.prog X.w H h':=fun b ob e=>by
  refine(I.hok b ob e).stay (fun c w' hc q=>(hs.2 c ?_).trans q) (fun _ q=>q) (fun _ _ q=>q) fun _ _ _ q=>q;rintro rfl;rcases hc with rfl | hc
  ·rw[I.free] at e;cases e
  ·rw[I.free] at hc;cases hc
 refine h _ ⟨I.ok,I.os,I.bare,⟨fun b o e n hb hx=>?_,fun b o e n hb hx=>?_,I.base.free,fun b o e hx=>?_,I.base.tups,I.base.frzs,I.base.tbls⟩,⟨_,hn',fun j y v' e1 e2 e3=>?_⟩,fun y c e=>?_,I.free,I.freeC,fun p hp=>?_,tracked,by simpa using I.len⟩
 ·exact(hs.2 b (dB (cO (cS e) I.ok.above))).trans (I.base.keep b o e n hb hx)
 ·obtain⟨sl,e1⟩:=I.base.slot b o e n hb hx
  exact⟨sl,(hs.2 b (dB (cO (cS e) I.ok.above))).trans e1⟩
 ·obtain⟨o',e1⟩:=I.base.there b o e hx
  exact⟨o',(hs.2 b (dB (cO (cS e) I.ok.above))).trans e1⟩
 ·by_cases hj:j=i
  ·subst hj
   rw[dD hiσ] at e2;cases e2
  ·rw[dO (Ne.symm hj)] at e2
   obtain⟨u',r',q⟩:=hl j y v' e1 e2 e3;refine⟨u',r',?_⟩;rcases q with ⟨k,e⟩ | ⟨k,c,e,z⟩
   ·refine .inl ⟨k,?_⟩
    have:y≠x:=fun e=>hj (zDk hN e1 (e▸hi));simp[this,e]
   ·exact .inr ⟨k,c,e,z.sameBut hs (cne y c e)⟩
 ·obtain⟨w',z⟩:=I.cell y c e
  exact⟨w',z.sameBut hs (cne y c e)⟩
 ·obtain⟨e,n,ne,nf,d⟩:=I.pin p hp
  exact⟨(hs.2 p.1 ne).trans e,n,ne,nf,d⟩
theorem zLH{M:Model}{A:Around}{E:Value->Shared->Prop}{i:Nat}{x:Str}{v:V}{pos:Pos}{Q:Value->Shared->Prop}(I:zT X pins σ H s)(hi:X.N[i]?=some x)(hk:X.env.scope.names.lookup x=some .local)(hv:σ[i]?=some (some v))(hd:(x==("__debug__":Str))=false)
  (h:∀ u,RelV v u->Q u s):wpAny M A (eval (.Name x pos) X.env) Q E s:=by
 obtain⟨m,hn,hl⟩:=I.loc;obtain⟨u,r,l⟩:=hl i x v hi hv (.inl hk);rcases l with ⟨_,hm⟩ | ⟨z,_⟩
 ·exact wpAny_Name (wpAny_loadName_local I.ok.kind hk hn hm (h u r)) hd
 ·rcases z with z | z<;>(rw[show X.env.kindOf x=some .local from hk] at z;cases z)
theorem zLI{C Cc g:Addr}{cn xc en er:Str}{ic ie ir:Nat}{p1 p2 p3 p4 p5 p6 p7 hp tp:Pos}{Z:Hp->Prop}{Q:Flow->Shared->Prop}{E:Value->Shared->Prop}(stk:X.stack=X.env::X.outer)(frm:X.env.frame=some X.env.locals)(ex:X.ex=[])
  (I:zT X pins σ H s) (hN:X.N.Nodup) (c1:X.N[ic]?=some cn) (c2:X.env.scope.names.lookup cn=some .local) (c3:σ[ic]?=some (some (.ref g))) (hf:PySem.W.FnAt g s.heap)
  (run:codeAny (model X.prog X.w) X.A (.call (.ref g) ⟨[],[]⟩) (fun r s'=>∃ e H' B,r=.error (.ref e)/\XE X.prog X.w X.stack H s C e H' B s'/\Z H') s)
  (hg:Gl X xc) (hm:X.mg xc=some (.ref Cc)) (hx:PySem.W.exmOne X.K (.ref C) (.ref Cc)=some true)
  (e1:X.N[ie]?=some en) (e2:X.env.scope.names.lookup en=some .local) (r1:X.N[ir]?=some er) (r2:X.env.scope.names.lookup er=some .local)
  (h:∀ e oe H' s',zT (zJb X e oe) pins (((σ.set ie (some (.ref e))).set ir (some (.ref e))).set ie none) H' s'->Z H'->oe.cls=.ref C->Q .next s')
  (d1:autoParam ((cn==("__debug__":Str))=false) Zq2._auto_1) (d2:autoParam ((xc==("__debug__":Str))=false) Zq2._auto_1) (d3:autoParam ((en==("__debug__":Str))=false) Zq2._auto_1)
  (sw1:autoParam (swapsWith (.Call (.Name cn p1) [] [] p2) none p3.line X.env=pure false) Zq4._auto_1) (sw2:autoParam (swapsWith (.Name en p6) (some (.Name er p5)) p7.line X.env=pure false) Zq4._auto_1) :
  wpAny (model X.prog X.w) X.A (exec (.Try [.Expr (.Call (.Name cn p1) [] [] p2) p3] [.ExceptHandler (some (.Name xc p4)) (some en) [.Assign [.Name er p5] (.Name en p6) p7] hp] [] [] tp) X.env) Q E s:=by
 refine wpAny_Try_except (dW (wpAny_Expr_any (dS (zLH I c1 c2 c3 d1 fun u r=>?_)) I.quiet sw1));obtain rfl:u=Value.ref g:=r;refine PySem.W.callWith_F0 hf (wpAny_call (eE run fun r s' u9=>?_));obtain⟨e,H',B,z1,x,hZ⟩:=u9;subst z1;dsimp only;have xb:=x.body stk frm ex I;obtain⟨a0,tr⟩:=x.tr;have fr:X.A.frames=some (X.env::X.outer):=by rw[I.ok.frames,stk]
 have ffb:=xb.funs;rw[stk] at ffb;refine wpAny_noteFrame_onW fr ffb frm tr x.stay x.eB fun h1 n1=>?_;obtain⟨n1,n2,n3,n4⟩:=n1;refine wpAny_setFlight_noneW n1 n2 n3 fun h2 s2 f2 t2 k2=>?_;have I2:zT X pins σ H' { s' with heap:=h2 }:=by
  obtain⟨u,hk⟩:=x.after I.stack I.stkFree s2 fun b o q nd=>by
   obtain⟨sl,z⟩:=n4 b o q nd;exact⟨sl,k2 b _ z nd⟩
  exact I.call' (s':={ s' with heap:=h2 }) x.os u hk x.bare fun b hb=>absurd hb (by simp)
 refine wpAny_handleBy_cons (codeAny_handlers_test ?_) (fun q=>by cases q);refine Calls.Name_function_global I.ok.kind hg (Calls.loadGlobal_global (by rw[I.ok.glob];exact I2.mod.glob.keeps I2.bk) hm ?_) d2;have hte:∃ o,h2.get? e=some o/\o.cls=.ref C:=by
  obtain⟨oe,vs,T,oT,ts,w1,⟨w2,_⟩,_⟩:=t2;exact⟨oe,w1,w2⟩
 obtain⟨oe2,w1,w2⟩:=hte;refine PySem.W.Looks.at (PySem.W.exm_one I2.kIn (w2▸PySem.W.Looks.andThen (PySem.W.Looks.ld w1) PySem.W.Looks.now) hx) ?_;dsimp only;rw[if_pos rfl];refine codeAny_handlers_suite_as ?_;refine wpAny_setFlight_noneW s2 f2 t2.at fun h3 s3 f3 t3 k3=>?_;have I3:zT X pins σ H' { s' with heap:=h3 }:=by
  obtain⟨u,hk⟩:=x.after I.stack I.stkFree s3 fun b o q nd=>by
   obtain⟨sl,z⟩:=n4 b o q nd;exact⟨sl,k3 b _ (k2 b _ z nd) nd⟩
  exact I.call' (s':={ s' with heap:=h3 }) x.os u hk x.bare fun b hb=>absurd hb (by simp)
 obtain⟨oe,vs,T,oT,ts,v1,⟨v2,_⟩,v3,_⟩:=t3;have neL:e≠X.env.locals:=fun z=>by
  obtain⟨m,⟨o,es,ep,ho,_⟩,_⟩:=I.loc;have:=x.new;rw[z,ho] at this;cases this
 have neF:e∉X.fs:=fun z=>by
  obtain⟨_,o,ho,_⟩:=I.funs.mem z;rw[x.new] at ho;cases ho
 have I3p:=I3.pinD v1 x.free neL neF fun v q=>by rw[v3] at q;cases q
 have hie:ie<σ.length:=by rw[I.len];exact(cJ.mp e1).1
 refine zBs I3p hN e1 (.inl e2) (show RelV (.ref e) (.ref e) from rfl) (fun s4 I4=>?_) (.inr e2);refine dW (wpAny_Assign_Name (zLH I4 e1 e2 (dD hie) d3 fun u r=>?_) sw2);obtain rfl:u=Value.ref e:=r;refine zBs I4 hN r1 (.inl r2) (show RelV (.ref e) (.ref e) from rfl) (fun s5 I5=>?_) (.inr r2);refine wpAny_execs_nil ?_;dsimp only;refine zFm I5 hN e1 e2 fun s6 I6=>?_;exact h e oe H' s6 I6.into hZ v2
end
end L2
namespace L3
open L2
theorem _root_.L2.zCb.grow{H H':Hp}(h:zCb H H'):zp H H':=⟨fun a xs e=>h a _ e,fun a o u e=>h a _ e⟩
theorem zt.same{K:PySem.W.Frag}{G:Gp}{H H':Hp}(r:zt K G H)(h:zCb H H'):zt K G H' :=
 ⟨fun a ds e=>by obtain⟨xs,e1,e2⟩:=r.m a ds e;exact⟨xs,h _ _ e1,e2.grow h.grow⟩,fun a ds e=>by obtain⟨xs,e1,e2⟩:=r.ro a ds e;exact⟨xs,h.grow.roL e1,e2.grow h.grow⟩⟩
structure zLJ (st:Stmt) (N:List Str) (rest:List Stmt):Prop where
 body:∃ j1 p1 p2 p3 p4 p5 p6 p7 p8 p9 p10 p11 p12,zU st=.Assign [.Name "error" p1] (.Constant .none j1 p2) p3::.Try [.Expr (.Call (.Name "call" p4) [] [] p5) p6] [.ExceptHandler (some (.Name "ChordError" p7)) (some "e") [.Assign [.Name "error" p8] (.Name "e" p9) p10] p11] [] [] p12::rest
 n0:N[0]?=some ("call":Str)
 n1:N[1]?=some ("error":Str)
 n2:N[2]?=some ("e":Str)
 l0:(zE st).names.lookup ("call":Str)=some .local
 l1:(zE st).names.lookup ("error":Str)=some .local
 l2:(zE st).names.lookup ("e":Str)=some .local
 gl:(zE st).names.lookup ("ChordError":Str)=some .globalImplicit
structure zLK (X:Cx) (x:Str) (c P:Addr) (params:Arguments) (body:Expr) (sc:Scope):Prop where
 hsc:zIZ X.env sc
 code:X.env.code=.ref c
 hd:PySem.W.CodeHd X.base c P
 blt:BMn X.base X.mg
 qual:X.env.qual++"<lambda>"=x++".<locals>.<lambda>"
 mem:x∈zBS
 tab:PySem.W.tabIn X.K x=some (c,P)
 df:defaultsOf params X.env=([],[])
 bd:∀(q:Str) (cl:List (Str×Addr)) (pm cv ctv:Value),bindArgs (PySem.W.kla_fn "<lambda>" q params body sc cl pm cv ctv) ⟨[],[]⟩=pure []
theorem zJc{X:Cx}{st:Stmt}{f:Addr}{fd:FuncData}{N:List Str}{k:Nat}{C Cc c P:Addr}{kind:Int}{x:Str}{rest:List Stmt}{params:Arguments}{body:Expr}{sc:Scope}{t:(Gp->Prop)->S2->Gp->Prop}{trest:Addr->wP}{p lp pos:Pos}
  (F:Fun X.K "_law_refused" "_law_refused" st f fd) (S:zb N ["call"] (zE st)) (hm:X.mg "_law_refused"=some (.ref f)) (hb:Binds X.K fd ["call"] []) (hr:yM (k+2) X.A) (hgl:Gl X "_law_refused") (B:zLJ st N rest)
  (hCc:X.mg "ChordError"=some (.ref Cc)) (hxm:PySem.W.exmOne X.K (.ref C) (.ref Cc)=some true)
  (hrest:∀(cdv:Value) (A:Around) (outer:List Env) (s:Shared) (H:Hp) (e:Addr) (oe:Obj),yM (k+1) (A.deeper (envOfC "_law_refused" (zE st) s.heap.objs.size f cdv))->oe.cls=.ref C->Ps2 (zJb (zBr CX0 X.prog X.w X.K X.mg X.base N "_law_refused" (zE st) f cdv A outer s H E0).nox e oe) rest (trest e))
  (hres:∀(e:Addr) (G:Gp) (R:Q2),(∀ l,G.m l=none->R (.adr l) (zQ G l [.int kind]))->trest e (zg R) ((cK N.length none).set 1 (some (.adr e))) G)
  (L:zLK X x c P params body sc) (hlam:∀(g:Addr) (cv:Value) (A:Around) (outer:List Env) (s:Shared) (H:Hp),yM k (A.deeper (zEM sc (zBU sc X.env) (x++".<locals>.<lambda>") g cv s.heap.objs.size))->Xe (zJZ X sc (x++".<locals>.<lambda>") g cv A outer s H) C body t) :
  F2 X (.Call (.Name "_law_refused" p) [.Lambda params body sc lp] [] pos) (fun σ G R=>t (fun G'=>R [.int kind] G') σ G):=by
 intro pins s σ1 H Q I hq;obtain⟨σ,G,R,r,ht,kk⟩:=hq;refine dS (zCg I hgl hm ?_);refine PySem.W.callWith_K (h₀:=X.base) I.ok.mod.kin F.kp ?_;obtain⟨tq,hP⟩:=I.tabs x L.mem c P L.tab;show wpAny _ _ (spliced ((false,eval (.Lambda params body sc lp) X.env)::backTo pos (starEach [] X.env))) _ _ s;refine Calls.spliced_cons (zJY I L.hsc.cap L.df L.code L.hd L.blt L.qual hP fun g H1 s1 cv ctv pm I1 sm un1 hsz hg0 hgo lc=>?_);refine Calls.spliced_nil ⟨I1.kIn,wpAny_call ?_⟩;obtain⟨oc,od,kV,doc,pm2,an,cdv,ct,osl,rfl,lk,hcd⟩:=F.ex;have hg3:g∉frs X.stack:=fun z=>by
  obtain⟨_,o,ho,_⟩:=I.stack.mem z;exact absurd (cO (cS ho) hsz) (dZ _)
 let Q1:VK:=fun v H'=>∃ l xs G',v=.ref l/\R [.int kind] G'/\zt X.K G' H'/\G'.m l=none/\H' l=some (.lst xs)/\Dens X.K H' [.int kind] xs/\zp H H';have core:codeAny (model X.prog X.w) X.A (.call (.ref f) ⟨[.ref g],[]⟩) (CR CX0 X.stack X.prog X.w H1 s1 Q1 E0) s1:=by
  have e0:=I1.env0;have KX:X.K.In s1.heap:=I1.kIn;have lim:s1.heap.NoLimit:=I1.nolimit;have hkind:∀ y∈[("call":Str)].zip [Value.ref g],(zE st).names.lookup y.1=some .local\/((zE st).names.lookup y.1=some .cell/\((cellsFrom (s1.heap.objs.size+1) (zE st).names []).lookup y.1).isSome=true):=fun⟨n,v⟩ hy=>by
   rcases S.par n (List.of_mem_zip hy).1 with q | q
   ·exact .inl q
   ·exact .inr ⟨q,PySem.W.cellsFrom_some _ _ _ (.inl q)⟩
  have hbd:=hb s1 [.ref g] KX rfl;refine codeAny_call_function hr.depth (KX _ _ lk) rfl S.co S.gen rfl (PySem.W.codeRec_of KX hcd) (hbd _ _ _ _ ?_);refine wpAny_newFunctionEnv_cells S.kind hkind fun env he s2 x2=>?_;subst he;refine⟨lim.keeps x2.toInCall.keep,codeAny_func ?_⟩;have J0:zT (zBr CX0 X.prog X.w X.K X.mg X.base N "_law_refused" (zE st) f cdv X.A X.stack s1 H1 E0).nox [] (start N [.ref g]) H1 s2:=(zDC (vs:=[.ref g]) (us:=[.ref g]) S hr.hd e0 rfl (.cons (show RelV (.ref g) (.ref g) from rfl) .nil) x2).wish _;have hrr:yM (k+1) (X.A.deeper (envOfC "_law_refused" (zE st) s1.heap.objs.size f cdv)):=hr.deeper _;obtain⟨j1,p1,p2,p3,p4,p5,p6,p7,p8,p9,p10,p11,p12,hbody⟩:=B.body;rw[hbody];have hl3:3<=N.length:=by have:=(cJ.mp B.n2).1;omega
  have st0:(start N [.ref g])[0]?=some (some (.ref g)):=rfl;refine dW (wpAny_Assign_Name (dP (zJv (X:=(zBr CX0 X.prog X.w X.K X.mg X.base N "_law_refused" (zE st) f cdv X.A X.stack s1 H1 E0).nox) [] s2 _ H1 (fun v H'=>v=.non/\H'=H1) J0 ⟨rfl,rfl⟩) (fun u s3 hz=>?_) (fun _ _ z=>z.elim)) rfl);obtain⟨v,H',J1,rv,rfl,hH⟩:=hz;rw[hH] at J1;refine zBs J1 S.nd B.n1 (.inl B.l1) rv (fun s4 J2=>?_) (.inr B.l1);dsimp only;refine dW (zLI (C:=C) (Cc:=Cc) (Z:=fun H'=>zp H1 H'/\∃ G',zt X.K G' H'/\R [.int kind] G') rfl rfl rfl J2 S.nd B.n0 B.l0 (by rw[dO (by decide)];exact st0) ?fn ?run B.gl hCc hxm B.n2 B.l2 B.n1 B.l1 ?h)
  case fn=>exact⟨_,_,_,_,J2.base.keep g _ hgo hg0 hg3 (by intro z;exact absurd (show g∈([]:List Addr) from z) (by simp))⟩
  case run =>
   exact zM6 (X:=X) (pins:=pins) (σ1:=σ1) I1 L.hsc J2.base J2.env0 hrr (L.bd _ _ _ _ _) (J2.base.keep g _ hgo hg0 hg3 (by intro z;exact absurd (show g∈([]:List Addr) from z) (by simp))) lc (hlam g cv _ _ s4 _ (hrr.deeper _)) (r.to sm.grow (r.g.same sm)) ht
  case h =>
   intro e oe H' s' Jp hZ hcl;obtain⟨gr,G',rg,hR⟩:=hZ;dsimp only;let D:Ends:={ nx:=fun _ H''=>Q1 .non H'',rt:=Q1 }
   let R2:Q2:=fun d G''=>∃ l G0,d=.adr l/\G0.m l=none/\G''=zQ G0 l [.int kind]/\R [.int kind] G0;have hG:zp H H':=sm.grow.trans gr;refine dP (hrest cdv X.A X.stack s1 H1 e oe hrr hcl [] s' _ H' D Jp ⟨_,G',zg R2,⟨rg,?_,?_⟩,hres e G' R2 fun l n=>⟨l,G',rfl,n,rfl,hR⟩,⟨?_,?_,?_,?_⟩⟩) (fun fl s'' hs=>?_) (fun _ _ z=>z.elim)
   ·simp[L2.start];omega
   ·intro i d e1
    by_cases hi:i=1
    ·subst hi
     rw[dD (by simp;omega)] at e1;cases e1;refine⟨.ref e,?_,by unfold zO;rfl⟩;rw[dO (by decide),dD (by simp[L2.start];omega)]
    ·rw[dO (Ne.symm hi),eF] at e1
     split at e1<;>cases e1
   ·rintro σ' G1 ⟨G2,s2',⟨l,G0,z,_⟩⟩;cases z
   ·intro _ _ z;exact z.elim
   ·intro _ _ z;exact z.elim
   ·rintro d G1 ⟨G2,s2',⟨l,G0,rfl,n0,rfl,hR0⟩⟩ v H2 g2 r2 dv
    unfold zO at dv;subst dv;obtain⟨xs,w1,w2⟩:=r2.m l _ (s2'.m _ _ zJ);exact⟨l,xs,G0,rfl,hR0,r2.sub ((Sub.new n0).trans s2'),n0,w1,w2,hG.trans g2⟩
   ·cases fl with
    | ret u =>
     obtain⟨v,σ',H2,J,rv2,q⟩:=hs;exact⟨v,H2,J.os,J.bare,J.base,J.hok,rv2,q⟩
    | next =>
     obtain⟨σ',H2,J,⟨l,xs,G2,z,_⟩⟩:=hs;cases z
    | brk=>obtain⟨_,_,_,q⟩:=hs;exact q.elim
    | cont=>obtain⟨_,_,_,q⟩:=hs;exact q.elim
 refine eE core fun rr s' hq'=>?_;cases rr with
 | error e=>exact hq'.elim
 | ok fl =>
  cases fl with
  | ret u =>
   obtain⟨v,H',J,rv,l,xs,G',rfl,a1,a2,a3,a4,a5,a6⟩:=I1.after hq';exact⟨.ref l,H',J,rv,kk _ G' a1 l xs H' a6 a2 a3 a4 a5⟩
  | next=>exact hq'.elim
  | brk=>exact hq'.elim
  | cont=>exact hq'.elim
noncomputable def zGb(i:Nat)(e:Addr)(b:Bool):zf:=fun σ G R=>look σ i=some (.adr e)/\R (.bl b) G
section
variable {X:Cx}
theorem zGc{e C:Addr}{oe:Obj}{c:Value}{vc:V}{b:Bool}(k:zEd X.K C)(hp:(e,oe)∈X.pn)(hc:oe.cls=.ref C)(hv:∀ u,RelV vc u->u=c)(hb:PySem.W.kitOne X.K (.ref C) c=some b):wD X (.builtin "isinstance") (fun xs H Q=>xs=[.ref e,vc]/\Q (.bl b) H):=by
 intro pins s σ H xs us Q I rv h;obtain⟨rfl,q⟩:=h;obtain⟨w1,w2,rfl,r1,r2⟩:=vals2 rv;obtain rfl:w1=Value.ref e:=r1;obtain rfl:=hv w2 r2;exact PySem.W.kia_one (zLG k) I.kIn ⟨oe,(I.pin _ (dN _ hp)).1,hc⟩ hb (fun z=>nomatch z) fun tk=>⟨.bl b,H,I.tok _,rfl,q⟩
theorem zGd(i:Nat){x cn:Str}{e C D:Addr}{oe:Obj}{b:Bool}{p p1 p2 pos:Pos}(k:zEd X.K C)(hp:(e,oe)∈X.pn)(hc:oe.cls=.ref C)(hg:Gl X "isinstance")(hm:X.mg "isinstance"=none)(hg2:Gl X cn)(hD:X.mg cn=some (.ref D))(hb:PySem.W.kitOne X.K (.ref C) (.ref D)=some b)
  (hN:autoParam (X.N[i]?=some x) Zq4._auto_1) (hv:autoParam (Vis X.env.scope x) Zq6._auto_1) (hd:autoParam ((x==("__debug__":Str))=false) Zq2._auto_1) (hcd:autoParam ((x==("__classdict__":Str))=false) Zq2._auto_1) (hdb:autoParam ((cn==("__debug__":Str))=false) Zq2._auto_1) :
  E2 X (.Call (.Name "isinstance" p) [.Name x p1,.Name cn p2] [] pos) (zGb i e b):=by
 refine PE.mono (zAp (zGc (vc:=.ref D) k hp hc (fun u r=>r) hb) hg hm (by decide +kernel) (wC (zG1 hN hv hd hcd) (wC (zDa hg2 hD (v:=.ref D) rfl hdb) zAo rfl) rfl)) ?_;rintro σ1 H Q ⟨σ,G,R,r,⟨q1,q2⟩,kk⟩;obtain⟨v,e1,e2⟩:=r.val i _ (zCi q1);unfold zO at e2;subst e2;exact⟨_,e1,rfl,kk _ G q2 _ H (.refl H) r.g (by unfold zO;rfl)⟩
theorem zO5(i:Nat){x:Str}{e C:Addr}{oe:Obj}{p p1 p2 pos:Pos}(k:zEd X.K C)(hp:(e,oe)∈X.pn)(hc:oe.cls=.ref C)(hg:Gl X "isinstance")(hm:X.mg "isinstance"=none)(hg2:Gl X "ValueError")(hm2:X.mg "ValueError"=none)(hb:PySem.W.kitOne X.K (.ref C) (.type "ValueError")=some true)
  (hN:autoParam (X.N[i]?=some x) Zq4._auto_1) (hv:autoParam (Vis X.env.scope x) Zq6._auto_1) (hd:autoParam ((x==("__debug__":Str))=false) Zq2._auto_1) (hcd:autoParam ((x==("__classdict__":Str))=false) Zq2._auto_1) :
  E2 X (.Call (.Name "isinstance" p) [.Name x p1,.Name "ValueError" p2] [] pos) (zGb i e true):=by
 refine PE.mono (zAp (zGc (vc:=.ty "ValueError") k hp hc (fun u r=>r) hb) hg hm (by decide +kernel) (wC (zG1 hN hv hd hcd) (wC (zH3 (v:=.ty "ValueError") hg2 hm2 (by decide +kernel) rfl) zAo rfl) rfl)) ?_;rintro σ1 H Q ⟨σ,G,R,r,⟨q1,q2⟩,kk⟩;obtain⟨v,e1,e2⟩:=r.val i _ (zCi q1);unfold zO at e2;subst e2;exact⟨_,e1,rfl,kk _ G q2 _ H (.refl H) r.g (by unfold zO;rfl)⟩
end
end L3
namespace L2
noncomputable def zO6:Value->Bool | .str _ _=>true | _=>false
noncomputable def zLL:Value->Bool | .int _ _=>true | _=>false
noncomputable def zQB:Value->Bool | .bool _=>true | _=>false
noncomputable def zO7(P:Addr):Option Value->Bool | some (.ref a)=>a==P | _=>false
noncomputable def zCw(K:PySem.W.Frag)(c P:Addr):Bool:=match K.lookup c with
 | some ⟨.type "code",_,.fields vs,_⟩=>zO7 P vs[11]?&&zO6 (vs.getD 18 .none)&&zLL (vs.getD 7 .none)&&zQB (vs.getD 9 .none)&&zLL (vs.getD 10 .none)&&!(c==P)
 | _=>false
theorem zE7{K:PySem.W.Frag}{c P:Addr}{h:Heap}(X:K.In h)(q:zCw K c P=true):PySem.W.CodeHd h c P/\isCodeTable h P:=by
 unfold zCw at q;split at q
 ·rename_i d vs sl heq
  simp only[di,Bool.not_eq_true',beq_eq_false_iff_ne] at q;obtain⟨⟨⟨⟨⟨q1,q2⟩,q3⟩,q4⟩,q5⟩,q6⟩:=q;have h11:vs[11]?=some (.ref P):=by
   generalize vs[11]?=v at q1;cases v with
   | none=>cases q1
   | some v=>cases v<;>first | (have:=beq_iff_eq.mp (show(_==P)=true from q1);rw[this];done) | cases q1
  have hd:∀(b:Value->Bool) (v:Value),b v=true->b v=true:=fun _ _ z=>z;obtain⟨s,t,e18⟩:∃ s t,vs.getD 18 .none=.str s t:=by
   generalize vs.getD 18 .none=v at q2;cases v<;>first | exact⟨_,_,rfl⟩ | cases q2
  obtain⟨i,t2,e7⟩:∃ s t,vs.getD 7 .none=.int s t:=by
   generalize vs.getD 7 .none=v at q3;cases v<;>first | exact⟨_,_,rfl⟩ | cases q3
  obtain⟨b,e9⟩:∃ s,vs.getD 9 .none=.bool s:=by
   generalize vs.getD 9 .none=v at q4;cases v<;>first | exact⟨_,rfl⟩ | cases q4
  obtain⟨i2,t3,e10⟩:∃ s t,vs.getD 10 .none=.int s t:=by
   generalize vs.getD 10 .none=v at q5;cases v<;>first | exact⟨_,_,rfl⟩ | cases q5
  have g:=X _ _ heq;refine⟨⟨_,vs,s,t,i,t2,b,i2,t3,g,rfl,rfl,h11,?_,e18,e7,e9,e10,q6⟩,⟨c,_,vs,g,rfl,rfl,h11⟩⟩;rw[Array.getD_eq_getD_getElem?,h11];rfl
 ·cases q
theorem zLM{K:PySem.W.Frag}{x:Str}{c P f:Addr}{oc:Value}{od:Option Addr}{fd:FuncData}{sl:Array (Option Value)}(h:PySem.W.tabIn K x=some (c,P))(h1:PySem.W.nsIn K mainGlobals x=some (some (.ref f)))(h2:K.lookup f=some ⟨oc,od,.func fd,sl⟩):fd.code=.ref c:=by
 unfold PySem.W.tabIn at h;rw[h1] at h;dsimp only at h;rw[h2] at h;dsimp only at h;cases hc:fd.code<;>(rw[hc] at h;dsimp only at h)<;>try cases h
 rename_i c';split at h
 ·split at h
  ·cases h;rfl
  ·cases h
 ·cases h
structure zNp (K:PySem.W.Frag) (as ts:List Addr) (qn:Addr->Str):Prop where
 out:∀ P∈ts,P∉as
 code:∀ P∈ts,∃ c,zCw K c P=true
 name:∀ x∈zBS,∀ c b,PySem.W.tabIn K x=some (c,b)->b∈ts/\qn b=x++".<locals>.<lambda>"
theorem lookup_none{K:PySem.W.Frag}{P:Addr}(h:P∉K.map (·.1)):K.lookup P=none:=by
 induction K with
 | nil=>rfl
 | cons p r ih =>
  rw[dt,db,not_or] at h;obtain⟨a,o⟩:=p;have hb:(P==a)=false:=by simpa using h.1
  rw[dk,hb];exact ih h.2
theorem zQC{K:PySem.W.Frag}{as ts:List Addr}{x:Str}(h:∃ c P,PySem.W.tabIn K x=some (c,P)/\zCw K c P=true/\ts=[P])(hy:∀ y∈zBS,y=x\/PySem.W.tabIn K y=none)(ho:∀ P∈ts,P∉as):∃ qn,zNp K as ts qn:=by
 obtain⟨c,P,h1,h2,rfl⟩:=h;refine⟨fun _=>x++".<locals>.<lambda>",ho,fun P' hP=>?_,fun y hyy c' b e=>?_⟩
 ·rw[eC.mp hP];exact⟨c,h2⟩
 ·rcases hy y hyy with rfl | z
  ·rw[h1] at e;cases e;exact⟨eC.mpr rfl,rfl⟩
  ·rw[z] at e;cases e
theorem zJd{P':Program}{w:World}{K:PySem.W.Frag}{mg mb:Str->Option Value}{CX:CXT}{k:Nat}{fa a:Addr}{fd:FuncData}{x:Str}{sp:Sp}{s₁:Shared}{vs:List Value}{ns:List Int}{ts:List Addr}{qn:Addr->Str}
  (TB:TabsAt K s₁.heap ts qn) (KX:K.In s₁.heap) (hns:s₁.heap.Ns mainGlobals mg) (hb:s₁.heap.Ns builtinsNs mb) (hbb:∀ x:Str,x≠"__name__"->mb x=bootBuiltins x) (hlim:s₁.heap.NoLimit) (hg:s₁.gens=#[])
  (ha:s₁.heap.get? a=some { cls:=.type "list",data:=.seq vs.toArray }) (hi:IntsAre vs ns) (hl:ns.length<=sizeLine) (hr:yM k callerA)
  (hbm:BMn s₁.heap mg) (F:∀ base:Heap,K.In base->base.Ns mainGlobals mg->BMn base mg->zCa P' w K mg base CX k fa fd [x] sp) (hbind:∀(s:Shared) (u:Value),BindsTo s fd ⟨[u],[]⟩ [(x,u)])
  (hsp:∀ H:Hp,zME H->SqL K H a (ns.map V.int)->sp [.ref a] H (fun v _=>v=.bl true) fun _ _ _=>False)
  (hCX:∀ H e s',CX [] H s₁ (fun _ _ _=>False) e s'->False) :
  codeAny (model P' w) callerA (.call (.ref fa) ⟨[.ref a],[]⟩) (fun r s'=>r=.ok (.ret (.bool true))/\OldK s₁.heap s'.heap/\s'.os=s₁.os/\AllBare s'.gens) s₁:=by
 have rv:=zEp hi;have lenV:=hi.length
 -- from an abstract heap in which nothing but the script may be tracked
 have core:∀ H:Hp,zME H->SqL K H a (ns.map V.int)->HOk P' w H s₁.heap->(∀ b,H b≠none->b=a\/b∈ts)->(H a≠none->K.lookup a=none)->(∀ P∈ts,H P=some (.tbl #[.str (qn P) 0])) ->
   codeAny (model P' w) callerA (.call (.ref fa) ⟨[.ref a],[]⟩) (fun r s'=>r=.ok (.ret (.bool true))/\OldK s₁.heap s'.heap/\s'.os=s₁.os/\AllBare s'.gens) s₁:=by
  intro H hO hS hok hA hK hT;have base_of:∀ {b:Addr} {o:Obj},s₁.heap.get? b=some o->H b=none->(zEW s₁.heap H).get? b=some o:=fun e n=>zJu e n;have noA:∀ {b:Addr} {o:Obj} {es:Array DictEntry} {ep:Nat},s₁.heap.get? b=some o->o.data=.dict es ep->H b=none:=fun {b o es ep} e d=>by
   cases q:H b with
   | none=>rfl
   | some u =>
    rcases hA b (by rw[q];simp) with e' | e'
    ·subst e'
     rw[ha] at e;cases e;have d':Data.seq vs.toArray _=Data.dict es ep:=d;cases d'
    ·rw[TB.obj b e'] at e;cases e
     have d':Data.fields #[]=Data.dict es ep:=d;cases d'
  have nsK:∀ {b:Addr} {m:Str->Option Value},s₁.heap.Ns b m->(zEW s₁.heap H).Ns b m:=fun {b m} ⟨o,es,ep,e,d,r⟩=>⟨o,es,ep,base_of e (noA e d),d,r⟩
  have hKb:K.In (zEW s₁.heap H):=fun b o e=>base_of (KX b o e) (by
   cases q:H b with
   | none=>rfl
   | some u =>
    rcases hA b (by rw[q];simp) with e' | e'
    ·subst e'
     rw[hK (by rw[q];simp)] at e;cases e
    ·rw[TB.out b e'] at e;cases e)
  have hM:Mod K mg (zEW s₁.heap H):=⟨hKb,nsK hns,⟨mb,nsK hb,hbb⟩,let ⟨mc,h1,h2⟩:=hlim;⟨mc,nsK h1,h2⟩⟩
  have e0:zEX P' w K mg (zEW s₁.heap H) callerA [] s₁ H:=⟨rfl,hM,fun b o e=>zLs e,Nat.le_of_eq (zIq _ _),trivial,fun b hb=>absurd (show b∈([]:List Addr) from hb) (by simp),hok,.of_eq hg,fun x hx c b e=>by
   obtain⟨z1,z2⟩:=TB.name x hx c b e;exact⟨0,by rw[<-z2];exact hT b z1⟩⟩
  have hbm':BMn (zEW s₁.heap H) mg:=by
   obtain⟨bm,o,b1,b2,b5,b6,b7,b8⟩:=hbm;refine⟨bm,o,b1,b2,base_of b5 ?_,b6,b7,b8⟩;cases q:H bm with
   | none=>rfl
   | some u =>
    rcases hA bm (by rw[q];simp) with e' | e'
    ·subst e'
     rw[ha] at b5;cases b5;cases b8
    ·rw[TB.obj bm e'] at b5;cases b5;cases b8
  refine eE ((F _ hKb (nsK hns) hbm').run callerA [] s₁ H ⟨[.ref a],[]⟩ [.ref a] [.ref a] _ _ hr e0 (hbind s₁ (.ref a)) (.cons rfl .nil) (hsp H hO hS)) fun r s' h=>?_;cases r with
  | error e=>exact(hCX H e s' h).elim
  | ok fl =>
   cases fl with
   | next=>exact False.elim h
   | brk=>exact False.elim h
   | cont=>exact False.elim h
   | ret u =>
    obtain⟨v,H',os,bare,un,hok',r',q⟩:=h;have q':v=.bl true:=q;subst q';obtain rfl:u=Value.bool true:=r';have K1:∀ b o,b∉ts->s₁.heap.get? b=some o->s'.heap.get? b=some o:=fun b o hb e=>by
     cases q:H b with
     | none=>exact un.keep b o e q (by intro z;exact absurd (show b∈([]:List Addr) from z) (by simp)) (by simp)
     | some u =>
      rcases hO b with z | ⟨ob,xs,z⟩ | ⟨ps,z⟩
      ·rw[q] at z;cases z
      ·have z2:=un.frzs b ob _ z
       obtain⟨e1,_⟩:=hok b _ z;obtain⟨e2,_⟩:=hok' b _ z2;rw[e] at e1;cases e1;exact e2
      ·rcases hA b (by rw[q];simp) with e' | e'
       ·obtain⟨_,_,_,_,w1,_⟩:=hok b _ z
        rw[e',ha] at w1;cases w1
       ·exact absurd e' hb
    have K2:∀ b,b∈ts->∃ vs,s'.heap.get? b=some (PySem.W.tabObj vs):=fun b hb=>by
     have z2:=un.tbls b _ (hT b hb);obtain⟨_,_,vs,_,w1,_⟩:=hok' b _ z2;exact⟨vs,w1⟩
    refine⟨rfl,⟨fun b o e=>?_,fun b o e=>?_⟩,os,bare⟩
    ·by_cases hb:b∈ts
     ·obtain⟨vs,w1⟩:=K2 b hb
      rw[TB.obj b hb] at e;cases e;exact .inr (.inl ⟨TB.code b hb,rfl,#[],vs,rfl,by simpa using w1⟩)
     ·exact .inl (K1 b o hb e)
    ·by_cases hb:b∈ts
     ·obtain⟨vs,w1⟩:=K2 b hb
      exact⟨_,w1⟩
     ·exact⟨o,K1 b o hb e⟩
 have naT:∀ P∈ts,P≠a:=fun P hP z=>by
  have e:=TB.obj P hP;rw[z,ha] at e;cases e
 have tok:∀(H:Hp),∀ P∈ts,wA P' w H s₁.heap P (.tbl #[.str (qn P) 0]):=fun H P hP=>⟨qn P,0,#[],rfl,TB.obj P hP,trivial,fun pos cv e=>by cases e⟩
 cases hk:K.lookup a with
 | some o =>
  -- the script is one of the module's own objects
  have e:=KX a o hk;rw[ha] at e;cases e;refine core (fun b=>if b∈ts then some (.tbl #[.str (qn b) 0]) else none) (fun b=>?_) (.inr ⟨_,vs.toArray,_,hk,rfl,rfl,rfl,by rw[cP,lenV];exact hl,by simpa using rv⟩) (fun b u z=>?_) (fun b z=>?_) (fun z=>?_) fun P hP=>if_pos hP
  ·by_cases hb:b∈ts
   ·exact .inr (.inr ⟨_,if_pos hb⟩)
   ·exact .inl (if_neg hb)
  ·by_cases hb:b∈ts
   ·have z':=(if_pos hb).symm.trans z
    cases z';exact tok _ b hb
   ·have z':=(if_neg hb).symm.trans z
    cases z'
  ·by_cases hb:b∈ts
   ·exact .inr hb
   ·exact absurd (if_neg hb) z
  ·by_cases hb:a∈ts
   ·exact absurd rfl (naT a hb)
   ·exact absurd (if_neg hb) z
 | none =>
  refine core (fun b=>if b=a then some (.frz { cls:=.type "list",data:=.seq vs.toArray } (.lst (ns.map V.int))) else if b∈ts then some (.tbl #[.str (qn b) 0]) else none) (fun b=>?_) (.inl (.inr ⟨{ cls:=.type "list",data:=.seq vs.toArray },if_pos rfl⟩)) (fun b u z=>?_) (fun b z=>?_) (fun _=>hk) fun P hP=>?_
  ·by_cases hb:b=a
   ·exact .inr (.inl ⟨_,_,if_pos hb⟩)
   ·by_cases hb2:b∈ts
    ·exact .inr (.inr ⟨_,(if_neg hb).trans (if_pos hb2)⟩)
    ·exact .inl ((if_neg hb).trans (if_neg hb2))
  ·by_cases hb:b=a
   ·have z':=(if_pos hb).symm.trans z
    cases z';subst hb;exact⟨ha,by rw[cI];exact hl,vs,_,rv,ha⟩
   ·by_cases hb2:b∈ts
    ·have z':=((if_neg hb).trans (if_pos hb2)).symm.trans z
     cases z';exact tok _ b hb2
    ·have z':=((if_neg hb).trans (if_neg hb2)).symm.trans z
     cases z'
  ·by_cases hb:b=a
   ·exact .inl hb
   ·by_cases hb2:b∈ts
    ·exact .inr hb2
    ·exact absurd ((if_neg hb).trans (if_neg hb2)) z
  ·exact(if_neg (naT P hP)).trans (if_pos hP)
theorem zLN{l:PySem.W.OpenLaw}{n k:Nat}{q:Program}{loose:List Str}{XP:(Str->Option Value)->Heap->Prop}{YP:World->Heap->Prop}{d:DefRec}{K:Params->PySem.W.Frag}{CX:World->CXT}{sp:World->Sp}{x:Str}
  (hn:l.most=some n) (hn2:n<=sizeLine) (hdf:d.params.defaults=[]) (hr:yM k callerA)
  (hY:∀(w:World) (h:Heap),YP w h->(K w.params).In h/\∃ ts qn,TabsAt (K w.params) h ts qn)
  (F:∀(w:World) (mg:Str->Option Value) (fa:Addr) (h:Heap),(K w.params).In h->h.Ns mainGlobals mg->mg d.name=some (.ref fa) ->
   ∃ fd:FuncData,(∀(s:Shared) (u:Value),BindsTo s fd ⟨[u],[]⟩ [(x,u)]) /\
    ∀ base:Heap,(K w.params).In base->base.Ns mainGlobals mg->BMn base mg->zCa l.prog w (K w.params) mg base (CX w) k fa fd [x] (sp w))
  (hsp:∀(w:World) (H:Hp) (a:Addr) (ns:List Int),ns.length<=n->zME H->SqL (K w.params) H a (ns.map V.int)->sp w [.ref a] H (fun v _=>v=.bl true) fun _ _ _=>False)
  (hCX:∀(w:World) (H:Hp) (s:Shared) (e:Value) (s':Shared),CX w [] H s (fun _ _ _=>False) e s'->False) :
  PySem.W.WalkO q loose XP YP l.row.toRowW d [] (fun f vs=>PySem.call f vs):=by
 refine Att.zF7 hn hdf fun w s₀ s₁ mg mb fa o pm cd doc a vs ns G Y ho hd hcd hmg hobj hints hlen hg=>?_;obtain⟨KX,ts,qn,TB⟩:=hY w _ Y;obtain⟨fd,hb,hF⟩:=F w mg fa _ KX G.T.g hmg;exact zJd TB KX G.T.g G.T.b G.T.builtins G.T.nolimit hg hobj hints (dC hlen hn2) hr G.T.bmain hF hb (fun H hO hS=>hsp w H a ns hlen hO hS) fun H e s'=>hCX w H s₁ e s'
end L2
namespace L3
open L2
theorem zJe{l:PySem.W.OpenLaw}{k:Nat}{q:Program}{loose:List Str}{XP:(Str->Option Value)->Heap->Prop}{d:DefRec}{K:Params->PySem.W.Frag}{as:List Addr}{e:∀ P:Params,as=(K P).map (·.1)}{ts:List Addr}(hn:l.most=some 63)(hdf:d.params.defaults=[])(hr:yM k callerA)
  (hT:∀ w:World,∃ qn,zNp (K w.params) as ts qn)
  (F:∀(w:World) (mg:Str->Option Value) (fa:Addr) (h:Heap),(K w.params).In h->h.Ns mainGlobals mg->mg d.name=some (.ref fa) ->
   ∃ fd:FuncData,(∀(s:Shared) (u:Value),BindsTo s fd ⟨[u],[]⟩ [("script",u)])/\∀ base:Heap,(K w.params).In base->base.Ns mainGlobals mg->BMn base mg->zCa l.prog w (K w.params) mg base CX0 k fa fd ["script"] (lSp (K w.params) zEx)) :
  PySem.W.WalkO q loose XP (PySem.W.kmHook K as e ts).says l.row.toRowW d [] (fun f vs=>PySem.call f vs) :=
 L2.zLN (K:=K) (n:=63) (k:=k) (x:="script") (CX:=fun _=>CX0) (sp:=fun w=>lSp (K w.params) zEx) hn (by decide) hdf hr (fun w h Y=>⟨PySem.W.km_in_of Y,ts,by
  obtain⟨qn,t⟩:=hT w;have KX:=PySem.W.km_in_of Y;exact⟨qn,PySem.W.km_tabs_of Y,fun P hP=>lookup_none (by rw[<-e w.params];exact t.out P hP),fun P hP=>(zE7 KX (t.code P hP).choose_spec).2,t.name⟩⟩) F (fun _ H a ns hl hO hS=>zOn hl hO hS) fun _ _ _ _ _ z=>z
theorem zO8{P:Program}{w:World}{K:PySem.W.Frag}{mg:Str->Option Value}{base:Heap}{x qual:Str}{st:Stmt}{f:Addr}{fd:FuncData}{N ps:List Str}{k:Nat}{sp:wU}(t:wP)(F:Fun K x qual st f fd)(S:zb N ps (zE st))
  (ht:∀(cdv:Value) (A:Around) (outer:List Env) (s:Shared) (H:Hp) (E:XK),fd.code=cdv->yM k (A.deeper (envOfC qual (zE st) s.heap.objs.size f cdv))->Ps2 (zBr CX0 P w K mg base N qual (zE st) f cdv A outer s H E).nox (zU st) t)
  (hs:∀ ds G R,sp ds G R->ds.length=ps.length/\t (zg R) (zP N ds) G):zCa P w K mg base CX0 (k+1) f fd ps (lSp K sp):=by
 have F0:=F.ex;obtain⟨oc,od,kV,doc,pm,an,cdv,ct,osl,rfl,lk,hcd⟩:=F0;refine zNX lk hcd S ?_ ?_
 ·rintro vs H Q E ⟨ds,G,R,d,r,h,_⟩
  rw[<-d.length];exact(hs ds G R h).1
 ·intro A outer s H vs Q E hr h
  obtain⟨ds,G,R,d,r,h,kk⟩:=h;refine⟨_,(ht cdv A outer s H E rfl hr).nox,zP N ds,G,_,zCB r d,(hs ds G R h).2,⟨?_,?_,?_,?_⟩⟩
  ·rintro σ G' ⟨G'',s',q'⟩ σ1 H' g' r'
   exact kk _ G'' q' _ H' g' (r'.g.sub s') (by unfold zO;rfl)
  ·intro σ G' h;exact h.elim
  ·intro σ G' h;exact h.elim
  ·rintro d' G' ⟨G'',s',q'⟩ v H' g' r' dv
   exact kk _ G'' q' _ H' g' (r'.sub s') dv
noncomputable def zO9(osc sc:Scope):Bool:=decide (sc.kind=.function)&&!sc.isCoroutine&&!sc.isGenerator&&sc.names.all (fun y=>decide (y.2≠.cell))&&sc.names.all (fun y=>decide (y.2≠.local))&&sc.names.all (fun y=>decide (y.2=.free->osc.names.lookup y.1=some .cell\/osc.names.lookup y.1=some .free))
theorem zLO{env:Env}{osc sc:Scope}(h:zO9 osc sc=true)(e:env.scope=osc):zIZ env sc:=by
 subst e;unfold zO9 at h;simp only[di,decide_eq_true_eq,dF,Bool.not_eq_true'] at h;obtain⟨⟨⟨⟨⟨h1,h2⟩,h3⟩,h4⟩,h5⟩,h6⟩:=h;exact⟨h1,h2,h3,h4,h5,h6⟩
theorem zQD{X:Cx}{osc:Scope}{x:Str}{c P:Addr}{params:Arguments}{body:Expr}{sc:Scope}(h:zO9 osc sc=true)(code:X.env.code=.ref c)(hd:PySem.W.CodeHd X.base c P)(blt:BMn X.base X.mg)(tab:PySem.W.tabIn X.K x=some (c,P))(mem:x∈zBS)(qual:X.env.qual++"<lambda>"=x++".<locals>.<lambda>")(df:defaultsOf params X.env=([],[]))
  (bd:∀(q:Str) (cl:List (Str×Addr)) (pm cv ctv:Value),bindArgs (PySem.W.kla_fn "<lambda>" q params body sc cl pm cv ctv) ⟨[],[]⟩=pure []) (e:autoParam (X.env.scope=osc) Zq4._auto_1):zLK X x c P params body sc :=
 ⟨zLO h e,code,hd,blt,qual,mem,tab,df,bd⟩
section
variable {X:Cx}
end
section
variable {X:Cx} {C:Addr} {st:Stmt} {rest body els:List Stmt} {t t':(Gp->Prop)->S2->Gp->Prop}
theorem zPA{sts:List Stmt}(h:Xs X C sts t)(h':Xs X C sts t'):Xs X C sts (fun E σ G=>t E σ G\/t' E σ G):=by
 intro pins s σ1 H σ G E I r q;rcases q with q | q
 ·exact h pins s σ1 H σ G E I r q
 ·exact h' pins s σ1 H σ G E I r q
theorem zNq{ex:Expr}{x:Str}{p pos:Pos}(h:Xe X C ex t)(hs:autoParam (swapsWith ex (some (.Name x p)) pos.line X.env=pure false) Zq4._auto_1):Xs X C (.Assign [.Name x p] ex pos::rest) t:=by
 intro pins s σ1 H σ G E I r q;exact dW (wpAny_Assign_Name (dP (h pins s σ1 H σ G E I r q) (fun _ _ z=>z.elim) fun _ _ z=>z) hs)
theorem zM7{elt iter tg:Expr}{ifs:List Expr}{sc:Scope}{pos:Pos}(h:Xe X C iter t):Xe X C (.ListComp elt [⟨tg,iter,ifs,0⟩] sc pos) t:=by
 intro pins s σ1 H σ G E I r q;rw[eval_ListComp];unfold comprehension;exact cT (dP (h pins s σ1 H σ G E I r q) (fun _ _ z=>z.elim) fun _ _ z=>z)
theorem zM8{e:Expr}{x:Str}{T:String}{p pos:Pos}(hg:Gl X x)(hm:X.mg x=none)(hv:bootBuiltins x=some (.type T))(h:Xe X C e t)(hn:autoParam (x≠"__name__") Zq2._auto_1)(hdb:autoParam ((x==("__debug__":Str))=false) Zq2._auto_1)
  (he:autoParam (starEach [e] X.env=(false,eval e X.env)::starEach [] X.env) Zq4._auto_1) (hpl:autoParam ((backTo pos (starEach [] X.env)).any (·.1)=false) Zq4._auto_1):Xe X C (.Call (.Name x p) [e] [] pos) t:=by
 intro pins s σ1 H σ G E I r q;refine dS (zCZ I hg hm hv ?_ hn hdb);refine PyProof.Rows.callWith_type1 ?_ he hpl;rw[he];show wpAny _ _ (spliced ((false,eval e X.env)::backTo pos (starEach [] X.env))) _ _ s;exact Calls.spliced_cons (dP (h pins s σ1 H σ G E I r q) (fun _ _ z=>z.elim) fun _ _ z=>z)
noncomputable def fnA(mg:Str->Option Value)(x:Str):Addr:=match mg x with | some (.ref f)=>f | _=>0
theorem zQE{x:Str}{f:Addr}{pos:Pos}(hg:Gl X x)(hm:X.mg x=some (.ref f))(hd:autoParam ((x==("__debug__":Str))=false) Zq2._auto_1):E2 X (.Name x pos) (xC (.adr (fnA X.mg x))):=by
 have e:fnA X.mg x=f:=by unfold fnA;rw[hm]
 rw[e];refine PE.mono (zDa (v:=.ref f) hg hm rfl hd) ?_;rintro σ1 H Q ⟨σ,G,R,r,q,k⟩;exact k _ G q _ H (.refl H) r.1 (by unfold zO;rfl)
theorem zFn{k:Nat}{x:Str}{ps:List Str}{sp:wU}{pos:Pos}(hg:Gl X x)(F:Df X.prog X.w X.K X.mg X.base k x ps sp)(hd:autoParam ((x==("__debug__":Str))=false) Zq2._auto_1):E2 X (.Name x pos) (xC (.adr (fnA X.mg x))):=by
 obtain⟨f,fd,F,hm,_⟩:=F;exact zQE hg hm hd
noncomputable def zHd(tv:zf)(fW fR:Addr)(spW spR:wU)(t:wE):zf:=fun σ G R=>tv σ G fun d G1=>match d with
 | .adr f=>(f=fW/\t σ G1 fun ds G2=>spW ds G2 R)\/(f=fR/\t σ G1 fun ds G2=>spR ds G2 R)
 | _=>False
theorem zLP{mg:Str->Option Value}{x:Str}{f:Addr}(hm:mg x=some (.ref f)):fnA mg x=f:=by unfold fnA;rw[hm]
theorem zGe{k k':Nat}{x:Str}{ps:List Str}{sp:wU}{e:Expr}{es:List Expr}{ta:wE}{pos:Pos}{pins:List (Addr×Obj)}{s:Shared}{σ1:L2.St}{H:Hp}{Q:VK}(F:Df X.prog X.w X.K X.mg X.base k x ps sp)(hr:yM k' X.A)(hk:k<=k')(ha:A2 X (e::es) ta)
  (I:zT X pins σ1 H s) (h:lE X.K (zI sp ta) σ1 H Q)
  (he:starEach (e::es) X.env=(false,eval e X.env)::starEach es X.env) (hpl:(backTo pos (starEach es X.env)).any (·.1)=false) :
  wpAny (model X.prog X.w) X.A (callWith pos (.ref (fnA X.mg x)) [] (backTo pos (starEach (e::es) X.env)) (backToKw pos (keywordEach [] X.env))) (EP X pins σ1 Q) X.xe s:=by
 obtain⟨f,fd,F,hm,hkp,hb⟩:=F;rw[zLP hm];obtain⟨σ,G,R,r,q,kk⟩:=h;refine PySem.W.callWith_K (h₀:=X.base) I.ok.mod.kin hkp (yj (ha pos pins s σ1 H (fun vs H1=>lSp X.K sp vs H1 Q E0) I ⟨σ,G,_,r,q,fun ds G1 q1 vs H1 g1 r1 d1=>⟨ds,G1,R,d1,r1,q1,fun d G' q' v H' g'=>kk d G' q' v H' (g1.trans g')⟩⟩) fun us s1 ⟨vs,H1,I1,r1,q1⟩=>⟨I1.kIn,?_⟩) he hpl;exact zJ6 (dvs:=[]) (ds:=[]) F (hr.mono hk) hb .nil zKD I1 r1 (by rw[eo];exact q1)
theorem zM9{k1 k2 k':Nat}{v x1 x2:Str}{p1 p2:List Str}{spW spR:wU}{tv:zf}{ta:wE}{e:Expr}{es:List Expr}{p pos:Pos}(hv:E2 X (.Name v p) tv)(F1:Df X.prog X.w X.K X.mg X.base k1 x1 p1 spW)(F2:Df X.prog X.w X.K X.mg X.base k2 x2 p2 spR)(hr:yM k' X.A)(h1:k1<=k')(h2:k2<=k')(ha:A2 X (e::es) ta)
  (he:autoParam (starEach (e::es) X.env=(false,eval e X.env)::starEach es X.env) Zq4._auto_1) (hpl:autoParam ((backTo pos (starEach es X.env)).any (·.1)=false) Zq4._auto_1) :
  E2 X (.Call (.Name v p) (e::es) [] pos) (zHd tv (fnA X.mg x1) (fnA X.mg x2) spW spR ta):=by
 intro pins s σ1 H Q I h;obtain⟨σ,G,R,r,q,kk⟩:=h;refine dS (yj (hv pins s σ1 H (fun v H1=>∃ f,v=.ref f/\((f=fnA X.mg x1/\lE X.K (zI spW ta) σ1 H1 Q)\/(f=fnA X.mg x2/\lE X.K (zI spR ta) σ1 H1 Q))) I ⟨σ,G,_,r,q,fun d G1 q1 v H1 g1 r1 d1=>?_⟩) fun u s1 ⟨v,H1,I1,rv,f,hf,hq⟩=>?_)
 ·cases d with
  | adr f =>
   unfold zO at d1;refine⟨f,d1,?_⟩;rcases q1 with ⟨e1,q1⟩ | ⟨e1,q1⟩
   ·exact .inl ⟨e1,σ,G1,R,r.to g1 r1,q1,fun d G' q' v H' g'=>kk d G' q' v H' (g1.trans g')⟩
   ·exact .inr ⟨e1,σ,G1,R,r.to g1 r1,q1,fun d G' q' v H' g'=>kk d G' q' v H' (g1.trans g')⟩
  | _=>exact q1.elim
 ·subst hf
  have rv:u=.ref f:=rv;subst rv;rcases hq with ⟨rfl,hq⟩ | ⟨rfl,hq⟩
  ·exact zGe F1 hr h1 ha I1 hq he hpl
  ·exact zGe F2 hr h2 ha I1 hq he hpl
noncomputable abbrev Cnd:=List D->Gp->(Gp->Prop)->Prop
noncomputable def zDj(tv:zf)(fW fR:Addr)(cW cR:Cnd)(t:wE):(Gp->Prop)->S2->Gp->Prop:=fun E σ G=>tv σ G fun d G1=>match d with
 | .adr f=>(f=fW/\t σ G1 fun ds G2=>cW ds G2 E)\/(f=fR/\t σ G1 fun ds G2=>cR ds G2 E)
 | _=>False
theorem zE8{k k':Nat}{x:Str}{ps:List Str}{cond:Cnd}{e:Expr}{es:List Expr}{ta:wE}{pos:Pos}{pins:List (Addr×Obj)}{s:Shared}{σ1:L2.St}{H H0:Hp}{σ:S2}{G:Gp}{E:Gp->Prop}(O:Own X)(R:Rz X.prog X.w X.K X.mg X.base k x ps cond C)(hr:yM k' X.A)(hk:k<=k')(ha:A2 X (e::es) ta)
  (I:zT X pins σ1 H s) (r:Rel X.K σ G σ1 H) (h:ta σ G fun ds G'=>cond ds G' E) (g0:zp H0 H)
  (he:starEach (e::es) X.env=(false,eval e X.env)::starEach es X.env) (hpl:(backTo pos (starEach es X.env)).any (·.1)=false) :
  wpAny (model X.prog X.w) X.A (callWith pos (.ref (fnA X.mg x)) [] (backTo pos (starEach (e::es) X.env)) (backToKw pos (keywordEach [] X.env))) (fun _ _=>False) (fun v s'=>∃ e H' B,v=.ref e/\XB X C e H' B s'/\zp H0 H'/\∃ G',zt X.K G' H'/\E G') s:=by
 obtain⟨f,fd,hm,hkp,hb,hl,run⟩:=R;rw[zLP hm];refine PySem.W.callWith_K (h₀:=X.base) I.ok.mod.kin hkp (dP (ha pos pins s σ1 H (fun vs H'=>zp H H'/\∃ ds G',Dens X.K H' ds vs/\zt X.K G' H'/\cond ds G' E) I ⟨σ,G,_,r,h,fun ds G' q vs H' g r' d'=>⟨g,ds,G',d',r',q⟩⟩) (fun us s1 q=>?_) fun v s' q=>(O.no v s' q).elim) he hpl;obtain⟨vs,H1,I1,rv,g,ds,G',d',r',q'⟩:=q;refine⟨I1.kIn,wpAny_call (eE (run X.A X.stack s1 H1 ⟨us,[]⟩ us vs ds G' E (hr.mono hk) I1.env0 ?_ rv d' r' q') fun rr s' ⟨ee,H',B,e1,e2,g2,e3⟩=>?_)⟩
 ·have:=hb s1 us I1.kIn (by rw[eo,<-rv.length,<-d'.length];exact hl ds G' E q')
  rw[eo] at this;exact this
 ·subst e1
  exact⟨ee,H',B,rfl,e2.body O.stk O.frm O.ex I1,g0.trans (g.trans g2),e3⟩
theorem zLQ{k1 k2 k':Nat}{v x1 x2:Str}{p1 p2:List Str}{cW cR:Cnd}{tv:zf}{ta:wE}{e:Expr}{es:List Expr}{p pos:Pos}(O:Own X)(hv:E2 X (.Name v p) tv)(R1:Rz X.prog X.w X.K X.mg X.base k1 x1 p1 cW C)(R2:Rz X.prog X.w X.K X.mg X.base k2 x2 p2 cR C)(hr:yM k' X.A)(h1:k1<=k')(h2:k2<=k')(ha:A2 X (e::es) ta)
  (he:autoParam (starEach (e::es) X.env=(false,eval e X.env)::starEach es X.env) Zq4._auto_1) (hpl:autoParam ((backTo pos (starEach es X.env)).any (·.1)=false) Zq4._auto_1) :
  Xe X C (.Call (.Name v p) (e::es) [] pos) (zDj tv (fnA X.mg x1) (fnA X.mg x2) cW cR ta):=by
 intro pins s σ1 H σ G E I r h;refine dS (dP (hv pins s σ1 H (fun v H1=>∃ f G1,v=.ref f/\zp H H1/\Rel X.K σ G1 σ1 H1/\((f=fnA X.mg x1/\ta σ G1 fun ds G2=>cW ds G2 E)\/(f=fnA X.mg x2/\ta σ G1 fun ds G2=>cR ds G2 E))) I ⟨σ,G,_,r,h,fun d G1 q1 v H1 g1 r1 d1=>?_⟩) (fun u s1 ⟨v,H1,I1,rv,f,G1,hf,g1,r1,hq⟩=>?_) fun v s' q=>(O.no v s' q).elim)
 ·cases d with
  | adr f=>unfold zO at d1;exact⟨f,G1,d1,g1,r.to g1 r1,q1⟩
  | _=>exact q1.elim
 ·subst hf
  have rv:u=.ref f:=rv;subst rv;rcases hq with ⟨rfl,hq⟩ | ⟨rfl,hq⟩
  ·exact zE8 O R1 hr h1 ha I1 r1 hq g1 he hpl
  ·exact zE8 O R2 hr h2 ha I1 r1 hq g1 he hpl
end
section
variable {X:Cx} {a b o:Expr} {pos:Pos} {ta tb to:zf}
noncomputable def zCx:D->D->Gp->Q2->Prop:=fun x y G R=>match x,y with
 | .str z,.int i=>z.length<=1000000/\(match atI z.cps.toList i with | some c=>R (.str ⟨#[c]⟩) G | none=>False)
 | _,_=>False
theorem zNA{K:PySem.W.Frag}:Fit K zPk zCx:=by
 intro dx dy G R x y H Q h r d1 d2 k;unfold zCx at h;split at h
 ·rename_i z i
  obtain⟨hz,h⟩:=h;split at h
  ·rename_i c e2
   unfold zO at d1 d2;exact⟨z,i,c,d1,d2,by rw[sizeLine_eq];omega,e2,k _ G h _ H (.refl H) r (by unfold zO;rfl)⟩
  ·exact h.elim
 ·exact h.elim
theorem zLR(ha:E2 X a ta)(hb:E2 X b tb)(hs:autoParam (zFO b) Zq8._auto_1):E2 X (.Subscript a b pos) (zS zCx ta tb) :=
 PE.mono (zNZ zOT ha hb hs) fun σ1 H Q h=>zF9 zNA h
end
end L3
namespace L2
theorem zHe{ss:List Str}:∀ {us:List Value},zc (ss.map V.str) us->StrsAre us ss:=by
 induction ss with
 | nil=>intro us r;rw[List.map_nil] at r;cases r;exact .nil
 | cons n ns ih =>
  intro us r;rw[dt] at r;cases r with
  | cons r1 r2 =>
   obtain⟨t,e⟩:=r1;subst e;exact .cons n t (ih r2)
theorem zDG:∀ {vs:List Value} {ss:List Str},StrsAre vs ss->zc (ss.map V.str) vs
 | _,_,.nil=>.nil
 | _,_,.cons n t h=>.cons ⟨t,rfl⟩ (zDG h)
section
variable {X:Cx}
theorem zB6:wD X (.builtin "sorted") (fun xs H Q=>∃(p:Addr) (ss:List Str),xs=[.ref p]/\SqL X.K H p (ss.map V.str)/\ss.length<64 /\
  ∀(l:Addr) (ss':List Str),H l=none->ss'.Perm ss->sortedS ss'=true->Q (.ref l) (wo H l (.lst (ss'.map V.str)))):=by
 intro pins s σ H xs us Q I r h;obtain⟨p,ss,rfl,hq,hz,q⟩:=h;obtain⟨u,rfl,rx⟩:=vals1 r;cases rx;obtain⟨its,rv,pl,_⟩:=I.list hq;have hl:=rv.length;rw[cI] at hl;refine sorted_strs (vs:=its) (ss:=ss) pl.isList (zHe rv) (by omega) fun out ss' i1 i2 i3=>?_;obtain⟨e,he⟩:=sortedAll_at s.heap its out;have hn:H (s.heap.objs.size+1)=none:=I.hok.fresh (Nat.le_succ _);refine⟨.ref (s.heap.objs.size+1),_,I.laid (t':=s.toks) (o:=.lst (ss'.map V.str)) (fun b u q=>sortedAll_old q) (Nat.le_succ _) ?_,rfl,q _ ss' hn i2 i3⟩;have hp:=i2.length_eq;refine⟨?_,out.toList,e,zDG i1,?_⟩
 ·rw[cI,hp,sizeLine_eq];omega
 ·rw[he]<;>rfl
noncomputable def sgs(x:Str):List Str:=x.cps.toList.map fun c=>⟨#[c]⟩
theorem zFo(hc:X.calm=true):wD X (.type "list") (fun xs H Q=>∃ x:Str,xs=[.str x]/\x.length<=1000000/\∀ l,H l=none->Q (.ref l) (wo H l (.lst ((sgs x).map V.str)))):=by
 intro pins s σ H xs us Q I r h;obtain⟨x,rfl,hz,q⟩:=h;obtain⟨u,rfl,rx⟩:=vals1 r;obtain⟨t,rfl⟩:=rx;have hz':x.cps.size<=1000000:=hz;refine call_list_str (I.ok.hd hc) x t (fun h' tk acc' c' kp e it=>?_) (by rw[sizeLine_eq];omega);obtain⟨i1,i2⟩:=it;have va:zc ((sgs x).map V.str) acc'.toList:=by
  have:∀(cs:List Nat) (us:List Value),us.length=cs.length->(∀(j:Nat) v,us[j]?=some v->∃ c u,cs[j]?=some c/\v=Value.str { cps:=#[c] } u)->zc ((cs.map fun c=>(⟨#[c]⟩:Str)).map V.str) us:=by
   intro cs
   induction cs with
   | nil=>intro us hl _;cases us with | nil=>exact .nil | cons a b=>simp at hl
   | cons c cs ih =>
    intro us hl h;cases us with
    | nil=>simp at hl
    | cons a b =>
     obtain⟨c0,u0,e1,e2⟩:=h 0 a rfl;simp at e1;subst e1 e2;refine .cons ⟨u0,rfl⟩ (ih b (by simpa using hl) fun j v hv=>?_);have:=h (j+1) v (by simpa using hv);simpa using this
  refine this x.cps.toList acc'.toList (by rw[dh,dh,i1]) fun j v hv=>?_;obtain⟨c,u,e1,e2⟩:=i2 j v (by rw[<-Array.getElem?_toList];exact hv);exact⟨c,u,by rw[Array.getElem?_toList];exact e1,e2⟩
 refine⟨.ref s.heap.objs.size,_,I.laid (t':=tk) kp (cN _) (show wA X.prog X.w _ h' _ (.lst ((sgs x).map V.str)) from⟨?_,acc'.toList,c',va,?_⟩),rfl,q _ (I.hok.fresh (cN _))⟩
 ·rw[cI,sgs,cI,dh,sizeLine_eq];omega
 ·rw[e]
noncomputable def zNB:V->List V->Hp->VK->Prop:=fun x vs H Q=>∃(l:Addr) (xs:List V) (i:Nat) (y:V),x=.ref l/\vs=[.int i,y]/\H l=some (.lst xs)/\i<=xs.length/\xs.length<=1000000/\Q .non (wo H l (.lst (xs.take i++y::xs.drop i)))
theorem zJf:MtM X "list.insert" zNB:=by
 intro pins s σ H x vs v us Q I rx rv h;obtain⟨l,xs,i,y,rfl,rfl,hH,hi,hx,q⟩:=h;cases rx;cases rv with
 | cons r1 r2 =>
  cases r2 with
  | cons r3 r4 =>
   cases r4;obtain⟨t,rfl⟩:=r1;rename_i u;obtain⟨z,its,n,r,hl,e⟩:=I.lstM hH;have hfit:¬ (!Builtin.List.listFitsIndex (i:Int))=true:=by
    rw[fitsIndex_both (by omega) (by omega)];exact dL
   have hsz:its.toArray.size<=sizeLine:=by rw[cP];omega
   have m0:=AutoSeq1.list_insert_list_int_val_1 l its.toArray n;generalize hx0:(i:Int)=x at hfit ⊢;have m1:=m0 x t u;have m:=m1 hfit hsz;refine call_meets F.slot_list_insert ⟨_,e,rfl⟩ F.entry_list_insert (F.args_list_insert_3 _ _ _) m ⟨e,?_⟩;refine⟨.non,_,I.lset (its':=its.take i++u::its.drop i) hH e ?_ ((r.take i).append (.cons r3 (r.drop i))) ?_,rfl,q⟩
   ·dsimp only
    rw[if_neg (by omega),show x.toNat=i by omega,cP,Nat.min_eq_left (by omega)];apply Array.toList_inj.mp;simp[dJ]
   ·have:(xs.take i++y::xs.drop i).length=xs.length+1:=by
     rw[cZ,cD,ef,eu];omega
    rw[this,sizeLine_eq];omega
end
end L2
namespace L3
open L2
section
variable {X:Cx} {o e e2:Expr} {p pos cpos apos:Pos} {to:zf} {t:wE} {tl:TL2}
noncomputable def zHf(t:wE):TL2:=fun σ G R=>t σ G fun ds G1=>∃(l:Addr) (ss:List Str),ds=[.adr l]/\Ls G1 l (ss.map D.str)/\ss.length<64/\∀ ss':List Str,ss'.Perm ss->sortedS ss'=true->R (ss'.map D.str) G1
theorem zNC(hg:Gl X "sorted")(hm:X.mg "sorted"=none)(ha:A2 X [e] t)(he:autoParam (starEach [e] X.env=(false,eval e X.env)::starEach [] X.env) Zq4._auto_1)(hpl:autoParam ((backTo pos (starEach [] X.env)).any (·.1)=false) Zq4._auto_1) :
  F2 X (.Call (.Name "sorted" p) [e] [] pos) (zHf t):=by
 refine PE.mono (zAp zB6 hg hm boot_sorted ha (by decide) (by decide) he hpl) ?_;rintro σ1 H Q ⟨σ,G,R,rl,q,k⟩;refine⟨σ,G,_,rl,q,fun ds G1 q1 vs H1 g1 r1 d1=>?_⟩;obtain⟨l,ss,rfl,e1,hl,q1⟩:=q1;obtain⟨v,rfl,d2⟩:=zAc d1;unfold zO at d2;subst d2;obtain⟨xs,s1,t1⟩:=r1.sq e1;have hxs:=zAv t1;subst hxs;refine⟨l,ss,rfl,s1,hl,fun l' ss' n' h1 h2=>?_⟩;exact k _ G1 (q1 ss' h1 h2) l' _ _ (g1.trans (.fresh n')) (r1.fresh n') (r1.free n') zm (zAw ss')
noncomputable def zFp(tl:TL2):TL2:=fun σ G R=>tl σ G fun ds G1=>∃ ss:List Str,ds=ss.map D.str/\ss.length<64/\∀ ss':List Str,ss'.Perm ss->sortedS ss'=true->R (ss'.map D.str) G1
theorem zLS(hg:Gl X "sorted")(hm:X.mg "sorted"=none)(ha:F2 X e tl)(he:autoParam (starEach [e] X.env=(false,eval e X.env)::starEach [] X.env) Zq4._auto_1)(hpl:autoParam ((backTo pos (starEach [] X.env)).any (·.1)=false) Zq4._auto_1) :
  F2 X (.Call (.Name "sorted" p) [e] [] pos) (zFp tl):=by
 refine PE.mono (zAp zB6 hg hm boot_sorted (wC ha zAo he) (by decide) (by decide) he hpl) ?_;rintro σ1 H Q ⟨σ,G,R,rl,q,k⟩;refine⟨σ,G,_,rl,q,fun ds G1 q1 l xs H1 g1 r1 n e1 d1=>?_⟩;obtain⟨ss,rfl,hl,q1⟩:=q1;have hxs:=zAv d1;subst hxs;refine⟨l,ss,rfl,.of e1,hl,fun l' ss' n' h1 h2=>?_⟩;exact k _ G1 (q1 ss' h1 h2) l' _ _ (g1.trans (.fresh n')) (r1.fresh n') (r1.free n') zm (zAw ss')
noncomputable def zEN(t:wE):TL2:=fun σ G R=>t σ G fun ds G1=>∃ x:Str,ds=[.str x]/\x.length<=1000000/\R ((sgs x).map D.str) G1
theorem zIa(hc:X.calm=true)(hg:Gl X "list")(hm:X.mg "list"=none)(ha:A2 X [e] t)(he:autoParam (starEach [e] X.env=(false,eval e X.env)::starEach [] X.env) Zq4._auto_1)(hpl:autoParam ((backTo pos (starEach [] X.env)).any (·.1)=false) Zq4._auto_1) :
  F2 X (.Call (.Name "list" p) [e] [] pos) (zEN t):=by
 refine PE.mono (zB9 (zFo hc) hg hm rfl ha (by decide) (by decide) he hpl) ?_;rintro σ1 H Q ⟨σ,G,R,rl,q,k⟩;refine⟨σ,G,_,rl,q,fun ds G1 q1 vs H1 g1 r1 d1=>?_⟩;obtain⟨x,rfl,hx,q1⟩:=q1;obtain⟨v,rfl,d2⟩:=zAc d1;unfold zO at d2;subst d2;refine⟨x,rfl,hx,fun l' n'=>?_⟩;exact k _ G1 q1 l' _ _ (g1.trans (.fresh n')) (r1.fresh n') (r1.free n') zm (zAw _)
noncomputable def zPB(to:zf)(t:wE):zf:=fun σ G R=>to σ G fun x G1=>match x with
 | .adr l=>(∃ xs0,G1.m l=some xs0)/\t σ G1 fun ds G2=>∃(i:Nat) (d:D) (xs:List D),ds=[.int i,d]/\G2.m l=some xs/\i<=xs.length/\xs.length<=1000000/\R .non (zQ G2 l (xs.take i++d::xs.drop i))
 | _=>False
theorem zGf(ho:E2 X o to)(ha:A2 X [e,e2] t)
  (hbase:autoParam (attributeBase o "insert" X.env (eval o X.env)=eval o X.env) Zq4._auto_1)
  (hfew:autoParam (((backTo cpos (starEach [e,e2] X.env)).all (fun x=>!x.1)&&(backToKw cpos (keywordEach [] X.env)).all (fun x=>x.1.isSome)
   && decide ([e,e2].length+([]:List Keyword).length+(if ([]:List Keyword).isEmpty then 0 else 1)<30))=true) Zq4._auto_1)
  (hline:autoParam ((apos.endLine==cpos.line)=true) Zq4._auto_1) (hs:autoParam (starEach [e,e2] X.env=(false,eval e X.env)::starEach [e2] X.env) Zq4._auto_1) (hplain:autoParam ((backTo cpos (starEach [e2] X.env)).any (·.1)=false) Zq4._auto_1) :
  E2 X (.Call (.Attribute o "insert" apos) [e,e2] [] cpos) (zPB to t):=by
 refine PE.mono (zDr PySem.F.plainAttrs_list PySem.F.slot_list_insert PySem.F.type_list_insert zJf ho ha hbase hfew hline hs hplain) ?_;rintro σ1 H Q ⟨σ,G,R,rl,q,k⟩;refine⟨σ,G,_,rl,q,fun dx G1 q1 x H1 g1 r1 d1=>?_⟩;split at q1
 ·rename_i l
  obtain⟨⟨xs0,e0⟩,q1⟩:=q1;unfold zO at d1;subst d1;obtain⟨ys0,a1,a2⟩:=r1.m l xs0 e0;refine⟨.inl ⟨rfl,ys0,.of a1⟩,σ,G1,_,rl.to g1 r1,q1,fun ds G2 q2 vs H2 g2 r2 d2=>?_⟩;obtain⟨i,d,xs,rfl,e1,hi,hx,q2⟩:=q2;obtain⟨v,v',rfl,d3,d4⟩:=zNd d2;unfold zO at d3;subst d3;obtain⟨ys,b1,b2⟩:=r2.m l xs e1;have hlen:=b2.length;refine⟨l,ys,i,v',rfl,rfl,b1,by omega,by omega,?_⟩;exact k _ _ q2 _ _ ((g1.trans g2).trans (.lst b1)) (r2.put b1 (b2.take.append (.cons d4 b2.drop))) (by unfold zO;rfl)
 ·exact q1.elim
end
end L3
namespace K
open L2 L3 HS
theorem zLT(w:Str)(k:Nat):(Txt.slice w none (some (k:Int))).cps.toList=w.cps.toList.take k:=by
 by_cases h:k<=w.length
 ·have:=eq_of_beq (slice_closes_toL (x:=w) (j:=(k:Int)) (by omega) (by omega))
  rw[this];show List.take _ (List.drop 0 _)=_;rw[List.drop_zero,show((k:Int)-0).toNat=k by omega]
 ·have h':w.length<=k:=by omega
  rw[slice_to_beyond (x:=w) (j:=(k:Int)) (by omega)];have:=eq_of_beq (slice_closes_toL (x:=w) (j:=(w.length:Int)) (by omega) (by omega));rw[this];show List.take _ (List.drop 0 _)=_;have hl:w.cps.toList.length=w.length:=dh;rw[List.drop_zero,dJ (by rw[hl];omega),dJ (by rw[hl];omega)]
theorem zBg(w:Str)(k:Nat):(Txt.slice w (some (k:Int)) none).cps.toList=w.cps.toList.drop k:=by
 have hl:w.cps.toList.length=w.length:=dh;by_cases h:k<=w.length
 ·rw[slice_from_eq (x:=w) (i:=(k:Int)) (b:=(w.length:Int)) (by omega) (by omega) rfl]
  show List.take _ (List.drop _ _)=_;exact dJ (by rw[eu,hl];omega)
 ·rw[slice_beyond (x:=w) (i:=(k:Int)) (by omega)]
  show[]=_;rw[List.drop_eq_nil_of_le (by omega)]
theorem zPC(w:Str):(Txt.slice w (some 1) (some 2)).cps.toList=(w.cps.toList.drop 1).take 1:=by
 obtain⟨⟨l⟩⟩:=w
 match l with
 | []=>rfl
 | [c]=>rfl
 | a::b::r =>
  have:=eq_of_beq (slice_closesL (x:=⟨⟨a::b::r⟩⟩) (i:=1) (j:=2) (by omega) (by omega) (by show(2:Int)<=(((a::b::r).toArray.size:Nat):Int);simp;omega));rw[this];rfl
theorem zLU(a b:Str):(a++b).cps.toList=a.cps.toList++b.cps.toList:=by
 show(a.cps++b.cps).toList=_;simp
theorem zIb{a b:Str}(h:a.cps.toList=b.cps.toList):a=b:=Str.ext' (Array.toList_inj.mp h)
theorem zNr:∀ k,k<10->(dig k).cps.toList=[48+k]:=by decide +kernel
theorem zPD:("0123456789":Str).cps.toList=(cH 10).map (48+·):=by decide +kernel
noncomputable def zCy(w:Str):Option Nat:=(cH 10).find? fun k=>decide (dig k=w)
noncomputable def wT(w:Str):D:=match zCy w with | some k=>nD k | none=>.non
theorem zBh{w:Str}{k:Nat}(h:zCy w=some k):k<10/\w=dig k:=by
 have h1:=List.mem_of_find?_eq_some h;have h2:=List.find?_some h;simp at h1 h2;exact⟨h1,h2.symm⟩
theorem yv{k:Nat}(h:k<10):zCy (dig k)=some k:=by
 have:∀ k,k<10->zCy (dig k)=some k:=by decide +kernel
 exact this k h
noncomputable def yt(w:Str):Nat:=(zCy w).getD 0
theorem zB7{k:Nat}(h:k<10):wT (dig k)=nD k:=by unfold wT;rw[yv h]
theorem zHg{w:Str}{k:Nat}(h:wT w=nD k):k<10/\w=dig k:=by
 unfold wT at h;cases q:zCy w with
 | none=>rw[q] at h;cases h
 | some j =>
  rw[q] at h;have:=zFg h;subst this;exact zBh q
theorem zPE(w:Str):(decide (w.length=1)&&!(Builtin.Str.occurrences ("0123456789":Str) w 0 ("0123456789":Str).length 1).isEmpty)=(zCy w).isSome:=by
 rw[da];constructor
 ·intro h
  rw[di,decide_eq_true_eq] at h;obtain⟨h1,h2⟩:=h;obtain⟨⟨l⟩⟩:=w
  match l,h1 with
  | [c],_ =>
   have e:(⟨⟨[c]⟩⟩:Str)=⟨#[c]⟩:=rfl;rw[e] at h2 ⊢;rw[StrLaws.found_one,decide_eq_true_eq,zPD] at h2;obtain⟨k,hk,rfl⟩:=cQ.mp h2;have hk':=cV.mp hk;have:(⟨#[48+k]⟩:Str)=dig k:=zIb (by rw[zNr k hk']);rw[this,yv hk'];rfl
 ·intro h
  obtain⟨k,hk⟩:=Option.isSome_iff_exists.mp h;obtain⟨hk',rfl⟩:=zBh hk;rw[(yi k hk').1,zO2 k hk'];rfl
theorem zJg(w:Str):flat 8 (wT w)=true:=by unfold wT;split<;>rfl
noncomputable def zAL(w:Str):D:=if Txt.slice w (some 1) (some 2)=("-":Str) then .tup [wT (Txt.slice w none (some 1)),wT (Txt.slice w (some 2) none)] else .non
theorem zDL{p:Nat×Nat}(h1:p.1<10)(h2:p.2<10):zAL (zW p)=yf p:=by
 obtain⟨e1,e2,e3⟩:=zIV p.1 h1 p.2 h2;unfold zAL;rw[show zW p=zW (p.1,p.2) from rfl,e1,e2,e3,if_pos rfl,zB7 h1,zB7 h2];rfl
theorem zLV{w:Str}{p:Nat×Nat}(h:zAL w=yf p):w=zW p:=by
 unfold zAL at h;split at h
 ·rename_i e
  unfold yf at h;simp only[D.tup.injEq,List.cons.injEq,and_true] at h;obtain⟨h1,e1⟩:=zHg h.1;obtain⟨h2,e2⟩:=zHg h.2;have a1:(Txt.slice w none (some 1)).cps.toList=(dig p.1).cps.toList:=by rw[e1]
  have a2:(Txt.slice w (some 2) none).cps.toList=(dig p.2).cps.toList:=by rw[e2]
  have a3:(Txt.slice w (some 1) (some 2)).cps.toList=("-":Str).cps.toList:=by rw[e]
  rw[show(1:Int)=((1:Nat):Int) from rfl,zLT] at a1;rw[show(2:Int)=((2:Nat):Int) from rfl,zBg] at a2;rw[zPC] at a3;apply zIb;have t:(zW p).cps.toList=(dig p.1).cps.toList++(("-":Str).cps.toList++(dig p.2).cps.toList):=by
   have e:zW p=dig p.1++("-":Str)++dig p.2:=rfl;rw[e,zLU,zLU,List.append_assoc]
  rw[t,<-a1,<-a2,<-a3];generalize w.cps.toList=l
  match l with
  | []=>rfl
  | [a]=>rfl
  | a::b::r=>simp
 ·unfold yf at h;cases h
theorem zGg{p q:Nat×Nat}(h1:p.1<10)(h2:p.2<10)(h3:q.1<10)(h4:q.2<10)(e:zW p=zW q):p=q:=by
 have:=zDL h1 h2;rw[e,zDL h3 h4] at this;unfold yf at this;simp only[D.tup.injEq,List.cons.injEq,and_true] at this;exact Prod.ext (zFg this.1).symm (zFg this.2).symm
noncomputable def Wt(ws:List Str)(n:Nat)(l:List (Nat×Nat)):Prop:=ws=dig n::":"::l.map zW/\1<=n/\n<=9/\(∀ p∈l,p∈yL n)/\zDJ l=true
noncomputable def zCz(w0:Str)(rest:List Str):D:=.tup [wT w0,.tup (rest.map zAL)]
theorem zDM{n:Nat}(h9:n<=9){p:Nat×Nat}(hp:p∈yL n):p.1<10/\p.2<10:=by
 have:=zCr.mp hp;omega
theorem zE9:∀ {rest:List Str} {l:List (Nat×Nat)},rest.map zAL=l.map yf->rest=l.map zW
 | [],[],_=>rfl
 | [],_::_,h=>by cases h
 | _::_,[],h=>by cases h
 | w::r,p::l,h=>by
  simp only[dt,List.cons.injEq] at h;rw[dt,zLV h.1,zE9 h.2]
theorem zC0{w0:Str}{rest:List Str}{n:Nat}{l:List (Nat×Nat)}(hl:rest.length<=60):(IsW (zCz w0 rest) n l/\zDJ l=true)↔Wt (w0::":"::rest) n l:=by
 constructor
 ·rintro⟨⟨h,h1,h9,hp,hz⟩,hr⟩
  unfold zCz at h;simp only[D.tup.injEq,List.cons.injEq,and_true] at h;exact⟨by rw[(zHg h.1).2,zE9 h.2],h1,h9,hp,hr⟩
 ·rintro⟨h,h1,h9,hp,hr⟩
  simp only[List.cons.injEq,true_and] at h;obtain⟨rfl,rfl⟩:=h;rw[cI] at hl;refine⟨⟨?_,h1,h9,hp,hl⟩,hr⟩;unfold zCz;have e:cM (zAL∘zW) l=cM yf l:=dq fun p q=>by
   have:=zDM h9 (hp p q);exact(Function.comp_apply (f:=zAL) (g:=zW) (x:=p)).trans (zDL this.1 this.2)
  rw[zB7 (by omega),cX,e]
theorem zHh(w0:Str)(rest:List Str):flat 8 (zCz w0 rest)=true:=by
 unfold zCz;show[_,_].all (flat 7)=true;have h1:flat 7 (wT w0)=true:=by unfold wT;split<;>rfl
 have h2:flat 7 (.tup (rest.map zAL))=true:=by
  show(rest.map zAL).all (flat 6)=true;rw[dF];intro x hx;obtain⟨w,_,rfl⟩:=cQ.mp hx;unfold zAL;split
  ·show[_,_].all (flat 5)=true
   have:∀ w,flat 5 (wT w)=true:=fun w=>by unfold wT;split<;>rfl
   simp[this]
  ·rfl
 simp[h1,h2]
noncomputable def Rt(ws:List Str)(n:Nat)(r:List Nat):Prop:=ws=r.map dig/\wj n r/\1<=n/\n<=9
theorem zFA:∀ {ws:List Str} {ns:List Int},ws.map wT=ns.map D.int->∃ r:List Nat,ws=r.map dig/\ns=r.map fun(k:Nat)=>(k:Int)
 | [],[],_=>⟨[],rfl,rfl⟩
 | [],_::_,h=>by cases h
 | _::_,[],h=>by cases h
 | w::ws,i::ns,h=>by
  simp only[dt,List.cons.injEq] at h;obtain⟨r,rfl,rfl⟩:=zFA h.2;unfold wT at h;cases q:zCy w with
  | none=>rw[q] at h;cases h.1
  | some k =>
   rw[q] at h;obtain⟨hk,rfl⟩:=zBh q;refine⟨k::r,rfl,?_⟩;have:=h.1;unfold nD at this;rw[dt,<-D.int.inj this]
theorem zIc(r:List Nat)(i:Nat):cnt (r.map nD) (nD i)=r.count i:=by
 unfold cnt;rw[List.countP_map,List.count_eq_countP];refine List.countP_congr fun z _=>?_;simp[zDI]
theorem zId{r:List Nat}{n:Nat}:wj n r↔r.length=2*n/\∀ i,i<n->r.count i=2:=by
 constructor
 ·intro h
  exact⟨h.len,fun i hi=>h.count hi⟩
 ·rintro⟨hl,hc⟩
  have hl':(r.map fun(k:Nat)=>(k:Int)).length=2*n:=by rw[cI];exact hl
  have cc:∀(r:List Nat) (i:Nat),(r.map fun(k:Nat)=>(k:Int)).count (i:Int)=r.count i:=fun r i=>by
   rw[List.count_eq_countP,List.countP_map,List.count_eq_countP];refine List.countP_congr fun z _=>?_;simp only[Function.comp,beq_iff_eq];omega
  have t:=(zJV hl').mp fun i hi=>by rw[cc];exact hc i hi
  unfold wj;rw[List.perm_iff_count];intro a;rw[eS];by_cases ha:a<n
  ·rw[hc a ha]
   have:(cH n).count a=1:=by
    have h1:=List.nodup_iff_count.mp (eK (n:=n)) a;have h2:=List.count_pos_iff.mpr (cV.mpr ha);omega
   omega
  ·have n1:a∉cH n:=fun z=>ha (cV.mp z)
   rw[dH n1];refine dH fun z=>?_;have:=t.1 (a:Int) (cQ.mpr ⟨a,z,rfl⟩);simp only[inR,di,decide_eq_true_eq] at this;omega
theorem zLW(r:List Nat):(r.map nD).all yU=true:=by
 rw[dF];intro x hx;obtain⟨k,_,rfl⟩:=cQ.mp hx;rfl
theorem zDN{r:List Nat}{n:Nat}(h:wj n r)(h9:n<=9){x:Nat}(hx:x∈r):x<10:=by
 have:=h.mem.mp hx;omega
theorem zGh{r:List Nat}(h:∀ x∈r,x<10):(r.map dig).map wT=r.map nD:=by
 rw[cX];exact dq fun x hx=>zB7 (h x hx)
theorem zFB(ws:List Str):zB4 (ws.map wT)=true↔∃ n r,Rt ws n r:=by
 unfold zB4;simp only[di,decide_eq_true_eq,cI,dF (p:=yU)];constructor
 ·rintro⟨⟨h1,h2⟩,h3,h4,h5⟩
  obtain⟨ns,e⟩:=zMx (dF.mpr h3);obtain⟨r,rfl,rfl⟩:=zFA e;rw[e] at h5;have e2:(r.map fun(k:Nat)=>(k:Int)).map D.int=r.map nD:=by rw[cX];rfl
  rw[e2] at h5;rw[cI] at h1 h2 h4 h5;refine⟨r.length / 2,r,rfl,zId.mpr ⟨h4,fun i hi=>?_⟩,by omega,by omega⟩;have:=dF.mp h5 i (cV.mpr hi);rw[decide_eq_true_eq,zIc] at this;exact this
 ·rintro⟨n,r,rfl,hr,h1,h9⟩
  have hl:=hr.len;rw[zGh fun x hx=>zDN hr h9 hx,cI];refine⟨⟨by omega,by omega⟩,fun x hx=>dF.mp (zLW r) x hx,by omega,?_⟩;rw[dF];intro i hi;rw[decide_eq_true_eq,zIc];exact(zId.mp hr).2 i (by have:=cV.mp hi;omega)
theorem zIe{ws:List Str}{n:Nat}(h9:n<=9):ws.Perm (((cH n).map dig)++((cH n).map dig))↔∃ r,ws=r.map dig/\wj n r:=by
 constructor
 ·intro h
  have hm:∀ w∈ws,∃ k,k<n/\w=dig k:=fun w hw=>by
   have:=h.mem_iff.mp hw;rw[dQ] at this;rcases this with z | z<;>(obtain⟨k,hk,rfl⟩:=cQ.mp z;exact⟨k,cV.mp hk,rfl⟩)
  have ud:∀ k,k<10->yt (dig k)=k:=fun k hk=>by unfold yt;rw[yv hk];rfl
  refine⟨ws.map yt,?_,?_⟩
  ·rw[cX]
   have:ws.map (dig∘yt)=ws.map id:=dq fun w hw=>by
    obtain⟨k,hk,rfl⟩:=hm w hw;show dig (yt (dig k))=dig k;rw[ud k (by omega)]
   rw[this,eL]
  ·have:=h.map yt
   rw[dU,cX] at this;have e:(cH n).map (yt∘dig)=cH n:=by
    have:(cH n).map (yt∘dig)=(cH n).map id:=dq fun k hk=>ud k (by have:=cV.mp hk;omega);rw[this,eL]
   rw[e] at this;exact this
 ·rintro⟨r,rfl,h⟩
  have:=List.Perm.map dig h;rw[dU] at this;exact this
theorem zND:∀ a b:List Nat,ltCps a b=false->ltCps b a=false->a=b:=by
 intro a
 induction a with
 | nil=>intro b h1 h2;cases b with | nil=>rfl | cons y b=>unfold ltCps at h1;cases h1
 | cons x a ih =>
  intro b h1 h2;cases b with
  | nil=>unfold ltCps at h2;cases h2
  | cons y b =>
   unfold ltCps at h1 h2;simp at h1 h2;have:x=y:=by omega
   subst this;simp at h1 h2;rw[ih b h1 h2]
end K
namespace K
open L2 L3
noncomputable def zBP(ex:Addr)(b_TooMany b_NoTie b_NoSplit b_NoName b_BadNote:Bool):wP:=(zX (zy (yB (zAM (zA (zGb 1 ex b_TooMany) (zA (zGb 1 ex b_NoTie) (zA (zGb 1 ex b_NoSplit) zH))))) (gN 3)) (zX (zy (yB (zKY (zC 3) (yB (zAM (zA (zGb 1 ex b_NoName) (zA (zGb 1 ex b_BadNote) zH)))))) (gN 3)) (zX (xIf (zu (xB (zGb 1 ex true))) (zq (xC .non)) zx) (zq (yB (zo (iR1 (zA (xC (.int 5)) zH)) bd1 (xB (zS ye (zC 3) (zC 4))) (zC 4)))))))
theorem zQl{σ:S2}{G:Gp}{ta tb:zf}{R:List D->Gp->Prop}(h:ta σ G fun x G1=>tb σ G1 fun y G2=>match x,y with | D.adr l,D.adr m=>∃ xs ys,G2.m l=some xs/\G2.m m=some ys/\xs.length+ys.length<=1000000/\R (xs++ys) G2 | _,_=>False):zKY ta tb σ G R:=h
theorem zPF{σ:S2}{G:Gp}{t u:zf}{l:Addr}{ds:List D}{k:Int}{d:D}(h:ze t σ G (.adr l))(h':ze u σ G (.int k))(hl:Ls G l ds)(e:atI ds k=some d):ze (zS ye t u) σ G d:=yk h h' fun G2 e2 R q=>⟨ds,d,e2.ls hl,e,q⟩
theorem zLX{G G':Gp}{l:Addr}{ds:List D}(h:Sub G G'):Sub (zQ G l ds) (zQ G' l ds):=⟨fun a o e=>by
 by_cases ha:a=l
 ·subst ha;rw[zJ] at e ⊢;exact e
 ·rw[zV ha] at e ⊢;exact h.m a o e,fun a o e=>h.ro a o e⟩
theorem zLY{G G':Gp}{x:Addr}(h:Sub G G')(n:G'.m x=none):G.m x=none:=by
 cases q:G.m x with
 | none=>rfl
 | some o=>rw[h.m x o q] at n;cases n
theorem zLZ{tl:TL2}{i:Nat}{u:wP}{E:yr}{σ:S2}{G:Gp}{ds:List D}(h:PuL tl σ G ds)(h':∀ l,G.m l=none->u E (σ.set i (some (.adr l))) (zQ G l ds)):zX (zy (yB tl) (gN i)) u E σ G:=h G (.refl G) _ h'
theorem zLa{tl:TL2}{i:Nat}{u:wP}{E:yr}{σ:S2}{G:Gp}(h:tl σ G fun ds G'=>∀ l,G'.m l=none->u E (σ.set i (some (.adr l))) (zQ G' l ds)):zX (zy (yB tl) (gN i)) u E σ G:=h
theorem zQF{i:Nat}{σ:S2}{G:Gp}{R:Q2}{d:D}(h:look σ i=some d)(h':R d G):zC i σ G R:=by unfold zC;rw[h];exact h'
theorem zNE{tc:TT2}{t u v:wP}{E:yr}{σ:S2}{G:Gp}(h:xIf tc t u { E with nx:=v E } σ G):zX (xIf tc t u) v E σ G:=h
theorem zLb{tl:TL2}{E:yr}{σ:S2}{G:Gp}{ds:List D}(h:PuL tl σ G ds)(h':∀ l,G.m l=none->E.rt (.adr l) (zQ G l ds)):zq (yB tl) E σ G:=h G (.refl G) _ h'
noncomputable def zQG(bs:List Bool):D->Bool | .int k=>bs.getD k.toNat false | _=>false
theorem zJh{b0 b1 b2 b3 b4:Bool}{e:Addr}{G:Gp}{R:Q2}{ks:List D}(hks:((yy 0 5).filter (zQG [b0,b1,b2,b3,b4])).map id=ks)(h:∀ l,G.m l=none->R (.adr l) (zQ G l ks)) :
  zBP e b0 b1 b2 b3 b4 (zg R) ((cK 4 none).set 1 (some (.adr e))) G:=by
 unfold zBP;refine zLZ (ds:=[.bl b0,.bl b1,.bl b2]) (fun G2 e2 R2 q=>⟨rfl,rfl,rfl,(show 3<=sizeLine by decide),q⟩) fun l1 n1=>?_;show zX _ _ _ [none,some (.adr e),none,some (.adr l1)] (zQ G l1 [.bl b0,.bl b1,.bl b2]);refine zLa (zQl (zQF (d:=.adr l1) rfl ?_));refine zAy (ds:=[.bl b3,.bl b4]) (fun G2 e2 R2 q=>⟨rfl,rfl,(show 2<=sizeLine by decide),q⟩) fun l2 n2=>?_;have n12:l1≠l2:=fun z=>by rw[<-z,zJ] at n2;cases n2
 refine⟨[.bl b0,.bl b1,.bl b2],[.bl b3,.bl b4],by rw[zV n12];exact zJ,zJ,(show 3+2<=1000000 by decide),fun l3 n3=>?_⟩;show zX _ _ _ [none,some (.adr e),none,some (.adr l3)] _;generalize hG3:zQ (zQ (zQ G l1 [.bl b0,.bl b1,.bl b2]) l2 [.bl b3,.bl b4]) l3 ([.bl b0,.bl b1,.bl b2]++[.bl b3,.bl b4])=G3;have hs:Sub G G3:=by rw[<-hG3];exact((Sub.new n1).trans (.new n2)).trans (.new n3)
 have hl:Ls G3 l3 [.bl b0,.bl b1,.bl b2,.bl b3,.bl b4]:=by rw[<-hG3];exact .own
 refine zNE (zK5 (zw (b:=true) (yz fun G2 e2 R2 q=>⟨rfl,q⟩)) ?_);show zq (yB (zo (iR1 (zA (xC (.int 5)) zH)) bd1 (xB (zS ye (zC 3) (zC 4))) (zC 4))) (zg R) [none,some (.adr e),none,some (.adr l3)] G3;refine zLb (ds:=ks) ?_ fun l4 n4=>⟨zQ G l4 ks,zLX hs,h l4 (zLY hs n4)⟩
 rw[<-hks];refine zFX (zQG [b0,b1,b2,b3,b4]) id (fun x=>[x]) (zCC (j:=5) (zF zY zN) (by decide)) fun x hx=>⟨rfl,yz ?_,fun _=>zG rfl⟩
 obtain⟨k,hk,rfl⟩:=cQ.mp hx;have hk5:k<5:=cV.mp hk;refine zPF (l:=l3) (zG rfl) (zG rfl) hl ?_
 match k,hk5 with
 | 0,_=>rfl
 | 1,_=>rfl
 | 2,_=>rfl
 | 3,_=>rfl
 | 4,_=>rfl
end K
namespace L3
open L2
noncomputable def zLc(kind:Int)(tv:zf)(fW fR:Addr)(cW cR:Cnd)(ta:wE):TL2:=fun σ G R=>zDj tv fW fR cW cR ta (fun G'=>R [.int kind] G') σ G
theorem zPG{X:Cx}{st:Stmt}{f:Addr}{fd:FuncData}{N:List Str}{k:Nat}{C Cc c P fW fR:Addr}{kind:Int}{x:Str}{rest:List Stmt}{params:Arguments}{body:Expr}{sc:Scope}{tv:zf}{cW cR:Cnd}{ta:wE}{trest:Addr->wP}{p lp pos:Pos}
  (F:Fun X.K "_law_refused" "_law_refused" st f fd) (S:zb N ["call"] (zE st)) (hm:X.mg "_law_refused"=some (.ref f)) (hb:Binds X.K fd ["call"] []) (hr:yM (k+2) X.A) (hgl:Gl X "_law_refused") (B:zLJ st N rest)
  (hCc:X.mg "ChordError"=some (.ref Cc)) (hxm:PySem.W.exmOne X.K (.ref C) (.ref Cc)=some true)
  (hrest:∀(cdv:Value) (A:Around) (outer:List Env) (s:Shared) (H:Hp) (e:Addr) (oe:Obj),yM (k+1) (A.deeper (envOfC "_law_refused" (zE st) s.heap.objs.size f cdv))->oe.cls=.ref C->Ps2 (zJb (zBr CX0 X.prog X.w X.K X.mg X.base N "_law_refused" (zE st) f cdv A outer s H E0).nox e oe) rest (trest e))
  (hres:∀(e:Addr) (G:Gp) (R:Q2),(∀ l,G.m l=none->R (.adr l) (zQ G l [.int kind]))->trest e (zg R) ((cK N.length none).set 1 (some (.adr e))) G)
  (L:zLK X x c P params body sc) (hlam:∀(g:Addr) (cv:Value) (A:Around) (outer:List Env) (s:Shared) (H:Hp),yM k (A.deeper (zEM sc (zBU sc X.env) (x++".<locals>.<lambda>") g cv s.heap.objs.size))->Xe (zJZ X sc (x++".<locals>.<lambda>") g cv A outer s H) C body (zDj tv fW fR cW cR ta)) :
  F2 X (.Call (.Name "_law_refused" p) [.Lambda params body sc lp] [] pos) (zLc kind tv fW fR cW cR ta) :=
 zJc (t:=zDj tv fW fR cW cR ta) F S hm hb hr hgl B hCc hxm hrest hres L hlam
end L3
namespace K
open L2 L3
theorem zGi(e:Addr)(G:Gp)(R:Q2)(h:∀ l,G.m l=none->R (.adr l) (zQ G l [.int 4])):zBP e false false false false true (zg R) ((cK 4 none).set 1 (some (.adr e))) G:=zJh rfl h
end K
namespace K
open L2 L3 HS
theorem zIf{σ:S2}{G:Gp}{tc:TT2}{ta tb:zf}{x:D}{b:Bool}(h:PuT tc σ G b)(ha:b=true->ze ta σ G x)(hb:b=false->ze tb σ G x):ze (zMY tc ta tb) σ G x:=fun G2 e R q=>h G2 e _ (by
 cases b with
 | true=>rw[if_pos rfl];exact ha rfl G2 e _ q
 | false=>rw[if_neg (by simp)];exact hb rfl G2 e _ q)
noncomputable def Odd(G:Gp)(d:D):Prop:=(∀ t,d≠.str t)/\Lk G d
theorem zNF{σ:S2}{G:Gp}{t:zf}{d:D}(h:ze t σ G d)(ho:Odd G d):ze (zBY "str" t) σ G (.bl false):=by
 cases d with
 | str x=>exact absurd rfl (ho.1 x)
 | adr l=>obtain⟨es,q⟩:=ho.2 l rfl;exact fun G2 e R q'=>h G2 e _ ⟨⟨es,e.ls q⟩,q'⟩
 | _=>exact zEI h (fun l z=>by cases z) rfl
noncomputable abbrev yd(t:Str):List Str:=Txt.split t " "
theorem zHi(t:Str):yd t≠[]:=fun z=>by
 have h:1<=(yd t).length:=split_pos t " ";rw[z] at h;simp at h
noncomputable def zd:List D->Gp->(List D->Gp->Prop)->Prop:=fun ds G R=>∃ t:Str,ds=[.str t]/\t.length<=1000000/\R ((yd t).map D.str) G
theorem wc:∀ ds G R R',(∀ ls G',R ls G'->R' ls G')->zd ds G R->zd ds G R':=by
 rintro ds G R R' h ⟨t,e,hw,q⟩;exact⟨t,e,hw,h _ _ q⟩
noncomputable def zBi:wP:=(zX (xIf (zu (xB (zBY "str" (zC 0)))) (fun _ _ _=>False) zx) (zq (yB (zDH (zC 0) (zA (xC (.str " ")) zH)))))
theorem zC1{σ:S2}{G:Gp}{t:zf}{x:Str}(h:ze t σ G (.str x))(hl:x.length<=1000000):PuL (zDH t (zA (xC (.str " ")) zH)) σ G ((yd x).map D.str):=fun G2 e R q=>h G2 e _ (zBe (d:=.str " ") zY (zBq ⟨by decide +kernel,hl,q⟩))
theorem zHj(ds:List D)(G:Gp)(R:Q2)(h:spL zd ds G R):ds.length=1/\zBi (zg R) (zP ["text"] ds) G:=by
 obtain⟨t,rfl,hw,h⟩:=h;refine⟨rfl,?_⟩;unfold zBi;refine yu (zw (b:=true) (yz (zEI (T:="str") (d:=.str t) (zG rfl) (fun l z=>by cases z) rfl))) ?_;exact(show zq _ _ _ _ from zAy (zC1 (zG (i:=0) (d:=.str t) rfl) hw) fun l hl=>.of (h l hl))
noncomputable def yb:Cnd:=fun ds G E=>∃ d,ds=[d]/\Odd G d/\E G
noncomputable def zA7:(Gp->Prop)->S2->Gp->Prop:=(fun E σ G=>(zu (xB (zBY "str" (zC 0)))) σ G fun b G2=>b=true/\(fun E σ G=>(xC (.str "no text")) σ G fun _ G2=>E G2) E σ G2)
theorem zGj(ds:List D)(G:Gp)(E:Gp->Prop)(h:yb ds G E):ds.length=1/\zA7 E (zP ["text"] ds) G:=by
 obtain⟨d,rfl,ho,h⟩:=h;refine⟨rfl,?_⟩;unfold zA7;exact zw (b:=false) (yz (zNF (zG (i:=0) (d:=d) rfl) ho)) G (.refl G) _ ⟨rfl,h⟩
noncomputable def zl:wU:=fun ds G R=>∃ w:Str,ds=[.str w]/\w.length<=1000000/\R (wT w) G
noncomputable def zC2:wP:=(zq (zMY (zA2 (xB (zS (fEq false) (zI zCe (zA (zC 0) zH)) (xC (.int 1)))) (xB (zS zKu (zC 0) (xC (.str "0123456789"))))) (zI wR (zA (zC 0) zH)) (xC .non)))
theorem zLd(ds:List D)(G:Gp)(R:Q2)(h:zl ds G R):ds.length=1/\zC2 (zg R) (zP ["word"] ds) G:=by
 obtain⟨w,rfl,hl,h⟩:=h;refine⟨rfl,?_⟩;unfold zC2;rw[show zP ["word"] [.str w]=[some (.str w)] from rfl];have c1:PuT (xB (zS (fEq false) (zI zCe (zA (zC 0) zH)) (xC (.int 1)))) [some (.str w)] G (decide (w.length=1)):=by
  refine yz (zEH (x:=nD w.length) (y:=nD 1) (zZ (zF (zG (d:=.str w) rfl) zN) fun _ _ R' q=>⟨hl,q⟩) zY rfl rfl ?_);rw[if_neg (by simp),zDI]
 have c2:PuT (xB (zS zKu (zC 0) (xC (.str "0123456789")))) [some (.str w)] G (!(Builtin.Str.occurrences ("0123456789":Str) w 0 ("0123456789":Str).length 1).isEmpty):=yz (yk (x:=.str w) (y:=.str "0123456789") (zG rfl) zY fun G2 _ R' q=>q);have c3:=zMP c1 fun _=>c2;rw[zPE] at c3;refine zAI (zIf c3 (fun hb=>?_) fun hb=>?_) (.of h)
 ·obtain⟨k,hk⟩:=Option.isSome_iff_exists.mp hb
  obtain⟨h10,rfl⟩:=zBh hk;rw[zB7 h10];exact zZ (d:=nD k) (zF (zG (d:=.str (dig k)) rfl) zN) fun _ _ _ q=>⟨k,rfl,by omega,q⟩
 ·have:wT w=.non:=by
   unfold wT;cases q:zCy w with
   | none=>rfl
   | some k=>rw[q] at hb;cases hb
  rw[this];exact zY
noncomputable def yX:wU:=fun ds G R=>∃ w:Str,ds=[.str w]/\w.length<=1000000/\R (zAL w) G
noncomputable def zBj:wP:=(zq (zMY (xB (zS (fEq false) (yH (zC 0) (yT (xC (.int 1))) (yT (xC (.int 2)))) (xC (.str "-")))) (zAE (zA (zI zl (zA (yH (zC 0) zr (yT (xC (.int 1)))) zH)) (zA (zI zl (zA (yH (zC 0) (yT (xC (.int 2))) zr) zH)) zH))) (xC .non)))
theorem zHk(ds:List D)(G:Gp)(R:Q2)(h:yX ds G R):ds.length=1/\zBj (zg R) (zP ["word"] ds) G:=by
 obtain⟨w,rfl,hl,h⟩:=h;refine⟨rfl,?_⟩;unfold zBj;rw[show zP ["word"] [.str w]=[some (.str w)] from rfl];have s1:ze (yH (zC 0) zr (yT (xC (.int 1)))) [some (.str w)] G (.str (Txt.slice w none (some 1))):=fun G2 e R q=>zG (i:=0) (d:=.str w) rfl G2 e _ ⟨hl,q⟩;have s2:ze (yH (zC 0) (yT (xC (.int 2))) zr) [some (.str w)] G (.str (Txt.slice w (some 2) none)):=fun G2 e R q=>zG (i:=0) (d:=.str w) rfl G2 e _ ⟨hl,q⟩;have s3:ze (yH (zC 0) (yT (xC (.int 1))) (yT (xC (.int 2)))) [some (.str w)] G (.str (Txt.slice w (some 1) (some 2))):=fun G2 e R q=>zG (i:=0) (d:=.str w) rfl G2 e _ ⟨hl,q⟩;have c:PuT (xB (zS (fEq false) (yH (zC 0) (yT (xC (.int 1))) (yT (xC (.int 2)))) (xC (.str "-")))) [some (.str w)] G (decide (Txt.slice w (some 1) (some 2)=("-":Str))):=yz (zEH (y:=.str "-") s3 zY rfl rfl (by rw[if_neg (by simp)];show(_==_)=_;rw[da];simp));have fl:∀ {t:zf} {x:Str},ze t [some (.str w)] G (.str x)->x.length<=1000000->ze (zI zl (zA t zH)) [some (.str w)] G (wT x):=fun hx hz=>zZ (zF hx zN) fun _ _ _ q=>⟨_,rfl,hz,q⟩
 have le:=fun a b=>Txt.slice_le w a b;refine zAI (d:=zAL w) (zIf c (fun hb=>?_) fun hb=>?_) (.of h)
 ·unfold zAL
  rw[if_pos (by simpa using hb)];exact zCd (zF (fl s1 (dC (le _ _) hl)) (zF (fl s2 (dC (le _ _) hl)) zN)) (by simp)
 ·unfold zAL
  rw[if_neg (by simpa using hb)];exact zY
theorem zHl{t w:Str}(h:w∈yd t):w.length<=t.length:=by
 have e:=StrLaws.join_split t " ";have:∀(l:List Str),w∈l->w.length<=(Str.join " " l).length:=by
  intro l
  induction l with
  | nil=>intro z;cases z
  | cons a r ih =>
   intro z;cases r with
   | nil =>
    rcases db.mp z with rfl | z
    ·exact cN _
    ·cases z
   | cons b r =>
    show _<=(a++" "++Str.join " " (b::r)).length;rw[zBG,zBG];rcases db.mp z with rfl | z
    ·omega
    ·have:=ih z;omega
 have:=this _ h;rw[e] at this;exact this
theorem zHm{σ:S2}{G:Gp}{tl:TL2}{ds:List D}(h:PuL tl σ G ds):PuI (iF tl) σ G ds:=fun G2 e R q=>h G2 e _ fun a ha=>q _ _ (.new ha) fun G4 e4=>e4.ls (.inl zJ)
theorem zHn{ws:List Str}(h:¬ ws.length<2):∃ a b r,ws=a::b::r:=by
 match ws,h with
 | a::b::r,_=>exact⟨a,b,r,rfl⟩
 | [a],h=>simp at h
 | [],h=>simp at h
noncomputable def wq:wU:=fun ds G R=>∃(t:Str) (n:Nat) (l:List (Nat×Nat)),ds=[.str t]/\t.length<=1000000/\l.length<=60/\Wt (yd t) n l/\R (.tup [nD n,.tup (l.map yf)]) G
noncomputable def zBk:wP:=(zX (zy (yB (yD zd (zA (zC 0) zH))) (gN 1)) (zX (xIf (wL (xB (zS (fII fun i j=>.bl (decide (i<j))) (zI yG (zA (zC 1) zH)) (xC (.int 2)))) (xB (zS (fEq true) (zS ye (zC 1) (xC (.int 1))) (xC (.str ":"))))) (fun _ _ _=>False) zx) (zX (zy (zAE (zA (zI zl (zA (zS ye (zC 1) (xC (.int 0))) zH)) (zA (zn yS (zo (iF (zAf (zC 1) (yT (xC (.int 2))) zr)) bd1 wV (zI yX (zA (zC 3) zH)))) zH))) (gN 2)) (zX (xIf (zu (xB (zI wG (zA (zC 2) zH)))) (fun _ _ _=>False) zx) (zq (zC 2))))))
section
variable {σ:S2} {G1:Gp} {l:Addr} {ws:List Str} (hv:look σ 1=some (.adr l)) (ls:Ls G1 l (ws.map D.str))
include hv ls
theorem zIg:PuT (xB (zS (fII fun i j=>.bl (decide (i<j))) (zI yG (zA (zC 1) zH)) (xC (.int 2)))) σ G1 (decide (ws.length<2)):=by
 have plen:ze (zI yG (zA (zC 1) zH)) σ G1 (nD ws.length):=zZ (zF (zG (i:=1) (d:=.adr l) hv) zN) fun _ e _ q'=>⟨_,e.ls ls,by rw[cI];exact q'⟩
 have:=yz (zIC (g:=fun i j=>.bl (decide (i<j))) plen (zY (d:=.int 2)));rwa [show decide ((ws.length:Int)<2)=decide (ws.length<2) by rw[da];simp;omega] at this
theorem zNs{a b:Str}{r:List Str}(e:ws=a::b::r):PuT (xB (zS (fEq true) (zS ye (zC 1) (xC (.int 1))) (xC (.str ":")))) σ G1 (decide (b≠":")):=by
 subst e;exact yz (zEH (x:=.str b) (y:=.str ":") (zB3 (k:=1) (zG (d:=.adr l) hv) zY ls (yP (j:=1) rfl)) zY rfl rfl (by rw[if_pos rfl];show(!(b==":"))=_;rw[da];simp))
theorem zHo:PuT (wL (xB (zS (fII fun i j=>.bl (decide (i<j))) (zI yG (zA (zC 1) zH)) (xC (.int 2)))) (xB (zS (fEq true) (zS ye (zC 1) (xC (.int 1))) (xC (.str ":"))))) σ G1 (!(decide (2<=ws.length)&&decide (ws[1]?=some (":":Str)))):=by
 by_cases h2:ws.length<2
 ·have:=zIg hv ls
  rw[decide_eq_true h2] at this;rw[decide_eq_false (show ¬ 2<=ws.length by omega)];exact zAu (b:=true) (c:=true) this fun z=>by cases z
 ·obtain⟨a,b,r,e⟩:=zHn h2
  have h1:=zIg hv ls;rw[decide_eq_false h2] at h1;rw[decide_eq_true (show 2<=ws.length by omega),Bool.true_and];have:=zAu (b:=false) h1 fun _=>zNs hv ls e;subst e;rw[show(!decide ((a::b::r)[1]?=some (":":Str)))=decide (b≠":") by simp];exact this
theorem zNt{a b:Str}{r:List Str}(e:ws=a::b::r)(hw:∀ w∈ws,w.length<=1000000)(h3:σ.length=3):ze (zAE (zA (zI zl (zA (zS ye (zC 1) (xC (.int 0))) zH)) (zA (zn yS (zo (iF (zAf (zC 1) (yT (xC (.int 2))) zr)) bd1 wV (zI yX (zA (zC 3) zH)))) zH))) σ G1 (zCz a r):=by
 subst e;have sl:PuL (zAf (zC 1) (yT (xC (.int 2))) zr) σ G1 (r.map D.str):=fun G2 e R q'=>zG (i:=1) (d:=.adr l) hv G2 e _ ⟨_,e.ls ls,by
  have:L3.cutD ((a::b::r).map D.str) (some 2) none=r.map D.str:=by
   unfold L3.cutD;rw[HT.zDq,show(2:Int)=((2:Nat):Int) from rfl,HT.zFM];simp only[dt,cD,cI];rw[show min 2 (r.length+1+1)=2 by omega];show List.take (r.length+1+1-2) (r.map D.str)=r.map D.str;exact dJ (by rw[cI];omega)
  rw[this];exact q'⟩
 have hk:∀ d:D,look (σ++[d].map some) 3=some d:=fun d=>by
  match σ,h3 with
  | [_,_,_],_=>rfl
 have m:=zAY (σ:=σ) (G:=G1) (bd:=bd1) (te:=(zI yX (zA (zC 3) zH))) (fun d=>match d with | .str w=>zAL w | _=>.non) (fun d=>[d]) (zHm sl) fun x hx=>by
  obtain⟨w,hp,rfl⟩:=cQ.mp hx;exact⟨rfl,zZ (zF (zG (hk _)) zN) fun _ _ _ q'=>⟨w,rfl,hw w (cU _ (cU _ hp)),q'⟩⟩
 have e:cM (fun d=>match d with | .str w=>zAL w | _=>.non) (r.map D.str)=r.map zAL:=by rw[cX];rfl
 rw[e] at m;have f0:ze (zI zl (zA (zS ye (zC 1) (xC (.int 0))) zH)) σ G1 (wT a):=zZ (zF (zB3 (k:=0) (zG (d:=.adr l) hv) zY ls (yP (j:=0) rfl)) zN) fun _ _ _ q'=>⟨a,rfl,hw a (by simp),q'⟩
 exact zCd (zF f0 (zF (zCm m) zN)) (by simp)
end
theorem zNG{G:Gp}{n k:Nat}{d:D}(h:flat k d=true):Wg G n d:=Wl.wg (l:=0) (Wl.flat h)
theorem zGk{σ:S2}{G:Gp}{t:zf}{a:Str}{r:List Str}{b:Bool}(h:ze t σ G (zCz a r))(hl:r.length<=60)(hb:b=true↔∃ n l,Wt (a::":"::r) n l):ze (zI wG (zA t zH)) σ G (.bl b):=by
 refine zZ (zF h zN) fun _ e _ q'=>⟨_,rfl,zNG (zHh a r),zM1 fun ys e=>by cases e;rw[cI];exact hl,?_⟩
 by_cases hx:∃ n l,IsW (zCz a r) n l
 ·obtain⟨n,l,hw⟩:=hx
  refine .inl ⟨n,l,hw,?_⟩;have:zDJ l=b:=by
   rw[da,hb];constructor
   ·exact fun z=>⟨n,l,(zC0 hl).mp ⟨hw,z⟩⟩
   ·rintro⟨n',l',z⟩
    obtain⟨hw',z'⟩:=(zC0 hl).mpr z;have e:=hw.1.symm.trans hw'.1;simp only[D.tup.injEq,List.cons.injEq,and_true] at e;have:(l.map yf).map zEC=(l'.map yf).map zEC:=by rw[e.2]
    rw[cX,cX] at this;have ei:zEC∘yf=id:=funext fun p=>by simp only[Function.comp,zE1,id]
    rw[ei,eL,eL] at this;rw[this];exact z'
  rw[this];exact q'
 ·refine .inr ⟨fun n l z=>hx ⟨n,l,z⟩,?_⟩
  have:b=false:=by
   cases hb':b with
   | false=>rfl
   | true =>
    obtain⟨n,l,z⟩:=hb.mp hb';exact absurd ⟨n,l,((zC0 hl).mpr z).1⟩ hx
  rw[this] at q';exact q'
theorem zHp(ds:List D)(G:Gp)(R:Q2)(h:wq ds G R):ds.length=1/\zBk (zg R) (zP ["text","words","web"] ds) G:=by
 obtain⟨t,n,l,rfl,hl,h60,hw,h⟩:=h;refine⟨rfl,?_⟩;unfold zBk;rw[show zP ["text","words","web"] [.str t]=[some (.str t),none,none] from rfl];have w:PuL (yD zd (zA (zC 0) zH)) [some (.str t),none,none] G ((yd t).map D.str):=zCl (zF (zG (d:=.str t) rfl) zN) fun _ _ _ q'=>⟨t,rfl,hl,q'⟩
 refine yh (zAy w fun a ha=>?_);simp only[gN,cz,cy];have ls:Ls (zQ G a ((yd t).map D.str)) a ((yd t).map D.str):=.inl zJ;have sb:L3.Sub G (zQ G a ((yd t).map D.str)):=.new ha;generalize zQ G a ((yd t).map D.str)=G1 at ls sb;have wl:∀ w∈yd t,w.length<=1000000:=fun w hw=>dC (zHl hw) hl;generalize yd t=ws at hw ls wl;have hw0:=hw;obtain⟨rfl,h1,h9,hp,hr⟩:=hw;refine yu (by have:=zHo (σ:=[some (.str t),some (.adr a),none]) (l:=a) rfl ls;simpa using this) ?_;refine zCI (zNt (σ:=[some (.str t),some (.adr a),none]) (l:=a) rfl ls rfl wl rfl) ?_;simp only[gN,cz,cy];have h60':(l.map zW).length<=60:=by rw[cI];exact h60
 refine yu (zw (b:=true) (yz (zGk (a:=dig n) (r:=l.map zW) (zG rfl) h60' ⟨fun _=>⟨n,l,hw0⟩,fun _=>rfl⟩))) ?_;have:=((zC0 h60').mpr hw0).1.1;rw[this];exact zAI (zG rfl) ⟨G,sb,h⟩
noncomputable def CW(G:Gp)(d:D):Prop:=Odd G d\/∃ t:Str,d=.str t/\t.length<=1000000/\(yd t).length<=60/\∀ n l,¬ Wt (yd t) n l
noncomputable def wd:Cnd:=fun ds G E=>∃ d,ds=[d]/\CW G d/\∀ G',L3.Sub G G'->E G'
noncomputable def zA8:(Gp->Prop)->S2->Gp->Prop:=(fun E σ G=>(fun E σ G=>(zA (zC 0) zH) σ G fun ds G2=>yb ds G2 E) E σ G\/(fun E σ G=>(fun E σ G=>(zy (yB (yD zd (zA (zC 0) zH))) (gN 1)) { nx:=(fun E σ G=>(wL (xB (zS (fII fun i j=>.bl (decide (i<j))) (zI yG (zA (zC 1) zH)) (xC (.int 2)))) (xB (zS (fEq true) (zS ye (zC 1) (xC (.int 1))) (xC (.str ":"))))) σ G fun b G2=>b=true/\(fun E σ G=>(xC (.str "writes no web")) σ G fun _ G2=>E G2) E σ G2) E,rt:=fun _ _=>False } σ G) E σ G\/(fun E σ G=>(zy (yB (yD zd (zA (zC 0) zH))) (gN 1)) { nx:=(fun E σ G=>(xIf (wL (xB (zS (fII fun i j=>.bl (decide (i<j))) (zI yG (zA (zC 1) zH)) (xC (.int 2)))) (xB (zS (fEq true) (zS ye (zC 1) (xC (.int 1))) (xC (.str ":"))))) (fun _ _ _=>False) zx) { nx:=(fun E σ G=>(zy (zAE (zA (zI zl (zA (zS ye (zC 1) (xC (.int 0))) zH)) (zA (zn yS (zo (iF (zAf (zC 1) (yT (xC (.int 2))) zr)) bd1 wV (zI yX (zA (zC 3) zH)))) zH))) (gN 2)) { nx:=(fun E σ G=>(zu (xB (zI wG (zA (zC 2) zH)))) σ G fun b G2=>b=true/\(fun E σ G=>(xC (.str "writes no web")) σ G fun _ G2=>E G2) E σ G2) E,rt:=fun _ _=>False } σ G) E,rt:=fun _ _=>False } σ G) E,rt:=fun _ _=>False } σ G) E σ G) E σ G)
theorem zGl(ds:List D)(G:Gp)(E:Gp->Prop)(h:wd ds G E):ds.length=1/\zA8 E (zP ["text","words","web"] ds) G:=by
 obtain⟨d,rfl,hc,h⟩:=h;refine⟨rfl,?_⟩;unfold zA8;rcases hc with ho | ⟨t,rfl,hl,h60,hn⟩
 ·exact .inl (zF (zG (i:=0) (d:=d) rfl) zN G (.refl G) _ ⟨d,rfl,ho,h G (.refl G)⟩)
 ·refine .inr ?_
  rw[show zP ["text","words","web"] [.str t]=[some (.str t),none,none] from rfl];have w:PuL (yD zd (zA (zC 0) zH)) [some (.str t),none,none] G ((yd t).map D.str):=zCl (zF (zG (d:=.str t) rfl) zN) fun _ _ _ q'=>⟨t,rfl,hl,q'⟩
  have wl:∀ w∈yd t,w.length<=1000000:=fun w hw=>dC (zHl hw) hl;generalize yd t=ws at hn w wl h60;by_cases hb:(decide (2<=ws.length)&&decide (ws[1]?=some (":":Str)))=true
  ·refine .inr ?_
   rw[di,decide_eq_true_eq,decide_eq_true_eq] at hb;obtain⟨a,b,r,e⟩:=zHn (show ¬ ws.length<2 by omega);have eb:b=":":=by have:=hb.2;rw[e] at this;simpa using this
   subst eb;have hr:r.length<=60:=by rw[e] at h60;simp at h60;omega
   refine zAy w fun p hp=>?_;have ls:Ls (zQ G p (ws.map D.str)) p (ws.map D.str):=.inl zJ;have sb:L3.Sub G (zQ G p (ws.map D.str)):=.new hp;generalize zQ G p (ws.map D.str)=G1 at ls sb;simp only[gN,cz,cy];refine zK5 (by have:=zHo (σ:=[some (.str t),some (.adr p),none]) (l:=p) rfl ls;rw[decide_eq_true (show 2<=ws.length by omega),decide_eq_true hb.2] at this;exact this) ?_;simp only[zx,zy];refine zNt (σ:=[some (.str t),some (.adr p),none]) (l:=p) rfl ls e wl rfl G1 (.refl G1) _ ?_;simp only[gN,cz,cy];refine zw (b:=false) (yz (zGk (σ:=[some (.str t),some (.adr p),some (zCz a r)]) (a:=a) (r:=r) (b:=false) (zG (i:=2) rfl) hr ⟨fun z=>(by cases z),fun⟨n,l,z⟩=>absurd (e▸z) (hn n l)⟩)) G1 (.refl G1) _ ⟨rfl,h _ sb⟩
  ·refine .inl (zAy w fun p hp=>?_)
   have ls:Ls (zQ G p (ws.map D.str)) p (ws.map D.str):=.inl zJ;have:=zHo (σ:=[some (.str t),some (.adr p),none]) (l:=p) rfl ls;have hb':(decide (2<=ws.length)&&decide (ws[1]?=some (":":Str)))=false:=by simpa using hb
   rw[hb'] at this;exact this _ (.refl _) _ ⟨rfl,h _ (.new hp)⟩
noncomputable def wN:wU:=fun ds G R=>∃(t:Str) (n:Nat) (r:List Nat),ds=[.str t]/\t.length<=1000000/\Rt (yd t) n r/\R (.tup (r.map nD)) G
noncomputable def zA9:wP:=(zX (zy (zn yS (zo (iF (yD zd (zA (zC 0) zH))) bd1 wV (zI zl (zA (zC 2) zH)))) (gN 1)) (zX (xIf (zu (xB (zI wH (zA (zC 1) zH)))) (fun _ _ _=>False) zx) (zq (zC 1))))
theorem zGm{G:Gp}{t:Str}(hl:t.length<=1000000):ze (zn yS (zo (iF (yD zd (zA (zC 0) zH))) bd1 wV (zI zl (zA (zC 2) zH)))) [some (.str t),none] G (.tup ((yd t).map wT)):=by
 have w:PuL (yD zd (zA (zC 0) zH)) [some (.str t),none] G ((yd t).map D.str):=zCl (zF (zG (d:=.str t) rfl) zN) fun _ _ _ q=>⟨t,rfl,hl,q⟩
 have m:=zAY (σ:=[some (.str t),none]) (G:=G) (bd:=bd1) (te:=(zI zl (zA (zC 2) zH))) (fun d=>match d with | .str w=>wT w | _=>.non) (fun d=>[d]) (zHm w) fun x hx=>by
  obtain⟨w,hp,rfl⟩:=cQ.mp hx;exact⟨rfl,zZ (zF (zG rfl) zN) fun _ _ _ q'=>⟨w,rfl,dC (zHl hp) hl,q'⟩⟩
 have e:cM (fun d=>match d with | .str w=>wT w | _=>.non) ((yd t).map D.str)=(yd t).map wT:=by rw[cX];rfl
 rw[e] at m;exact zCm m
theorem zFC{σ:S2}{G:Gp}{t:zf}{ws:List Str}(h:ze t σ G (.tup (ws.map wT)))(hl:ws.length<=1000):ze (zI wH (zA t zH)) σ G (.bl (zB4 (ws.map wT))):=zZ (zF h zN) fun _ _ _ q=>⟨_,rfl,.inl ⟨_,rfl,fun x hx=>by obtain⟨w,_,rfl⟩:=cQ.mp hx;exact zJg w,by rw[cI];exact hl,q⟩⟩
theorem zGn(ds:List D)(G:Gp)(R:Q2)(h:wN ds G R):ds.length=1/\zA9 (zg R) (zP ["text","ring"] ds) G:=by
 obtain⟨t,n,r,rfl,hl,hr,h⟩:=h;refine⟨rfl,?_⟩;unfold zA9;rw[show zP ["text","ring"] [.str t]=[some (.str t),none] from rfl];refine zCI (zGm hl) ?_;simp only[gN,cz,cy];have hB:=(zFB (yd t)).mpr ⟨n,r,hr⟩;have hlen:(yd t).length<=1000:=by
  have:=hr.2.1.len;have:=hr.2.2.2;rw[hr.1,cI];omega
 refine yu (zw (b:=true) (yz (by have:=zFC (σ:=[some (.str t),some (.tup ((yd t).map wT))]) (G:=G) (t:=zC 1) (ws:=yd t) (zG rfl) hlen;rw[hB] at this;exact this))) ?_;have e:(yd t).map wT=r.map nD:=by rw[hr.1];exact zGh fun x hx=>zDN hr.2.1 hr.2.2.2 hx
 rw[e];exact zAI (zG rfl) (.of h)
noncomputable def CR(G:Gp)(d:D):Prop:=Odd G d\/∃ t:Str,d=.str t/\t.length<=1000000/\(yd t).length<=60/\∀ n r,¬ Rt (yd t) n r
noncomputable def wI:Cnd:=fun ds G E=>∃ d,ds=[d]/\CR G d/\∀ G',L3.Sub G G'->E G'
noncomputable def zAi:(Gp->Prop)->S2->Gp->Prop:=(fun E σ G=>(fun E σ G=>(zA (zC 0) zH) σ G fun ds G2=>yb ds G2 E) E σ G\/(fun E σ G=>(zy (zn yS (zo (iF (yD zd (zA (zC 0) zH))) bd1 wV (zI zl (zA (zC 2) zH)))) (gN 1)) { nx:=(fun E σ G=>(zu (xB (zI wH (zA (zC 1) zH)))) σ G fun b G2=>b=true/\(fun E σ G=>(xC (.str "writes no ring")) σ G fun _ G2=>E G2) E σ G2) E,rt:=fun _ _=>False } σ G) E σ G)
theorem zFq(ds:List D)(G:Gp)(E:Gp->Prop)(h:wI ds G E):ds.length=1/\zAi E (zP ["text","ring"] ds) G:=by
 obtain⟨d,rfl,hc,h⟩:=h;refine⟨rfl,?_⟩;unfold zAi;rcases hc with ho | ⟨t,rfl,hl,h60,hn⟩
 ·exact .inl (zF (zG (i:=0) (d:=d) rfl) zN G (.refl G) _ ⟨d,rfl,ho,h G (.refl G)⟩)
 ·refine .inr ?_
  rw[show zP ["text","ring"] [.str t]=[some (.str t),none] from rfl];refine zGm hl G (.refl G) _ ?_;have hB:zB4 ((yd t).map wT)=false:=by
   cases q:zB4 ((yd t).map wT) with
   | false=>rfl
   | true=>obtain⟨n,r,z⟩:=(zFB (yd t)).mp q;exact absurd z (hn n r)
  have p:=zFC (σ:=[some (.str t),some (.tup ((yd t).map wT))]) (G:=G) (t:=zC 1) (ws:=yd t) (zG rfl) (by omega);rw[hB] at p;have p2:=zw (yz p);exact p2 G (.refl G) (fun b G2=>b=true/\E G2) ⟨rfl,h G (.refl G)⟩
noncomputable def zAD(ws:List Str):Nat:=(ws.map fun w=>w.length+1).sum
noncomputable def bl(t:Str):Nat:=t.cps.toList.count 32
theorem zCf(a b:Str):bl (a++b)=bl a+bl b:=by
 unfold bl;rw[zLU,eS]
theorem sp1:(" ":Str).length=1:=by decide +kernel
theorem bl1:bl (" ":Str)=1:=by decide +kernel
theorem zFr:∀ ws:List Str,(Str.join " " ws).length<=zAD ws
 | []=>cN _
 | [w]=>by show w.length<=_;simp[zAD]
 | w::x::r=>by
  have ih:=zFr (x::r);show(w++" "++Str.join " " (x::r)).length<=_;rw[zBG,zBG,sp1];show _<=(w.length+1)+zAD (x::r);omega
theorem zIh:∀ ws:List Str,ws≠[]->(Str.join " " ws).length+1=zAD ws
 | [],h=>absurd rfl h
 | [w],_=>by show w.length+1=_;simp[zAD]
 | w::x::r,_=>by
  have ih:=zIh (x::r) (by simp);show(w++" "++Str.join " " (x::r)).length+1=(w.length+1)+zAD (x::r);rw[zBG,zBG,sp1];omega
theorem zC3:∀ ws:List Str,(∀ w∈ws,bl w=0)->bl (Str.join " " ws)=ws.length-1
 | [],_=>rfl
 | [w],h=>by show bl w=0;exact h w (by simp)
 | w::x::r,h=>by
  have ih:=zC3 (x::r) fun y hy=>h y (cU _ hy);show bl (w++" "++Str.join " " (x::r))=_;rw[zCf,zCf,h w (by simp),bl1,ih];simp;omega
theorem zLe{t w:Str}(h:w∈yd t):bl w=0:=by
 have:=StrLaws.split_free t 32 w (by rw[<-zO3];exact h);exact dH this
theorem zGo(t:Str):Str.join " " (yd t)=t:=StrLaws.join_split t " "
theorem zCM(t:Str):(yd t).length=bl t+1:=by
 have h:=zC3 (yd t) fun w hw=>zLe hw;rw[zGo] at h;have:(yd t).length≠0:=fun z=>zHi t (eh.mp z);omega
theorem zQH(t:Str):zAD (yd t)=t.length+1:=by
 rw[<-zIh _ (zHi t),zGo]
theorem zGp{ws:List Str}{w:Str}(h:w∈ws):w.length+1<=zAD ws:=by
 induction ws with
 | nil=>cases h
 | cons a r ih =>
  show _<=(a.length+1)+zAD r;rcases db.mp h with rfl | h
  ·omega
  ·have:=ih h;omega
theorem zGq(a b:List Str):zAD (a++b)=zAD a+zAD b:=by
 unfold zAD;rw[dU,List.sum_append]
theorem yw(a:Str)(b:List Str):zAD (a::b)=(a.length+1)+zAD b:=rfl
theorem zHq(ws:List Str)(k:Nat):zAD (ws.eraseIdx k)<=zAD ws:=by
 induction ws generalizing k with
 | nil=>simp
 | cons a r ih =>
  cases k with
  | zero=>rw[List.eraseIdx_cons_zero,yw];omega
  | succ k=>rw[List.eraseIdx_cons_succ,yw,yw];have:=ih k;omega
theorem zGr(ws:List Str)(j:Nat)(w:Str):zAD (ws.take j++w::ws.drop j)=zAD ws+(w.length+1):=by
 rw[zGq,yw];have:zAD (ws.take j)+zAD (ws.drop j)=zAD ws:=by rw[<-zGq,dM]
 omega
theorem zLf(ws:List Str)(k:Nat)(w:Str):zAD (ws.set k w)<=zAD ws+(w.length+1):=by
 induction ws generalizing k with
 | nil=>simp[zAD]
 | cons a r ih =>
  cases k with
  | zero=>rw[cy,yw,yw];omega
  | succ k=>rw[cz,yw,yw];have:=ih k;omega
noncomputable def Bt(t t':Str):Prop:=t'.length<=2*t.length+20/\(yd t').length<=(yd t).length+1
theorem zNH{t:Str}{ws:List Str}(h1:zAD ws<=2*t.length+20)(h2:ws.length<=(yd t).length+1)(h3:∀ w∈ws,bl w=0):Bt t (Str.join " " ws):=by
 refine⟨dC (zFr ws) h1,?_⟩;rw[zCM,zC3 ws h3,zCM] at *;omega
theorem zLg{ws:List Str}(h1:zAD ws<=10000)(h2:ws.length<=1000):Short " " ws:=⟨h2,fun y hy=>by have:=zGp hy;omega,by decide +kernel⟩
theorem zQI(t:Str)(k:Nat):bl (Txt.slice t none (some (k:Int)))+bl (Txt.slice t (some (k:Int)) none)=bl t:=by
 unfold bl;rw[zLT,zBg,<-eS,dM]
theorem zNI(t:Str)(k:Nat):bl (Txt.slice t (some ((k+1:Nat):Int)) none)<=bl (Txt.slice t (some (k:Int)) none):=by
 unfold bl;rw[zBg,zBg];exact(List.drop_sublist_drop_left _ (by omega)).count_le 32
theorem zPH(t:Str)(k:Nat):(Txt.slice t none (some (k:Int))).length+(Txt.slice t (some (k:Int)) none).length=t.length:=by
 have a:∀ s:Str,s.length=s.cps.toList.length:=fun s=>dh.symm;rw[a,a,a,zLT,zBg,<-cZ,dM]
theorem len_from(t:Str)(k:Nat):(Txt.slice t (some ((k+1:Nat):Int)) none).length<=(Txt.slice t (some (k:Int)) none).length:=by
 have a:∀ s:Str,s.length=s.cps.toList.length:=fun s=>dh.symm;rw[a,a,zBg,zBg,eu,eu];omega
theorem zPI(c:Nat):bl ⟨#[c]⟩<=1:=by
 unfold bl;show List.count 32 [c]<=1;rw[List.count_cons];simp;split<;>omega
theorem zIi{t t':Str}(h1:t'.length<=t.length+1)(h2:bl t'<=bl t+1):Bt t t':=⟨by omega,by rw[zCM,zCM];omega⟩
theorem zPJ:∀ n,n<10->∀ p∈yL n,∀ q∈yL n,decide ((yL n).idxOf p<=(yL n).idxOf q)=!(decide (q.1<p.1)||(decide (q.1=p.1)&&decide (q.2<p.2))):=by decide +kernel
noncomputable def ltB(q p:Nat×Nat):Bool:=decide (q.1<p.1)||(decide (q.1=p.1)&&decide (q.2<p.2))
theorem zQJ(q p:Nat×Nat):ltI (prJ q) (prJ p)=ltB q p:=by
 show(if (q.1:Int)=(p.1:Int) then (if (q.2:Int)=(p.2:Int) then _ else decide ((q.2:Int)<(p.2:Int))) else decide ((q.1:Int)<(p.1:Int)))=_;unfold ltB;rw[da];by_cases h:q.1=p.1
 ·rw[if_pos (by omega)]
  by_cases h2:q.2=p.2
  ·rw[if_pos (by omega)]
   simp[h,h2];rfl
  ·rw[if_neg (by omega)]
   simp[h]
 ·rw[if_neg (by omega)]
  simp[h]
theorem zFs(l:List (Nat×Nat)):zDJ l=true↔l.Pairwise fun a b=>ltB a b=true:=by
 rw[zLB,eR];simp only[zQJ]
theorem zPK{a b c:Nat×Nat}(h:ltB a b=true)(h':ltB b c=true):ltB a c=true:=by
 unfold ltB at *;simp only[Bool.or_eq_true,di,decide_eq_true_eq] at *;omega
theorem zNJ{l:List (Nat×Nat)}{p:Nat×Nat}(h:zDJ l=true)(h':∀ q,l.getLast?=some q->ltB q p=true):zDJ (l++[p])=true:=by
 rw[zFs] at h ⊢;rw[List.pairwise_append];refine⟨h,List.pairwise_singleton _ _,fun a ha b hb=>?_⟩;rw[eC] at hb;subst hb;cases q:l.getLast? with
 | none=>rw[List.getLast?_eq_none_iff] at q;subst q;cases ha
 | some z =>
  obtain⟨ys,rfl⟩:=List.getLast?_eq_some_iff.mp q;have hz:=h' z q;rcases dQ.mp ha with ha | ha
  ·exact zPK ((List.pairwise_append.mp h).2.2 a ha z (by simp)) hz
  ·rw[eC] at ha;subst ha;exact hz
theorem zNK{l m:List (Nat×Nat)}{p q:Nat×Nat}(h:zDJ (l++p::m)=true)(h':l.getLast?=some q):ltB q p=true:=by
 rw[zFs] at h;obtain⟨ys,rfl⟩:=List.getLast?_eq_some_iff.mp h';exact(List.pairwise_append.mp h).2.2 q (by simp) p (by simp)
theorem zIj{n:Nat}(h9:n<=9){p:Nat×Nat}(hp:p∈yL n):zIE (((yL n).map zW).map D.str) (.str (zW p)) 0 ((yL n).idxOf p):=by
 have hlt:(yL n).idxOf p<(yL n).length:=List.idxOf_lt_length_of_mem hp;refine⟨Nat.zero_le _,⟨.str (zW p),?_,?_⟩,fun m z _ hm e=>?_⟩
 ·rw[dl,dl,dR hlt,List.getElem_idxOf hlt]
  rfl
 ·show(zW p==zW p)=true;simp
 ·rw[dl,dl] at e
  have hm':m<(yL n).length:=by omega
  rw[dR hm'] at e;cases e;show(zW _==zW p)=false;rw[beq_eq_false_iff_ne];intro e;have h1:=zDM h9 hp;have h2:=zDM h9 (dG hm');have e2:=zGg h2.1 h2.2 h1.1 h1.2 e;have:=List.not_of_lt_findIdx (p:=(·==p)) (xs:=yL n) hm;simp[e2] at this
theorem zQm:sgs ("123456789":Str)=(cH 9).map fun k=>dig (k+1):=by decide +kernel
theorem zQn:sgs ("012345678":Str)=(cH 9).map dig:=by decide +kernel
theorem zIk(l:List Str)(w:Str):((l.map D.str).any fun z=>eqD z (.str w))=decide (w∈l):=by
 rw[List.any_map,da,List.any_eq_true];simp only[decide_eq_true_eq,Function.comp];constructor
 ·rintro⟨x,hx,e⟩
  have:(x==w)=true:=e;rw[<-eq_of_beq this];exact hx
 ·intro h
  exact⟨w,h,show(w==w)=true by simp⟩
theorem wu(l:List Str):∀ d∈l.map D.str,flat 8 d=true:=fun d hd=>by
 obtain⟨w,_,rfl⟩:=cQ.mp hd;rfl
theorem zC4:∀(a b:List Str),eqDs (a.map D.str) (b.map D.str)=decide (a=b)
 | [],[]=>by simp[eqDs]
 | [],_::_=>by simp[eqDs]
 | _::_,[]=>by simp[eqDs]
 | x::a,y::b=>by
  show(x==y&&eqDs (a.map D.str) (b.map D.str))=_;rw[zC4 a b,da];simp
theorem zIl{w:Str}:w∈(cH 9).map (fun k=>dig (k+1))↔∃ n,1<=n/\n<=9/\w=dig n:=by
 constructor
 ·intro h
  obtain⟨k,hk,rfl⟩:=cQ.mp h;have:=cV.mp hk;exact⟨k+1,by omega,by omega,rfl⟩
 ·rintro⟨n,h1,h9,rfl⟩
  exact cQ.mpr ⟨n-1,cV.mpr (by omega),by rw[show n-1+1=n by omega]⟩
theorem zNL{m n:Nat}(h1:m<10)(h2:n<10)(e:dig m=dig n):m=n:=by
 have:=yv h1;rw[e,yv h2] at this;exact(Option.some.inj this).symm
noncomputable def Hd(ws:List Str):Prop:=∃ n r,ws=dig n::":"::r/\1<=n/\n<=9
theorem Wt.hd{ws:List Str}{n:Nat}{l:List (Nat×Nat)}(h:Wt ws n l):Hd ws:=⟨n,_,h.1,h.2.1,h.2.2.1⟩
theorem zNM{σ:S2}{G:Gp}{t:zf}{i:Int}(h:ze t σ G (.int i)):ze (zJD t) σ G (.int (-i)):=fun G2 e R q=>h G2 e _ q
theorem zHr(xs:List D)(d:D):atI (xs++[d]) (-1)=some d:=by
 unfold atI ixN;simp;rw[if_pos (by omega),show(-1+((xs.length:Int)+1)).toNat=xs.length by omega];simp
theorem zIm{σ:S2}{G:Gp}{t:zf}{l:Addr}{ds:List D}(h:ze t σ G (.adr l))(hl:G.m l=some ds):PuI (iV t) σ G ds:=fun G2 e R q=>h G2 e _ ⟨ds,e.ls (.inl hl),q _ G2 (.refl G2) fun G4 e4=>(e.trans e4).ls (.inl hl)⟩
theorem zLh{σ:S2}{G1:Gp}{l:Addr}{ws:List Str}(hv:look σ 1=some (.adr l))(ls:Ls G1 l (ws.map D.str)){R:Bool->Gp->Prop}(hy:¬ Hd ws->∀ G2,Ext G1 G2->R true G2)(hn:Hd ws->∀ G2,Ext G1 G2->R false G2) :
  (wL (xB (zS (fII fun i j=>.bl (decide (i<j))) (zI yG (zA (zC 1) zH)) (xC (.int 2)))) (wL (xB (zS (fIn true) (zS ye (zC 1) (xC (.int 0))) (yB (zEN (zA (xC (.str "123456789")) zH))))) (xB (zS (fEq true) (zS ye (zC 1) (xC (.int 1))) (xC (.str ":")))))) σ G1 R:=by
 by_cases h2:ws.length<2
 ·have:=zIg hv ls
  rw[decide_eq_true h2] at this;refine this G1 (.refl G1) _ ?_;rw[if_pos rfl];refine hy (fun⟨n,r,e,_⟩=>?_) G1 (.refl G1);rw[e] at h2;simp at h2;omega
 ·obtain⟨a,b,r,e⟩:=zHn h2
  have t1:=zIg hv ls;rw[decide_eq_false h2] at t1;refine t1 G1 (.refl G1) _ ?_;rw[if_neg (by simp)];have ix0:ze (zS ye (zC 1) (xC (.int 0))) σ G1 (.str a):=zB3 (k:=0) (zG (d:=.adr l) hv) zY ls (by rw[e];exact yP (j:=0) rfl);refine ix0 G1 (.refl G1) _ ?_;refine(show zEN _ _ _ _ from zBe (d:=.str "123456789") zY (zBq ⟨"123456789",rfl,by decide +kernel,fun l2 hl2=>?_⟩));refine⟨_,.inl zJ,rfl,wu _,?_⟩;rw[if_pos rfl,zIk,zQm];have ex:Ext G1 (zQ G1 l2 (((cH 9).map fun k=>dig (k+1)).map D.str)):=.new hl2;dsimp only;by_cases ha:a∈(cH 9).map (fun k=>dig (k+1))
  ·rw[decide_eq_true ha]
   rw[if_neg (by simp)];have t2:=zNs hv ls e;refine t2 _ ex _ ?_;obtain⟨n,h1,h9,rfl⟩:=zIl.mp ha;by_cases hb:b=":"
   ·rw[decide_eq_false (by simpa using hb)]
    subst hb;exact hn ⟨n,r,e,h1,h9⟩ _ ex
   ·rw[decide_eq_true hb]
    refine hy (fun⟨n',r',e',_⟩=>?_) _ ex;rw[e] at e';simp only[List.cons.injEq] at e';exact hb e'.2.1
  ·rw[decide_eq_false ha]
   rw[if_pos (by rfl)];refine hy (fun⟨n',r',e',h1,h9⟩=>?_) _ ex;rw[e] at e';simp only[List.cons.injEq] at e';exact ha (zIl.mpr ⟨n',h1,h9,e'.1⟩)
theorem Wt.of{n:Nat}{r:List Str}{n':Nat}{l:List (Nat×Nat)}(h1:n<=9)(h:Wt (dig n::":"::r) n' l):n'=n/\r=l.map zW/\(∀ p∈l,p∈yL n)/\zDJ l=true:=by
 obtain⟨e,a1,a9,hp,hr⟩:=h;simp only[List.cons.injEq,true_and] at e;have:=zNL (by omega) (by omega) e.1;subst this;exact⟨rfl,e.2,hp,hr⟩
noncomputable def yY:wU:=fun ds G R=>∃ t:Str,ds=[.str t]/\t.length<=1000000/\(yd t).length<=60/\((∃ n l,Wt (yd t) n l/\R (.tup [nD n,.tup (l.map yf)]) G)\/((∀ n l,¬ Wt (yd t) n l)/\R .non G))
noncomputable def zBA:wP:=(zX (zy (yB (zDH (zC 0) (zA (xC (.str " ")) zH))) (gN 1)) (zX (xIf (wL (xB (zS (fII fun i j=>.bl (decide (i<j))) (zI yG (zA (zC 1) zH)) (xC (.int 2)))) (wL (xB (zS (fIn true) (zS ye (zC 1) (xC (.int 0))) (yB (zEN (zA (xC (.str "123456789")) zH))))) (xB (zS (fEq true) (zS ye (zC 1) (xC (.int 1))) (xC (.str ":")))))) (zq (xC .non)) zx) (zX (zy (zI wR (zA (zS ye (zC 1) (xC (.int 0))) zH)) (gN 2)) (zX (zBJ 3 (zo (iF (yD yF (zA (zC 2) zH))) bd2 wV (zS yl (zS yl (zI yg (zA (zC 6) zH)) (xC (.str "-"))) (zI yg (zA (zC 7) zH))))) (zX (zy (yB (zAM zH)) (gN 4)) (zX (zBw (iF (zAf (zC 1) (yT (xC (.int 2))) zr)) (gN 5) (zX (xIf (wL (xB (zS (fIn true) (zC 5) (zC 3))) (zA2 (xB (zS (fEq true) (zC 4) (yB (zAM zH)))) (xB (zS (fII fun i j=>.bl (decide (i<=j))) (xMt wM (zC 3) (zA (zC 5) zH)) (xMt wM (zC 3) (zA (zS ye (zC 4) (zJD (xC (.int 1)))) zH)))))) (zq (xC .non)) zx) (zAr (zKU (zC 4) (zA (zC 5) zH))))) (zq (zAE (zA (zC 2) (zA (zn yS (zo (iV (zC 4)) bd1 wV (zAE (zA (zI wR (zA (zS zCx (zC 6) (xC (.int 0))) zH)) (zA (zI wR (zA (zS zCx (zC 6) (xC (.int 2))) zH)) zH))))) zH))))))))))
theorem zQo(a b:Str)(r:List Str):L3.cutD ((a::b::r).map D.str) (some 2) none=r.map D.str:=by
 unfold L3.cutD;rw[HT.zDq,show(2:Int)=((2:Nat):Int) from rfl,HT.zFM];simp only[dt,cD,cI];rw[show min 2 (r.length+1+1)=2 by omega];show List.take (r.length+1+1-2) (r.map D.str)=r.map D.str;exact dJ (by rw[cI];omega)
theorem zPL:∀ a,a<10->∀ b,b<10->atI (zW (a,b)).cps.toList 0=some (48+a)/\atI (zW (a,b)).cps.toList 2=some (48+b):=by decide +kernel
theorem zLi{k:Nat}(h:k<10):(⟨#[48+k]⟩:Str)=dig k:=zIb (by rw[zNr k h])
theorem zJi{σ:S2}{G:Gp}{i:Nat}{p:Nat×Nat}(h1:p.1<10)(h2:p.2<10)(hv:look σ i=some (.str (zW p))):ze (zAE (zA (zI wR (zA (zS zCx (zC i) (xC (.int 0))) zH)) (zA (zI wR (zA (zS zCx (zC i) (xC (.int 2))) zH)) zH))) σ G (yf p):=by
 obtain⟨e1,e2⟩:=zPL p.1 h1 p.2 h2;have hl:(zW p).length<=1000000:=by have:=zGY (p:=p) ⟨h1,h2⟩;omega
 have s1:ze (zS zCx (zC i) (xC (.int 0))) σ G (.str (dig p.1)):=yk (zG hv) zY fun G2 _ R q=>by
  refine⟨hl,?_⟩;rw[show zW p=zW (p.1,p.2) from rfl,e1];show R (.str ⟨#[48+p.1]⟩) G2;rw[zLi h1];exact q
 have s2:ze (zS zCx (zC i) (xC (.int 2))) σ G (.str (dig p.2)):=yk (zG hv) zY fun G2 _ R q=>by
  refine⟨hl,?_⟩;rw[show zW p=zW (p.1,p.2) from rfl,e2];show R (.str ⟨#[48+p.2]⟩) G2;rw[zLi h2];exact q
 exact zCd (zF (zZ (d:=nD p.1) (zF s1 zN) fun _ _ _ q=>⟨p.1,rfl,by omega,q⟩) (zF (zZ (d:=nD p.2) (zF s2 zN) fun _ _ _ q=>⟨p.2,rfl,by omega,q⟩) zN)) (by simp)
theorem zNN{σ:S2}{G:Gp}{n:Nat}(h9:n<=9)(hv:look σ 2=some (nD n))(hl:σ.length=6):PuL (zo (iF (yD yF (zA (zC 2) zH))) bd2 wV (zS yl (zS yl (zI yg (zA (zC 6) zH)) (xC (.str "-"))) (zI yg (zA (zC 7) zH)))) σ G (((yL n).map zW).map D.str):=by
 have l2:("-":Str).length=1:=by decide +kernel
 have pp:PuL (yD yF (zA (zC 2) zH)) σ G ((yL n).map yf):=zCl (zF (zG hv) zN) fun _ _ _ q=>⟨n,rfl,by omega,q⟩
 have m:=zAY (σ:=σ) (G:=G) (bd:=bd2) (te:=(zS yl (zS yl (zI yg (zA (zC 6) zH)) (xC (.str "-"))) (zI yg (zA (zC 7) zH)))) (fun d=>match d with | .tup [.int a,.int b]=>.str (zW (a.toNat,b.toNat)) | _=>.non) (fun d=>match d with | .tup us=>us | _=>[]) (zHm pp) fun x hx=>by
  obtain⟨p,hp,rfl⟩:=cQ.mp hx;obtain⟨a1,a2⟩:=zDM h9 hp;have d1:=(yi p.1 a1).1;have d2:=(yi p.2 a2).1;have k1:look (σ++[nD p.1,nD p.2].map some) 6=some (nD p.1):=by
   match σ,hl with
   | [_,_,_,_,_,_],_=>rfl
  have k2:look (σ++[nD p.1,nD p.2].map some) 7=some (nD p.2):=by
   match σ,hl with
   | [_,_,_,_,_,_],_=>rfl
  exact⟨rfl,show ze _ _ _ (.str (dig p.1++("-":Str)++dig p.2)) from wf (wf (zDK (zG k1) (by omega)) (zY (d:=.str "-")) (by omega)) (zDK (zG k2) (by omega)) (by rw[zBG];omega)⟩
 have e:cM (fun d=>match d with | .tup [.int a,.int b]=>D.str (zW (a.toNat,b.toNat)) | _=>.non) ((yL n).map yf)=((yL n).map zW).map D.str:=by rw[cX,cX];rfl
 rw[e] at m;exact m
noncomputable def zAK(w:Str):Nat×Nat:=(yt (Txt.slice w none (some 1)),yt (Txt.slice w (some 2) none))
theorem zBl{p:Nat×Nat}(h1:p.1<10)(h2:p.2<10):zAK (zW p)=p:=by
 obtain⟨e1,e2,_⟩:=zIV p.1 h1 p.2 h2;unfold zAK yt;rw[show zW p=zW (p.1,p.2) from rfl,e1,e2,yv h1,yv h2];rfl
theorem zPM{σ:S2}{G:Gp}{f:D->D->Gp->Q2->Prop}{ta tb:zf}{u:TT2}{R:Bool->Gp->Prop}(h:ta σ G fun x G1=>tb σ G1 fun y G2=>f x y G2 fun d G3=>match d with | .bl c=>(if c=true then u σ G3 R else R false G3) | _=>False):zA2 (xB (zS f ta tb)) u σ G R:=h
theorem zNu{σ:S2}{G:Gp}{E:yr}(h:E.nx σ G):zx E σ G:=h
theorem zFt{σ:S2}{G:Gp}{E:yr}{te:zf}(h:te σ G fun _ G1=>E.nx σ G1):zAr te E σ G:=h
theorem zJj{σ:S2}{G:Gp}{l3 l4:Addr}{n:Nat}{w:Str}{l:List (Nat×Nat)}{R:Bool->Gp->Prop}(h9:n<=9)(v3:look σ 3=some (.adr l3))(v4:look σ 4=some (.adr l4))(v5:look σ 5=some (.str w))(o3:G.m l3=some (((yL n).map zW).map D.str))(o4:G.m l4=some ((l.map zW).map D.str))(hp:∀ p∈l,p∈yL n)
  (hy:(∀ p∈yL n,w=zW p->∃ q,l.getLast?=some q/\ltB q p=false)->∀ G2,Ext G G2->R true G2) (hn:∀ p∈yL n,w=zW p->(∀ q,l.getLast?=some q->ltB q p=true)->∀ G2,Ext G G2->R false G2) :
  (wL (xB (zS (fIn true) (zC 5) (zC 3))) (zA2 (xB (zS (fEq true) (zC 4) (yB (zAM zH)))) (xB (zS (fII fun i j=>.bl (decide (i<=j))) (xMt wM (zC 3) (zA (zC 5) zH)) (xMt wM (zC 3) (zA (zS ye (zC 4) (zJD (xC (.int 1)))) zH)))))) σ G R:=by
 have t1:PuT (xB (zS (fIn true) (zC 5) (zC 3))) σ G (!decide (w∈(yL n).map zW)):=yz (yk (zG v5) (zG v3) fun G2 e2 R q=>⟨_,e2.ls (.inl o3),rfl,wu _,by rw[if_pos rfl,zIk];exact q⟩);refine t1 G (.refl G) _ ?_;by_cases hw:w∈(yL n).map zW
 ·rw[decide_eq_true hw,if_neg (by simp)]
  obtain⟨p,hpn,rfl⟩:=cQ.mp hw;have p10:=zDM h9 hpn;have inj:∀ p'∈yL n,zW p=zW p'->p=p':=fun p' h' e=>zGg p10.1 p10.2 (zDM h9 h').1 (zDM h9 h').2 e;refine zPM (zG v4 G (.refl G) _ ?_);refine zAy (ds:=[]) (fun G2 e R q'=>zCu (zBq ⟨by rw[sizeLine_eq];simp,q'⟩)) fun l6 hl6=>?_;refine⟨(l.map zW).map D.str,[],.inl (by rw[zV (gne o4 hl6)];exact o4),.inl zJ,wu _,(fun d hd=>nomatch hd),?_⟩;have ex:Ext G (zQ G l6 []):=.new hl6;rw[if_pos rfl,show([]:List D)=([]:List Str).map D.str from rfl,zC4];dsimp only[List.map_nil] at ex ⊢;cases hg:l.getLast? with
  | none =>
   have:l=[]:=List.getLast?_eq_none_iff.mp hg;subst this;rw[if_neg (by simp)];exact hn p hpn rfl (fun q hq=>by rw[hg] at hq;cases hq) _ ex
  | some q =>
   obtain⟨ys,rfl⟩:=List.getLast?_eq_some_iff.mp hg;rw[if_pos (by simp)];have hq:=hp q (by simp);have i1:ze (xMt wM (zC 3) (zA (zC 5) zH)) σ G (nD ((yL n).idxOf p)):=fun G2 e2 R q'=>zG v3 G2 e2 _ ⟨⟨_,e2.ls (.inl o3)⟩,zF (zG v5) zN G2 e2 _ ⟨_,_,e2.ls (.inl o3),rfl,wu _,zIj h9 hpn,q'⟩⟩;have lst:ze (zS ye (zC 4) (zJD (xC (.int 1)))) σ G (.str (zW q)):=zB3 (k:=-1) (zG v4) (zNM zY) (.inl o4) (by rw[dU,dU];exact zHr _ _);have i2:ze (xMt wM (zC 3) (zA (zS ye (zC 4) (zJD (xC (.int 1)))) zH)) σ G (nD ((yL n).idxOf q)):=fun G2 e2 R q'=>zG v3 G2 e2 _ ⟨⟨_,e2.ls (.inl o3)⟩,zF lst zN G2 e2 _ ⟨_,_,e2.ls (.inl o3),rfl,wu _,zIj h9 hq,q'⟩⟩;have t3:=yz (zIC (g:=fun i j=>.bl (decide (i<=j))) i1 i2);have e3:decide (((yL n).idxOf p:Int)<=((yL n).idxOf q:Int))=!ltB q p:=by
    rw[<-show decide ((yL n).idxOf p<=(yL n).idxOf q)=!ltB q p from zPJ n (by omega) p hpn q hq,da];simp
   rw[e3] at t3;refine t3 _ ex _ ?_;cases hb:ltB q p with
   | true=>exact hn p hpn rfl (fun q' hq'=>by rw[hg] at hq';cases hq';exact hb) _ ex
   | false=>exact hy (fun p' h' e=>⟨q,hg,by rw[<-inj p' h' e];exact hb⟩) _ ex
 ·rw[decide_eq_false hw,if_pos (by rfl)]
  exact hy (fun p h' e=>absurd (cQ.mpr ⟨p,h',e.symm⟩) hw) G (.refl G)
theorem zHs{G G':Gp}{x:Addr}(h:L3.Sub G G')(n:G'.m x=none):G.m x=none:=by
 cases q:G.m x with
 | none=>rfl
 | some o=>rw[h.m x o q] at n;cases n
theorem zGs(ds:List D)(G:Gp)(R:Q2)(h:yY ds G R):ds.length=1/\zBA (zg R) (zP ["text","words","many","good","ties","word"] ds) G:=by
 obtain⟨t,rfl,hl,h60,h⟩:=h;refine⟨rfl,?_⟩;unfold zBA;rw[show zP ["text","words","many","good","ties","word"] [.str t]=[some (.str t),none,none,none,none,none] from rfl];have yes:∀ n l,Wt (yd t) n l->R (.tup [nD n,.tup (l.map yf)]) G:=fun n l z=>by
  rcases h with ⟨n',l',z',h⟩ | ⟨hn,_⟩
  ·obtain⟨e,h1,h9,hp,hr⟩:=z
   rw[e] at z';obtain⟨rfl,e2,hp',_⟩:=z'.of h9;have:l=l':=by
    have e3:(l.map zW).map zAK=(l'.map zW).map zAK:=by rw[e2]
    rw[cX,cX] at e3;have u:∀ l:List (Nat×Nat),(∀ p∈l,p∈yL n')->l.map (zAK∘zW)=l:=fun l hl=>by
     have:l.map (zAK∘zW)=l.map id:=dq fun p hp=>zBl (zDM h9 (hl p hp)).1 (zDM h9 (hl p hp)).2;rw[this,eL]
    rw[u l hp,u l' hp'] at e3;exact e3
   rw[this];exact h
  ·exact absurd z (hn n l)
 have no:(∀ n l,¬ Wt (yd t) n l)->R .non G:=fun hn=>by
  rcases h with ⟨n,l,z,_⟩ | ⟨_,h⟩
  ·exact absurd z (hn n l)
  ·exact h
 clear h;refine yh (zAy (zC1 (zG (i:=0) (d:=.str t) rfl) hl) fun l1 hl1=>?_);simp only[gN,cz,cy];have ls:Ls (zQ G l1 ((yd t).map D.str)) l1 ((yd t).map D.str):=.inl zJ;have sb:L3.Sub G (zQ G l1 ((yd t).map D.str)):=.new hl1;generalize zQ G l1 ((yd t).map D.str)=G1 at ls sb;generalize yd t=ws at *;refine(show zX _ _ _ _ _ from zLh (σ:=[some (.str t),some (.adr l1),none,none,none,none]) rfl ls (fun hh G2 e2=>?_) fun hh G2 e2=>?_)
 ·rw[if_pos rfl]
  exact⟨G,sb.trans e2.sub,no fun n l z=>hh z.hd⟩
 rw[if_neg (by simp)];obtain⟨n,r,rfl,h1,h9⟩:=hh;have ls:=e2.ls ls;have sb:=sb.trans e2.sub;clear e2;refine(show zX _ _ _ _ _ from ?_);have dn:=(yi n (by omega)).1;have p0:ze (zI wR (zA (zS ye (zC 1) (xC (.int 0))) zH)) [some (.str t),some (.adr l1),none,none,none,none] G2 (nD n):=zZ (zF (zB3 (k:=0) (zG (i:=1) (d:=.adr l1) rfl) zY ls (yP (j:=0) rfl)) zN) fun _ _ _ q=>⟨n,rfl,by omega,q⟩
 refine zCI p0 ?_;simp only[gN,cz,cy];refine(show zX (zBJ 3 _) _ _ _ _ from zNN (σ:=[some (.str t),some (.adr l1),some (nD n),none,none,none]) h9 rfl rfl G2 (.refl G2) _ fun l3 hl3=>?_);simp only[cz,cy];have own3:(zQ G2 l3 (((yL n).map zW).map D.str)).m l3=some (((yL n).map zW).map D.str):=zJ;have ls:=ls.sub (L3.Sub.new (o:=((yL n).map zW).map D.str) hl3);have sb:=sb.trans (L3.Sub.new (o:=((yL n).map zW).map D.str) hl3);generalize zQ G2 l3 (((yL n).map zW).map D.str)=G3 at own3 ls sb;refine yh (zAy (ds:=[]) (fun G2 e R q'=>zCu (zBq ⟨by rw[sizeLine_eq];simp,q'⟩)) fun l4 hl4=>?_);simp only[gN,cz,cy];have own4:(zQ G3 l4 []).m l4=some []:=zJ;have n34:l3≠l4:=gne own3 hl4;have own3:(zQ G3 l4 []).m l3=some (((yL n).map zW).map D.str):=by rw[zV n34];exact own3
 have ls:=ls.sub (L3.Sub.new (o:=[]) hl4);have nl4:G.m l4=none:=zHs sb hl4;have sb:=sb.trans (L3.Sub.new (o:=[]) hl4);generalize zQ G3 l4 []=G4 at own4 own3 ls sb;clear hl4;refine(show zX (zBw _ _ _) _ _ _ _ from zHT ?_);have sl:PuL (zAf (zC 1) (yT (xC (.int 2))) zr) [some (.str t),some (.adr l1),some (nD n),some (.adr l3),some (.adr l4),none] G4 (r.map D.str):=fun G2 e R q'=>zG (i:=1) (d:=.adr l1) rfl G2 e _ ⟨_,e.ls ls,by rw[zQo];exact q'⟩;refine zQk (sl G4 (.refl G4) _ fun l5 hl5=>?_);have n45:l4≠l5:=gne own4 hl5;have own4:(zQ G4 l5 (r.map D.str)).m l4=some []:=by rw[zV n45];exact own4
 have own5:(zQ G4 l5 (r.map D.str)).m l5=some (r.map D.str):=zJ;have own3:(zQ G4 l5 (r.map D.str)).m l3=some (((yL n).map zW).map D.str):=by rw[zV (gne own3 hl5)];exact own3
 have sb:=sb.trans (L3.Sub.new (o:=r.map D.str) hl5);generalize zQ G4 l5 (r.map D.str)=G5 at own4 own3 own5 sb;refine⟨fun i σ G'=>∃(x:Option D) (l:List (Nat×Nat)),σ=[some (.str t),some (.adr l1),some (nD n),some (.adr l3),some (.adr l4),x]/\r.take i=l.map zW/\(∀ p∈l,p∈yL n)/\zDJ l=true/\G'.m l4=some ((l.map zW).map D.str)/\G'.m l3=some (((yL n).map zW).map D.str)/\G'.m l5=some (r.map D.str)/\L3.Sub G G',?_,?_,?_,?_⟩
 ·exact⟨none,[],rfl,by simp,(fun p hp=>nomatch hp),by rw[zFs];exact .nil,own4,own3,own5,sb⟩
 ·rintro i σ G' hi ⟨x,l,rfl,_,_,_,_,_,h5,_⟩
  exact .inl h5
 ·rintro i x σ G' hx ⟨x0,l,rfl,et,hp,hr,o4,o3,o5,sb'⟩
  rw[dl] at hx;cases hw:r[i]? with
  | none=>rw[hw] at hx;cases hx
  | some w =>
  rw[hw] at hx;cases hx;simp only[gN,cz,cy];have hi:=(cJ.mp hw).1;have er:r=l.map zW++w::r.drop (i+1):=by
   rw[<-et];have:=List.getElem_cons_drop hi;rw[(cJ.mp hw).2] at this;rw[this,dM]
  refine(show zX _ _ _ _ _ from zJj (σ:=[some (.str t),some (.adr l1),some (nD n),some (.adr l3),some (.adr l4),some (.str w)]) h9 rfl rfl rfl o3 o4 hp (fun hb G6 e6=>?_) fun p hpn e hlt G6 e6=>?_)
  ·rw[if_pos rfl]
   refine⟨G,sb'.trans e6.sub,no fun n' l' z=>?_⟩;obtain⟨rfl,e',hp',hr'⟩:=z.of h9;rw[er] at e';obtain⟨la,lb,rfl,e1,e2⟩:=List.map_eq_append_iff.mp e'.symm;obtain⟨p,lc,rfl,e3,e4⟩:=List.map_eq_cons_iff.mp e2;have hpn:=hp' p (by simp);obtain⟨q,hq,hlt⟩:=hb p hpn e3.symm;have ela:la=l:=by
    have e5:(la.map zW).map zAK=(l.map zW).map zAK:=by rw[e1]
    rw[cX,cX] at e5;have u:∀ l:List (Nat×Nat),(∀ p∈l,p∈yL n')->l.map (zAK∘zW)=l:=fun l hl=>by
     have:l.map (zAK∘zW)=l.map id:=dq fun p hp=>zBl (zDM h9 (hl p hp)).1 (zDM h9 (hl p hp)).2;rw[this,eL]
    rw[u la fun p hp=>hp' p (by simp[hp]),u l hp] at e5;exact e5
   rw[ela] at hr';have:=zNK hr' hq;rw[hlt] at this;cases this
  ·rw[if_neg (by simp)]
   subst e;have o4':=e6.sub.m _ _ o4;refine zNu ?_;dsimp only;refine zFt ?_;refine zIQ (σ:=[some (.str t),some (.adr l1),some (nD n),some (.adr l3),some (.adr l4),some (.str (zW p))]) (i:=4) (l:=l4) (d:=.str (zW p)) rfl o4' (fun Q q=>zF (zG (i:=5) rfl) zN G6 (.refl G6) Q q) (by
    have:l.length<=r.length:=by rw[er];simp
    have:r.length<=60:=by simp at h60;omega
    simp;omega) ?_
   refine .of ⟨_,l++[p],rfl,?_,?_,zNJ hr hlt,?_,?_,?_,?_⟩
   ·rw[List.take_add_one,et,hw,dU];rfl
   ·intro q hq
    rcases dQ.mp hq with hq | hq
    ·exact hp q hq
    ·rw[eC] at hq;subst hq;exact hpn
   ·rw[zJ,dU,dU];rfl
   ·rw[zV n34];exact e6.sub.m _ _ o3
   ·rw[zV n45.symm];exact e6.sub.m _ _ o5
   ·exact(sb'.trans e6.sub).put nl4
 ·rintro σ G' ⟨x,l,rfl,et,hp,hr,o4,o3,o5,sb'⟩
  rw[cI,eV] at et;have m:=zAY (σ:=[some (.str t),some (.adr l1),some (nD n),some (.adr l3),some (.adr l4),x]) (G:=G') (bd:=bd1) (te:=(zAE (zA (zI wR (zA (zS zCx (zC 6) (xC (.int 0))) zH)) (zA (zI wR (zA (zS zCx (zC 6) (xC (.int 2))) zH)) zH)))) (fun d=>match d with | .str w=>yf (zAK w) | _=>.non) (fun d=>[d]) (zIm (l:=l4) (zG (i:=4) rfl) o4) fun x hx=>by
   obtain⟨w,hw,rfl⟩:=cQ.mp hx;obtain⟨p,hpl,rfl⟩:=cQ.mp hw;have p10:=zDM h9 (hp p hpl);refine⟨rfl,show ze _ _ _ (yf (zAK (zW p))) from ?_⟩;rw[zBl p10.1 p10.2];exact zJi p10.1 p10.2 rfl
  have e:cM (fun d=>match d with | .str w=>yf (zAK w) | _=>.non) ((l.map zW).map D.str)=l.map yf:=by
   rw[cX,cX];refine dq fun p hpl=>?_;have p10:=zDM h9 (hp p hpl);show yf (zAK (zW p))=yf p;rw[zBl p10.1 p10.2]
  rw[e] at m;have fin:ze (zAE (zA (zC 2) (zA (zn yS (zo (iV (zC 4)) bd1 wV (zAE (zA (zI wR (zA (zS zCx (zC 6) (xC (.int 0))) zH)) (zA (zI wR (zA (zS zCx (zC 6) (xC (.int 2))) zH)) zH))))) zH))) [some (.str t),some (.adr l1),some (nD n),some (.adr l3),some (.adr l4),x] G' (.tup [nD n,.tup (l.map yf)]):=zCd (zF (zG (i:=2) rfl) (zF (zCm m) zN)) (by simp);exact zAI fin ⟨G,sb',yes n l ⟨by rw[et],h1,h9,hp,hr⟩⟩
noncomputable def yQ:wU:=fun ds G R=>∃ t:Str,ds=[.str t]/\t.length<=1000000/\(yd t).length<=60/\((∃ n r,Rt (yd t) n r/\R (.tup (r.map nD)) G)\/((∀ n r,¬ Rt (yd t) n r)/\R .non G))
noncomputable def zAj:wP:=(zX (zy (yB (zDH (zC 0) (zA (xC (.str " ")) zH))) (gN 1)) (zX (zy (yB (zAf (yB (zEN (zA (xC (.str "012345678")) zH))) zr (yT (zS (yx zF2 fun i j=>.int (i / j)) (zI yG (zA (zC 1) zH)) (xC (.int 2)))))) (gN 2)) (zX (xIf (wL (xB (zS (fEq true) (yB (zHf (zA (zC 1) zH))) (yB (zFp (zKT (zC 2) (xC (.int 2))))))) (xB (zS (fEq false) (zC 2) (yB (zAM zH))))) (zq (xC .non)) zx) (zq (zn yS (zo (iV (zC 1)) bd1 wV (zI wR (zA (zC 3) zH))))))))
noncomputable def zLj(a b:Str):Prop:=ltCps b.cps.toList a.cps.toList=false
theorem zPN:∀ a b c:List Nat,ltCps b a=false->ltCps c b=false->ltCps c a=false:=by
 intro a
 induction a with
 | nil=>intro b c h1 h2;cases c with | nil=>rfl | cons z c=>rfl
 | cons x a ih =>
  intro b c h1 h2;cases b with
  | nil=>unfold ltCps at h1;cases h1
  | cons y b =>
   cases c with
   | nil=>unfold ltCps at h2;cases h2
   | cons z c =>
    unfold ltCps at h1 h2 ⊢;simp only[Bool.or_eq_false_iff,Bool.and_eq_false_iff,decide_eq_false_iff_not,beq_eq_false_iff_ne] at h1 h2 ⊢;refine⟨by omega,?_⟩;by_cases hz:z=x
    ·subst hz
     have hy:y=z:=by omega
     subst hy;exact .inr (ih b c (by rcases h1.2 with q | q;exact absurd rfl q;exact q) (by rcases h2.2 with q | q;exact absurd rfl q;exact q))
    ·exact .inl hz
theorem zFD:∀ l:List Str,sortedS l=true->l.Pairwise zLj:=by
 have key:∀(l:List Str) (x:Str),risingS x l=true->(x::l).Pairwise zLj:=by
  intro l
  induction l with
  | nil=>intro x _;exact List.pairwise_singleton _ _
  | cons y l ih =>
   intro x h;unfold risingS at h;rw[di] at h;have h2:=ih y h.2;have hxy:zLj x y:=by unfold zLj;simpa using h.1
   refine List.pairwise_cons.mpr ⟨fun z hz=>?_,h2⟩;rcases db.mp hz with rfl | hz
   ·exact hxy
   ·exact zPN _ _ _ hxy ((List.pairwise_cons.mp h2).1 z hz)
 intro l h;cases l with
 | nil=>exact .nil
 | cons x l=>exact key l x h
theorem zFE{a b a' b':List Str}(ha:a'.Perm a)(hb:b'.Perm b)(sa:sortedS a'=true)(sb:sortedS b'=true):a'=b'↔a.Perm b:=by
 constructor
 ·rintro rfl
  exact ha.symm.trans hb
 ·intro h
  exact List.Perm.eq_of_pairwise (le:=zLj) (fun x y _ _ h1 h2=>zIb (zND _ _ h2 h1)) (zFD _ sa) (zFD _ sb) (ha.trans (h.trans hb.symm))
theorem zLk(l:List Str)(k:Nat):L3.cutD (l.map D.str) none (some (k:Int))=(l.take k).map D.str:=by
 unfold L3.cutD;rw[HT.zDq,HT.zFM];simp only[cI];show List.take (min k l.length-0) (List.drop 0 (l.map D.str))=_;rw[List.drop_zero,<-List.map_take];congr 1;rw[Nat.sub_zero];by_cases h:k<=l.length
 ·rw[Nat.min_eq_left h]
 ·rw[Nat.min_eq_right (by omega),dJ (cN _),dJ (by omega)]
theorem zJk(k:Nat):((cH 9).map dig).take k=(cH (min 9 k)).map dig:=by
 rw[<-List.map_take,List.take_range];rw[Nat.min_comm]
theorem zLl{σ:S2}{G:Gp}{c:TT2}{t u v:wP}{E:yr}(h:c σ G fun b G1=>if b=true then t { E with nx:=v E } σ G1 else u { E with nx:=v E } σ G1):zX (xIf c t u) v E σ G:=h
theorem zQK{σ:S2}{G:Gp}{f:D->D->Gp->Q2->Prop}{ta tb:zf}{u:TT2}{R:Bool->Gp->Prop}(h:ta σ G fun x G1=>tb σ G1 fun y G2=>f x y G2 fun d G3=>match d with | .bl c=>(if c=true then R true G3 else u σ G3 R) | _=>False):wL (xB (zS f ta tb)) u σ G R:=h
theorem b_q{σ:S2}{G:Gp}{f:D->D->Gp->Q2->Prop}{ta tb:zf}{R:Bool->Gp->Prop}(h:ta σ G fun x G1=>tb σ G1 fun y G2=>f x y G2 fun d G3=>match d with | .bl c=>R c G3 | _=>False):xB (zS f ta tb) σ G R:=h
theorem zNO{σ:S2}{G:Gp}{t:wE}{R:List D->Gp->Prop}(h:t σ G fun ds G1=>∃(l:Addr) (ss:List Str),ds=[.adr l]/\Ls G1 l (ss.map D.str)/\ss.length<64/\∀ ss':List Str,ss'.Perm ss->sortedS ss'=true->R (ss'.map D.str) G1):zHf t σ G R:=h
theorem zLm{σ:S2}{G:Gp}{ta tb:zf}{R:List D->Gp->Prop}(h:ta σ G fun x G1=>tb σ G1 fun y G2=>match x,y with
 | .adr l,.int k=>match G2.m l with
  | some ds=>(0<=k/\k<=1000)/\ds.length<=1000/\∃ ss:List Str,(cK k.toNat ds).flatten=ss.map D.str/\ss.length<64/\∀ ss':List Str,ss'.Perm ss->sortedS ss'=true->R (ss'.map D.str) G2
  | none=>False
 | _,_=>False):zFp (zKT ta tb) σ G R:=h
theorem zFu(ds:List D)(G:Gp)(R:Q2)(h:yQ ds G R):ds.length=1/\zAj (zg R) (zP ["text","words","names"] ds) G:=by
 obtain⟨t,rfl,hl,h60,h⟩:=h;refine⟨rfl,?_⟩;unfold zAj;rw[show zP ["text","words","names"] [.str t]=[some (.str t),none,none] from rfl];refine yh (zAy (zC1 (zG (i:=0) (d:=.str t) rfl) hl) fun l1 hl1=>?_);simp only[gN,cz,cy];have o1:(zQ G l1 ((yd t).map D.str)).m l1=some ((yd t).map D.str):=zJ;have sb:L3.Sub G (zQ G l1 ((yd t).map D.str)):=.new hl1;generalize zQ G l1 ((yd t).map D.str)=G1 at o1 sb;generalize hws:yd t=ws at *;have plen:∀ {G:Gp},G.m l1=some (ws.map D.str)->ze (zS (yx zF2 fun i j=>.int (i / j)) (zI yG (zA (zC 1) zH)) (xC (.int 2))) [some (.str t),some (.adr l1),none] G (nD (ws.length / 2)):=fun {G} o=>by
  have p:ze (zI yG (zA (zC 1) zH)) [some (.str t),some (.adr l1),none] G (nD ws.length):=zZ (zF (zG (i:=1) (d:=.adr l1) rfl) zN) fun _ e _ q'=>⟨_,e.ls (.inl o),by rw[cI];exact q'⟩
  exact yk p zY fun _ _ _ q=>⟨⟨by decide,by decide⟩,q⟩
 refine yh ?_;refine zDS ?_;refine(show zAf _ _ _ _ _ _ from zDS (zBe (d:=.str "012345678") zY (zBq ⟨"012345678",rfl,by decide +kernel,fun l2 hl2=>?_⟩)));rw[zQn];have o1':(zQ G1 l2 (((cH 9).map dig).map D.str)).m l1=some (ws.map D.str):=by rw[zV (gne o1 hl2)];exact o1
 have o2:(zQ G1 l2 (((cH 9).map dig).map D.str)).m l2=some (((cH 9).map dig).map D.str):=zJ;have sb:=sb.trans (L3.Sub.new (o:=((cH 9).map dig).map D.str) hl2);generalize zQ G1 l2 (((cH 9).map dig).map D.str)=G2 at o1' o2 sb;refine(plen o1') G2 (.refl G2) _ ?_;refine⟨_,.inl o2,fun l3 hl3=>?_⟩;rw[zLk,zJk];simp only[gN,cz,cy];generalize hk:min 9 (ws.length / 2)=k;have o1:(zQ G2 l3 (((cH k).map dig).map D.str)).m l1=some (ws.map D.str):=by rw[zV (gne o1' hl3)];exact o1'
 have o3:(zQ G2 l3 (((cH k).map dig).map D.str)).m l3=some (((cH k).map dig).map D.str):=zJ;have sb:=sb.trans (L3.Sub.new (o:=((cH k).map dig).map D.str) hl3);generalize zQ G2 l3 (((cH k).map dig).map D.str)=G3 at o1 o3 sb;clear o1' o2 hl3 hl2;refine zLl (zQK (zDS (zNO ?_)));refine zF (zG (σ:=[some (.str t),some (.adr l1),some (.adr l3)]) (i:=1) (d:=.adr l1) rfl) zN G3 (.refl G3) _ ?_;refine⟨l1,ws,rfl,.inl o1,by omega,fun wa pa sa l4 hl4=>?_⟩;have o3:(zQ G3 l4 (wa.map D.str)).m l3=some (((cH k).map dig).map D.str):=by rw[zV (gne o3 hl4)];exact o3
 have o1:(zQ G3 l4 (wa.map D.str)).m l1=some (ws.map D.str):=by rw[zV (gne o1 hl4)];exact o1
 have o4:(zQ G3 l4 (wa.map D.str)).m l4=some (wa.map D.str):=zJ;have sb:=sb.trans (L3.Sub.new (o:=wa.map D.str) hl4);generalize zQ G3 l4 (wa.map D.str)=G4 at o1 o3 o4 sb;refine zDS (zLm ?_);refine zG (σ:=[some (.str t),some (.adr l1),some (.adr l3)]) (i:=2) (d:=.adr l3) rfl G4 (.refl G4) _ ?_;refine zY (d:=.int 2) G4 (.refl G4) _ ?_;dsimp only;rw[o3];dsimp only;have ek:(cK (2:Int).toNat (((cH k).map dig).map D.str)).flatten=((cH k).map dig++(cH k).map dig).map D.str:=by
  show(cK 2 _).flatten=_;simp[cA]
 rw[ek];have hk9:k<=9:=by omega
 refine⟨by omega,by simp;omega,_,rfl,by simp;omega,fun wb pb sb2 l5 hl5=>?_⟩;have o3:(zQ G4 l5 (wb.map D.str)).m l3=some (((cH k).map dig).map D.str):=by rw[zV (gne o3 hl5)];exact o3
 have o1:(zQ G4 l5 (wb.map D.str)).m l1=some (ws.map D.str):=by rw[zV (gne o1 hl5)];exact o1
 have o4:(zQ G4 l5 (wb.map D.str)).m l4=some (wa.map D.str):=by rw[zV (gne o4 hl5)];exact o4
 have o5:(zQ G4 l5 (wb.map D.str)).m l5=some (wb.map D.str):=zJ;have sb:=sb.trans (L3.Sub.new (o:=wb.map D.str) hl5);generalize zQ G4 l5 (wb.map D.str)=G5 at o1 o3 o4 o5 sb;refine⟨_,_,.inl o4,.inl o5,wu _,wu _,?_⟩;rw[if_pos rfl,zC4];dsimp only;have no:(∀ n r,¬ Rt ws n r)->(zg R).rt .non G5:=fun hn=>by
  rcases h with ⟨n,r,z,_⟩ | ⟨_,h⟩
  ·exact absurd z (hn n r)
  ·exact⟨G,sb,h⟩
 have rtk:∀ n r,Rt ws n r->n=k/\1<=k:=fun n r z=>by
  have:=z.2.1.len;have e:=z.1;have:ws.length=2*n:=by rw[e,cI];exact this
  have:=z.2.2;omega
 by_cases he:wa=wb
 ·rw[decide_eq_true he]
  rw[if_neg (by simp)];have hp:=(zFE pa pb sa sb2).mp he;obtain⟨r,er,hr⟩:=(zIe hk9).mp hp;refine b_q ?_;refine zG (σ:=[some (.str t),some (.adr l1),some (.adr l3)]) (i:=2) (d:=.adr l3) rfl G5 (.refl G5) _ ?_;refine zAy (ds:=[]) (fun G2 e R q'=>zCu (zBq ⟨by rw[sizeLine_eq];simp,q'⟩)) fun l6 hl6=>?_;have o1:(zQ G5 l6 []).m l1=some (ws.map D.str):=by rw[zV (gne o1 hl6)];exact o1
  refine⟨((cH k).map dig).map D.str,[],.inl (by rw[zV (gne o3 hl6)];exact o3),.inl zJ,wu _,(fun d hd=>nomatch hd),?_⟩;have sb6:=sb.trans (L3.Sub.new (o:=[]) hl6);generalize zQ G5 l6 []=G6 at sb6 o1 ⊢;rw[if_neg (by simp),show([]:List D)=([]:List Str).map D.str from rfl,zC4];dsimp only;by_cases h0:k=0
  ·subst h0
   rw[if_pos (by simp)];refine⟨G,sb6,?_⟩;rcases h with ⟨n,r,z,_⟩ | ⟨_,h⟩
   ·have:=rtk n r z;omega
   ·exact h
  ·rw[if_neg (by simp;omega)]
   have z:Rt ws k r:=⟨er,hr,by omega,hk9⟩
   have r10:∀ x∈r,x<10:=fun x hx=>zDN hr hk9 hx;refine zNu ?_;dsimp only;have m:=zAY (σ:=[some (.str t),some (.adr l1),some (.adr l3)]) (G:=G6) (bd:=bd1) (te:=(zI wR (zA (zC 3) zH))) (fun d=>match d with | .str w=>nD (yt w) | _=>.non) (fun d=>[d]) (zIm (l:=l1) (zG (i:=1) rfl) o1) fun x hx=>by
    obtain⟨w,hw,rfl⟩:=cQ.mp hx;rw[er] at hw;obtain⟨c,hc,rfl⟩:=cQ.mp hw;have c10:=r10 c hc;refine⟨rfl,show ze _ _ _ (nD (yt (dig c))) from ?_⟩;rw[show yt (dig c)=c by unfold yt;rw[yv c10];rfl];exact zZ (zF (zG rfl) zN) fun _ _ _ q=>⟨c,rfl,by omega,q⟩
   have e:cM (fun d=>match d with | .str w=>nD (yt w) | _=>.non) (ws.map D.str)=r.map nD:=by
    rw[er,cX,cX];refine dq fun c hc=>?_;have c10:=r10 c hc;show nD (yt (dig c))=nD c;rw[show yt (dig c)=c by unfold yt;rw[yv c10];rfl]
   rw[e] at m;refine zAI (zCm m) ⟨G,sb6,?_⟩;rcases h with ⟨n,r',z',h⟩ | ⟨hn,_⟩
   ·have:r=r':=by
     have e1:=z'.1;rw[er] at e1;have e3:(r.map dig).map yt=(r'.map dig).map yt:=by rw[e1]
     rw[cX,cX] at e3;have u:∀ l:List Nat,(∀ p∈l,p<10)->l.map (yt∘dig)=l:=fun l hl=>by
      have:l.map (yt∘dig)=l.map id:=dq fun p hp=>by
       show yt (dig p)=p;unfold yt;rw[yv (hl p hp)];rfl
      rw[this,eL]
     rw[u r r10,u r' fun x hx=>zDN z'.2.1 z'.2.2.2 hx] at e3;exact e3
    rw[this];exact h
   ·exact absurd z (hn k r)
 ·rw[decide_eq_false he]
  rw[if_pos (by rfl)];exact no fun n r z=>by
   obtain⟨rfl,_⟩:=rtk n r z;exact he ((zFE pa pb sa sb2).mpr ((zIe hk9).mpr ⟨r,z.1,z.2.1⟩))
noncomputable def wv:wU:=fun ds G R=>∃(l:Addr) (t:Str),ds=[.adr l,.str t]/\zAV G l/\t.length<=3000/\(yd t).length<=50/\∀ t' G',Bt t t'->Dr l G G'->R (.str t') G'
noncomputable def zBm:wP:=(zX (zy (zI zj (zA (zC 0) (zA (xC (.int 10)) zH))) (gN 2)) (zX (zy (zI zj (zA (zC 0) (zA (zS zAC (zI zCe (zA (zC 1) zH)) (xC (.int 1))) zH))) (gN 3)) (zX (zy (zS zCx (xC (.str "0123456789:- ab")) (zI zj (zA (zC 0) (zA (xC (.int 15)) zH)))) (gN 4)) (zX (xIf (xB (zS (fII fun i j=>.bl (decide (i<j))) (zC 2) (xC (.int 4)))) (zq (zS ye (yB (zAM (zA (zS yl (yH (zC 1) zr (yT (zC 3))) (yH (zC 1) (yT (zS zAC (zC 3) (xC (.int 1)))) zr)) (zA (zS yl (zS yl (yH (zC 1) zr (yT (zC 3))) (zC 4)) (yH (zC 1) (yT (zC 3)) zr)) (zA (zS yl (zS yl (yH (zC 1) zr (yT (zC 3))) (zC 4)) (yH (zC 1) (yT (zS zAC (zC 3) (xC (.int 1)))) zr)) (zA (zC 1) zH)))))) (zC 2))) zx) (zX (zy (yB (zDH (zC 1) (zA (xC (.str " ")) zH))) (gN 5)) (zX (zy (zI zj (zA (zC 0) (zA (zI yG (zA (zC 5) zH)) zH))) (gN 6)) (zX (zy (zI zj (zA (zC 0) (zA (zI yG (zA (zC 5) zH)) zH))) (gN 7)) (zX (xIf (xB (zS (fEq false) (zC 2) (xC (.int 4)))) (zAr (zGF (zC 5) (zA (zC 6) zH))) (xIf (xB (zS (fEq false) (zC 2) (xC (.int 5)))) (zAr (zPB (zC 5) (zA (zC 7) (zA (zS ye (zC 5) (zC 6)) zH)))) (xIf (xB (zS (fEq false) (zC 2) (xC (.int 6)))) (zAr (zPB (zC 5) (zA (zC 7) (zA (zGF (zC 5) (zA (zC 6) zH)) zH)))) (zy (zS ye (yB (zAM (zA (xC (.str "0")) (zA (xC (.str "1")) (zA (xC (.str "0-1")) (zA (xC (.str "1-0")) (zA (xC (.str "00")) (zA (xC (.str "")) (zA (xC (.str ":")) (zA (xC (.str "0-1-2")) (zA (xC (.str "2-2")) (zA (xC (.str "-")) (zA (xC (.str "9")) (zA (xC (.str "0-9")) zH)))))))))))))) (zI zj (zA (zC 0) (zA (xC (.int 12)) zH)))) (gIx (zC 5) (zC 6)))))) (zq (zFa " " (zA (zC 5) zH)))))))))))
noncomputable abbrev zPO:Str:="0123456789:- ab"
theorem zNP{r:Nat}(h:r<15):∃ c,atI zPO.cps.toList (r:Int)=some c:=by
 have:zPO.cps.toList.length=15:=by decide +kernel
 exact⟨_,yP (dR (by omega))⟩
theorem zEO{ts:List Str}{k:Nat}(h:k<ts.length):atI (ts.map D.str) (k:Int)=some (.str ts[k]):=yP (by rw[dl,dR h];rfl)
noncomputable abbrev zEP:List Str:=["0","1","0-1","1-0","00","",":","0-1-2","2-2","-","9","0-9"]
theorem zNQ:∀ w∈zEP,w.length<=5/\bl w=0:=by decide +kernel
theorem zNv{σ:S2}{G:Gp}{i j:Nat}{l:Addr}{ws:List Str}{k:Nat}{R:Q2}(hi:look σ i=some (.adr l))(hj:look σ j=some (nD k))(o:G.m l=some (ws.map D.str))(hk:k<ws.length)(hl:ws.length<=1000)(h:R (.str ws[k]) (zQ G l ((ws.eraseIdx k).map D.str))):zGF (zC i) (zA (zC j) zH) σ G R:=by
 unfold zGF;refine zG hi G (.refl G) _ ?_;dsimp only;rw[o];dsimp only;refine zF (zG hj) zN G (.refl G) _ ?_;unfold nD;dsimp only;rw[o];dsimp only;refine⟨⟨by omega,by rw[cI];omega,by omega⟩,?_⟩;rw[Int.toNat_natCast,dl,dR hk,zBE];exact h
theorem zJl{n k:Nat}(h:k<n):ixN n (k:Int)=some k:=by
 unfold ixN;simp;omega
theorem zNR{σ:S2}{G:Gp}{t u:zf}{z:Str}{k:Nat}(h:ze t σ G (.str z))(h1:ze u σ G (nD k))(hl:z.length<=1000000):ze (yH t zr (yT u)) σ G (.str (Txt.slice z none (some (k:Int)))):=fun G2 e R q=>by
 unfold yH zr yT;refine h G2 e _ ?_;refine h1 G2 e _ ?_;exact⟨hl,q⟩
theorem zFF{σ:S2}{G:Gp}{t u:zf}{z:Str}{k:Nat}(h:ze t σ G (.str z))(h1:ze u σ G (nD k))(hl:z.length<=1000000):ze (yH t (yT u) zr) σ G (.str (Txt.slice z (some (k:Int)) none)):=fun G2 e R q=>by
 unfold yH zr yT;refine h G2 e _ ?_;refine h1 G2 e _ ?_;exact⟨hl,q⟩
theorem zLn(ws:List Str)(k:Nat)(w:Str):(ws.map D.str).set k (.str w)=(ws.set k w).map D.str:=by
 rw[List.map_set]
theorem zHt(ds:List D)(G:Gp)(R:Q2)(h:wv ds G R):ds.length=2/\zBm (zg R) (zP ["state","text","way","at","sign","words","k","j"] ds) G:=by
 obtain⟨l,t,rfl,st,hl,h50,h⟩:=h;refine⟨rfl,?_⟩;unfold zBm;rw[show zP ["state","text","way","at","sign","words","k","j"] [.adr l,.str t]=[some (.adr l),some (.str t),none,none,none,none,none,none] from rfl];refine yh (zBF (zF (zG (i:=0) (d:=.adr l) rfl) (zF (zY (d:=.int 10)) zN)) ⟨l,10,rfl,st,by omega,by omega,fun way G1 hw d1=>?_⟩);simp only[gN,cz,cy];have ds1:DrS l G G1:=(DrS.refl st).dr d1;have pl:ze (zS zAC (zI zCe (zA (zC 1) zH)) (xC (.int 1))) [some (.adr l),some (.str t),some (nD way),none,none,none,none,none] G1 (nD (t.length+1)):=yk (x:=nD t.length) (zZ (zF (zG (i:=1) (d:=.str t) rfl) zN) fun _ _ _ q=>⟨by omega,q⟩) zY fun _ _ _ q=>q;refine yh (zBF (zF (zG (i:=0) (d:=.adr l) rfl) (zF pl zN)) ⟨l,t.length+1,rfl,ds1.st,by omega,by omega,fun at_ G2 ha d2=>?_⟩);simp only[gN,cz,cy];have ds2:=ds1.dr d2;refine yh (zP6 (x:=.str zPO) zY (zBF (zF (zG (i:=0) (d:=.adr l) rfl) (zF (zY (d:=.int 15)) zN)) ⟨l,15,rfl,ds2.st,by omega,by omega,fun sg G3 hs d3=>?_⟩));have ds3:=ds2.dr d3;obtain⟨c,hc⟩:=zNP hs;refine⟨by decide +kernel,?_⟩;rw[hc];simp only[gN,cz,cy];clear d1 d2 d3 ds1 ds2 hc hs;have b1:(⟨#[c]⟩:Str).length=1:=rfl;have b2:=zPI c;generalize (⟨#[c]⟩:Str)=s at b1 b2;have at1:at_<=t.length:=by omega
 have cw:∀ {σ:S2} {G:Gp} (m:Nat),look σ 2=some (nD way)->PuT (xB (zS (fEq false) (zC 2) (xC (.int m)))) σ G (decide (way=m)):=fun m hh=>yz (zEH (x:=nD way) (y:=nD m) (zG hh) zY rfl rfl (by rw[if_neg (by simp),zDI]));refine zA5 (b:=decide (way<4)) (by
  have:=yz (zIC (g:=fun i j=>.bl (decide (i<j))) (zG (σ:=[some (.adr l),some (.str t),some (nD way),some (nD at_),some (.str s),none,none,none]) (G:=G3) (i:=2) (d:=nD way) rfl) (zY (d:=.int 4)));rwa [show decide ((way:Int)<4)=decide (way<4) by rw[da];simp;omega] at this) (fun hb=>?_) fun hb=>?_
 ·have hw4:way<4:=by simpa using hb
  have l1:=zPH t at_;have l2:=len_from t at_;have q1:=zQI t at_;have q2:=zNI t at_;generalize hA:Txt.slice t none (some (at_:Int))=A at l1 q1;generalize hB:Txt.slice t (some (at_:Int)) none=B at l1 l2 q1 q2;generalize hC:Txt.slice t (some ((at_+1:Nat):Int)) none=C at l2 q2;have sA:ze (yH (zC 1) zr (yT (zC 3))) [some (.adr l),some (.str t),some (nD way),some (nD at_),some (.str s),none,none,none] G3 (.str A):=hA▸zNR (zG (i:=1) rfl) (zG (i:=3) rfl) (by omega);have sB:ze (yH (zC 1) (yT (zC 3)) zr) [some (.adr l),some (.str t),some (nD way),some (nD at_),some (.str s),none,none,none] G3 (.str B):=hB▸zFF (zG (i:=1) rfl) (zG (i:=3) rfl) (by omega);have pa1:ze (zS zAC (zC 3) (xC (.int 1))) [some (.adr l),some (.str t),some (nD way),some (nD at_),some (.str s),none,none,none] G3 (nD (at_+1)):=yk (x:=nD at_) (zG rfl) zY fun _ _ _ q=>q;have sC:ze (yH (zC 1) (yT (zS zAC (zC 3) (xC (.int 1)))) zr) [some (.adr l),some (.str t),some (nD way),some (nD at_),some (.str s),none,none,none] G3 (.str C):=hC▸zFF (zG (i:=1) rfl) pa1 (by omega);have sS:ze (zC 4) [some (.adr l),some (.str t),some (nD way),some (nD at_),some (.str s),none,none,none] G3 (.str s):=zG rfl;refine(show zq _ _ _ _ from zHX (zAy (ds:=[A++C,A++s++B,A++s++C,t].map D.str) (fun G2 e R q=>zCu (zF (wf sA sC (by omega)) (zF (wf (wf sA sS (by omega)) sB (by rw[zBG];omega)) (zF (wf (wf sA sS (by omega)) sC (by rw[zBG];omega)) (zF (zG (i:=1) (d:=.str t) rfl) zN))) G2 e _ ⟨by rw[sizeLine_eq];simp,q⟩)) fun l1 hl1=>?_));refine zG (i:=2) (d:=nD way) rfl _ (.refl _) _ ?_;refine⟨_,_,.inl zJ,zEO (show way<[A++C,A++s++B,A++s++C,t].length from hw4),?_⟩;have bts:∀ x∈[A++C,A++s++B,A++s++C,t],Bt t x:=by
   intro x hx;simp only[db,List.not_mem_nil,or_false] at hx;rcases hx with rfl | rfl | rfl | rfl
   ·exact zIi (by rw[zBG];omega) (by rw[zCf];omega)
   ·exact zIi (by rw[zBG,zBG];omega) (by rw[zCf,zCf];omega)
   ·exact zIi (by rw[zBG,zBG];omega) (by rw[zCf,zCf];omega)
   ·exact zIi (by omega) (by omega)
  exact(ds3.put st (ds3.own st hl1)).fin fun G' d=>h _ G' (bts _ (dG _)) d
 have hw4:¬ way<4:=by simpa using hb
 refine yh (zAy (zC1 (zG (i:=1) (d:=.str t) rfl) (by omega)) fun lw hlw=>?_);simp only[gN,cz,cy];have glw:G.m lw=none:=ds3.own st hlw;have nlw:lw≠l:=st.ne glw;have ow:(zQ G3 lw ((yd t).map D.str)).m lw=some ((yd t).map D.str):=zJ;have ds4:DrS l G (zQ G3 lw ((yd t).map D.str)):=ds3.put st glw;generalize zQ G3 lw ((yd t).map D.str)=G4 at ow ds4;have wS:=zQH t;have wB:∀ w∈yd t,bl w=0:=fun w hw=>zLe hw;have w0:0<(yd t).length:=List.length_pos_iff.mpr (zHi t);have plw:∀ {G5:Gp} {x6:Option D},G5.m lw=some ((yd t).map D.str)->ze (zI yG (zA (zC 5) zH)) [some (.adr l),some (.str t),some (nD way),some (nD at_),some (.str s),some (.adr lw),x6,none] G5 (nD (yd t).length):=fun {G5 x6} o=>zZ (zF (zG (i:=5) (d:=.adr lw) rfl) zN) fun _ e _ q'=>⟨_,e.ls (.inl o),by rw[cI];exact q'⟩
 refine yh (zBF (zF (zG (i:=0) (d:=.adr l) rfl) (zF (plw ow) zN)) ⟨l,_,rfl,ds4.st,w0,by omega,fun k G5 hk d5=>?_⟩);simp only[gN,cz,cy];have ow:G5.m lw=some ((yd t).map D.str):=by rw[d5.ne nlw];exact ow
 have ds5:=ds4.dr d5;refine yh (zBF (zF (zG (i:=0) (d:=.adr l) rfl) (zF (plw ow) zN)) ⟨l,_,rfl,ds5.st,w0,by omega,fun j G6 hj d6=>?_⟩);simp only[gN,cz,cy];have ow:G6.m lw=some ((yd t).map D.str):=by rw[d6.ne nlw];exact ow
 have ds6:=ds5.dr d6;have fin:∀(G5:Gp) (ws:List Str),DrS l G G5->G5.m lw=some (ws.map D.str)->zAD ws<=2*t.length+20->ws.length<=(yd t).length+1->(∀ w∈ws,bl w=0)->zq (zFa " " (zA (zC 5) zH)) (zg R) [some (.adr l),some (.str t),some (nD way),some (nD at_),some (.str s),some (.adr lw),some (nD k),some (nD j)] G5:=fun G5 ws d5 o5 h1 h2 h3=>by
  have pj:ze (zFa " " (zA (zC 5) zH)) [some (.adr l),some (.str t),some (nD way),some (nD at_),some (.str s),some (.adr lw),some (nD k),some (nD j)] G5 (.str (Str.join " " ws)):=fun G2 e R q'=>zF (zG (i:=5) (d:=.adr lw) rfl) zN G2 e _ ⟨lw,_,rfl,e.ls (.inl o5),zLg (by omega) (by omega),q'⟩;exact zAI pj (d5.fin fun G' d=>h _ G' (zNH h1 h2 h3) d)
 clear d5 d6 ds5 ds4 ds3 plw;generalize yd t=ws at *;have er:=zHq ws k;have erl:(ws.eraseIdx k).length+1=ws.length:=by rw[List.length_eraseIdx,if_pos hk];omega
 have erm:∀ w∈ws.eraseIdx k,bl w=0:=fun w hw=>wB w (List.mem_of_mem_eraseIdx hw);have kk:=zGp (dG hk);have kb:=wB _ (dG hk);refine zLl ((cw (σ:=[some (.adr l),some (.str t),some (nD way),some (nD at_),some (.str s),some (.adr lw),some (nD k),some (nD j)]) 4 rfl) G6 (.refl G6) _ ?_);by_cases c4:way=4
 ·rw[decide_eq_true c4,if_pos rfl]
  refine zFt (zNv (i:=5) (j:=6) (ws:=ws) rfl rfl ow hk (by omega) ?_);exact fin _ _ (ds6.put st glw) zJ (by omega) (by omega) erm
 rw[decide_eq_false c4,if_neg (by simp)];refine(cw (σ:=[some (.adr l),some (.str t),some (nD way),some (nD at_),some (.str s),some (.adr lw),some (nD k),some (nD j)]) 5 rfl) G6 (.refl G6) _ ?_;by_cases c5:way=5
 ·rw[decide_eq_true c5,if_pos rfl]
  refine zFt ?_;have ix:ze (zS ye (zC 5) (zC 6)) [some (.adr l),some (.str t),some (nD way),some (nD at_),some (.str s),some (.adr lw),some (nD k),some (nD j)] G6 (.str ws[k]):=zB3 (zG (i:=5) (d:=.adr lw) rfl) (zG (i:=6) rfl) (.inl ow) (zEO hk);refine zG (i:=5) (d:=.adr lw) rfl G6 (.refl G6) _ ?_;refine⟨⟨_,ow⟩,zF (zG (i:=7) rfl) (zF ix zN) G6 (.refl G6) _ ⟨j,.str ws[k],ws.map D.str,rfl,ow,by rw[cI];omega,by rw[cI];omega,?_⟩⟩;have e:(ws.map D.str).take j++D.str ws[k]::(ws.map D.str).drop j=(ws.take j++ws[k]::ws.drop j).map D.str:=by simp
  rw[e];refine fin _ _ (ds6.put st glw) zJ (by rw[zGr];omega) (by simp;omega) fun w hw=>?_;simp only[dQ,db] at hw;rcases hw with hw | rfl | hw
  ·exact wB w (List.mem_of_mem_take hw)
  ·exact kb
  ·exact wB w (List.mem_of_mem_drop hw)
 rw[decide_eq_false c5,if_neg (by simp)];refine(cw (σ:=[some (.adr l),some (.str t),some (nD way),some (nD at_),some (.str s),some (.adr lw),some (nD k),some (nD j)]) 6 rfl) G6 (.refl G6) _ ?_;by_cases c6:way=6
 ·rw[decide_eq_true c6,if_pos rfl]
  refine zFt ?_;refine zG (i:=5) (d:=.adr lw) rfl G6 (.refl G6) _ ?_;refine⟨⟨_,ow⟩,zBe (zG (i:=7) (d:=nD j) rfl) (zB2 (zNv (i:=5) (j:=6) (ws:=ws) rfl rfl ow hk (by omega) (zBq ?_)))⟩;refine⟨j,.str ws[k],(ws.eraseIdx k).map D.str,rfl,zJ,by rw[cI];omega,by rw[cI];omega,?_⟩;rw[zBI];have e:((ws.eraseIdx k).map D.str).take j++D.str ws[k]::((ws.eraseIdx k).map D.str).drop j=((ws.eraseIdx k).take j++ws[k]::(ws.eraseIdx k).drop j).map D.str:=by simp
  rw[e];refine fin _ _ (ds6.put st glw) zJ (by rw[zGr];omega) (by simp;omega) fun w hw=>?_;simp only[dQ,db] at hw;rcases hw with hw | rfl | hw
  ·exact erm w (List.mem_of_mem_take hw)
  ·exact kb
  ·exact erm w (List.mem_of_mem_drop hw)
 rw[decide_eq_false c6,if_neg (by simp)];refine(show zy _ _ _ _ _ from zHX (zAy (ds:=zEP.map D.str) (fun G2 e R q=>zCu (zF zY (zF zY (zF zY (zF zY (zF zY (zF zY (zF zY (zF zY (zF zY (zF zY (zF zY (zF zY zN))))))))))) G2 e _ ⟨by rw[sizeLine_eq];simp,q⟩)) fun l7 hl7=>?_));have n7:l7≠l:=fun z=>by obtain⟨_,_,e,_⟩:=ds6.st;rw[<-z] at e;rw[e] at hl7;cases hl7
 have n7w:lw≠l7:=gne ow hl7;have ow:(zQ G6 l7 (zEP.map D.str)).m lw=some (ws.map D.str):=by rw[zV n7w];exact ow
 have o7:(zQ G6 l7 (zEP.map D.str)).m l7=some (zEP.map D.str):=zJ;have ds7:DrS l G (zQ G6 l7 (zEP.map D.str)):=ds6.put st (ds6.own st hl7);generalize zQ G6 l7 (zEP.map D.str)=G7 at ow o7 ds7;refine zBF (zF (zG (i:=0) (d:=.adr l) rfl) (zF (zY (d:=.int 12)) zN)) ⟨l,12,rfl,ds7.st,by omega,by omega,fun z G8 hz d8=>?_⟩;have ds8:=ds7.dr d8;have ow:G8.m lw=some (ws.map D.str):=by rw[d8.ne nlw];exact ow
 have o7:G8.m l7=some (zEP.map D.str):=by rw[d8.ne n7];exact o7
 refine⟨_,_,.inl o7,zEO (show z<zEP.length from hz),?_⟩;refine zG (i:=5) (d:=.adr lw) rfl G8 (.refl G8) _ ?_;refine zG (i:=6) (d:=nD k) rfl G8 (.refl G8) _ ?_;unfold nD;dsimp only;rw[ow];dsimp only;rw[zJl (by rw[cI];exact hk)];dsimp only;rw[zLn];have ok:=zNQ _ (dG (show z<zEP.length from hz));have ss:=zLf ws k zEP[z];refine fin _ _ (ds8.put st glw) zJ (by omega) (by rw[List.length_set];omega) fun w hw=>?_;rcases List.mem_or_eq_of_mem_set hw with hw | rfl
 ·exact wB w hw
 ·exact ok.2
noncomputable def zLo(n:Nat)(l:List (Nat×Nat)):D:=.tup [nD n,.tup (l.map yf)]
theorem zJm(n:Nat)(l:List (Nat×Nat)):flat 8 (zLo n l)=true:=by
 refine zLC (n:=7) rfl (zE6 fun x hx=>?_);obtain⟨p,_,rfl⟩:=cQ.mp hx;rfl
theorem zHu(r:List Nat):flat 8 (.tup (r.map nD))=true:=zE6 (n:=7) fun x hx=>by
 obtain⟨p,_,rfl⟩:=cQ.mp hx;rfl
noncomputable def RW(G:Gp)(x due:D):Prop:=(due=.non/\CW G x)\/∃(t:Str) (n:Nat) (l:List (Nat×Nat)),x=.str t/\t.length<=1000000/\l.length<=60/\Wt (yd t) n l/\due=zLo n l
noncomputable def RR(G:Gp)(x due:D):Prop:=(due=.non/\CR G x)\/∃(t:Str) (n:Nat) (r:List Nat),x=.str t/\t.length<=1000000/\Rt (yd t) n r/\due=.tup (r.map nD)
noncomputable def yN(fW fR:Addr):wU:=fun ds G R=>∃(f:Addr) (x due:D),ds=[.adr f,x,due]/\((f=fW/\RW G x due)\/(f=fR/\RR G x due))/\R (.bl true) G
noncomputable def wO(fW fR:Addr):wP:=(zX (xIf (xB (zS (zJH false) (zC 2) (xC .non))) (zq (zS (fEq false) (yB (zLc 4 (zC 0) fW fR wd wI (zA (zC 1) zH))) (yB (zAM (zA (xC (.int 4)) zH))))) zx) (zq (zS (fEq false) (zHd (zC 0) fW fR wq wN (zA (zC 1) zH)) (zC 2))))
theorem zIn{σ:S2}{G:Gp}{te:zf}{E:yr}(h:te σ G E.rt):zq te E σ G:=h
theorem zLp{σ:S2}{G:Gp}{kind:Int}{tv:zf}{fW fR:Addr}{cW cR:Cnd}{ta:wE}{R:List D->Gp->Prop}(h:tv σ G fun d G1=>match d with
 | .adr f=>(f=fW/\ta σ G1 fun ds G2=>cW ds G2 fun G'=>R [.int kind] G')\/(f=fR/\ta σ G1 fun ds G2=>cR ds G2 fun G'=>R [.int kind] G')
 | _=>False):zLc kind tv fW fR cW cR ta σ G R:=h
theorem zIo{σ:S2}{G:Gp}{tv:zf}{fW fR:Addr}{spW spR:wU}{ta:wE}{R:Q2}(h:tv σ G fun d G1=>match d with
 | .adr f=>(f=fW/\ta σ G1 fun ds G2=>spW ds G2 R)\/(f=fR/\ta σ G1 fun ds G2=>spR ds G2 R)
 | _=>False):zHd tv fW fR spW spR ta σ G R:=h
theorem zJn(fW fR:Addr)(ds:List D)(G:Gp)(R:Q2)(h:yN fW fR ds G R):ds.length=3/\wO fW fR (zg R) (zP ["read","text","due"] ds) G:=by
 obtain⟨f,x,due,rfl,hc,h⟩:=h;refine⟨rfl,?_⟩;unfold wO;rw[show zP ["read","text","due"] [.adr f,x,due]=[some (.adr f),some x,some due] from rfl];have isn:∀ b,zIN due=b->PuT (xB (zS (zJH false) (zC 2) (xC .non))) [some (.adr f),some x,some due] G b:=fun b hb=>yz (yk (x:=due) (y:=.non) (zG rfl) zY fun _ _ _ q=>by
  show _;unfold zJH;dsimp only;rw[if_neg (by simp),hb];exact q)
 have rest:∀ G',L3.Sub G G'->∀ l1,G'.m l1=none->(yB (zAM (zA (xC (.int 4)) zH))) [some (.adr f),some x,some due] (zQ G' l1 [.int 4]) fun y G2=>fEq false (.adr l1) y G2 (zg R).rt:=fun G' sb l1 hl1=>by
  refine zAy (ds:=[.int 4]) (fun G2 e R q'=>zCu (zF zY zN G2 e _ ⟨by rw[sizeLine_eq];simp,q'⟩)) fun l2 hl2=>?_;have n12:l1≠l2:=fun z=>by rw[<-z,zJ] at hl2;cases hl2
  refine⟨[.int 4],[.int 4],.inl (by rw[zV n12];exact zJ),.inl zJ,fun d hd=>by simp at hd;subst hd;rfl,fun d hd=>by simp at hd;subst hd;rfl,?_⟩;exact⟨G,sb.trans ((L3.Sub.new hl1).trans (.new hl2)),h⟩
 have same:∀ d:D,flat 8 d=true->d=due->∀ G',fEq false d due G' (zg R).rt↔(zg R).rt (.bl true) G'\/False\/fEq false d due G' (zg R).rt:=fun d _ _ G'=>⟨fun z=>.inr (.inr z),fun z=>by
  rcases z with z | z | z
  ·exact zGU ‹_› (by subst_vars;assumption) (by rw[if_neg (by simp),<-‹d=due›,zDy d 8 ‹_›];exact z)
  ·exact z.elim
  ·exact z⟩
 rcases hc with ⟨rfl,⟨rfl,hc⟩ | ⟨t,n,l,rfl,hl,h60,hw,rfl⟩⟩ | ⟨rfl,⟨rfl,hc⟩ | ⟨t,n,r,rfl,hl,hw,rfl⟩⟩
 ·refine zA5 (isn true rfl) (fun _=>zIn (zHX (zDS (zLp ?_)))) fun z=>by cases z
  refine zG (i:=0) (d:=.adr f) rfl G (.refl G) _ ?_;exact .inl ⟨rfl,zF (zG (i:=1) (d:=x) rfl) zN G (.refl G) _ ⟨x,rfl,hc,fun G' sb l1 hl1=>rest G' sb l1 hl1⟩⟩
 ·refine yu (isn false rfl) (zIn (zHX (zIo ?_)))
  refine zG (i:=0) (d:=.adr f) rfl G (.refl G) _ ?_;refine .inl ⟨rfl,zF (zG (i:=1) (d:=.str t) rfl) zN G (.refl G) _ ⟨t,n,l,rfl,hl,h60,hw,?_⟩⟩;refine zG (i:=2) (d:=zLo n l) rfl G (.refl G) _ ?_;exact(same (zLo n l) (zJm n l) rfl G).mpr (.inl (.of h))
 ·refine zA5 (isn true rfl) (fun _=>zIn (zHX (zDS (zLp ?_)))) fun z=>by cases z
  refine zG (i:=0) (d:=.adr f) rfl G (.refl G) _ ?_;exact .inr ⟨rfl,zF (zG (i:=1) (d:=x) rfl) zN G (.refl G) _ ⟨x,rfl,hc,fun G' sb l1 hl1=>rest G' sb l1 hl1⟩⟩
 ·refine yu (isn false rfl) (zIn (zHX (zIo ?_)))
  refine zG (i:=0) (d:=.adr f) rfl G (.refl G) _ ?_;refine .inr ⟨rfl,zF (zG (i:=1) (d:=.str t) rfl) zN G (.refl G) _ ⟨t,n,r,rfl,hl,hw,?_⟩⟩;refine zG (i:=2) (d:=.tup (r.map nD)) rfl G (.refl G) _ ?_;exact(same (.tup (r.map nD)) (zHu r) rfl G).mpr (.inl (.of h))
theorem zQL{ws:List Str}{n:Nat}{l:List (Nat×Nat)}(h:Wt ws n l)(hl:ws.length<=60):l.length<=60:=by
 rw[h.1] at hl;simp at hl;omega
theorem zJo{σ:S2}{G:Gp}{te:zf}{t:Str}(fW fR:Addr)(h:ze te σ G (.str t))(hl:t.length<=1000000)(h60:(yd t).length<=60):PuT (zu (xB (zI (yN fW fR) (zA (xC (.adr fW)) (zA te (zA (zI yY (zA te zH)) zH)))))) σ G false:=by
 refine zw (b:=true) (yz ?_);by_cases hx:∃ n l,Wt (yd t) n l
 ·obtain⟨n,l,hw⟩:=hx
  have p:ze (zI yY (zA te zH)) σ G (zLo n l):=zZ (zF h zN) fun _ _ _ q=>⟨t,rfl,hl,h60,.inl ⟨n,l,hw,q⟩⟩
  exact zZ (zF zY (zF h (zF p zN))) fun _ _ _ q=>⟨fW,.str t,_,rfl,.inl ⟨rfl,.inr ⟨t,n,l,rfl,hl,zQL hw h60,hw,rfl⟩⟩,q⟩
 ·have hn:∀ n l,¬ Wt (yd t) n l:=fun n l z=>hx ⟨n,l,z⟩
  have p:ze (zI yY (zA te zH)) σ G .non:=zZ (zF h zN) fun _ _ _ q=>⟨t,rfl,hl,h60,.inr ⟨hn,q⟩⟩
  exact zZ (zF zY (zF h (zF p zN))) fun _ _ _ q=>⟨fW,.str t,_,rfl,.inl ⟨rfl,.inl ⟨rfl,.inr ⟨t,rfl,hl,h60,hn⟩⟩⟩,q⟩
theorem zHv{σ:S2}{G:Gp}{te:zf}{t:Str}(fW fR:Addr)(h:ze te σ G (.str t))(hl:t.length<=1000000)(h60:(yd t).length<=60):PuT (zu (xB (zI (yN fW fR) (zA (xC (.adr fR)) (zA te (zA (zI yQ (zA te zH)) zH)))))) σ G false:=by
 refine zw (b:=true) (yz ?_);by_cases hx:∃ n l,Rt (yd t) n l
 ·obtain⟨n,r,hw⟩:=hx
  have p:ze (zI yQ (zA te zH)) σ G (.tup (r.map nD)):=zZ (zF h zN) fun _ _ _ q=>⟨t,rfl,hl,h60,.inl ⟨n,r,hw,q⟩⟩
  exact zZ (zF zY (zF h (zF p zN))) fun _ _ _ q=>⟨fR,.str t,_,rfl,.inr ⟨rfl,.inr ⟨t,n,r,rfl,hl,hw,rfl⟩⟩,q⟩
 ·have hn:∀ n l,¬ Rt (yd t) n l:=fun n l z=>hx ⟨n,l,z⟩
  have p:ze (zI yQ (zA te zH)) σ G .non:=zZ (zF h zN) fun _ _ _ q=>⟨t,rfl,hl,h60,.inr ⟨hn,q⟩⟩
  exact zZ (zF zY (zF h (zF p zN))) fun _ _ _ q=>⟨fR,.str t,_,rfl,.inr ⟨rfl,.inl ⟨rfl,.inr ⟨t,rfl,hl,h60,hn⟩⟩⟩,q⟩
theorem zJp{σ:S2}{G:Gp}{te:zf}{d:D}(fW fR:Addr)(h:ze te σ G d)(ho:Odd G d):PuT (wL (zu (xB (zI (yN fW fR) (zA (xC (.adr fW)) (zA te (zA (xC .non) zH)))))) (zu (xB (zI (yN fW fR) (zA (xC (.adr fR)) (zA te (zA (xC .non) zH))))))) σ G false:=by
 have od:∀ {G2},Ext G G2->Odd G2 d:=fun e=>⟨ho.1,ho.2.ext e⟩
 refine zOw (zw (b:=true) (yz ?_)) (zw (b:=true) (yz ?_))
 ·exact zZ (zF zY (zF h (zF zY zN))) fun _ e _ q=>⟨fW,d,_,rfl,.inl ⟨rfl,.inl ⟨rfl,.inl (od e)⟩⟩,q⟩
 ·exact zZ (zF zY (zF h (zF zY zN))) fun _ e _ q=>⟨fR,d,_,rfl,.inr ⟨rfl,.inl ⟨rfl,.inl (od e)⟩⟩,q⟩
noncomputable def Tb(i:Nat)(t:Str):Prop:=t.length+20<=220*2 ^ i/\(yd t).length<=40+i
theorem Tb.next{i:Nat}{t t':Str}(h:Tb i t)(b:Bt t t'):Tb (i+1) t':=by
 obtain⟨h1,h2⟩:=h;obtain⟨b1,b2⟩:=b;refine⟨?_,by omega⟩;rw[eM];omega
theorem Tb.small{i:Nat}{t:Str}(h:Tb i t)(hi:i<=3):t.length<=3000/\(yd t).length<=50:=by
 obtain⟨h1,h2⟩:=h;refine⟨?_,by omega⟩
 match i,hi with
 | 0,_=>omega
 | 1,_=>omega
 | 2,_=>omega
 | 3,_=>omega
theorem zJq{σ:S2}{G:Gp}{l lt:Addr}{t0 t1:Str}{i:Nat}{R:List D->Gp->Prop}(hi:i<3)(v2:look σ 2=some (.adr l))(v3:look σ 3=some (.adr lt))(h6:σ.length=6)(st:zAV G l)(nlt:lt≠l)(ot:G.m lt=some [.str t0,.str t1])(b0:Tb i t0)(b1:Tb i t1)
  (h:∀ t0' t1' G',Tb (i+1) t0'->Tb (i+1) t1'->Dr l G G'->R [.str t0',.str t1'] G'):zo (iV (zC 3)) bd1 wV (zI wv (zA (zC 2) (zA (zC 6) zH))) σ G R:=by
 have lk2:∀ d:D,look (σ++[some d]) 2=some (.adr l):=fun d=>by
  match σ,h6,v2 with
  | [_,_,_,_,_,_],_,v2=>exact v2
 have lk6:∀ d:D,look (σ++[some d]) 6=some d:=fun d=>by
  match σ,h6 with
  | [_,_,_,_,_,_],_=>rfl
 refine zFY (zG v3 G (.refl G) _ ⟨_,.inl ot,fun A hA=>?_⟩);have Al:A≠l:=st.ne hA;have Alt:lt≠A:=gne ot hA;have keep:∀ {G'},DrS l G G'->G'.m lt=some [.str t0,.str t1]:=fun {G'} hd=>by
  obtain⟨G1,d1,s1⟩:=hd;exact s1.m _ _ (by rw[d1.ne nlt];exact ot)
 refine zD3 (fun j acc G'=>∃ us:List Str,acc=us.map D.str/\us.length=j/\(∀ u∈us,Tb (i+1) u)/\G'.m A=some acc/\DrS l G G')
  ⟨[],rfl,rfl,(fun u hu=>nomatch hu),zJ,(DrS.refl st).put st hA⟩ (fun j acc G' ⟨us,h1,h2,h3,h4,h5⟩=>⟨.inl (keep h5),h4,by rw[h1,cI];omega⟩) ?_ ?_
 ·rintro j x acc G' hj ⟨us,rfl,h2,h3,h4,h5⟩
  obtain⟨t,rfl,bt⟩:∃ t,x=.str t/\Tb i t:=by
   match j,hj with
   | 0,hj=>cases hj;exact⟨t0,rfl,b0⟩
   | 1,hj=>cases hj;exact⟨t1,rfl,b1⟩
  refine⟨[.str t],rfl,?_⟩;unfold wV;dsimp only;rw[if_pos rfl];have sm:=bt.small (by omega);refine zBF (zF (zG (lk2 _)) (zF (zG (lk6 _)) zN)) ⟨l,t,rfl,h5.st,sm.1,sm.2,fun t' G4 bb d4=>?_⟩;refine⟨by rw[d4.ne Al];exact h4,.of ⟨us++[t'],by simp,by simp[h2],fun u hu=>?_,zJ,(h5.dr d4).put st hA⟩⟩;rcases dQ.mp hu with hu | hu
  ·exact h3 u hu
  ·rw[eC] at hu;subst hu;exact bt.next bb
 ·rintro acc G' ⟨us,rfl,h2,h3,h4,h5⟩
  obtain⟨G1,d1,s1⟩:=h5;refine⟨G1,d1.none st hA,s1,?_⟩
  match us,h2 with
  | [a,b],_=>exact h a b G1 (h3 a (by simp)) (h3 b (by simp)) d1
theorem zNS{n:Nat}{r:List Nat}(hr:wj n r)(h9:n<=9)(h1:1<=n):Tb 0 (zCv r):=by
 have hl:=hr.len;have f:∀ w∈r.map dig,w.length=1/\bl w=0:=fun w hw=>by
  obtain⟨k,hk,rfl⟩:=cQ.mp hw;have k10:=zDN hr h9 hk;exact⟨(yi k k10).1,dH (yi k k10).2⟩
 have S:∀ ws:List Str,(∀ w∈ws,w.length=1/\bl w=0)->zAD ws=2*ws.length:=fun ws=>by
  induction ws with
  | nil=>intro _;rfl
  | cons a b ih=>intro h;rw[yw,ih fun w hw=>h w (cU _ hw),(h a (by simp)).1,cD];omega
 have s1:=S _ f;have j1:=zFr (r.map dig);have j2:=zC3 (r.map dig) fun w hw=>(f w hw).2;rw[cI] at s1 j2;refine⟨?_,?_⟩
 ·show(Str.join " " (r.map dig)).length+20<=220
  omega
 ·rw[zCM]
  show bl (Str.join " " (r.map dig))+1<=40;omega
theorem zPP{n:Nat}{q:Nat×Nat->Bool}(h9:n<=9):Tb 0 (zEc n ((yL n).filter q)):=by
 have p36:((yL n).filter q).length<=36:=by
  have a:=eT q (yL n);have b:∀ n,n<10->(yL n).length<=36:=by decide +kernel
  have:=b n (by omega);omega
 have f:∀ w∈(dig n::":"::((yL n).filter q).map zW),w.length<=3/\bl w=0:=fun w hw=>by
  rcases db.mp hw with rfl | hw
  ·have:=yi n (by omega)
   exact⟨by omega,dH this.2⟩
  ·rcases db.mp hw with rfl | hw
   ·decide +kernel
   ·obtain⟨p,hp,rfl⟩:=cQ.mp hw
    have p10:=zFj h9 hp;have:=zE5 p.1 p10.1 p.2 p10.2;exact⟨by rw[show zW p=zW (p.1,p.2) from rfl];omega,dH this.2⟩
 have S:∀ ws:List Str,(∀ w∈ws,w.length<=3/\bl w=0)->zAD ws<=4*ws.length:=fun ws=>by
  induction ws with
  | nil=>intro _;exact cN _
  | cons a b ih=>intro h;rw[yw,cD];have:=ih fun w hw=>h w (cU _ hw);have:=(h a (by simp)).1;omega
 have s1:=S _ f;have j1:=zFr (dig n::":"::((yL n).filter q).map zW);have j2:=zC3 (dig n::":"::((yL n).filter q).map zW) fun w hw=>(f w hw).2;simp only[cD,cI] at s1 j2;refine⟨?_,?_⟩
 ·show(Str.join " " (dig n::":"::((yL n).filter q).map zW)).length+20<=220
  omega
 ·rw[zCM]
  show bl (Str.join " " (dig n::":"::((yL n).filter q).map zW))+1<=40;omega
noncomputable def zIp(fW fR:Addr):wP:=(zX (zBw (iR1 (zA (zI zBo (zA (xC (.int 1)) (zA (zI zBL (zA (zI yG (zA (zC 0) zH)) (zA (xC (.int 10)) zH))) zH))) zH)) (gN 1) (zX (zy (yB (yD yn (zA (zC 0) (zA (zC 1) zH)))) (gN 2)) (zX (zy (yB (zAM (zA (zI wZ (zA (zI zB1 (zA (zC 2) (zA (xC (.int 9)) zH))) zH)) (zA (zI zAJ (zA (zI wp (zA (zC 2) (zA (zS zAC (xC (.int 1)) (zI zj (zA (zC 2) (zA (xC (.int 9)) zH)))) zH))) zH)) zH)))) (gN 3)) (zX (zBw (iR1 (zA (xC (.int 3)) zH)) (gN 4) (zX (xIf (zu (xB (zI (yN fW fR) (zA (xC (.adr fW)) (zA (zS ye (zC 3) (xC (.int 0))) (zA (zI yY (zA (zS ye (zC 3) (xC (.int 0))) zH)) zH)))))) (zq (xC (.bl false))) zx) (zX (xIf (zu (xB (zI (yN fW fR) (zA (xC (.adr fR)) (zA (zS ye (zC 3) (xC (.int 1))) (zA (zI yQ (zA (zS ye (zC 3) (xC (.int 1))) zH)) zH)))))) (zq (xC (.bl false))) zx) (zBJ 3 (zo (iV (zC 3)) bd1 wV (zI wv (zA (zC 2) (zA (zC 6) zH)))))))) (zX (zy (zS ye (yB (zAM (zA (xC .non) (zA (xC (.int 7)) (zA (zAE (zA (xC (.int 0)) (zA (xC (.int 0)) zH))) (zA (yB (zAM (zA (xC (.str "1 :")) zH))) (zA (xC (.bl true)) (zA zKp zH)))))))) (zI zj (zA (zC 2) (zA (xC (.int 6)) zH)))) (gN 5)) (xIf (wL (zu (xB (zI (yN fW fR) (zA (xC (.adr fW)) (zA (zC 5) (zA (xC .non) zH)))))) (zu (xB (zI (yN fW fR) (zA (xC (.adr fR)) (zA (zC 5) (zA (xC .non) zH))))))) (zq (xC (.bl false))) zx)))))) (zq (xC (.bl true))))
theorem zQM(fW fR:Addr)(ds:List D)(G:Gp)(R:Q2)(h:zEx ds G R):ds.length=1/\zIp fW fR (zg R) (zP ["script","k","state","texts","turn","odd"] ds) G:=by
 obtain⟨a,ns,rfl,ha,_,_,h⟩:=h;refine⟨rfl,?_⟩;unfold zIp;rw[show zP ["script","k","state","texts","turn","odd"] [.adr a]=[some (.adr a),none,none,none,none,none] from rfl];obtain⟨mm,hmm⟩:=zJP (σ:=[some (.adr a),none,none,none,none,none]) (G:=G) (c:=10) (by omega) rfl (.inr ha);refine zKZ hmm ?_ ?_
 rotate_left
 ·intro G1 e1
  exact⟨G,e1.sub,h⟩
 intro x hx G1 e1;obtain⟨k,_,rfl⟩:=cQ.mp hx;simp only[gN,cz,cy];have ha1:Ls G1 a (ns.map D.int):=e1.ls (.inr ha);refine zJR (i:=0) (j:=1) (x:=2) rfl rfl ha1 fun l s b hl ok=>?_;simp only[cz,cy];have st0:zAV (zQ G1 l [.int s,.bl b]) l:=⟨s,b,zJ,ok⟩
 have sb0:L3.Sub G1 (zQ G1 l [.int s,.bl b]):=.new hl;generalize zQ G1 l [.int s,.bl b]=G2 at st0 sb0;have drS:∀ {G G':Gp},L3.Sub G1 G->Dr l G G'->L3.Sub G1 G':=fun {G G'} hs hd=>by
  obtain⟨s',b',rfl,_⟩:=hd;exact hs.put hl
 -- the texts
 refine yh (zDS (zCu (zB2 (zK6 (zB2 (zBF (zF (zG (i:=2) (d:=.adr l) rfl) (zF (zY (d:=.int 9)) zN)) ⟨l,9,rfl,st0,by omega,by omega,fun n q G3 h1 h9 d3=>zBq ?_⟩))))));refine⟨n,q,rfl,h9,?_⟩;refine zB2 (zK6 (zB2 ?_));refine(show zI wp _ _ _ _ from zBe (d:=.adr l) (zG (i:=2) rfl) (zB2 (zP6 (x:=.int 1) zY (zBF (zF (zG (i:=2) (d:=.adr l) rfl) (zF (zY (d:=.int 9)) zN)) ⟨l,9,rfl,d3.st,by omega,by omega,fun t1 G4 ht1 d4=>?_⟩))));simp only[zAC];rw[show((1:Int)+(t1:Int))=((1+t1:Nat):Int) by omega];refine zBq ⟨l,1+t1,rfl,d4.st,by omega,fun r G5 hr d5=>zBq ?_⟩;have m1:1<=1+t1:=by omega
 have m9:1+t1<=9:=by omega
 generalize 1+t1=m at hr m1 m9;have hl':=hr.len;refine⟨r,rfl,fun x hx=>zDN hr m9 hx,by omega,zBq ⟨by rw[sizeLine_eq];simp,fun lt hlt=>?_⟩⟩;simp only[gN,cz,cy];have st5:zAV (zQ G5 lt [.str (zEc n ((yL n).filter q)),.str (zCv r)]) l:=d5.st.ext (.new hlt);have nlt:lt≠l:=d5.st.ne hlt;have ot:(zQ G5 lt [.str (zEc n ((yL n).filter q)),.str (zCv r)]).m lt=some [.str (zEc n ((yL n).filter q)),.str (zCv r)]:=zJ;have sb5:L3.Sub G1 (zQ G5 lt [.str (zEc n ((yL n).filter q)),.str (zCv r)]):=(drS (drS (drS sb0 d3) d4) d5).trans (.new hlt);have tb0:=zPP (n:=n) (q:=q) h9;have tb1:=zNS hr m9 m1;generalize zQ G5 lt [.str (zEc n ((yL n).filter q)),.str (zCv r)]=G6 at st5 ot sb5;generalize zEc n ((yL n).filter q)=w0 at ot tb0;generalize zCv r=w1 at ot tb1;clear d3 d4 d5 hlt;refine(show zX (zBw _ _ _) _ _ _ _ from zK0 (n:=3) (zF (zY (d:=.int 3)) zN) (by omega) ?_);refine⟨fun i σ G'=>∃(lt:Addr) (t0 t1:Str) (x:Option D),σ=[some (.adr a),some (nD k),some (.adr l),some (.adr lt),x,none]/\lt≠l/\G'.m lt=some [.str t0,.str t1]/\Tb i t0/\Tb i t1/\zAV G' l/\L3.Sub G1 G',⟨lt,w0,w1,none,rfl,nlt,ot,tb0,tb1,st5,sb5⟩,fun _ _ _ _ _=>trivial,?_,?_⟩
 ·rintro i x σ G' hx ⟨lt,t0,t1,x4,rfl,nlt,ot,b0,b1,st,sb⟩
  obtain⟨rfl,hi⟩:=zHS hx;simp only[gN,cz,cy];have s0:=b0.small (by omega);have s1:=b1.small (by omega);refine yu (zJo fW fR (t:=t0) (zB3 (k:=0) (zG (i:=3) (d:=.adr lt) rfl) zY (.inl ot) (yP (j:=0) rfl)) (by omega) (by omega)) ?_;refine yu (zHv fW fR (t:=t1) (zB3 (k:=1) (zG (i:=3) (d:=.adr lt) rfl) zY (.inl ot) (yP (j:=1) rfl)) (by omega) (by omega)) ?_;refine(show zBJ 3 _ _ _ _ from zJq (l:=l) (lt:=lt) (i:=i) hi rfl rfl rfl st nlt ot b0 b1 fun t0' t1' G7 b0' b1' d7 lt' hlt'=>?_);simp only[cz,cy];exact .of ⟨lt',t0',t1',_,rfl,d7.st.ne hlt',zJ,b0',b1',d7.st.ext (.new hlt'),(drS sb d7).trans (.new hlt')⟩
 ·rintro σ G' ⟨lt,t0,t1,x4,rfl,nlt,ot,b0,b1,st,sb⟩
  refine yh (zHX (zDS (zCu (zBe (d:=.non) zY (zBe (d:=.int 7) zY (zBe (d:=.tup [.int 0,.int 0]) (zCd (zF zY (zF zY zN)) (by simp)) (zB2 (zAy (ds:=[.str "1 :"]) (fun G2 e R q'=>zCu (zF zY zN G2 e _ ⟨by rw[sizeLine_eq];simp,q'⟩)) fun lo hlo=>zBe (d:=.bl true) zY (zB2 fun ld=>zBq ⟨by rw[sizeLine_eq];simp,fun lb hlb=>?_⟩)))))))));generalize hG:zQ (zQ G' lo [.str "1 :"]) lb [.non,.int 7,.tup [.int 0,.int 0],.adr lo,.bl true,.dic ld]=G8;have nlo:lo≠lb:=fun z=>by rw[<-z,zJ] at hlb;cases hlb
  have olo:G8.m lo=some [.str "1 :"]:=by rw[<-hG,zV nlo];exact zJ
  have olb:G8.m lb=some [.non,.int 7,.tup [.int 0,.int 0],.adr lo,.bl true,.dic ld]:=by rw[<-hG];exact zJ
  have sub8:L3.Sub G' G8:=by rw[<-hG];exact(L3.Sub.new hlo).trans (.new hlb)
  have st8:zAV G8 l:=st.ext sub8;have nlo':lo≠l:=st.ne hlo;have nlb':lb≠l:=fun z=>by obtain⟨_,_,e,_⟩:=st;rw[<-z] at e;have:=(L3.Sub.new (o:=[.str "1 :"]) hlo).m _ _ e;rw[this] at hlb;cases hlb
  have sb8:=sb.trans sub8;clear hG hlo hlb sub8;refine zBF (zF (zG (i:=2) (d:=.adr l) rfl) (zF (zY (d:=.int 6)) zN)) ⟨l,6,rfl,st8,by omega,by omega,fun z G9 hz d9=>?_⟩;have olo:G9.m lo=some [.str "1 :"]:=by rw[d9.ne nlo'];exact olo
  have olb:G9.m lb=some [.non,.int 7,.tup [.int 0,.int 0],.adr lo,.bl true,.dic ld]:=by rw[d9.ne nlb'];exact olb
  have sb9:=drS sb8 d9;obtain⟨d,hd,od⟩:∃ d,atI [D.non,.int 7,.tup [.int 0,.int 0],.adr lo,.bl true,.dic ld] (z:Int)=some d/\Odd G9 d:=by
   match z,hz with
   | 0,_=>exact⟨_,yP rfl,⟨fun t e=>(by cases e),Lk.not fun a e=>(by cases e)⟩⟩
   | 1,_=>exact⟨_,yP rfl,⟨fun t e=>(by cases e),Lk.not fun a e=>(by cases e)⟩⟩
   | 2,_=>exact⟨_,yP rfl,⟨fun t e=>(by cases e),Lk.not fun a e=>(by cases e)⟩⟩
   | 3,_=>exact⟨_,yP rfl,⟨fun t e=>(by cases e),fun a e=>(by cases e;exact⟨_,.inl olo⟩)⟩⟩
   | 4,_=>exact⟨_,yP rfl,⟨fun t e=>(by cases e),Lk.not fun a e=>(by cases e)⟩⟩
   | 5,_=>exact⟨_,yP rfl,⟨fun t e=>(by cases e),Lk.not fun a e=>(by cases e)⟩⟩
  refine⟨_,d,.inl olb,hd,?_⟩;simp only[gN,cz,cy];refine zK5 (zJp fW fR (zG (i:=5) rfl) od) ?_;exact⟨.keep (.skip (.skip (.skip (.skip (.skip .nil))))),sb9⟩
end K
namespace K
open L2 L3
noncomputable def top(i:Nat):Stmt:=PySem.Challenge.pw_chordwebs_k92_texts_that_write_none.main.body.getD i (.Pass ⟨0,0,0,0⟩)
noncomputable abbrev ww:Stmt:=top 9
theorem zC5:zb ["thing"] ["thing"] (zE ww):=⟨rfl,rfl,rfl,by decide +kernel,rfl,by decide +kernel,by decide +kernel⟩
noncomputable abbrev yo:Stmt:=top 10
theorem zCV:zb ["things"] ["things"] (zE yo):=⟨rfl,rfl,rfl,by decide +kernel,rfl,by decide +kernel,by decide +kernel⟩
noncomputable abbrev wz:Stmt:=top 12
theorem zEQ:zb ["thing","many"] ["thing"] (zE wz):=⟨rfl,rfl,rfl,by decide +kernel,rfl,by decide +kernel,by decide +kernel⟩
noncomputable abbrev zAO:Stmt:=top 14
theorem zER:zb ["thing","many","ties"] ["thing"] (zE zAO):=⟨rfl,rfl,rfl,by decide +kernel,rfl,by decide +kernel,by decide +kernel⟩
noncomputable abbrev zAm:Stmt:=top 15
theorem zES:zb ["many","thing"] ["many","thing"] (zE zAm):=⟨rfl,rfl,rfl,by decide +kernel,rfl,by decide +kernel,by decide +kernel⟩
noncomputable abbrev yc:Stmt:=top 18
theorem zBB:zb ["text","words","web"] ["text"] (zE yc):=⟨rfl,rfl,rfl,by decide +kernel,rfl,by decide +kernel,by decide +kernel⟩
noncomputable abbrev zAP:Stmt:=top 19
theorem zDU:zb ["word"] ["word"] (zE zAP):=⟨rfl,rfl,rfl,by decide +kernel,rfl,by decide +kernel,by decide +kernel⟩
noncomputable abbrev yR:Stmt:=top 20
theorem zAk:zb ["text","ring"] ["text"] (zE yR):=⟨rfl,rfl,rfl,by decide +kernel,rfl,by decide +kernel,by decide +kernel⟩
noncomputable abbrev wJ:Stmt:=top 21
theorem zBC:zb ["text"] ["text"] (zE wJ):=⟨rfl,rfl,rfl,by decide +kernel,rfl,by decide +kernel,by decide +kernel⟩
noncomputable abbrev zBQ:Stmt:=top 22
theorem zFG:zb ["word"] ["word"] (zE zBQ):=⟨rfl,rfl,rfl,by decide +kernel,rfl,by decide +kernel,by decide +kernel⟩
noncomputable abbrev zAA:Stmt:=top 24
theorem zC6:zb ["script","k"] ["script","k"] (zE zAA):=⟨rfl,rfl,rfl,by decide +kernel,rfl,by decide +kernel,by decide +kernel⟩
noncomputable abbrev zAn:Stmt:=top 25
theorem zET:zb ["script","k","cell"] ["script","k"] (zE zAn):=⟨rfl,rfl,rfl,by decide +kernel,rfl,by decide +kernel,by decide +kernel⟩
noncomputable abbrev zBR:Stmt:=top 26
theorem zFH:zb ["state","many","found","mixed"] ["state","many"] (zE zBR):=⟨rfl,rfl,rfl,by decide +kernel,rfl,by decide +kernel,by decide +kernel⟩
noncomputable abbrev zAQ:Stmt:=top 27
theorem zEU:zb ["many","found","one"] ["many"] (zE zAQ):=⟨rfl,rfl,rfl,by decide +kernel,rfl,by decide +kernel,by decide +kernel⟩
noncomputable abbrev zBD:Stmt:=top 28
theorem zGt:zb ["state","most","many","way","pairs","far"] ["state","most"] (zE zBD):=⟨rfl,rfl,rfl,by decide +kernel,rfl,by decide +kernel,by decide +kernel⟩
noncomputable abbrev zA0:Stmt:=top 29
theorem zFI:zb ["state","many","left"] ["state","many"] (zE zA0):=⟨rfl,rfl,rfl,by decide +kernel,rfl,by decide +kernel,by decide +kernel⟩
noncomputable abbrev wn:Stmt:=top 30
theorem zDV:zb ["ring","many","found","one","other","some"] ["ring"] (zE wn):=⟨rfl,rfl,rfl,by decide +kernel,rfl,by decide +kernel,by decide +kernel⟩
noncomputable abbrev yp:Stmt:=top 32
theorem zCW:zb ["web"] ["web"] (zE yp):=⟨rfl,rfl,rfl,by decide +kernel,rfl,by decide +kernel,by decide +kernel⟩
noncomputable abbrev wK:Stmt:=top 33
theorem zC7:zb ["some"] ["some"] (zE wK):=⟨rfl,rfl,rfl,by decide +kernel,rfl,by decide +kernel,by decide +kernel⟩
noncomputable abbrev yK:Stmt:=top 34
theorem zC8:zb ["call","error","e","kinds"] ["call"] (zE yK):=⟨rfl,rfl,rfl,by decide +kernel,rfl,by decide +kernel,by decide +kernel⟩
noncomputable abbrev ym:Stmt:=top 35
theorem zC9:zb ["text","words","many","good","ties","word"] ["text"] (zE ym):=⟨rfl,rfl,rfl,by decide +kernel,rfl,by decide +kernel,by decide +kernel⟩
noncomputable abbrev yq:Stmt:=top 36
theorem zCX:zb ["text","words","names"] ["text"] (zE yq):=⟨rfl,rfl,rfl,by decide +kernel,rfl,by decide +kernel,by decide +kernel⟩
noncomputable abbrev zAR:Stmt:=top 37
theorem zDW:zb ["state","text","way","at","sign","words","k","j"] ["state","text"] (zE zAR):=⟨rfl,rfl,rfl,by decide +kernel,rfl,by decide +kernel,by decide +kernel⟩
noncomputable abbrev zAS:Stmt:=top 38
theorem zEV:zb ["read","text","due"] ["read","text","due"] (zE zAS):=⟨rfl,rfl,rfl,by decide +kernel,rfl,by decide +kernel,by decide +kernel⟩
noncomputable abbrev zCY:Stmt:=top 39
theorem zLq:zb ["script","k","state","texts","turn","odd"] ["script"] (zE zCY):=⟨rfl,rfl,rfl,by decide +kernel,rfl,by decide +kernel,by decide +kernel⟩
section
variable {P:Program} {w:World} {K:PySem.W.Frag} {mg:Str->Option Value} {base:Heap}
theorem zQN:zLJ yK ["call","error","e","kinds"] ((zU yK).drop 2):=⟨⟨_,_,_,_,_,_,_,_,_,_,_,_,_,rfl⟩,rfl,rfl,rfl,by decide +kernel,by decide +kernel,by decide +kernel,by decide +kernel⟩
theorem zNT{C0 aB aO aC aI aa f e:Addr}{cdv:Value}{A:Around}{outer:List Env}{s:Shared}{H:Hp}{oe:Obj}{b_TooMany b_NoTie b_NoSplit b_NoName b_BadNote:Bool}(ac:mg "isinstance"=none)(aD:mg "ValueError"=none)(ah:mg "range"=none)(aR:mg "TooMany"=some (.ref aB))(bD:mg "NoTie"=some (.ref aO))(aS:mg "NoSplit"=some (.ref aC))(bc:mg "NoName"=some (.ref aI))(ai:mg "BadNote"=some (.ref aa))(xk:zEd K C0)(hcl:oe.cls=.ref C0)(bZ:PySem.W.kitOne K (.ref C0) (.ref aB)=some b_TooMany)(cx:PySem.W.kitOne K (.ref C0) (.ref aO)=some b_NoTie)(ca:PySem.W.kitOne K (.ref C0) (.ref aC)=some b_NoSplit)(ce:PySem.W.kitOne K (.ref C0) (.ref aI)=some b_NoName)(cb:PySem.W.kitOne K (.ref C0) (.ref aa)=some b_BadNote)(qV:PySem.W.kitOne K (.ref C0) (.type "ValueError")=some true):Ps2 (zJb (zBr CX0 P w K mg base ["call","error","e","kinds"] "_law_refused" (zE yK) f cdv A outer s H E0).nox e oe) ((zU yK).drop 2) (zBP e b_TooMany b_NoTie b_NoSplit b_NoName b_BadNote):=by
 have nd:=(zC8).nd;unfold zBP;exact(zM (zz 3 nd (yI (zAb (zB (zGd 1 xk dc hcl rfl ac rfl aR bZ) (zB (zGd 1 xk dc hcl rfl ac rfl bD cx) (zB (zGd 1 xk dc hcl rfl ac rfl aS ca) zK)))))) (zM (zz 3 nd (yI (zPt (zD 3) (yI (zAb (zB (zGd 1 xk dc hcl rfl ac rfl bc ce) (zB (zGd 1 xk dc hcl rfl ac rfl ai cb) zK))))))) (zM (zAB (wX (wW (zO5 1 xk dc hcl rfl ac rfl aD qV))) (zR (zk zCQ)) yE) (zR (zk (yI (zCO "k" rfl (zv (osc:=zE yK) (N:=["call","error","e","kinds"]) (N0:=["!00","!01","!02","kinds"]) (own:=["k"]) (by decide +kernel)) (zAt rfl ah (zB zL zK)) (fun _ _ _ _ _=>(zFT (wW (ya (zD 3) (zD 4))))) (fun _ _ _ _ _=>(zD 4)))))))))
theorem zGu{f aa:Addr}{fd:FuncData}(F:Fun K "web_read" "web_read" yc f fd)(hm:mg "web_read"=some (.ref f))(af:mg "len"=none)(ae:mg "tuple"=none) (aj:Df P w K mg base 1 "words_of" ["text"] (spL zd))(ak:Df P w K mg base 1 "figure" ["word"] zl)(aG:Df P w K mg base 2 "tie_read" ["word"] yX)(aJ:Df P w K mg base 3 "is_web" ["thing"] wG)(aH:Rz P w K mg base 1 "words_of" ["text"] yb aa)(ai:mg "BadNote"=some (.ref aa))(ao:zEd K aa):Rz P w K mg base 4 "web_read" ["text"] wd aa:=by
 have nd:=(zBB).nd;refine zLF zA8 F zBB hm (F.binds fun _ _ _ _ _ _ us hl=>us1 us hl fun _=>rfl) (fun cdv A outer s H E hr=>?_) zGl;unfold zA8;exact(zPA (zNq (zIW wk aH hr (by decide) rfl (zB (zD 0) zK))) (zPA (zGa wk (zz 1 nd (yI (zBV aj wc hr (by decide) rfl (zB (zD 0) zK)))) (zM3 wk (W2.test (w_or (zI4 (zAU rfl af (zB (zD 1) zK)) zL) (zBK (zEb hr (ya (zD 1) zL) yO)))) (x_raise wk rfl ai ao.ex0 yO))) (zGa wk (zz 1 nd (yI (zBV aj wc hr (by decide) rfl (zB (zD 0) zK)))) (zGa wk (zAB (W2.test (w_or (zI4 (zAU rfl af (zB (zD 1) zK)) zL) (zBK (zEb hr (ya (zD 1) zL) yO)))) (zR zKq) yE) (zGa wk (zz 2 nd (zBn (zB (za ak hr (by decide) rfl (zB (ya (zD 1) zL) zK)) (zB (zBX rfl ae (zCO "word" rfl (zv (osc:=zE yc) (N:=["text","words","web"]) (N0:=["!00","!01","!02"]) (own:=["word"]) (by decide +kernel)) (zDv (zDg (zD 1) (zAF zL) zAX)) (fun _ _ _ _ _=>wQ) (fun _ _ _ _ _=>(za aG hr (by decide) rfl (zB (zD 3) zK))))) zK)))) (zM3 wk (wX (wW (za aJ hr (by decide) rfl (zB (zD 2) zK)))) (x_raise wk rfl ai ao.ex0 yO)))))))
theorem zFv{f aa:Addr}{fd:FuncData}(F:Fun K "ring_read" "ring_read" yR f fd)(hm:mg "ring_read"=some (.ref f))(ae:mg "tuple"=none) (aj:Df P w K mg base 1 "words_of" ["text"] (spL zd))(ak:Df P w K mg base 1 "figure" ["word"] zl)(aK:Df P w K mg base 2 "is_ring" ["thing"] wH)(aH:Rz P w K mg base 1 "words_of" ["text"] yb aa)(ai:mg "BadNote"=some (.ref aa))(ao:zEd K aa):Rz P w K mg base 3 "ring_read" ["text"] wI aa:=by
 have nd:=(zAk).nd;refine zLF zAi F zAk hm (F.binds fun _ _ _ _ _ _ us hl=>us1 us hl fun _=>rfl) (fun cdv A outer s H E hr=>?_) zFq;unfold zAi;exact(zPA (zNq (zM8 rfl ae rfl (zM7 (zIW wk aH hr (by decide) rfl (zB (zD 0) zK))))) (zGa wk (zz 1 nd (zBX rfl ae (zCO "word" rfl (zv (osc:=zE yR) (N:=["text","ring"]) (N0:=["!00","!01"]) (own:=["word"]) (by decide +kernel)) (zDv (zBV aj wc hr (by decide) rfl (zB (zD 0) zK))) (fun _ _ _ _ _=>wQ) (fun _ _ _ _ _=>(za ak hr (by decide) rfl (zB (zD 2) zK)))))) (zM3 wk (wX (wW (za aK hr (by decide) rfl (zB (zD 1) zK)))) (x_raise wk rfl ai ao.ex0 yO))))
theorem zGv{f aa:Addr}{fd:FuncData}(F:Fun K "words_of" "words_of" wJ f fd)(hm:mg "words_of"=some (.ref f))(ac:mg "isinstance"=none)(aF:mg "str"=none) (ai:mg "BadNote"=some (.ref aa))(ao:zEd K aa):Rz P w K mg base 1 "words_of" ["text"] yb aa:=by
 have nd:=(zBC).nd;refine zLF zA7 F zBC hm (F.binds fun _ _ _ _ _ _ us hl=>us1 us hl fun _=>rfl) (fun cdv A outer s H E hr=>?_) zGj;unfold zA7;exact(zM3 wk (wX (wW (zDP (T:="str") rfl ac rfl aF (by decide +kernel) (zD 0)))) (x_raise wk rfl ai ao.ex0 yO))
theorem zFw{f:Addr}{fd:FuncData}(F:Fun K "is_number" "is_number" ww f fd)(hm:mg "is_number"=some (.ref f))(ac:mg "isinstance"=none)(aP:mg "int"=none)(bW:mg "bool"=none)   :Df P w K mg base 1 "is_number" ["thing"] zh:=by
 have nd:=(zC5).nd;refine yV zA4 F zC5 hm (F.binds fun _ _ _ _ _ _ us hl=>us1 us hl fun _=>rfl) (fun cdv A outer s H E hr=>?_) zGV;unfold zA4;exact(zR (zk (zKN (zDP (T:="int") rfl ac rfl aP (by decide +kernel) (zD 0)) (zKM (zPp (zDP (T:="bool") rfl ac rfl bW (by decide +kernel) (zD 0)))))))
theorem zEe{f:Addr}{fd:FuncData}(F:Fun K "is_rising" "is_rising" yo f fd)(hm:mg "is_rising"=some (.ref f))(bx:mg "all"=none)(ah:mg "range"=none)(af:mg "len"=none)   :Df P w K mg base 1 "is_rising" ["things"] wY:=by
 have nd:=(zCV).nd;refine yV zAg F zCV hm (F.binds fun _ _ _ _ _ _ us hl=>us1 us hl fun _=>rfl) (fun cdv A outer s H E hr=>?_) zFf;unfold zAg;exact(zR (zk (zIG rfl rfl bx (zCO "k" rfl (zv (osc:=zE yo) (N:=["things"]) (N0:=["things"]) (own:=["k"]) (by decide +kernel)) (zAt rfl ah (zB (zKO (zAU rfl af (zB (zD 0) zK)) zL) zK)) (fun _ _ _ _ _=>wQ) (fun _ _ _ _ _=>(zPz hr (ya (zD 0) (zD 1)) (ya (zD 0) (zBp (zD 1) zL))))))))
theorem zHw{f:Addr}{fd:FuncData}(F:Fun K "is_ring" "is_ring" wz f fd)(hm:mg "is_ring"=some (.ref f))(ac:mg "isinstance"=none)(ae:mg "tuple"=none)(af:mg "len"=none)(bx:mg "all"=none)(ah:mg "range"=none){ax:Tok}(aw:mg "MOST_PLACES"=some (.int 9 ax))  (am:Df P w K mg base 1 "is_number" ["thing"] zh):Df P w K mg base 2 "is_ring" ["thing"] wH:=by
 have nd:=(zEQ).nd;refine yV zCL F zEQ hm (F.binds fun _ _ _ _ _ _ us hl=>us1 us hl fun _=>rfl) (fun cdv A outer s H E hr=>?_) zJW;unfold zCL;exact(zM (zAB (W2.test (w_or (wX (wW (zDP (T:="tuple") rfl ac rfl ae (by decide +kernel) (zD 0)))) (zBK (wX (zNj zEi zEi (zAq fun _ _=>⟨rfl,rfl⟩) (zAq fun _ _=>⟨rfl,rfl⟩) zL (zAU rfl af (zB (zD 0) zK)) (zBv zL (zIF rfl aw))))))) (zR (zk zCj)) yE) (zM (zAB (wX (wW (zIG rfl rfl bx (zCO "place" rfl (zv (osc:=zE wz) (N:=["thing","many"]) (N0:=["!00","!01"]) (own:=["place"]) (by decide +kernel)) (zCR (zD 0)) (fun _ _ _ _ _=>wQ) (fun _ _ _ _ _=>(za am hr (by decide) rfl (zB (zD 2) zK))))))) (zR (zk zCj)) yE) (zM (zz 1 nd (zDw (zAU rfl af (zB (zD 0) zK)) zL)) (zR (zk (zKN (zMJ hr (zAU rfl af (zB (zD 0) zK)) (zBv zL (zD 1))) (zKM (zIG rfl rfl bx (zCO "place" rfl (zv (osc:=zE wz) (N:=["thing","many"]) (N0:=["thing","!01"]) (own:=["place"]) (by decide +kernel)) (zAt rfl ah (zB (zD 1) zK)) (fun _ _ _ _ _=>wQ) (fun _ _ _ _ _=>(zMJ hr (zKc hr (zD 0) (zB (zD 2) zK)) zL)))))))))))
theorem zHx{f:Addr}{fd:FuncData}(F:Fun K "is_web" "is_web" zAO f fd)(hm:mg "is_web"=some (.ref f))(ac:mg "isinstance"=none)(ae:mg "tuple"=none)(af:mg "len"=none)(bx:mg "all"=none){ax:Tok}(aw:mg "MOST_PLACES"=some (.int 9 ax))  (am:Df P w K mg base 1 "is_number" ["thing"] zh)(bF:Df P w K mg base 2 "is_tie" ["many","thing"] wF)(aU:Df P w K mg base 1 "is_rising" ["things"] wY):Df P w K mg base 3 "is_web" ["thing"] wG:=by
 have nd:=(zER).nd;refine yV zCK F zER hm (F.binds fun _ _ _ _ _ _ us hl=>us1 us hl fun _=>rfl) (fun cdv A outer s H E hr=>?_) zJU;unfold zCK;exact(zM (zAB (W2.test (w_or (wX (wW (zDP (T:="tuple") rfl ac rfl ae (by decide +kernel) (zD 0)))) (zBK (zEb hr (zAU rfl af (zB (zD 0) zK)) zL)))) (zR (zk zCj)) yE) (zM (zz 1 nd (ya (zD 0) zL)) (zM (zz 2 nd (ya (zD 0) zL)) (zM (zAB (W2.test (w_or (wX (wW (za am hr (by decide) rfl (zB (zD 1) zK)))) (zBK (wX (zNj zEi zEi (zAq fun _ _=>⟨rfl,rfl⟩) (zAq fun _ _=>⟨rfl,rfl⟩) zL (zD 1) (zIF rfl aw)))))) (zR (zk zCj)) yE) (zM (zAB (wX (wW (zDP (T:="tuple") rfl ac rfl ae (by decide +kernel) (zD 2)))) (zR (zk zCj)) yE) (zR (zk (zKN (zIG rfl rfl bx (zCO "tie" rfl (zv (osc:=zE zAO) (N:=["thing","many","ties"]) (N0:=["!00","many","!02"]) (own:=["tie"]) (by decide +kernel)) (zCR (zD 2)) (fun _ _ _ _ _=>wQ) (fun _ _ _ _ _=>(za bF hr (by decide) rfl (zB (zD 1) (zB (zD 3) zK)))))) (zKM (za aU hr (by decide) rfl (zB (zD 2) zK)))))))))))
theorem zHy{f:Addr}{fd:FuncData}(F:Fun K "is_tie" "is_tie" zAm f fd)(hm:mg "is_tie"=some (.ref f))(ac:mg "isinstance"=none)(ae:mg "tuple"=none)(af:mg "len"=none)   (am:Df P w K mg base 1 "is_number" ["thing"] zh):Df P w K mg base 2 "is_tie" ["many","thing"] wF:=by
 have nd:=(zES).nd;refine yV zCJ F zES hm (F.binds fun _ _ _ _ _ _ us hl=>us2 us hl fun _ _=>rfl) (fun cdv A outer s H E hr=>?_) zJT;unfold zCJ;exact(zM (zAB (W2.test (w_or (wX (wW (zDP (T:="tuple") rfl ac rfl ae (by decide +kernel) (zD 1)))) (zBK (zEb hr (zAU rfl af (zB (zD 1) zK)) zL)))) (zR (zk zCj)) yE) (zM (zAB (W2.test (w_or (wX (wW (za am hr (by decide) rfl (zB (ya (zD 1) zL) zK)))) (zBK (wX (wW (za am hr (by decide) rfl (zB (ya (zD 1) zL) zK))))))) (zR (zk zCj)) yE) (zR (zk (zPy zEi zJ1 zJ1 (zAq fun _ _=>⟨rfl,rfl⟩) (zAq fun _ _=>⟨rfl,rfl⟩) (zAq fun _ _=>⟨rfl,rfl⟩) zL (ya (zD 1) zL) (ya (zD 1) zL) (zD 0))))))
theorem zGw{f:Addr}{fd:FuncData}(F:Fun K "web_read" "web_read" yc f fd)(hm:mg "web_read"=some (.ref f))(af:mg "len"=none)(ae:mg "tuple"=none)   (aj:Df P w K mg base 1 "words_of" ["text"] (spL zd))(ak:Df P w K mg base 1 "figure" ["word"] zl)(aG:Df P w K mg base 2 "tie_read" ["word"] yX)(aJ:Df P w K mg base 3 "is_web" ["thing"] wG):Df P w K mg base 4 "web_read" ["text"] wq:=by
 have nd:=(zBB).nd;refine yV zBk F zBB hm (F.binds fun _ _ _ _ _ _ us hl=>us1 us hl fun _=>rfl) (fun cdv A outer s H E hr=>?_) zHp;unfold zBk;exact(zM (zz 1 nd (yI (zBV aj wc hr (by decide) rfl (zB (zD 0) zK)))) (zM (zAB (W2.test (w_or (zI4 (zAU rfl af (zB (zD 1) zK)) zL) (zBK (zEb hr (ya (zD 1) zL) yO)))) (zR zKq) yE) (zM (zz 2 nd (zBn (zB (za ak hr (by decide) rfl (zB (ya (zD 1) zL) zK)) (zB (zBX rfl ae (zCO "word" rfl (zv (osc:=zE yc) (N:=["text","words","web"]) (N0:=["!00","!01","!02"]) (own:=["word"]) (by decide +kernel)) (zDv (zDg (zD 1) (zAF zL) zAX)) (fun _ _ _ _ _=>wQ) (fun _ _ _ _ _=>(za aG hr (by decide) rfl (zB (zD 3) zK))))) zK)))) (zM (zAB (wX (wW (za aJ hr (by decide) rfl (zB (zD 2) zK)))) (zR zKq) yE) (zR (zk (zD 2)))))))
theorem zGx{f:Addr}{fd:FuncData}(F:Fun K "tie_read" "tie_read" zAP f fd)(hm:mg "tie_read"=some (.ref f))    (ak:Df P w K mg base 1 "figure" ["word"] zl):Df P w K mg base 2 "tie_read" ["word"] yX:=by
 have nd:=(zDU).nd;refine yV zBj F zDU hm (F.binds fun _ _ _ _ _ _ us hl=>us1 us hl fun _=>rfl) (fun cdv A outer s H E hr=>?_) zHk;unfold zBj;exact(zR (zk (zNk (zDz hr (zAG (zD 0) (zAF zL) (zAF zL)) yO) (zBn (zB (za ak hr (by decide) rfl (zB (zAG (zD 0) zAX (zAF zL)) zK)) (zB (za ak hr (by decide) rfl (zB (zAG (zD 0) (zAF zL) zAX) zK)) zK))) zCQ)))
theorem zFx{f:Addr}{fd:FuncData}(F:Fun K "ring_read" "ring_read" yR f fd)(hm:mg "ring_read"=some (.ref f))(ae:mg "tuple"=none)   (aj:Df P w K mg base 1 "words_of" ["text"] (spL zd))(ak:Df P w K mg base 1 "figure" ["word"] zl)(aK:Df P w K mg base 2 "is_ring" ["thing"] wH):Df P w K mg base 3 "ring_read" ["text"] wN:=by
 have nd:=(zAk).nd;refine yV zA9 F zAk hm (F.binds fun _ _ _ _ _ _ us hl=>us1 us hl fun _=>rfl) (fun cdv A outer s H E hr=>?_) zGn;unfold zA9;exact(zM (zz 1 nd (zBX rfl ae (zCO "word" rfl (zv (osc:=zE yR) (N:=["text","ring"]) (N0:=["!00","!01"]) (own:=["word"]) (by decide +kernel)) (zDv (zBV aj wc hr (by decide) rfl (zB (zD 0) zK))) (fun _ _ _ _ _=>wQ) (fun _ _ _ _ _=>(za ak hr (by decide) rfl (zB (zD 2) zK)))))) (zM (zAB (wX (wW (za aK hr (by decide) rfl (zB (zD 1) zK)))) (zR zKq) yE) (zR (zk (zD 1)))))
theorem zGy{f:Addr}{fd:FuncData}(F:Fun K "words_of" "words_of" wJ f fd)(hm:mg "words_of"=some (.ref f))(ac:mg "isinstance"=none)(aF:mg "str"=none)   :Df P w K mg base 1 "words_of" ["text"] (spL zd):=by
 have nd:=(zBC).nd;refine yV zBi F zBC hm (F.binds fun _ _ _ _ _ _ us hl=>us1 us hl fun _=>rfl) (fun cdv A outer s H E hr=>?_) zHj;unfold zBi;exact(zM (zAB (wX (wW (zDP (T:="str") rfl ac rfl aF (by decide +kernel) (zD 0)))) (zR zKq) yE) (zR (zk (yI (zDh (zD 0) (zB yO zK))))))
theorem zJr{f:Addr}{fd:FuncData}(F:Fun K "figure" "figure" zBQ f fd)(hm:mg "figure"=some (.ref f))(af:mg "len"=none)(aP:mg "int"=none)  {bz:Tok}(bG:mg "FIGURES"=some (.str "0123456789" bz)):Df P w K mg base 1 "figure" ["word"] zl:=by
 have nd:=(zFG).nd;refine yV zC2 F zFG hm (F.binds fun _ _ _ _ _ _ us hl=>us1 us hl fun _=>rfl) (fun cdv A outer s H E hr=>?_) zLd;unfold zC2;exact(zR (zk (zNk (W2.test (w_and (zDz hr (zGR rfl af (zB (zD 0) zK)) zL) (zHD (zP3 (zD 0) (zMh rfl bG))))) (zD7 rfl aP (zB (zD 0) zK)) zCQ)))
theorem zFy{f:Addr}{fd:FuncData}(F:Fun K "_law_cell_at" "_law_cell_at" zAA f fd)(hm:mg "_law_cell_at"=some (.ref f))(af:mg "len"=none)   :Df P w K mg base 1 "_law_cell_at" ["script","k"] zAH:=by
 have nd:=(zC6).nd;refine yV zA3 F zC6 hm (F.binds fun _ _ _ _ _ _ us hl=>us2 us hl fun _ _=>rfl) (fun cdv A outer s H E hr=>?_) zGS;unfold zA3;exact(zM (zAB (zI4 (zD 1) (zAU rfl af (zB (zD 0) zK))) (zR (zk (ya (zD 0) (zD 1)))) yE) (zR (zk zL)))
theorem zHz{f:Addr}{fd:FuncData}(F:Fun K "_law_state" "_law_state" zAn f fd)(hm:mg "_law_state"=some (.ref f))    (bf:Df P w K mg base 1 "_law_cell_at" ["script","k"] zAH):Df P w K mg base 2 "_law_state" ["script","k"] (spL yn):=by
 have nd:=(zET).nd;refine yV zCG F zET hm (F.binds fun _ _ _ _ _ _ us hl=>us2 us hl fun _ _=>rfl) (fun cdv A outer s H E hr=>?_) zJM;unfold zCG;exact(zM (zz 2 nd (za bf hr (by decide) rfl (zB (zD 0) (zB (zD 1) zK)))) (zM (zAB (zQf (zD 2) (zNc zL zL)) (zR (zk (yI (zAb (zB (zKO (zD 2) (zNc zL zL)) (zB zCj zK)))))) yE) (zR (zk (yI (zAb (zB (zEs (zD 2) zL) (zB zCj zK))))))))
theorem zJs{f:Addr}{fd:FuncData}(F:Fun K "_law_take" "_law_take" zBR f fd)(hm:mg "_law_take"=some (.ref f))    :Df P w K mg base 1 "_law_take" ["state","many"] zj:=by
 have nd:=(zFH).nd;refine yV zCs F zFH hm (F.binds fun _ _ _ _ _ _ us hl=>us2 us hl fun _ _=>rfl) (fun cdv A outer s H E hr=>?_) zKz;unfold zCs;exact(zM (zAB (wW (ya (zD 0) zL)) (zM (zz 2 nd (zEs (ya (zD 0) zL) (zD 1))) (zM (zKH (zDw (ya (zD 0) zL) (zD 1)) (zOX (zD 0) zL)) (zR (zk (zD 2))))) yE) (zM (zKH (zEs (zBp (zBv (ya (zD 0) zL) zL) zL) zL) (zOX (zD 0) zL)) (zM (zz 3 nd (zEs (zBp (zBp (zBv (ya (zD 0) zL) (ya (zD 0) zL)) (zBv zL (ya (zD 0) zL))) zL) zL)) (zM (zz 3 nd (zEs (zBp (zBv (zD 3) (zD 3)) (zBv zL (zD 3))) zL)) (zR (zk (zEs (zDw (zD 3) zL) (zD 1))))))))
theorem zH0{f:Addr}{fd:FuncData}(F:Fun K "_law_pairs" "_law_pairs" zAQ f fd)(hm:mg "_law_pairs"=some (.ref f))(ah:mg "range"=none)   :Df P w K mg base 1 "_law_pairs" ["many"] (spL yF):=by
 have nd:=(zEU).nd;refine yV zCH F zEU hm (F.binds fun _ _ _ _ _ _ us hl=>us1 us hl fun _=>rfl) (fun cdv A outer s H E hr=>?_) zJO;unfold zCH;exact(zM (zz 1 nd (yI (zAb zK))) (zM (zD2 PassesOwn.never rfl (zAt rfl ah (zB (zD 0) zK)) (zFS 2 nd) (zR (zDE (zKV (zD 1) (zCO "other" rfl (zv (osc:=zE zAQ) (N:=["many","found","one"]) (N0:=["!00","!01","one"]) (own:=["other"]) (by decide +kernel)) (zKK rfl ah (zB (zBp (zD 2) zL) (zB (zD 0) zK))) (fun _ _ _ _ _=>wQ) (fun _ _ _ _ _=>(zBn (zB (zD 2) (zB (zD 3) zK))))))))) (zR (zk (zD 1)))))
theorem zLr{f:Addr}{fd:FuncData}(F:Fun K "_law_web" "_law_web" zBD f fd)(hm:mg "_law_web"=some (.ref f))(ae:mg "tuple"=none)   (ag:Df P w K mg base 1 "_law_take" ["state","many"] zj)(az:Df P w K mg base 1 "_law_pairs" ["many"] (spL yF))(aT:Df P w K mg base 2 "_law_ring" ["state","many"] wp)(bA:Df P w K mg base 2 "_law_web_of" ["ring"] zAW):Df P w K mg base 3 "_law_web" ["state","most"] zB1:=by
 have nd:=(zGt).nd;refine yV zDi F zGt hm (F.binds fun _ _ _ _ _ _ us hl=>us2 us hl fun _ _=>rfl) (fun cdv A outer s H E hr=>?_) zMm;unfold zDi;exact(zM (zz 2 nd (zBp zL (za ag hr (by decide) rfl (zB (zD 0) (zB (zD 1) zK))))) (zM (zz 3 nd (za ag hr (by decide) rfl (zB (zD 0) (zB zL zK)))) (zM (zz 4 nd (yI (zBV az zBc hr (by decide) rfl (zB (zD 2) zK)))) (zM (zAB (zDz hr (zD 3) zL) (zR (zk (za bA hr (by decide) rfl (zB (za aT hr (by decide) rfl (zB (zD 0) (zB (zD 2) zK))) zK)))) yE) (zM (zAB (zDz hr (zD 3) zL) (zR (zk (zBn (zB (zD 2) (zB (zBX rfl ae (zCO "pair" rfl (zv (osc:=zE zBD) (N:=["state","most","many","way","pairs","far"]) (N0:=["state","!01","!02","!03","!04","!05"]) (own:=["pair"]) (by decide +kernel)) (zCR (zD 4)) (fun _ _ _ _ _=>(zFT (W2.test (w_or (zDz hr (ya (zD 6) zL) (zBp (ya (zD 6) zL) zL)) (zBK (zDz hr (za ag hr (by decide) rfl (zB (zD 0) (zB zL zK))) zL)))))) (fun _ _ _ _ _=>(zD 6)))) zK))))) yE) (zM (zz 5 nd (ya (yI (zAb (zB zL (zB zL (zB zL zK))))) (zKO (zD 3) zL))) (zR (zk (zBn (zB (zD 2) (zB (zBX rfl ae (zCO "pair" rfl (zv (osc:=zE zBD) (N:=["state","most","many","way","pairs","far"]) (N0:=["state","!01","!02","!03","!04","far"]) (own:=["pair"]) (by decide +kernel)) (zCR (zD 4)) (fun _ _ _ _ _=>(zFT (zDz hr (za ag hr (by decide) rfl (zB (zD 0) (zB (zD 5) zK))) zL))) (fun _ _ _ _ _=>(zD 6)))) zK)))))))))))
theorem zJt{f:Addr}{fd:FuncData}(F:Fun K "_law_ring" "_law_ring" zA0 f fd)(hm:mg "_law_ring"=some (.ref f))(aV:mg "list"=none)(ah:mg "range"=none)(ae:mg "tuple"=none)(af:mg "len"=none)   (ag:Df P w K mg base 1 "_law_take" ["state","many"] zj):Df P w K mg base 2 "_law_ring" ["state","many"] wp:=by
 have nd:=(zFI).nd;refine yV zCt F zFI hm (F.binds fun _ _ _ _ _ _ us hl=>us2 us hl fun _ _=>rfl) (fun cdv A outer s H E hr=>?_) zK3;unfold zCt;exact(zM (zz 2 nd (yI (zNe (yI (zMN rfl rfl aV rfl ah (zB (zD 1) zK))) zL))) (zR (zk (zBX rfl ae (zCO "k" rfl (zv (osc:=zE zA0) (N:=["state","many","left"]) (N0:=["state","!01","left"]) (own:=["k"]) (by decide +kernel)) (zAt rfl ah (zB (zBv zL (zD 1)) zK)) (fun _ _ _ _ _=>wQ) (fun _ _ _ _ _=>(zKW (zD 2) (zB (za ag hr (by decide) rfl (zB (zD 0) (zB (zAU rfl af (zB (zD 2) zK)) zK))) zK))))))))
theorem zGz{f:Addr}{fd:FuncData}(F:Fun K "_law_web_of" "_law_web_of" wn f fd)(hm:mg "_law_web_of"=some (.ref f))(af:mg "len"=none)(ae:mg "tuple"=none)   (az:Df P w K mg base 1 "_law_pairs" ["many"] (spL yF)):Df P w K mg base 2 "_law_web_of" ["ring"] zAW:=by
 have nd:=(zDV).nd;refine yV zBd F zDV hm (F.binds fun _ _ _ _ _ _ us hl=>us1 us hl fun _=>rfl) (fun cdv A outer s H E hr=>?_) zHU;unfold zBd;exact(zM (zz 1 nd (zDw (zAU rfl af (zB (zD 0) zK)) zL)) (zM (zz 2 nd (yI (zAb zK))) (zM (zD2 PassesOwn.never rfl (zDv (zBV az zBc hr (by decide) rfl (zB (zD 1) zK))) (zPm 3 4 rfl nd) (zM (zIB 5 "place" rfl (zv (osc:=zE wn) (N:=["ring","many","found","one","other","some"]) (N0:=["!00","!01","!02","one","other","!05"]) (own:=["place"]) (by decide +kernel)) (zCR (zD 0)) (fun _ _ _ _ _=>(zFT (zQg hr (zD 6) (zBn (zB (zD 3) (zB (zD 4) zK)))))) (fun _ _ _ _ _=>(zD 6)) nd) (zR (zAB (W2.test (w_and (zEb hr (ya (zD 5) zL) (ya (zD 5) zL)) (zHD (zEb hr (ya (zD 5) zL) (ya (zD 5) zL))))) (zR (zDE (zGE (zD 2) (zB (zBn (zB (zD 3) (zB (zD 4) zK))) zK)))) yE)))) (zR (zk (zBn (zB (zD 1) (zB (zMM rfl ae (zB (zD 2) zK)) zK))))))))
theorem zEf{f:Addr}{fd:FuncData}(F:Fun K "_law_web_text" "_law_web_text" yp f fd)(hm:mg "_law_web_text"=some (.ref f))(aF:mg "str"=none)   :Df P w K mg base 1 "_law_web_text" ["web"] wZ:=by
 have nd:=(zCW).nd;refine yV zAh F zCW hm (F.binds fun _ _ _ _ _ _ us hl=>us1 us hl fun _=>rfl) (fun cdv A outer s H E hr=>?_) zFl;unfold zAh;exact(zR (zk (zAZ (zAZ (zDF rfl aF (zB (ya (zD 0) zL) zK)) yO) (zIP (zQh "one" "other" rfl (zv (osc:=zE yp) (N:=["web"]) (N0:=["!00"]) (own:=["one","other"]) (by decide +kernel)) (zCR (ya (zD 0) zL)) (fun _ _ _ _ _=>wQ) (fun _ _ _ _ _=>(zAZ (zAZ (zAZ yO (zDF rfl aF (zB (zD 1) zK))) yO) (zDF rfl aF (zB (zD 2) zK)))))))))
theorem zFz{f:Addr}{fd:FuncData}(F:Fun K "_law_numbers" "_law_numbers" wK f fd)(hm:mg "_law_numbers"=some (.ref f))(aF:mg "str"=none)   :Df P w K mg base 1 "_law_numbers" ["some"] zAJ:=by
 have nd:=(zC7).nd;refine yV zA6 F zC7 hm (F.binds fun _ _ _ _ _ _ us hl=>us1 us hl fun _=>rfl) (fun cdv A outer s H E hr=>?_) zGX;unfold zA6;exact(zR (zk (zIP (zCO "one" rfl (zv (osc:=zE wK) (N:=["some"]) (N0:=["!00"]) (own:=["one"]) (by decide +kernel)) (zCR (zD 0)) (fun _ _ _ _ _=>wQ) (fun _ _ _ _ _=>(zDF rfl aF (zB (zD 1) zK)))))))
theorem zF0{f:Addr}{fd:FuncData}(F:Fun K "_law_web_due" "_law_web_due" ym f fd)(hm:mg "_law_web_due"=some (.ref f))(af:mg "len"=none)(aV:mg "list"=none)(aP:mg "int"=none)(aF:mg "str"=none)(ae:mg "tuple"=none)   (az:Df P w K mg base 1 "_law_pairs" ["many"] (spL yF)):Df P w K mg base 2 "_law_web_due" ["text"] yY:=by
 have nd:=(zC9).nd;refine yV zBA F zC9 hm (F.binds fun _ _ _ _ _ _ us hl=>us1 us hl fun _=>rfl) (fun cdv A outer s H E hr=>?_) zGs;unfold zBA;exact(zM (zz 1 nd (yI (zDh (zD 0) (zB yO zK)))) (zM (zAB (W2.test (w_or (zI4 (zAU rfl af (zB (zD 1) zK)) zL) (w_or (zH9 hr (ya (zD 1) zL) (yI (zIa rfl rfl aV (zB yO zK)))) (zBK (zEb hr (ya (zD 1) zL) yO))))) (zR (zk zCQ)) yE) (zM (zz 2 nd (zD7 rfl aP (zB (ya (zD 1) zL) zK))) (zM (zMc 3 "one" "other" rfl (zv (osc:=zE ym) (N:=["text","words","many","good","ties","word"]) (N0:=["!00","!01","!02","!03","!04","!05"]) (own:=["one","other"]) (by decide +kernel)) (zDv (zBV az zBc hr (by decide) rfl (zB (zD 2) zK))) (fun _ _ _ _ _=>wQ) (fun _ _ _ _ _=>(zAZ (zAZ (zDF rfl aF (zB (zD 6) zK)) yO) (zDF rfl aF (zB (zD 7) zK)))) nd) (zM (zz 4 nd (yI (zAb zK))) (zM (zD2 PassesOwn.never rfl (zDv (zDg (zD 1) (zAF zL) zAX)) (zFS 5 nd) (zM (zAB (W2.test (w_or (zH9 hr (zD 5) (zD 3)) (zBK (W2.test (w_and (zEb hr (zD 4) (yI (zAb zK))) (zHD (zQe (zGJ hr (zD 3) (zB (zD 5) zK)) (zGJ hr (zD 3) (zB (ya (zD 4) (zP0 zL)) zK))))))))) (zR (zk zCQ)) yE) (zR (zDE (zGE (zD 4) (zB (zD 5) zK)))))) (zR (zk (zBn (zB (zD 2) (zB (zBX rfl ae (zCO "word" rfl (zv (osc:=zE ym) (N:=["text","words","many","good","ties","word"]) (N0:=["!00","!01","!02","!03","!04","!05"]) (own:=["word"]) (by decide +kernel)) (zCR (zD 4)) (fun _ _ _ _ _=>wQ) (fun _ _ _ _ _=>(zBn (zB (zD7 rfl aP (zB (zLR (zD 6) zL) zK)) (zB (zD7 rfl aP (zB (zLR (zD 6) zL) zK)) zK)))))) zK)))))))))))
theorem zEg{f:Addr}{fd:FuncData}(F:Fun K "_law_ring_due" "_law_ring_due" yq f fd)(hm:mg "_law_ring_due"=some (.ref f))(aV:mg "list"=none)(af:mg "len"=none)(bE:mg "sorted"=none)(ae:mg "tuple"=none)(aP:mg "int"=none)   :Df P w K mg base 1 "_law_ring_due" ["text"] yQ:=by
 have nd:=(zCX).nd;refine yV zAj F zCX hm (F.binds fun _ _ _ _ _ _ us hl=>us1 us hl fun _=>rfl) (fun cdv A outer s H E hr=>?_) zFu;unfold zAj;exact(zM (zz 1 nd (yI (zDh (zD 0) (zB yO zK)))) (zM (zz 2 nd (yI (zDg (yI (zIa rfl rfl aV (zB yO zK))) zAX (zAF (zDw (zAU rfl af (zB (zD 1) zK)) zL))))) (zM (zAB (W2.test (w_or (zEb hr (yI (zNC rfl bE (zB (zD 1) zK))) (yI (zLS rfl bE (zNe (zD 2) zL)))) (zBK (zDz hr (zD 2) (yI (zAb zK)))))) (zR (zk zCQ)) yE) (zR (zk (zBX rfl ae (zCO "word" rfl (zv (osc:=zE yq) (N:=["text","words","names"]) (N0:=["!00","!01","!02"]) (own:=["word"]) (by decide +kernel)) (zCR (zD 1)) (fun _ _ _ _ _=>wQ) (fun _ _ _ _ _=>(zD7 rfl aP (zB (zD 3) zK))))))))))
theorem zG0{f:Addr}{fd:FuncData}(F:Fun K "_law_bent" "_law_bent" zAR f fd)(hm:mg "_law_bent"=some (.ref f))(af:mg "len"=none)   (ag:Df P w K mg base 1 "_law_take" ["state","many"] zj):Df P w K mg base 2 "_law_bent" ["state","text"] wv:=by
 have nd:=(zDW).nd;refine yV zBm F zDW hm (F.binds fun _ _ _ _ _ _ us hl=>us2 us hl fun _ _=>rfl) (fun cdv A outer s H E hr=>?_) zHt;unfold zBm;exact(zM (zz 2 nd (za ag hr (by decide) rfl (zB (zD 0) (zB zL zK)))) (zM (zz 3 nd (za ag hr (by decide) rfl (zB (zD 0) (zB (zBp (zGR rfl af (zB (zD 1) zK)) zL) zK)))) (zM (zz 4 nd (zLR yO (za ag hr (by decide) rfl (zB (zD 0) (zB zL zK))))) (zM (zAB (zI4 (zD 2) zL) (zR (zk (ya (yI (zAb (zB (zAZ (zAG (zD 1) zAX (zAF (zD 3))) (zAG (zD 1) (zAF (zBp (zD 3) zL)) zAX)) (zB (zAZ (zAZ (zAG (zD 1) zAX (zAF (zD 3))) (zD 4)) (zAG (zD 1) (zAF (zD 3)) zAX)) (zB (zAZ (zAZ (zAG (zD 1) zAX (zAF (zD 3))) (zD 4)) (zAG (zD 1) (zAF (zBp (zD 3) zL)) zAX)) (zB (zD 1) zK)))))) (zD 2)))) yE) (zM (zz 5 nd (yI (zDh (zD 1) (zB yO zK)))) (zM (zz 6 nd (za ag hr (by decide) rfl (zB (zD 0) (zB (zAU rfl af (zB (zD 5) zK)) zK)))) (zM (zz 7 nd (za ag hr (by decide) rfl (zB (zD 0) (zB (zAU rfl af (zB (zD 5) zK)) zK)))) (zM (zAB (zDz hr (zD 2) zL) (zR (zDE (zKW (zD 5) (zB (zD 6) zK)))) (zR (zAB (zDz hr (zD 2) zL) (zR (zDE (zGf (zD 5) (zB (zD 7) (zB (ya (zD 5) (zD 6)) zK))))) (zR (zAB (zDz hr (zD 2) zL) (zR (zDE (zGf (zD 5) (zB (zD 7) (zB (zKW (zD 5) (zB (zD 6) zK)) zK))))) (@zR _ _ _ (@zKH _ _ _ _ _ _ (@ya _ _ _ _ _ _ (@yI _ _ _ (@zAb _ _ _ _ (@zB _ _ _ _ _ yO (@zB _ _ _ _ _ yO (@zB _ _ _ _ _ yO (@zB _ _ _ _ _ yO (@zB _ _ _ _ _ yO (@zB _ _ _ _ _ yO (@zB _ _ _ _ _ yO (@zB _ _ _ _ _ yO (@zB _ _ _ _ _ yO (@zB _ _ _ _ _ yO (@zB _ _ _ _ _ yO (@zB _ _ _ _ _ yO zK rfl) rfl) rfl) rfl) rfl) rfl) rfl) rfl) rfl) rfl) rfl) rfl))) (za ag hr (by decide) rfl (zB (zD 0) (zB zL zK))) (by intro _ _;rfl)) (zOX (zD 5) (zD 6)) rfl rfl rfl))))))) (zR (zk (zMi (zB (zD 5) zK))))))))))))
theorem zH1{f:Addr}{fd:FuncData}(F:Fun K "_law_right" "_law_right" zAS f fd)(hm:mg "_law_right"=some (.ref f))(ac:mg "isinstance"=none)(aD:mg "ValueError"=none)(ah:mg "range"=none)   (aA:Df P w K mg base 4 "web_read" ["text"] wq)(ay:Df P w K mg base 3 "ring_read" ["text"] wN){aE aB aO aC aI aa:Addr}(aW:mg "ChordError"=some (.ref aE))(aR:mg "TooMany"=some (.ref aB))(bD:mg "NoTie"=some (.ref aO))(aS:mg "NoSplit"=some (.ref aC))(bc:mg "NoName"=some (.ref aI))(ai:mg "BadNote"=some (.ref aa)){fR:Addr}{fdR:FuncData}(FR:Fun K "_law_refused" "_law_refused" yK fR fdR)(mR:mg "_law_refused"=some (.ref fR))(bR:Binds K fdR ["call"] []){tc tP:Addr}(hco:fd.code=.ref tc)(hCH:PySem.W.CodeHd base tc tP)(hBA:BMn base mg)(hTB:PySem.W.tabIn K "_law_right"=some (tc,tP))(ao:zEd K aa)(aM:PySem.W.exmOne K (.ref aa) (.ref aE)=some true)(ap:PySem.W.kitOne K (.ref aa) (.ref aB)=some false)(av:PySem.W.kitOne K (.ref aa) (.ref aO)=some false)(aq:PySem.W.kitOne K (.ref aa) (.ref aC)=some false)(au:PySem.W.kitOne K (.ref aa) (.ref aI)=some false)(ar:PySem.W.kitOne K (.ref aa) (.ref aa)=some true)(aN:PySem.W.kitOne K (.ref aa) (.type "ValueError")=some true)(bB:Rz P w K mg base 4 "web_read" ["text"] wd aa)(bg:Rz P w K mg base 3 "ring_read" ["text"] wI aa) :Df P w K mg base 7 "_law_right" ["read","text","due"] (yN (fnA mg "web_read") (fnA mg "ring_read")):=by
 have nd:=(zEV).nd;have hbb:=(F.binds (ps:=["read","text","due"]) fun _ _ _ _ _ _ us hl=>us3 us hl fun _ _ _=>rfl);refine⟨f,fd,zO8 (wO (fnA mg "web_read") (fnA mg "ring_read")) F zEV (fun cdv A outer s H E hcd hr=>?_) (zJn (fnA mg "web_read") (fnA mg "ring_read")),hm,F.kp,hbb⟩;unfold wO;exact(zM (zAB (zP2 (zD 2) zCQ) (zR (zk (zMJ hr (yI (zPG (k:=4) FR zC8 mR bR (hr.mono (by decide)) rfl zQN aW aM (fun cdv A outer s H e oe _ hcl=>zNT ac aD ah aR bD aS bc ai ao hcl ap av aq au ar aN) zGi (zQD (osc:=zE zAS) (by decide +kernel) (hcd.symm.trans hco) hCH hBA hTB (by decide) rfl rfl (fun _ _ _ _ _=>rfl)) (fun g cv A outer s H hr2=>zLQ zM5 (zD 0) bB bg hr2 (by decide) (by decide) (zB (zD 1) zK)))) (yI (zAb (zB zL zK)))))) yE) (zR (zk (zMJ hr (zM9 (zD 0) aA ay hr (by decide) (by decide) (zB (zD 1) zK)) (zD 2)))))
theorem zPQ{f:Addr}{fd:FuncData}(F:Fun K "law" "law" zCY f fd)(ah:mg "range"=none)(cf:mg "max"=none)(cg:mg "min"=none)(af:mg "len"=none)   (bH:Df P w K mg base 2 "_law_state" ["script","k"] (spL yn))(bS:Df P w K mg base 3 "_law_web" ["state","most"] zB1)(aX:Df P w K mg base 1 "_law_web_text" ["web"] wZ)(ag:Df P w K mg base 1 "_law_take" ["state","many"] zj)(aT:Df P w K mg base 2 "_law_ring" ["state","many"] wp)(bh:Df P w K mg base 1 "_law_numbers" ["some"] zAJ)(aA:Df P w K mg base 4 "web_read" ["text"] wq)(bi:Df P w K mg base 2 "_law_web_due" ["text"] yY)(aL:Df P w K mg base 7 "_law_right" ["read","text","due"] (yN (fnA mg "web_read") (fnA mg "ring_read")))(ay:Df P w K mg base 3 "ring_read" ["text"] wN)(aY:Df P w K mg base 1 "_law_ring_due" ["text"] yQ)(bC:Df P w K mg base 2 "_law_bent" ["state","text"] wv):zCa P w K mg base CX0 8 f fd ["script"] (lSp K zEx):=by
 have nd:=zLq.nd;refine zOi (zIp (fnA mg "web_read") (fnA mg "ring_read")) F zLq (fun cdv A outer s H E hr=>?_) (zQM (fnA mg "web_read") (fnA mg "ring_read"));unfold zIp;exact(zM (zD2 PassesOwn.never rfl (zAt rfl ah (zB (zPr rfl rfl cf (zB zL (zB (zPq rfl rfl cg (zB (zAU rfl af (zB (zD 0) zK)) (zB zL zK))) zK))) zK)) (zFS 1 nd) (zM (zz 2 nd (yI (zBV bH zFb hr (by decide) rfl (zB (zD 0) (zB (zD 1) zK))))) (zM (zz 3 nd (yI (zAb (zB (za aX hr (by decide) rfl (zB (za bS hr (by decide) rfl (zB (zD 2) (zB zL zK))) zK)) (zB (za bh hr (by decide) rfl (zB (za aT hr (by decide) rfl (zB (zD 2) (zB (zBp zL (za ag hr (by decide) rfl (zB (zD 2) (zB zL zK)))) zK))) zK)) zK))))) (zM (zD2 PassesOwn.never rfl (zAt rfl ah (zB zL zK)) (zFS 4 nd) (zM (zAB (wX (wW (za aL hr (by decide) rfl (zB (zFn rfl aA) (zB (ya (zD 3) zL) (zB (za bi hr (by decide) rfl (zB (ya (zD 3) zL) zK)) zK)))))) (zR (zk zCj)) yE) (zM (zAB (wX (wW (za aL hr (by decide) rfl (zB (zFn rfl ay) (zB (ya (zD 3) zL) (zB (za aY hr (by decide) rfl (zB (ya (zD 3) zL) zK)) zK)))))) (zR (zk zCj)) yE) (zR (zIB 3 "text" rfl (zv (osc:=zE zCY) (N:=["script","k","state","texts","turn","odd"]) (N0:=["!00","!01","state","!03","!04","!05"]) (own:=["text"]) (by decide +kernel)) (zCR (zD 3)) (fun _ _ _ _ _=>wQ) (fun _ _ _ _ _=>(za bC hr (by decide) rfl (zB (zD 2) (zB (zD 6) zK)))) nd))))) (zM (zz 5 nd (ya (yI (zAb (zB zCQ (zB zL (zB (zBn (zB zL (zB zL zK))) (zB (yI (zAb (zB yO zK))) (zB zCj (zB zMd zK)))))))) (za ag hr (by decide) rfl (zB (zD 2) (zB zL zK))))) (zR (zAB (W2.test (w_or (wX (wW (za aL hr (by decide) rfl (zB (zFn rfl aA) (zB (zD 5) (zB zCQ zK)))))) (zBK (wX (wW (za aL hr (by decide) rfl (zB (zFn rfl ay) (zB (zD 5) (zB zCQ zK))))))))) (zR (zk zCj)) yE))))))) (zR (zk zCj)))
end
theorem zPR{l:PySem.W.OpenLaw}{w:World}{K:PySem.W.Frag}{h:Heap}{mg:Str->Option Value}{fa:Addr}(X:K.In h)(G:h.Ns mainGlobals mg)(hfa:mg "law"=some (.ref fa))
  {f0:Addr} {od0 an0:Option Addr} {sl0:Array (Option Value)} {oc0 kV0 dc0 pm0 cd0 ct0:Value} {f1:Addr} {od1 an1:Option Addr} {sl1:Array (Option Value)} {oc1 kV1 dc1 pm1 cd1 ct1:Value} {f2:Addr} {od2 an2:Option Addr} {sl2:Array (Option Value)} {oc2 kV2 dc2 pm2 cd2 ct2:Value} {f3:Addr} {od3 an3:Option Addr} {sl3:Array (Option Value)} {oc3 kV3 dc3 pm3 cd3 ct3:Value} {f4:Addr} {od4 an4:Option Addr} {sl4:Array (Option Value)} {oc4 kV4 dc4 pm4 cd4 ct4:Value} {f5:Addr} {od5 an5:Option Addr} {sl5:Array (Option Value)} {oc5 kV5 dc5 pm5 cd5 ct5:Value} {f6:Addr} {od6 an6:Option Addr} {sl6:Array (Option Value)} {oc6 kV6 dc6 pm6 cd6 ct6:Value} {f7:Addr} {od7 an7:Option Addr} {sl7:Array (Option Value)} {oc7 kV7 dc7 pm7 cd7 ct7:Value} {f8:Addr} {od8 an8:Option Addr} {sl8:Array (Option Value)} {oc8 kV8 dc8 pm8 cd8 ct8:Value} {f9:Addr} {od9 an9:Option Addr} {sl9:Array (Option Value)} {oc9 kV9 dc9 pm9 cd9 ct9:Value} {f10:Addr} {od10 an10:Option Addr} {sl10:Array (Option Value)} {oc10 kV10 dc10 pm10 cd10 ct10:Value} {f11:Addr} {od11 an11:Option Addr} {sl11:Array (Option Value)} {oc11 kV11 dc11 pm11 cd11 ct11:Value} {f12:Addr} {od12 an12:Option Addr} {sl12:Array (Option Value)} {oc12 kV12 dc12 pm12 cd12 ct12:Value} {f13:Addr} {od13 an13:Option Addr} {sl13:Array (Option Value)} {oc13 kV13 dc13 pm13 cd13 ct13:Value} {f14:Addr} {od14 an14:Option Addr} {sl14:Array (Option Value)} {oc14 kV14 dc14 pm14 cd14 ct14:Value} {f15:Addr} {od15 an15:Option Addr} {sl15:Array (Option Value)} {oc15 kV15 dc15 pm15 cd15 ct15:Value} {f16:Addr} {od16 an16:Option Addr} {sl16:Array (Option Value)} {oc16 kV16 dc16 pm16 cd16 ct16:Value} {f17:Addr} {od17 an17:Option Addr} {sl17:Array (Option Value)} {oc17 kV17 dc17 pm17 cd17 ct17:Value} {f18:Addr} {od18 an18:Option Addr} {sl18:Array (Option Value)} {oc18 kV18 dc18 pm18 cd18 ct18:Value} {f19:Addr} {od19 an19:Option Addr} {sl19:Array (Option Value)} {oc19 kV19 dc19 pm19 cd19 ct19:Value} {f20:Addr} {od20 an20:Option Addr} {sl20:Array (Option Value)} {oc20 kV20 dc20 pm20 cd20 ct20:Value} {f21:Addr} {od21 an21:Option Addr} {sl21:Array (Option Value)} {oc21 kV21 dc21 pm21 cd21 ct21:Value} {f22:Addr} {od22 an22:Option Addr} {sl22:Array (Option Value)} {oc22 kV22 dc22 pm22 cd22 ct22:Value} {f23:Addr} {od23 an23:Option Addr} {sl23:Array (Option Value)} {oc23 kV23 dc23 pm23 cd23 ct23:Value} {f24:Addr} {od24 an24:Option Addr} {sl24:Array (Option Value)} {oc24 kV24 dc24 pm24 cd24 ct24:Value} {ax:Tok} {bz:Tok} {aE aB aO aC aI aa:Addr} {bN bO:Addr}
  (a0:PySem.W.nsIn K mainGlobals "is_number"=some (some (.ref f0))) (l0:K.lookup f0=some ⟨oc0,od0,.func (PySem.W.fnOf "is_number" "is_number" (zi ww) (zU ww) (zE ww) .none kV0 dc0 pm0 an0 cd0 ct0),sl0⟩) (c0:PySem.W.codeIn K cd0 "is_number"=true) (k0:PySem.W.keepIn K (.ref f0)=true)
  (a1:PySem.W.nsIn K mainGlobals "is_rising"=some (some (.ref f1))) (l1:K.lookup f1=some ⟨oc1,od1,.func (PySem.W.fnOf "is_rising" "is_rising" (zi yo) (zU yo) (zE yo) .none kV1 dc1 pm1 an1 cd1 ct1),sl1⟩) (c1:PySem.W.codeIn K cd1 "is_rising"=true) (k1:PySem.W.keepIn K (.ref f1)=true)
  (a2:PySem.W.nsIn K mainGlobals "is_ring"=some (some (.ref f2))) (l2:K.lookup f2=some ⟨oc2,od2,.func (PySem.W.fnOf "is_ring" "is_ring" (zi wz) (zU wz) (zE wz) .none kV2 dc2 pm2 an2 cd2 ct2),sl2⟩) (c2:PySem.W.codeIn K cd2 "is_ring"=true) (k2:PySem.W.keepIn K (.ref f2)=true)
  (a3:PySem.W.nsIn K mainGlobals "is_web"=some (some (.ref f3))) (l3:K.lookup f3=some ⟨oc3,od3,.func (PySem.W.fnOf "is_web" "is_web" (zi zAO) (zU zAO) (zE zAO) .none kV3 dc3 pm3 an3 cd3 ct3),sl3⟩) (c3:PySem.W.codeIn K cd3 "is_web"=true) (k3:PySem.W.keepIn K (.ref f3)=true)
  (a4:PySem.W.nsIn K mainGlobals "is_tie"=some (some (.ref f4))) (l4:K.lookup f4=some ⟨oc4,od4,.func (PySem.W.fnOf "is_tie" "is_tie" (zi zAm) (zU zAm) (zE zAm) .none kV4 dc4 pm4 an4 cd4 ct4),sl4⟩) (c4:PySem.W.codeIn K cd4 "is_tie"=true) (k4:PySem.W.keepIn K (.ref f4)=true)
  (a5:PySem.W.nsIn K mainGlobals "web_read"=some (some (.ref f5))) (l5:K.lookup f5=some ⟨oc5,od5,.func (PySem.W.fnOf "web_read" "web_read" (zi yc) (zU yc) (zE yc) .none kV5 dc5 pm5 an5 cd5 ct5),sl5⟩) (c5:PySem.W.codeIn K cd5 "web_read"=true) (k5:PySem.W.keepIn K (.ref f5)=true)
  (a6:PySem.W.nsIn K mainGlobals "tie_read"=some (some (.ref f6))) (l6:K.lookup f6=some ⟨oc6,od6,.func (PySem.W.fnOf "tie_read" "tie_read" (zi zAP) (zU zAP) (zE zAP) .none kV6 dc6 pm6 an6 cd6 ct6),sl6⟩) (c6:PySem.W.codeIn K cd6 "tie_read"=true) (k6:PySem.W.keepIn K (.ref f6)=true)
  (a7:PySem.W.nsIn K mainGlobals "ring_read"=some (some (.ref f7))) (l7:K.lookup f7=some ⟨oc7,od7,.func (PySem.W.fnOf "ring_read" "ring_read" (zi yR) (zU yR) (zE yR) .none kV7 dc7 pm7 an7 cd7 ct7),sl7⟩) (c7:PySem.W.codeIn K cd7 "ring_read"=true) (k7:PySem.W.keepIn K (.ref f7)=true)
  (a8:PySem.W.nsIn K mainGlobals "words_of"=some (some (.ref f8))) (l8:K.lookup f8=some ⟨oc8,od8,.func (PySem.W.fnOf "words_of" "words_of" (zi wJ) (zU wJ) (zE wJ) .none kV8 dc8 pm8 an8 cd8 ct8),sl8⟩) (c8:PySem.W.codeIn K cd8 "words_of"=true) (k8:PySem.W.keepIn K (.ref f8)=true)
  (a9:PySem.W.nsIn K mainGlobals "figure"=some (some (.ref f9))) (l9:K.lookup f9=some ⟨oc9,od9,.func (PySem.W.fnOf "figure" "figure" (zi zBQ) (zU zBQ) (zE zBQ) .none kV9 dc9 pm9 an9 cd9 ct9),sl9⟩) (c9:PySem.W.codeIn K cd9 "figure"=true) (k9:PySem.W.keepIn K (.ref f9)=true)
  (a10:PySem.W.nsIn K mainGlobals "_law_cell_at"=some (some (.ref f10))) (l10:K.lookup f10=some ⟨oc10,od10,.func (PySem.W.fnOf "_law_cell_at" "_law_cell_at" (zi zAA) (zU zAA) (zE zAA) .none kV10 dc10 pm10 an10 cd10 ct10),sl10⟩) (c10:PySem.W.codeIn K cd10 "_law_cell_at"=true) (k10:PySem.W.keepIn K (.ref f10)=true)
  (a11:PySem.W.nsIn K mainGlobals "_law_state"=some (some (.ref f11))) (l11:K.lookup f11=some ⟨oc11,od11,.func (PySem.W.fnOf "_law_state" "_law_state" (zi zAn) (zU zAn) (zE zAn) .none kV11 dc11 pm11 an11 cd11 ct11),sl11⟩) (c11:PySem.W.codeIn K cd11 "_law_state"=true) (k11:PySem.W.keepIn K (.ref f11)=true)
  (a12:PySem.W.nsIn K mainGlobals "_law_take"=some (some (.ref f12))) (l12:K.lookup f12=some ⟨oc12,od12,.func (PySem.W.fnOf "_law_take" "_law_take" (zi zBR) (zU zBR) (zE zBR) .none kV12 dc12 pm12 an12 cd12 ct12),sl12⟩) (c12:PySem.W.codeIn K cd12 "_law_take"=true) (k12:PySem.W.keepIn K (.ref f12)=true)
  (a13:PySem.W.nsIn K mainGlobals "_law_pairs"=some (some (.ref f13))) (l13:K.lookup f13=some ⟨oc13,od13,.func (PySem.W.fnOf "_law_pairs" "_law_pairs" (zi zAQ) (zU zAQ) (zE zAQ) .none kV13 dc13 pm13 an13 cd13 ct13),sl13⟩) (c13:PySem.W.codeIn K cd13 "_law_pairs"=true) (k13:PySem.W.keepIn K (.ref f13)=true)
  (a14:PySem.W.nsIn K mainGlobals "_law_web"=some (some (.ref f14))) (l14:K.lookup f14=some ⟨oc14,od14,.func (PySem.W.fnOf "_law_web" "_law_web" (zi zBD) (zU zBD) (zE zBD) .none kV14 dc14 pm14 an14 cd14 ct14),sl14⟩) (c14:PySem.W.codeIn K cd14 "_law_web"=true) (k14:PySem.W.keepIn K (.ref f14)=true)
  (a15:PySem.W.nsIn K mainGlobals "_law_ring"=some (some (.ref f15))) (l15:K.lookup f15=some ⟨oc15,od15,.func (PySem.W.fnOf "_law_ring" "_law_ring" (zi zA0) (zU zA0) (zE zA0) .none kV15 dc15 pm15 an15 cd15 ct15),sl15⟩) (c15:PySem.W.codeIn K cd15 "_law_ring"=true) (k15:PySem.W.keepIn K (.ref f15)=true)
  (a16:PySem.W.nsIn K mainGlobals "_law_web_of"=some (some (.ref f16))) (l16:K.lookup f16=some ⟨oc16,od16,.func (PySem.W.fnOf "_law_web_of" "_law_web_of" (zi wn) (zU wn) (zE wn) .none kV16 dc16 pm16 an16 cd16 ct16),sl16⟩) (c16:PySem.W.codeIn K cd16 "_law_web_of"=true) (k16:PySem.W.keepIn K (.ref f16)=true)
  (a17:PySem.W.nsIn K mainGlobals "_law_web_text"=some (some (.ref f17))) (l17:K.lookup f17=some ⟨oc17,od17,.func (PySem.W.fnOf "_law_web_text" "_law_web_text" (zi yp) (zU yp) (zE yp) .none kV17 dc17 pm17 an17 cd17 ct17),sl17⟩) (c17:PySem.W.codeIn K cd17 "_law_web_text"=true) (k17:PySem.W.keepIn K (.ref f17)=true)
  (a18:PySem.W.nsIn K mainGlobals "_law_numbers"=some (some (.ref f18))) (l18:K.lookup f18=some ⟨oc18,od18,.func (PySem.W.fnOf "_law_numbers" "_law_numbers" (zi wK) (zU wK) (zE wK) .none kV18 dc18 pm18 an18 cd18 ct18),sl18⟩) (c18:PySem.W.codeIn K cd18 "_law_numbers"=true) (k18:PySem.W.keepIn K (.ref f18)=true)
  (a19:PySem.W.nsIn K mainGlobals "_law_refused"=some (some (.ref f19))) (l19:K.lookup f19=some ⟨oc19,od19,.func (PySem.W.fnOf "_law_refused" "_law_refused" (zi yK) (zU yK) (zE yK) .none kV19 dc19 pm19 an19 cd19 ct19),sl19⟩) (c19:PySem.W.codeIn K cd19 "_law_refused"=true) (k19:PySem.W.keepIn K (.ref f19)=true)
  (a20:PySem.W.nsIn K mainGlobals "_law_web_due"=some (some (.ref f20))) (l20:K.lookup f20=some ⟨oc20,od20,.func (PySem.W.fnOf "_law_web_due" "_law_web_due" (zi ym) (zU ym) (zE ym) .none kV20 dc20 pm20 an20 cd20 ct20),sl20⟩) (c20:PySem.W.codeIn K cd20 "_law_web_due"=true) (k20:PySem.W.keepIn K (.ref f20)=true)
  (a21:PySem.W.nsIn K mainGlobals "_law_ring_due"=some (some (.ref f21))) (l21:K.lookup f21=some ⟨oc21,od21,.func (PySem.W.fnOf "_law_ring_due" "_law_ring_due" (zi yq) (zU yq) (zE yq) .none kV21 dc21 pm21 an21 cd21 ct21),sl21⟩) (c21:PySem.W.codeIn K cd21 "_law_ring_due"=true) (k21:PySem.W.keepIn K (.ref f21)=true)
  (a22:PySem.W.nsIn K mainGlobals "_law_bent"=some (some (.ref f22))) (l22:K.lookup f22=some ⟨oc22,od22,.func (PySem.W.fnOf "_law_bent" "_law_bent" (zi zAR) (zU zAR) (zE zAR) .none kV22 dc22 pm22 an22 cd22 ct22),sl22⟩) (c22:PySem.W.codeIn K cd22 "_law_bent"=true) (k22:PySem.W.keepIn K (.ref f22)=true)
  (a23:PySem.W.nsIn K mainGlobals "_law_right"=some (some (.ref f23))) (l23:K.lookup f23=some ⟨oc23,od23,.func (PySem.W.fnOf "_law_right" "_law_right" (zi zAS) (zU zAS) (zE zAS) .none kV23 dc23 pm23 an23 cd23 ct23),sl23⟩) (c23:PySem.W.codeIn K cd23 "_law_right"=true) (k23:PySem.W.keepIn K (.ref f23)=true)
  (a24:PySem.W.nsIn K mainGlobals "law"=some (some (.ref f24))) (l24:K.lookup f24=some ⟨oc24,od24,.func (PySem.W.fnOf "law" "law" (zi zCY) (zU zCY) (zE zCY) .none kV24 dc24 pm24 an24 cd24 ct24),sl24⟩) (c24:PySem.W.codeIn K cd24 "law"=true) (k24:PySem.W.keepIn K (.ref f24)=true)
  (aQ:PySem.W.nsIn K mainGlobals "MOST_PLACES"=some (some (.int 9 ax)))
  (bI:PySem.W.nsIn K mainGlobals "FIGURES"=some (some (.str "0123456789" bz)))
  (aZ:PySem.W.nsIn K mainGlobals "isinstance"=some none)
  (ci:PySem.W.nsIn K mainGlobals "int"=some none)
  (bX:PySem.W.nsIn K mainGlobals "bool"=some none)
  (cj:PySem.W.nsIn K mainGlobals "all"=some none)
  (bT:PySem.W.nsIn K mainGlobals "range"=some none)
  (ck:PySem.W.nsIn K mainGlobals "len"=some none)
  (bU:PySem.W.nsIn K mainGlobals "tuple"=some none)
  (cm:PySem.W.nsIn K mainGlobals "str"=some none)
  (bY:PySem.W.nsIn K mainGlobals "list"=some none)
  (b9:PySem.W.nsIn K mainGlobals "ValueError"=some none)
  (bP:PySem.W.nsIn K mainGlobals "sorted"=some none)
  (cq:PySem.W.nsIn K mainGlobals "max"=some none)
  (cu:PySem.W.nsIn K mainGlobals "min"=some none)
  (ba:PySem.W.nsIn K mainGlobals "ChordError"=some (some (.ref aE)))
  (bJ:PySem.W.nsIn K mainGlobals "TooMany"=some (some (.ref aB)))
  (bV:PySem.W.nsIn K mainGlobals "NoTie"=some (some (.ref aO)))
  (bK:PySem.W.nsIn K mainGlobals "NoSplit"=some (some (.ref aC)))
  (bQ:PySem.W.nsIn K mainGlobals "NoName"=some (some (.ref aI)))
  (bL:PySem.W.nsIn K mainGlobals "BadNote"=some (some (.ref aa)))
  (bj:PySem.W.excIn K aa bmV "ValueError.__new__"=true)
  (bn:(PySem.W.clsIn K aa).isSome=true)
  (bo:PySem.W.findIn K (.ref aa) "__getattribute__"=some (some (.builtin "BaseException.__getattribute__")))
  (bp:PySem.W.findIn K (.ref aa) "__getattr__"=some none)
  (bq:PySem.W.findIn K (.ref aa) "__class__"=some (some (.builtin "object.__class__")))
  (br:PySem.W.specialIn K (.builtin "object.__class__") "__get__"=some (some (.builtin "getset_descriptor.__get__")))
  (bu:PySem.W.takesIn K (.builtin "object.__class__")=some true)
  (bv:PySem.W.mroIn K aa (.type "object")=some true)
  (bw:PySem.W.mroIn K aa (.type "BaseException")=some true)
  (aM:PySem.W.exmOne K (.ref aa) (.ref aE)=some true)
  (ap:PySem.W.kitOne K (.ref aa) (.ref aB)=some false)
  (av:PySem.W.kitOne K (.ref aa) (.ref aO)=some false)
  (aq:PySem.W.kitOne K (.ref aa) (.ref aC)=some false)
  (au:PySem.W.kitOne K (.ref aa) (.ref aI)=some false)
  (ar:PySem.W.kitOne K (.ref aa) (.ref aa)=some true)
  (aN:PySem.W.kitOne K (.ref aa) (.type "ValueError")=some true)
  (wO:PySem.W.tabIn K "_law_right"=some (bN,bO)) (bM:zCw K bN bO=true) :
  ∃ fd:FuncData,(∀(s:Shared) (v:Value),BindsTo s fd ⟨[v],[]⟩ [("script",v)])/\∀ base:Heap,K.In base->base.Ns mainGlobals mg->BMn base mg->zCa l.prog w K mg base CX0 8 fa fd ["script"] (lSp K zEx):=by
 have e:=hfa.symm.trans (PySem.W.mg_of X G a24);cases e;have aw:=PySem.W.mg_of X G aQ;have bG:=PySem.W.mg_of X G bI;have ac:=PySem.W.mg_none_of X G aZ;have aP:=PySem.W.mg_none_of X G ci;have bW:=PySem.W.mg_none_of X G bX;have bx:=PySem.W.mg_none_of X G cj;have ah:=PySem.W.mg_none_of X G bT;have af:=PySem.W.mg_none_of X G ck;have ae:=PySem.W.mg_none_of X G bU;have aF:=PySem.W.mg_none_of X G cm;have aV:=PySem.W.mg_none_of X G bY;have aD:=PySem.W.mg_none_of X G b9;have bE:=PySem.W.mg_none_of X G bP;have cf:=PySem.W.mg_none_of X G cq;have cg:=PySem.W.mg_none_of X G cu;refine⟨PySem.W.fnOf "law" "law" (zi zCY) (zU zCY) (zE zCY) .none kV24 dc24 pm24 an24 cd24 ct24,fun s v=>.of_eq rfl,fun base kb _ hBA=>?_⟩;have aW:=PySem.W.mg_of X G ba;have aR:=PySem.W.mg_of X G bJ;have bD:=PySem.W.mg_of X G bV;have aS:=PySem.W.mg_of X G bK;have bc:=PySem.W.mg_of X G bQ;have ai:=PySem.W.mg_of X G bL;have ao:zEd K aa:=⟨bj,bn,bo,bp,bq,br,bu,bv,bw⟩
 have FR:=yA (st:=yK) l19 c19 k19;have mR:=PySem.W.mg_of X G a19;have bR:=FR.binds (ps:=["call"]) fun _ _ _ _ _ _ us hl=>us1 us hl fun _=>rfl;have am:Df l.prog w K mg base 1 "is_number" ["thing"] zh:=zFw (yA (st:=ww) l0 c0 k0) (PySem.W.mg_of X G a0) ac aP bW;have aU:Df l.prog w K mg base 1 "is_rising" ["things"] wY:=zEe (yA (st:=yo) l1 c1 k1) (PySem.W.mg_of X G a1) bx ah af;have aH:Rz l.prog w K mg base 1 "words_of" ["text"] yb aa:=zGv (yA (st:=wJ) l8 c8 k8) (PySem.W.mg_of X G a8) ac aF ai ao;have aj:Df l.prog w K mg base 1 "words_of" ["text"] (spL zd):=zGy (yA (st:=wJ) l8 c8 k8) (PySem.W.mg_of X G a8) ac aF;have ak:Df l.prog w K mg base 1 "figure" ["word"] zl:=zJr (yA (st:=zBQ) l9 c9 k9) (PySem.W.mg_of X G a9) af aP bG;have bf:Df l.prog w K mg base 1 "_law_cell_at" ["script","k"] zAH:=zFy (yA (st:=zAA) l10 c10 k10) (PySem.W.mg_of X G a10) af;have ag:Df l.prog w K mg base 1 "_law_take" ["state","many"] zj:=zJs (yA (st:=zBR) l12 c12 k12) (PySem.W.mg_of X G a12) ;have az:Df l.prog w K mg base 1 "_law_pairs" ["many"] (spL yF):=zH0 (yA (st:=zAQ) l13 c13 k13) (PySem.W.mg_of X G a13) ah;have aX:Df l.prog w K mg base 1 "_law_web_text" ["web"] wZ:=zEf (yA (st:=yp) l17 c17 k17) (PySem.W.mg_of X G a17) aF;have bh:Df l.prog w K mg base 1 "_law_numbers" ["some"] zAJ:=zFz (yA (st:=wK) l18 c18 k18) (PySem.W.mg_of X G a18) aF;have aY:Df l.prog w K mg base 1 "_law_ring_due" ["text"] yQ:=zEg (yA (st:=yq) l21 c21 k21) (PySem.W.mg_of X G a21) aV af bE ae aP;have aK:Df l.prog w K mg base 2 "is_ring" ["thing"] wH:=zHw (yA (st:=wz) l2 c2 k2) (PySem.W.mg_of X G a2) ac ae af bx ah aw am;have bF:Df l.prog w K mg base 2 "is_tie" ["many","thing"] wF:=zHy (yA (st:=zAm) l4 c4 k4) (PySem.W.mg_of X G a4) ac ae af am;have aG:Df l.prog w K mg base 2 "tie_read" ["word"] yX:=zGx (yA (st:=zAP) l6 c6 k6) (PySem.W.mg_of X G a6) ak;have bH:Df l.prog w K mg base 2 "_law_state" ["script","k"] (spL yn):=zHz (yA (st:=zAn) l11 c11 k11) (PySem.W.mg_of X G a11) bf;have aT:Df l.prog w K mg base 2 "_law_ring" ["state","many"] wp:=zJt (yA (st:=zA0) l15 c15 k15) (PySem.W.mg_of X G a15) aV ah ae af ag;have bA:Df l.prog w K mg base 2 "_law_web_of" ["ring"] zAW:=zGz (yA (st:=wn) l16 c16 k16) (PySem.W.mg_of X G a16) af ae az;have bi:Df l.prog w K mg base 2 "_law_web_due" ["text"] yY:=zF0 (yA (st:=ym) l20 c20 k20) (PySem.W.mg_of X G a20) af aV aP aF ae az;have bC:Df l.prog w K mg base 2 "_law_bent" ["state","text"] wv:=zG0 (yA (st:=zAR) l22 c22 k22) (PySem.W.mg_of X G a22) af ag;have aJ:Df l.prog w K mg base 3 "is_web" ["thing"] wG:=zHx (yA (st:=zAO) l3 c3 k3) (PySem.W.mg_of X G a3) ac ae af bx aw am bF aU;have bg:Rz l.prog w K mg base 3 "ring_read" ["text"] wI aa:=zFv (yA (st:=yR) l7 c7 k7) (PySem.W.mg_of X G a7) ae aj ak aK aH ai ao;have ay:Df l.prog w K mg base 3 "ring_read" ["text"] wN:=zFx (yA (st:=yR) l7 c7 k7) (PySem.W.mg_of X G a7) ae aj ak aK;have bS:Df l.prog w K mg base 3 "_law_web" ["state","most"] zB1:=zLr (yA (st:=zBD) l14 c14 k14) (PySem.W.mg_of X G a14) ae ag az aT bA;have bB:Rz l.prog w K mg base 4 "web_read" ["text"] wd aa:=zGu (yA (st:=yc) l5 c5 k5) (PySem.W.mg_of X G a5) af ae aj ak aG aJ aH ai ao;have aA:Df l.prog w K mg base 4 "web_read" ["text"] wq:=zGw (yA (st:=yc) l5 c5 k5) (PySem.W.mg_of X G a5) af ae aj ak aG aJ;have aL:Df l.prog w K mg base 7 "_law_right" ["read","text","due"] (yN (fnA mg "web_read") (fnA mg "ring_read")):=zH1 (yA (st:=zAS) l23 c23 k23) (PySem.W.mg_of X G a23) ac aD ah aA ay aW aR bD aS bc ai FR mR bR (zLM wO a23 l23) (zE7 kb bM).1 hBA wO ao aM ap av aq au ar aN bB bg ;exact zPQ (yA (st:=zCY) l24 c24 k24) ah cf cg af bH bS aX ag aT bh aA bi aL ay aY bC
end K
open PySem PySem.W PyProof.Rows
set_option maxRecDepth 100000 in
set_option maxHeartbeats 0 in
theorem PySem.Challenge.cw_chordwebs_k92_texts_that_write_none_holds : PySem.Challenge.rw_chordwebs_k92_texts_that_write_none.Holds := by
 w_on;o_law;k_head;(case hw=>w_witness2)
 k_fill
 refine L3.zJe (l:=PySem.Challenge.rw_chordwebs_k92_texts_that_write_none) (k:=8) rfl rfl ⟨rfl,by decide,by decide⟩ ?T ?F
 case T =>
  intro w;refine' L2.zQC (x:="_law_right") ⟨_,_,?e1,?e2,?e3⟩ ?hy ?ho
  (case e1=>rfl)
  (case e2=>rfl)
  (case e3=>rfl)
  (case hy=>intro y hy;unfold L2.zBS at hy;simp only[db,List.not_mem_nil,or_false] at hy;first | (subst hy;first | exact Or.inl rfl | exact Or.inr (Or.inl rfl) | exact Or.inr rfl | exact Or.inr (Or.inr rfl)) | (rcases hy with rfl | rfl<;>first | exact Or.inl rfl | exact Or.inr (Or.inl rfl) | exact Or.inr rfl | exact Or.inr (Or.inr rfl)))
  (case ho=>decide)
 case F =>
  intro w mg fa h KX G hmg;refine' K.zPR KX G hmg ?a0 ?l0 ?c0 ?k0 ?a1 ?l1 ?c1 ?k1 ?a2 ?l2 ?c2 ?k2 ?a3 ?l3 ?c3 ?k3 ?a4 ?l4 ?c4 ?k4 ?a5 ?l5 ?c5 ?k5 ?a6 ?l6 ?c6 ?k6 ?a7 ?l7 ?c7 ?k7 ?a8 ?l8 ?c8 ?k8 ?a9 ?l9 ?c9 ?k9 ?a10 ?l10 ?c10 ?k10 ?a11 ?l11 ?c11 ?k11 ?a12 ?l12 ?c12 ?k12 ?a13 ?l13 ?c13 ?k13 ?a14 ?l14 ?c14 ?k14 ?a15 ?l15 ?c15 ?k15 ?a16 ?l16 ?c16 ?k16 ?a17 ?l17 ?c17 ?k17 ?a18 ?l18 ?c18 ?k18 ?a19 ?l19 ?c19 ?k19 ?a20 ?l20 ?c20 ?k20 ?a21 ?l21 ?c21 ?k21 ?a22 ?l22 ?c22 ?k22 ?a23 ?l23 ?c23 ?k23 ?a24 ?l24 ?c24 ?k24 ?aQ ?bI ?aZ ?ci ?bX ?cj ?bT ?ck ?bU ?cm ?bY ?b9 ?bP ?cq ?cu ?ba ?bJ ?bV ?bK ?bQ ?bL ?bj ?bn ?bo ?bp ?bq ?br ?bu ?bv ?bw ?aM ?ap ?av ?aq ?au ?ar ?aN ?wO ?bM
  (case a0=>k_is)
  (case l0=>k_is)
  (case c0=>k_is)
  (case k0=>k_is)
  (case a1=>k_is)
  (case l1=>k_is)
  (case c1=>k_is)
  (case k1=>k_is)
  (case a2=>k_is)
  (case l2=>k_is)
  (case c2=>k_is)
  (case k2=>k_is)
  (case a3=>k_is)
  (case l3=>k_is)
  (case c3=>k_is)
  (case k3=>k_is)
  (case a4=>k_is)
  (case l4=>k_is)
  (case c4=>k_is)
  (case k4=>k_is)
  (case a5=>k_is)
  (case l5=>k_is)
  (case c5=>k_is)
  (case k5=>k_is)
  (case a6=>k_is)
  (case l6=>k_is)
  (case c6=>k_is)
  (case k6=>k_is)
  (case a7=>k_is)
  (case l7=>k_is)
  (case c7=>k_is)
  (case k7=>k_is)
  (case a8=>k_is)
  (case l8=>k_is)
  (case c8=>k_is)
  (case k8=>k_is)
  (case a9=>k_is)
  (case l9=>k_is)
  (case c9=>k_is)
  (case k9=>k_is)
  (case a10=>k_is)
  (case l10=>k_is)
  (case c10=>k_is)
  (case k10=>k_is)
  (case a11=>k_is)
  (case l11=>k_is)
  (case c11=>k_is)
  (case k11=>k_is)
  (case a12=>k_is)
  (case l12=>k_is)
  (case c12=>k_is)
  (case k12=>k_is)
  (case a13=>k_is)
  (case l13=>k_is)
  (case c13=>k_is)
  (case k13=>k_is)
  (case a14=>k_is)
  (case l14=>k_is)
  (case c14=>k_is)
  (case k14=>k_is)
  (case a15=>k_is)
  (case l15=>k_is)
  (case c15=>k_is)
  (case k15=>k_is)
  (case a16=>k_is)
  (case l16=>k_is)
  (case c16=>k_is)
  (case k16=>k_is)
  (case a17=>k_is)
  (case l17=>k_is)
  (case c17=>k_is)
  (case k17=>k_is)
  (case a18=>k_is)
  (case l18=>k_is)
  (case c18=>k_is)
  (case k18=>k_is)
  (case a19=>k_is)
  (case l19=>k_is)
  (case c19=>k_is)
  (case k19=>k_is)
  (case a20=>k_is)
  (case l20=>k_is)
  (case c20=>k_is)
  (case k20=>k_is)
  (case a21=>k_is)
  (case l21=>k_is)
  (case c21=>k_is)
  (case k21=>k_is)
  (case a22=>k_is)
  (case l22=>k_is)
  (case c22=>k_is)
  (case k22=>k_is)
  (case a23=>k_is)
  (case l23=>k_is)
  (case c23=>k_is)
  (case k23=>k_is)
  (case a24=>k_is)
  (case l24=>k_is)
  (case c24=>k_is)
  (case k24=>k_is)
  (case aQ=>k_is)
  (case bI=>k_is)
  (case aZ=>k_is)
  (case ci=>k_is)
  (case bX=>k_is)
  (case cj=>k_is)
  (case bT=>k_is)
  (case ck=>k_is)
  (case bU=>k_is)
  (case cm=>k_is)
  (case bY=>k_is)
  (case b9=>k_is)
  (case bP=>k_is)
  (case cq=>k_is)
  (case cu=>k_is)
  (case ba=>k_is)
  (case bJ=>k_is)
  (case bV=>k_is)
  (case bK=>k_is)
  (case bQ=>k_is)
  (case bL=>k_is)
  (case bj=>first | kernel_rfl | k_is)
  (case bn=>first | kernel_rfl | k_is)
  (case bo=>first | kernel_rfl | k_is)
  (case bp=>first | kernel_rfl | k_is)
  (case bq=>first | kernel_rfl | k_is)
  (case br=>first | kernel_rfl | k_is)
  (case bu=>first | kernel_rfl | k_is)
  (case bv=>first | kernel_rfl | k_is)
  (case bw=>first | kernel_rfl | k_is)
  (case aM=>first | kernel_rfl | k_is)
  (case ap=>first | kernel_rfl | k_is)
  (case av=>first | kernel_rfl | k_is)
  (case aq=>first | kernel_rfl | k_is)
  (case au=>first | kernel_rfl | k_is)
  (case ar=>first | kernel_rfl | k_is)
  (case aN=>first | kernel_rfl | k_is)
  (case wO=>rfl)
  (case bM=>rfl)
#print axioms PySem.Challenge.cw_chordwebs_k92_texts_that_write_none_holds
