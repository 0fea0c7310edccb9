import PyProof.Rows.All
import Wide.All
import OpenK.AllK
import Wide.FinOn
import Lean
import PyProof.EqAt
import PyProof.EqKinds
import PyProof.TupleCall
import PyProof.NeKinds
import KE.KRevIter
import PyProof.Rows.Range3
import PyProof.ZipIter
import PyProof.Rows.SortRunsK
import PyProof.Rows.SortShell
import PyProof.Rows.IntRules
import PyProof.Dict
import PyProof.Conv_int_bool
import PyProof.Rows.DictRows
import PyProof.DictTable
import PyProof.SetKind
import PyProof.Rows.SetFrom
import PyProof.Rows.SortPure
import PyProof.FactsAll.set_1
import PyProof.SetRoads
import PyProof.Walks
import PyProof.CollectWalk
import PyProof.ListRange
import PyProof.TupleKey
import PyProof.IsRules
import PyProof.WalksMore
import PyProof.EnumStmt
import PyProof.Rows.EnumRows
import PyProof.SeqI3
import PyProof.StrCalls2
import PyProof.StrBlockH
import PyProof.StrLawsTight
import PyProof.StrLawsJoin
import KE.KIntText
import PySem.Challenge.RW_chordwebs_k52_rings_found
set_option Elab.async false
set_option linter.all false
set_option maxRecDepth 100000
set_option bootstrap.genMatcherCode false
set_option genSizeOf false
set_option compiler.extract_closed false
set_option genInjectivity false
local macro_rules | `(tactic| omega) => `(tactic| lia)
open List renaming set_cons_zero → bn, set_cons_succ → bo, replicate_succ → br, length_cons → bu, replicate_zero → bv, length_nil → bw, length_map → bx, cons_append → bA, nil_append → bB, range → bE, mem_singleton → bH, length_append → bI, map → bK, replicate → bL, getElem?_eq_some_iff → bN, size_toArray → bO, mem_map → bQ, mem_append → bR, length_range → bT, mem_filter → bV, length_take → bW, getElem?_map → bY, append_assoc → bZ, mem_cons_of_mem → ca, mem_range → cb, mem_cons_self → cc, mem_cons → ce, mem_of_getElem? → cf, count_append → ci, getElem?_append_left → cj, getElem?_append_right → cn, mem_of_mem_take → cq, map_append → cr, lookup_cons → cw, extract_eq_drop_take → cy, map_cons → cD, count_cons → cE, mem_append_right → cG, map_map → cH, getD → cJ, getElem?_eq_getElem → cL, take_append_drop → cM, length_filter_le → cN, append_nil → cO, nodup_cons → cR, take_length → cU, length_drop → cV, take_sublist → cX, filter_append → cZ, mem_iff_getElem → d9, not_mem_nil → db, Perm → dg, getElem_mem → di, length_eq_zero_iff → dl, nodup_append → dm, flatten_cons → dq, filter_map → dt, take_of_length_le → du, getElem?_set_self → dw, filter_cons → dA, count_eq_zero → dB, mem_of_mem_drop → dD, reverse_cons → dE, Pairwise → dF, reverse_singleton → dH, mem_append_left → dW, getElem?_set_ne → dX, pairwise_iff_getElem → dZ, reverse_append → ec, map_congr_left → ee, filterMap_cons → ef, filter → eh, map_nil → et, map_id' → eu, sum_cons → ez, pairwise_singleton → eA, getElem?_replicate → eB, getElem?_drop → eC, pairwise_lt_range → eD, filter_congr → eE, set_append_right → eH, nodup_range → eI, all_eq_true → eJ
open Bool renaming false_eq_true → bp, eq_iff_iff → bS, false_ne_true → cK, and_eq_true → dk, not_eq_true' → dS
open PySem renaming wpAny_bind → bq, wpAny_pure → bC, wpAny_holding → cP, wpAny_call_entry → cT, wpAny_newObj_type → cW, codeAny_builtin → cY, wpAny_rule → dz, wpAny_setField_rec → dI, wpAny_passesOwn → dL, wpAny_ite_split → dM, codeAny_mono → dN, wpAny_truthy_bool → dQ, wpAny_setState_of → dR, wpAny_setEntries_of → e9, wpAny_Call_Name_kw → ev, wpAny_typeOf → eG
open PySem.Heap renaming get?_push_of_some → bz, get?_push_size → bM, lt_size → bP, get?_update_other → cI, get?_update_self → dC, get?_update_ne → dG, SameBut → dP, size_push → e7
open PyProof.Rows renaming wpS_bind → bD, wpS_pure → bG, wpS_forRange → cu, wpS_mono → dc, wpS_reverse → e8, wpS_modify → ei
open Nat renaming le_refl → bF, lt_of_lt_of_le → bX, ne_of_lt → cg, le_trans → cC, lt_or_ge → da, lt_irrefl → de, min_eq_left → df, le_succ → dh, zero_le → dO, mod_two_eq_zero_or_one → dU, le_of_lt → el
open Array renaming length_toList → bJ, toList_push → bU, getElem_mem → ck, getElem?_toList → cx, toList_append → cz, toList_extract → cQ, size_push → cS, size_extract → dJ, getD → eF
open PySem.SetTable renaming below → cF, grown → dY
open PySem PySem.Spec PyProof.Rows
namespace K
open PySem
@[elab_as_elim] theorem us1{m:List Value→Prop}(us:List Value)(hl:us.length=1)(h:∀ a,m [a]):m us:=match us,hl with
 | [a],_=>h a
@[elab_as_elim] theorem us2{m:List Value→Prop}(us:List Value)(hl:us.length=2)(h:∀ a b,m [a,b]):m us:=match us,hl with
 | [a,b],_=>h a b
@[elab_as_elim] theorem us3{m:List Value→Prop}(us:List Value)(hl:us.length=3)(h:∀ a b c,m [a,b,c]):m us:=match us,hl with
 | [a,b,c],_=>h a b c
end K
namespace L2
noncomputable abbrev Key:=Sum Int Str
noncomputable def zNm:Key→Value→Bool
 | .inl k,v=>Value.isInt k v
 | .inr x,v=>Value.isStrOf x v
noncomputable def zQV(w:World):Key→Int
 | .inl k=>hashInt k
 | .inr x=>hashStr w x
theorem yT:∀ {k:Key} {v:Value},zNm k v=true→(∃ i t,k=Sum.inl i∧v=Value.int i t)∨(∃ x t,k=Sum.inr x∧v=Value.str x t)
 | .inl i,v,h=>by
  obtain⟨t,e⟩:=Value.isInt_shape (k:=i) (v:=v) h
  exact .inl ⟨i,t,rfl,e⟩
 | .inr x,v,h=>by
  obtain⟨t,e⟩:=Value.isStrOf_shape (x:=x) (v:=v) h
  exact .inr ⟨x,t,rfl,e⟩
theorem zN8(a b:Int):decide ((Sum.inl a:Key)=Sum.inl b)=(a==b):=by
 by_cases e:a=b
 ·subst e;simp
 ·have h:¬ (Sum.inl a:Key)=Sum.inl b:=fun q=>e (Sum.inl.inj q)
  rw[decide_eq_false h]
  exact(beq_eq_false_iff_ne.mpr e).symm
theorem zN9(a b:Str):decide ((Sum.inr a:Key)=Sum.inr b)=decide (a=b):=by
 by_cases e:a=b
 ·subst e;simp
 ·have h:¬ (Sum.inr a:Key)=Sum.inr b:=fun q=>e (Sum.inr.inj q)
  rw[decide_eq_false h,decide_eq_false e]
theorem zOA(a:Int)(b:Str):decide ((Sum.inl a:Key)=Sum.inr b)=false:=decide_eq_false (fun q=>nomatch q)
theorem zOB(a:Str)(b:Int):decide ((Sum.inr a:Key)=Sum.inl b)=false:=decide_eq_false (fun q=>nomatch q)
noncomputable def zIn(prog:Program)(w:World):PySem.KeyKind prog w Key where
 is:=zNm
 hash:=zQV w
 inj:=fun v a b ha hb=>by
  rcases yT ha with ⟨i,t,rfl,rfl⟩ | ⟨x,t,rfl,rfl⟩
  ·rcases yT hb with ⟨j,u,rfl,e⟩ | ⟨y,u,rfl,e⟩
   ·injection e with e1 _;rw[e1]
   ·exact nomatch e
  ·rcases yT hb with ⟨j,u,rfl,e⟩ | ⟨y,u,rfl,e⟩
   ·exact nomatch e
   ·injection e with e1 _;rw[e1]
 byValue:=fun k v h=>by
  rcases yT h with ⟨i,t,rfl,rfl⟩ | ⟨x,t,rfl,rfl⟩<;>rfl
 pyHash:=fun hv h=>by
  rcases yT hv with ⟨i,t,rfl,rfl⟩ | ⟨x,t,rfl,rfl⟩
  ·exact wpAny_pyHash_int h
  ·exact wpAny_pyHash_str h
 eqBool:=fun hu hv h=>by
  rcases yT hu with ⟨i,t,rfl,rfl⟩ | ⟨x,t,rfl,rfl⟩
  ·rcases yT hv with ⟨j,u,rfl,rfl⟩ | ⟨y,u,rfl,rfl⟩
   ·rw[zN8] at h;exact wpAny_eqBool_int h
   ·rw[zOA] at h;exact SeqAt.EqAt.int_str i t y u _ _ _ _ h
  ·rcases yT hv with ⟨j,u,rfl,rfl⟩ | ⟨y,u,rfl,rfl⟩
   ·rw[zOB] at h;exact SeqAt.EqAt.str_int x t j u _ _ _ _ h
   ·rw[zN9] at h;exact wpAny_eqBool_str h
 «strs»:=fun k x t v h=>by
  rcases yT h with ⟨i,u,rfl,e⟩ | ⟨y,u,rfl,e⟩
  ·exact nomatch e
  ·injection e with e1 _
   subst e1
   cases v<;>rfl
set_option genInjectivity true in
inductive V where
 | non | bl (b:Bool) | int (i:Int) | str (x:Str) | byt (b:Array UInt8) | flt (b:UInt64) | ref (a:Addr) | ty (n:String)
 deriving DecidableEq
noncomputable def RelV:V→Value→Prop
 | .non,u=>u=Value.none
 | .bl b,u=>u=Value.bool b
 | .int i,u=>∃ t,u=Value.int i t
 | .str x,u=>∃ t,u=Value.str x t
 | .byt b,u=>∃ t,u=Value.bytes b t
 | .flt b,u=>∃ t,u=Value.float b t
 | .ref a,u=>u=Value.ref a
 | .ty n,u=>u=Value.type n
noncomputable abbrev zY:List V→List Value→Prop:=Paired RelV
theorem zY.length{xs:List V}{us:List Value}(r:zY xs us):xs.length=us.length:=Paired.length r
theorem zY.get:∀ {xs:List V} {us:List Value} {i:Nat} {x:V},zY xs us→xs[i]?=some x→∃ u,us[i]?=some u∧RelV x u
 | _,_,_,_,.nil,e=>by simp at e
 | _,_,0,_,.cons r _,e=>by simp at e;subst e;exact⟨_,rfl,r⟩
 | _,_,i+1,x,.cons _ t,e=>by
  obtain⟨u,h1,h2⟩:=zY.get (i:=i) (x:=x) t (by simpa using e)
  exact⟨u,by simpa using h1,h2⟩
theorem zY.set{x:V}{u:Value}(r:RelV x u):∀ {xs:List V} {us:List Value} (i:Nat),zY xs us→zY (xs.set i x) (us.set i u)
 | _,_,_,.nil=>.nil
 | _,_,0,.cons _ t=>.cons r t
 | _,_,i+1,.cons q t=>.cons q (zY.set r i t)
theorem zY.append:∀ {xs ys:List V} {us ws:List Value},zY xs us→zY ys ws→zY (xs++ys) (us++ws)
 | _,_,_,_,.nil,s=>s
 | _,_,_,_,.cons r t,s=>.cons r (zY.append t s)
theorem zY.take:∀ {xs:List V} {us:List Value} (n:Nat),zY xs us→zY (xs.take n) (us.take n)
 | _,_,0,_=>.nil
 | _,_,_+1,.nil=>.nil
 | _,_,n+1,.cons r t=>.cons r (zY.take n t)
theorem zY.drop:∀ {xs:List V} {us:List Value} (n:Nat),zY xs us→zY (xs.drop n) (us.drop n)
 | _,_,0,r=>r
 | _,_,_+1,.nil=>.nil
 | _,_,n+1,.cons _ t=>zY.drop n t
noncomputable def zOC:Option V→Option Value→Prop
 | some v,some u=>RelV v u
 | none,none=>True
 | _,_=>False
noncomputable def KV{κ:Type}:List (κ×V)→List (κ×Value)→Prop:=Paired fun(p:κ×V) (q:κ×Value)=>p.1=q.1∧RelV p.2 q.2
noncomputable def kV:Key→V
 | .inl i=>.int i
 | .inr x=>.str x
set_option genInjectivity true in
inductive HO where
 /-- a list -/
 | lst (xs:List V)
 /-- a tuple (never changes) -/
 | tup (xs:List V)
 /-- a dict whose keys are ints and texts;one whose keys are tuples of ints and texts (the empty one is both) -/
 | dK (kvs:List (Key×V)) | dT (kvs:List (List Key×V))
 /-- a set of ints: its members,its size -/
 | set (S:Int→Bool) (n:Nat)
 /-- an instance of the class at C,its dict at dx,its attributes -/
 | ins (C dx:Addr) (fs:List (Str×V))
 /-- the dict of the instance at x -/
 | own (x:Addr)
 /-- the dict of an exception -/
 | xd (fs:List (Str×V))
 /-- a bound method,f of x -/
 | met (f x:Addr)
 /-- a range object lo,lo+1,.. below hi -/
 | rng (lo hi:Int)
 /-- a thing that is known to the object (the script;a dict while a loop walks it): read,never written while it is so -/
 | frz (o:Obj) (u:HO)
 /-- a code object's table -/
 | tbl (ps:Array Value)
 /-- any other thing,by what is true of its one object (a def of one's own: SetO a S n:=HO.ext fun h=>..) -/
 | ext (φ:Heap→Prop)
noncomputable abbrev Hp:=Addr→Option HO
noncomputable def wd(H:Hp)(a:Addr)(o:HO):Hp:=fun b=>if b=a then some o else H b
theorem zo{H:Hp}{a:Addr}{o:HO}:wd H a o a=some o:=by unfold wd;rw[if_pos rfl]
theorem yL{H:Hp}{a b:Addr}{o:HO}(h:b≠a):wd H a o b=H b:=by unfold wd;rw[if_neg h]
theorem zNn{H:Hp}{a b:Addr}{o u:HO}(h:H a=some o)(h':H b=some u)(d:o≠u):a≠b:=by
 intro e;subst e;rw[h] at h';exact d (Option.some.inj h')
theorem yk{H:Hp}{a b:Addr}{o:HO}(h:H a=some o)(h':H b=none):a≠b:=by
 intro e;subst e;rw[h] at h';cases h'
noncomputable def zE8(h:Heap)(a:Addr)(items:Array Value):Prop:=∃ o,h.get? a=some o∧o.cls=.type "tuple"∧(∃ n,o.data=.seq items n)∧o.dict=none
theorem zE8.isTup{h:Heap}{a:Addr}{items:Array Value}(x:zE8 h a items):IsTup h a items:=let ⟨o,h1,h2,h3,_⟩:=x;⟨o,h1,h2,h3⟩
theorem zE8.lt{h:Heap}{a:Addr}{items:Array Value}(x:zE8 h a items):a<h.objs.size:=x.isTup.lt
theorem zE8.new(h:Heap)(items:Array Value):zE8 (h.push { cls:=.type "tuple",data:=.seq items }) h.objs.size items:=⟨_,bM _ rfl,rfl,⟨_,rfl⟩,rfl⟩
section
variable (P:Program) (w:World)
noncomputable def wf(H:Hp)(h:Heap)(a:Addr):HO→Prop
 | .lst xs=>xs.length≤sizeLine∧∃(its:List Value) (n:Nat),zY xs its∧h.get? a=some { cls:=.type "list",data:=.seq its.toArray n }
 | .tup xs=>xs.length≤sizeLine∧∃ its:List Value,zY xs its∧zE8 h a its.toArray
 | .dK kvs=>kvs.length≤sizeLine∧(a==sysModules)=false∧∃ vs,KV kvs vs∧h.DictOf (zIn P w) a vs
 | .dT kvs=>kvs.length≤sizeLine∧(a==sysModules)=false∧∃ xs:List (List Key×Addr×Value),
   Paired (fun(p:List Key×V) (q:List Key×Addr×Value)=>p.1=q.1∧H q.2.1=some (.tup (p.1.map kV))∧RelV p.2 q.2.2) kvs xs ∧
   ∃ o es ep,h.get? a=some o∧o.ExactDict∧o.data=.dict es ep∧es.toList=xs.map (entryOfKey (tupleKind (zIn P w)))∧(xs.map (·.1)).Nodup
 | .set S n=>h.SetOf (intKind P w) a S n
 | .ins C dx fs=>H dx=some (.own a)∧fs.length≤1000∧dx≠a∧h.get? a=some (PySem.W.instObj C dx) ∧
   ∃ mA,h.Ns1 dx mA∧(∀ f,zOC (fs.lookup f) (mA f))∧PySem.Within mA (fs.map (·.1))
 | .own _=>∃ o,h.get? a=some o
 | .xd fs=>∃ mA,h.Ns1 a mA∧∀ f,zOC (fs.lookup f) (mA f)
 | .rng lo hi=>∃ t u v,h.get? a=some { cls:=.type "range",data:=.fields #[.int lo t,.int hi u,.int 1 v] }
 | .frz o u=>h.get? a=some o∧wf H h a u
 | .tbl ps=>∃(q:Str) (t:Tok) (vs:Array Value),ps=#[.str q t]∧h.get? a=some (PySem.W.tabObj vs)∧TriplesOk vs.toList∧∀(pos:Pos) (cv:Value),codeAmong pos vs.toList=some cv →
   ∃(c:Addr) (o:Obj) (us:Array Value) (t':Tok),cv=.ref c∧H c=some (.frz o (.own 0))∧o.data=.fields us∧us[1]?=some (.str q t')
 | .met f x=>h.get? a=some (PySem.W.methodObj (.ref f) (.ref x))
 | .ext φ=>φ h∧(∃ o,h.get? a=some o)∧∀ h1 h2:Heap,φ h1→(∀ o,h1.get? a=some o→h2.get? a=some o)→φ h2
noncomputable def HOk(H:Hp)(h:Heap):Prop:=∀ a o,H a=some o→wf P w H h a o
end
section
variable {P:Program} {w:World} {H H':Hp} {h h':Heap} {a:Addr} {o:HO}
theorem wf.lt(x:wf P w H h a o):a<h.objs.size:=by
 cases o with
 | lst xs=>obtain⟨u0,u0,u0,u0,e⟩:=x;exact bP e
 | tup xs=>obtain⟨u0,u0,u0,p⟩:=x;exact p.lt
 | dK kvs=>obtain⟨u0,u0,u0,u0,o,u0,u0,e,u0⟩:=x;exact bP e
 | dT kvs=>obtain⟨u0,u0,u0,u0,o,u0,u0,e,u0⟩:=x;exact bP e
 | set S n=>obtain⟨o,u0,u0,u0,e,u0⟩:=x;exact bP e
 | ins C dx fs=>obtain⟨u0,u0,u0,e,u0⟩:=x;exact bP e
 | own y=>obtain⟨u0,e⟩:=x;exact bP e
 | xd fs=>obtain⟨u0,⟨u0,u0,u0,e,u0⟩,u0⟩:=x;exact bP e
 | rng lo hi=>obtain⟨u0,u0,u0,e⟩:=x;exact bP e
 | frz ob u=>obtain⟨e,u0⟩:=x;exact bP e
 | tbl ps=>obtain⟨u0,u0,u0,u0,e,u0⟩:=x;exact bP e
 | met f y=>exact bP (show h.get? a=some _ from x)
 | ext φ=>obtain⟨u0,⟨u0,e⟩,u0⟩:=x;exact bP e
theorem Paired.mapP{α β:Type}{F G:α→β→Prop}:∀ {l₁:List α} {l₂:List β},Paired F l₁ l₂→(∀ a b,F a b→G a b)→Paired G l₁ l₂
 | _,_,.nil,_=>.nil
 | _,_,.cons r t,f=>.cons (f _ _ r) (Paired.mapP t f)
theorem wf.stay(x:wf P w H h a o)(k:∀ b u,(b=a∨H b=some (.own a))→h.get? b=some u→h'.get? b=some u)
  (ho:∀ b,H b=some (.own a)→H' b=some (.own a)) (ht:∀ b xs,H b=some (.tup xs)→H' b=some (.tup xs)) (hz:∀ b o u,H b=some (.frz o u)→H' b=some (.frz o u)):wf P w H' h' a o:=by
 induction o with
 | lst xs=>obtain⟨z,its,n,r,e⟩:=x;exact⟨z,its,n,r,k _ _ (.inl rfl) e⟩
 | tup xs=>obtain⟨z,its,r,ob,e,c⟩:=x;exact⟨z,its,r,ob,k _ _ (.inl rfl) e,c⟩
 | dK kvs=>obtain⟨z,y,vs,r,ob,es,ep,e,c⟩:=x;exact⟨z,y,vs,r,ob,es,ep,k _ _ (.inl rfl) e,c⟩
 | dT kvs =>
  obtain⟨z,y,xs,r,ob,es,ep,e,c⟩:=x
  exact⟨z,y,xs,Paired.mapP r fun p q z=>⟨z.1,ht _ _ z.2.1,z.2.2⟩,ob,es,ep,k _ _ (.inl rfl) e,c⟩
 | set S n=>obtain⟨ob,es,ep,t,e,c⟩:=x;exact⟨ob,es,ep,t,k _ _ (.inl rfl) e,c⟩
 | ins C dx fs =>
  obtain⟨d,z,ne,e,mA,⟨od,es,ep,e2,c⟩,r⟩:=x
  exact⟨ho _ d,z,ne,k _ _ (.inl rfl) e,mA,⟨od,es,ep,k _ _ (.inr d) e2,c⟩,r⟩
 | own y=>obtain⟨ob,e⟩:=x;exact⟨ob,k _ _ (.inl rfl) e⟩
 | xd fs=>obtain⟨mA,⟨od,es,ep,e,c⟩,r⟩:=x;exact⟨mA,⟨od,es,ep,k _ _ (.inl rfl) e,c⟩,r⟩
 | rng lo hi=>obtain⟨t,u,v,e⟩:=x;exact⟨t,u,v,k _ _ (.inl rfl) e⟩
 | frz ob u ih=>obtain⟨e,q⟩:=x;exact⟨k _ _ (.inl rfl) e,ih q⟩
 | tbl ps =>
  obtain⟨q,t,vs,e0,e,e1,e2⟩:=x
  refine⟨q,t,vs,e0,k _ _ (.inl rfl) e,e1,fun pos cv z=>?_⟩
  obtain⟨c,oc,us,t',z1,z2,z3⟩:=e2 pos cv z
  exact⟨c,oc,us,t',z1,hz _ _ _ z2,z3⟩
 | met f y =>
  have e:h.get? a=some (PySem.W.methodObj (.ref f) (.ref y)):=x
  show h'.get? a=some (PySem.W.methodObj (.ref f) (.ref y))
  exact k a _ (.inl rfl) e
 | ext φ=>obtain⟨p,⟨o,e⟩,st⟩:=x;exact⟨st _ _ p fun o q=>k _ _ (.inl rfl) q,⟨o,k _ _ (.inl rfl) e⟩,st⟩
theorem HOk.lt(x:HOk P w H h)(e:H a=some o):a<h.objs.size:=(x a o e).lt
theorem HOk.fresh(x:HOk P w H h)(e:h.objs.size≤a):H a=none:=by
 cases q:H a with
 | none=>rfl
 | some u=>exact absurd (bX (x.lt q) e) (de _)
theorem HOk.kept(x:HOk P w H h)(k:∀ b u,h.get? b=some u→h'.get? b=some u):HOk P w H h':=fun a o e =>
 (x a o e).stay (fun b u u0 q=>k b u q) (fun u0 q=>q) (fun u0 u0 q=>q) fun u0 u0 u0 q=>q
theorem HOk.laid(x:HOk P w H h)(k:∀ b u,h.get? b=some u→h'.get? b=some u)(hp:h.objs.size≤a)(new:wf P w (wd H a o) h' a o):HOk P w (wd H a o) h':=fun b u e=>by
 have hn:=x.fresh hp
 by_cases hb:b=a
 ·subst hb;rw[zo] at e;cases e;exact new
 ·rw[yL hb] at e
  exact(x b u e).stay (fun c v u0 q=>k c v q) (fun c q=>by rw[yL (yk q hn)];exact q) (fun c xs q=>by rw[yL (yk q hn)];exact q) fun c oo u q=>by rw[yL (yk q hn)];exact q
end
noncomputable def Rd(H:Hp)(a:Addr)(u:HO):Prop:=H a=some u∨∃ o,H a=some (.frz o u)
theorem Rd.of{H:Hp}{a:Addr}{u:HO}(h:H a=some u):Rd H a u:=.inl h
theorem Rd.ok{P:Program}{w:World}{H:Hp}{h:Heap}{a:Addr}{u:HO}(r:Rd H a u)(x:HOk P w H h):wf P w H h a u:=by
 rcases r with r | ⟨o,r⟩
 ·exact x a u r
 ·obtain⟨u0,q⟩:=x a _ r
  exact q
noncomputable def Mut:Option HO→Prop
 | some (.lst _)=>True
 | some (.dK _)=>True
 | some (.dT _)=>True
 | some (.set _ _)=>True
 | some (.ins _ _ _)=>True
 | some (.ext _)=>True
 | _=>False
section
variable {P:Program} {w:World} {H:Hp} {h h':Heap} {x e:Addr} {o':HO}
theorem HOk.write(ok:HOk P w H h)(mu:Mut (H x))(he:e=x∨H e=some (.own x))(k:∀ b u,b≠e→h.get? b=some u→h'.get? b=some u)(heo:∃ u,h'.get? e=some u)
  (new:wf P w (wd H x o') h' x o'):HOk P w (wd H x o') h':=fun b u q=>by
 have nown:∀ c y,H c=some (.own y)→c≠x:=fun c y r z=>by subst z;rw[r] at mu;exact mu
 have ntup:∀ c xs,H c=some (.tup xs)→c≠x:=fun c xs r z=>by subst z;rw[r] at mu;exact mu
 have nfrz:∀ c oo u,H c=some (.frz oo u)→c≠x:=fun c oo u r z=>by subst z;rw[r] at mu;exact mu
 by_cases hb:b=x
 ·subst hb;rw[zo] at q;cases q;exact new
 ·rw[yL hb] at q
  by_cases hbe:b=e
  ·have q':H b=some (.own x):=by
    rcases he with z | z
    ·exact absurd (hbe.trans z) hb
    ·rw[hbe];exact z
   rw[q] at q';cases q'
   obtain⟨v,hv⟩:=heo
   exact⟨v,by rw[hbe];exact hv⟩
  ·refine(ok b u q).stay (fun c v hc r=>k c v ?_ r) (fun c r=>by rw[yL (nown c b r)];exact r) (fun c xs r=>by rw[yL (ntup c xs r)];exact r) fun c oo u r=>by rw[yL (nfrz c oo u r)];exact r
   rcases hc with rfl | hc
   ·exact hbe
   ·rintro rfl
    rcases he with z | z
    ·exact nown c b hc z
    ·rw[hc] at z;cases z;exact hb rfl
end
structure Un (fs ex:List Addr) (H H':Hp) (h h':Heap):Prop where
 keep:∀ b o,h.get? b=some o→H b=none→b∉fs→b∉ex→h'.get? b=some o
 slot:∀ b o,h.get? b=some o→H b=none→b∈fs→b∉ex→∃ sl,h'.get? b=some { o with slots:=sl }
 free:∀ b o,h.get? b=some o→H b=none→b∉ex→H' b=none
 there:∀ b o,h.get? b=some o→b∉ex→∃ o',h'.get? b=some o'
 tups:∀ b xs,H b=some (.tup xs)→H' b=some (.tup xs)
 frzs:∀ b o u,H b=some (.frz o u)→H' b=some (.frz o u)
 tbls:∀ b ps,H b=some (.tbl ps)→H' b=some (.tbl ps)
section
variable {fs fs' ex ex':List Addr} {H H1 H2:Hp} {h h1 h2 h':Heap} {a x e:Addr} {o:HO}
theorem Un.any(u:Un fs ex H H1 h h1){b:Addr}{ob:Obj}(q:h.get? b=some ob)(n:H b=none)(hx:b∉ex):∃ sl,h1.get? b=some { ob with slots:=sl }:=by
 by_cases hb:b∈fs
 ·exact u.slot b ob q n hb hx
 ·exact⟨ob.slots,u.keep b ob q n hb hx⟩
theorem Un.trans(a:Un fs ex H H1 h h1)(b:Un fs ex H1 H2 h1 h2):Un fs ex H H2 h h2 where
 keep:=fun c ob q n hc hx=>b.keep c ob (a.keep c ob q n hc hx) (a.free c ob q n hx) hc hx
 slot:=fun c ob q n hc hx=>by
  obtain⟨sl,e1⟩:=a.slot c ob q n hc hx
  obtain⟨sl',e2⟩:=b.slot c _ e1 (a.free c ob q n hx) hc hx
  exact⟨sl',e2⟩
 free:=fun c ob q n hx=>by
  obtain⟨o',e1⟩:=a.there c ob q hx
  exact b.free c o' e1 (a.free c ob q n hx) hx
 there:=fun c ob q hx=>by
  obtain⟨o',e1⟩:=a.there c ob q hx
  exact b.there c o' e1 hx
 tups:=fun c xs q=>b.tups c xs (a.tups c xs q)
 frzs:=fun c ob xs q=>b.frzs c ob xs (a.frzs c ob xs q)
 tbls:=fun c ps q=>b.tbls c ps (a.tbls c ps q)
theorem Un.kept(k:∀ b u,h.get? b=some u→h'.get? b=some u):Un fs ex H H h h' :=
 ⟨fun b ob q u0 u0 u0=>k b ob q,fun b ob q u0 u0 u0=>⟨ob.slots,k b ob q⟩,fun u0 u0 u0 n u0=>n,fun b ob q u0=>⟨ob,k b ob q⟩,fun u0 u0 q=>q,fun u0 u0 u0 q=>q,fun u0 u0 q=>q⟩
theorem Un.refl:Un fs ex H H h h:=Un.kept fun u0 u0 q=>q
theorem Un.laid(k:∀ b u,h.get? b=some u→h'.get? b=some u)(hp:h.objs.size≤a)(hn:H a=none):Un fs ex H (wd H a o) h h' where
 keep:=fun b u q u0 u0 u0=>k b u q
 slot:=fun b u q u0 u0 u0=>⟨u.slots,k b u q⟩
 free:=fun b u q n u0=>by rw[yL (cg (bX (bP q) hp))];exact n
 there:=fun b u q u0=>⟨u,k b u q⟩
 tups:=fun b xs q=>by rw[yL (yk q hn)];exact q
 frzs:=fun b u xs q=>by rw[yL (yk q hn)];exact q
 tbls:=fun b ps q=>by rw[yL (yk q hn)];exact q
theorem Un.write(mu:Mut (H x))(he:e=x∨H e=some (.own x))(k:∀ b u,b≠e→h.get? b=some u→h'.get? b=some u)(heo:∃ u,h'.get? e=some u):Un fs ex H (wd H x o) h h':=by
 have hx:∀ b,H b=none→b≠x:=fun b n z=>by subst z;rw[n] at mu;exact mu
 have hb:∀ b,H b=none→b≠e:=fun b n z=>by
  subst z
  rcases he with r | r
  ·exact hx b n r
  ·rw[n] at r;cases r
 have hm:∀ b u,H b=some u→¬ Mut (some u)→b≠x:=fun b u q nm z=>by subst z;rw[q] at mu;exact nm mu
 refine⟨fun b u q n u0 u0=>k b u (hb b n) q,fun b u q n u0 u0=>⟨u.slots,k b u (hb b n) q⟩,fun b u q n u0=>by rw[yL (hx b n)];exact n,fun b u q u0=>?_,
  fun b xs q=>by rw[yL (hm b _ q fun z=>z)];exact q,fun b u xs q=>by rw[yL (hm b _ q fun z=>z)];exact q,fun b ps q=>by rw[yL (hm b _ q fun z=>z)];exact q⟩
 by_cases hbe:b=e
 ·subst hbe;exact heo
 ·exact⟨u,k b u hbe q⟩
theorem Un.mono(u:Un fs ex H H1 h h1)(hs:∀ b∈fs,b∈fs')(hx:∀ b∈ex,b∈ex'):Un fs' ex' H H1 h h1 :=
 ⟨fun b ob q n hb he=>u.keep b ob q n (fun z=>hb (hs b z)) fun z=>he (hx b z),fun u0 u0 q n u0 he=>u.any q n fun z=>he (hx _ z),fun b ob q n he=>u.free b ob q n fun z=>he (hx b z),fun b ob q he=>u.there b ob q fun z=>he (hx b z),u.tups,u.frzs,u.tbls⟩
end
noncomputable def trk(h:Heap)(H:Hp):List Addr:=(bE h.objs.size).filter fun a=>(H a).isSome
noncomputable def zFz(h:Heap)(H:Hp):Heap:=PySem.W.hideAll h (trk h H)
theorem zJd(h:Heap)(H:Hp):(zFz h H).objs.size=h.objs.size:=PySem.W.hideAll_size _ _
theorem zKk{h:Heap}{H:Hp}{b:Addr}{o:Obj}(e:h.get? b=some o)(n:H b=none):(zFz h H).get? b=some o :=
 PySem.W.hideAll_get _ e fun hm=>by
  have q:(H b).isSome=true:=(bV.mp hm).2
  rw[n] at q;simp at q
theorem zMT{h:Heap}{H:Hp}{b:Addr}{o:Obj}(e:(zFz h H).get? b=some o):h.get? b=some o∧H b=none:=by
 have e':h.get? b=some o:=PySem.W.of_hideAll (trk h H) e
 refine⟨e',?_⟩
 cases q:H b with
 | none=>rfl
 | some x =>
  have hm:b∈trk h H:=bV.mpr ⟨cb.mpr (bP e'),by simp[q]⟩
  have z:(zFz h H).get? b=none:=PySem.W.hideAll_none (trk h H) hm
  rw[z] at e;cases e
noncomputable def zMU(g h:Heap)(L:Addr):List (Addr×Obj):=(bE h.objs.size).filterMap fun a=>if a=L∨(g.get? a).isSome=true then none else (h.get? a).map fun o=>(a,o)
noncomputable def rest(g h:Heap)(L d:Addr):List (Addr×Obj):=(zMU g h L).filter fun p=>decide (p.1≠d)
structure Mod (K:PySem.W.Frag) (mg:Str→Option Value) (base:Heap):Prop where
 kin:K.In base
 glob:base.Ns mainGlobals mg
 blt:∃ mb,base.Ns builtinsNs mb∧∀ x:Str,x≠"__name__"→mb x=bootBuiltins x
 nolimit:base.NoLimit
structure Cx where
 prog:Program
 w:World
 K:PySem.W.Frag
 mg:Str→Option Value
 base:Heap
 A:Around
 N:List Str
 s₀:Shared
 H₀:Hp
 env:Env
 outer:List Env
 stack:List Env
 ex:List Addr
 fn:Str→Bool
 calm:Bool
 pn:List (Addr×Obj)
 xe:Value→Shared→Prop
noncomputable def frs(l:List Env):List Addr:=l.filterMap (·.frame)
noncomputable abbrev Cx.fs(X:Cx):List Addr:=frs X.outer
noncomputable def Vis(sc:Scope)(x:Str):Prop:=sc.names.lookup x=some .local∨sc.names.lookup x=some .cell∨sc.names.lookup x=some .free
noncomputable def Loc(sc:Scope)(x:Str):Prop:=sc.names.lookup x=some .local∨sc.names.lookup x=some .cell
noncomputable def Look(env:Env)(h:Heap)(m:Str→Option Value)(x:Str)(u:Value):Prop :=
 (env.kindOf x=some .local∧m x=some u)∨((env.kindOf x=some .cell∨env.kindOf x=some .free)∧∃ c,env.cells.lookup x=some c∧h.IsCell c (some u))
noncomputable def zIo:List Str:=[]
noncomputable def TabsOk(K:PySem.W.Frag)(H:Hp):Prop:=∀ x∈zIo,∀ c b,PySem.W.tabIn K x=some (c,b)→∃ t,H b=some (.tbl #[.str (x++".<locals>.<lambda>") t])
structure Cx.Ok (X:Cx):Prop where
 mod:Mod X.K X.mg X.base
 kind:X.env.scope.kind=.function
 glob:X.env.globals=mainGlobals
 blt:X.env.builtins=builtinsNs
 above:X.s₀.heap.objs.size≤X.env.locals
 inj:∀ x y c,X.env.cells.lookup x=some c→X.env.cells.lookup y=some c→x=y
 has:∀ x,(X.env.kindOf x=some .cell∨X.env.kindOf x=some .free)→∃ c,X.env.cells.lookup x=some c
 cab:∀ x c,X.fn x=true→X.env.cells.lookup x=some c→X.s₀.heap.objs.size≤c
 hd:X.calm=true→X.A.handled=none
 frames:X.A.frames=some X.stack
 stk:X.stack=X.outer∨(X.stack=X.env::X.outer∧X.env.frame=some X.env.locals)
 exf:∀ b∈X.ex,b≠X.env.locals∧∀ x c,X.env.cells.lookup x=some c→c≠b
 bs:∀ b o,X.base.get? b=some o→X.s₀.heap.get? b=some o∧X.H₀ b=none
 bsz:X.base.objs.size≤X.s₀.heap.objs.size
 noex:∀ b o,X.base.get? b=some o→b∉X.ex
 exfs:∀ b∈X.ex,b∉X.fs
 funs:X.s₀.heap.FunFrames X.base X.outer
 frf:∀ b∈X.fs,X.H₀ b=none
 tb:TabsOk X.K X.H₀
structure zW (X:Cx) (pins:List (Addr×Obj)) (σ:List (Option V)) (H:Hp) (s:Shared):Prop where
 ok:X.Ok
 os:s.os=X.s₀.os
 bare:AllBare s.gens
 base:Un X.fs X.ex X.H₀ H X.s₀.heap s.heap
 loc:∃ m,s.heap.Ns X.env.locals m∧∀(i:Nat) (x:Str) (v:V),X.N[i]?=some x→σ[i]?=some (some v)→Vis X.env.scope x→∃ u,RelV v u∧Look X.env s.heap m x u
 cell:∀ x c,X.env.cells.lookup x=some c→∃ v,s.heap.IsCell c v
 free:H X.env.locals=none
 freeC:∀ x c,X.env.cells.lookup x=some c→H c=none
 pin:∀ p∈X.pn++pins,s.heap.get? p.1=some p.2∧H p.1=none∧p.1≠X.env.locals∧p.1∉X.fs∧∀ v,p.2.data≠.cell v
 hok:HOk X.prog X.w H s.heap
 len:σ.length=X.N.length
section
variable {X:Cx} {pins:List (Addr×Obj)} {σ:List (Option V)} {H H':Hp} {s:Shared} {h':Heap}
theorem Cx.Ok.nofr(ok:X.Ok){b:Addr}{o:Obj}(e:X.base.get? b=some o):b∉X.fs:=fun hb=>by
 have:=(ok.funs.mem hb).1
 rw[e] at this;cases this
theorem zW.bs(I:zW X pins σ H s):∀ b o,X.base.get? b=some o→s.heap.get? b=some o∧H b=none:=fun b o e =>
 ⟨I.base.keep b o (I.ok.bs b o e).1 (I.ok.bs b o e).2 (I.ok.nofr e) (I.ok.noex b o e),I.base.free b o (I.ok.bs b o e).1 (I.ok.bs b o e).2 (I.ok.noex b o e)⟩
theorem zW.bk(I:zW X pins σ H s):∀ b o,X.base.get? b=some o→s.heap.get? b=some o:=fun b o e=>(I.bs b o e).1
theorem zW.mod(I:zW X pins σ H s):Mod X.K X.mg X.base:=I.ok.mod
theorem zW.tabs(I:zW X pins σ H s):TabsOk X.K H:=fun x hx c b e=>by
 obtain⟨t,q⟩:=I.ok.tb x hx c b e
 exact⟨t,I.base.tbls b _ q⟩
theorem zW.kIn(I:zW X pins σ H s):X.K.In s.heap:=I.ok.mod.kin.keeps I.bk
theorem zW.nolimit(I:zW X pins σ H s):s.heap.NoLimit:=I.ok.mod.nolimit.keeps I.bk
theorem zW.fr(I:zW X pins σ H s):∃ m,Fr X.base X.env.locals s.heap m :=
 let ⟨m,hn,_⟩:=I.loc
 ⟨m,hn,I.bk,cC I.ok.bsz I.ok.above⟩
theorem zW.lt(I:zW X pins σ H s):X.env.locals<s.heap.objs.size:=let ⟨_,hn,_⟩:=I.loc;hn.lt
theorem zW.sz(I:zW X pins σ H s):X.s₀.heap.objs.size≤s.heap.objs.size:=cC I.ok.above (el I.lt)
theorem zW.nofs(I:zW X pins σ H s){a:Addr}(h:s.heap.objs.size≤a):a∉X.fs:=fun hb=>by
 obtain⟨u0,o,ho,u0⟩:=I.ok.funs.mem hb
 exact absurd (bX (bP ho) (cC I.sz h)) (de _)
theorem zW.cne(I:zW X pins σ H s):∀ x c,X.env.cells.lookup x=some c→c≠X.env.locals:=fun x c e z=>by
 obtain⟨v,o,ho,hd⟩:=I.cell x c e
 obtain⟨m,⟨o',es,ep,ho',hd',u0⟩,u0⟩:=I.loc
 rw[z,ho'] at ho;cases ho;rw[hd'] at hd;cases hd
theorem zW.funs(I:zW X pins σ H s):s.heap.FunFrames X.base X.outer:=by
 have all:∀(l:List Env),(∀ b∈frs l,b∈X.fs)→X.s₀.heap.FunFrames X.base l→s.heap.FunFrames X.base l:=by
  intro l
  induction l with
  | nil=>intro u0 u0;trivial
  | cons env r ih =>
   intro hs hl
   obtain⟨hk,⟨L,o,hf,hn,ho,hd⟩,hr⟩:=hl
   have hL:L∈X.fs:=hs L (by unfold frs;rw[ef,hf];exact cc)
   obtain⟨sl,e⟩:=I.base.slot L o ho (I.ok.frf L hL) hL fun z=>I.ok.exfs L z hL
   exact⟨hk,⟨L,_,hf,hn,e,hd⟩,ih (fun b hb=>hs b (by unfold frs;rw[ef,hf];exact ca _ hb)) hr⟩
 exact all X.outer (fun u0 hb=>hb) I.ok.funs
theorem zW.stack(I:zW X pins σ H s):s.heap.FunFrames X.base X.stack:=by
 rcases I.ok.stk with e | ⟨e,hf⟩
 ·rw[e];exact I.funs
 ·rw[e]
  obtain⟨m,hn,u0⟩:=I.loc
  refine .cons (by rw[I.ok.kind];decide) hf hn ?_ I.funs
  exact Heap.get?_none_of_le (cC I.ok.bsz I.ok.above)
theorem zW.stkSub(I:zW X pins σ H s):∀ b∈frs X.stack,b∈X.env.locals::X.fs:=fun b hb=>by
 rcases I.ok.stk with e | ⟨e,hf⟩
 ·rw[e] at hb;exact ca _ hb
 ·rw[e] at hb
  unfold frs at hb
  rw[ef,hf] at hb
  exact hb
theorem zW.stkFree(I:zW X pins σ H s):∀ b∈frs X.stack,H b=none:=fun b hb=>by
 rcases ce.mp (I.stkSub b hb) with e | hb
 ·rw[e];exact I.free
 ·obtain⟨u0,o,ho,u0⟩:=I.ok.funs.mem hb
  exact I.base.free b o ho (I.ok.frf b hb) fun z=>I.ok.exfs b z hb
theorem zW.step{g':Array GenState}{t':Nat}{d':Drawn}{ch:List Addr}(I:zW X pins σ H s)
  (hch:∀ b∈ch,(b∈X.ex∨X.s₀.heap.objs.size≤b)∧b≠X.env.locals∧(∀ x c,X.env.cells.lookup x=some c→c≠b)∧∀ p∈X.pn++pins,p.1≠b)
  (keep:∀ b o,b≠X.env.locals→b∉X.fs→b∉ch→s.heap.get? b=some o→H b=none→h'.get? b=some o)
  (slot:∀ b o,b≠X.env.locals→b∈X.fs→b∉ch→s.heap.get? b=some o→H b=none→∃ sl,h'.get? b=some { o with slots:=sl }) (free:∀ b o,b∉ch→s.heap.get? b=some o→H b=none→H' b=none)
  (there:∀ b o,b∉ch→s.heap.get? b=some o→∃ o',h'.get? b=some o')
  (tups:∀ b xs,H b=some (.tup xs)→H' b=some (.tup xs)) (frzs:∀ b o u,H b=some (.frz o u)→H' b=some (.frz o u)) (tbls:∀ b ps,H b=some (.tbl ps)→H' b=some (.tbl ps))
  (ns:∀ m,s.heap.Ns X.env.locals m→h'.Ns X.env.locals m) (hok:HOk X.prog X.w H' h') (hg:AllBare g') :
  zW X pins σ H' { s with heap:=h',gens:=g',drawn:=d',toks:=t' }:=by
 have neL:∀ b o,X.s₀.heap.get? b=some o→b≠X.env.locals:=fun b o e=>cg (bX (bP e) I.ok.above)
 have neC:∀ b o,X.s₀.heap.get? b=some o→b∉X.ex→b∉ch:=fun b o e hx hb=>by
  rcases(hch b hb).1 with z | z
  ·exact hx z
  ·exact absurd (bX (bP e) z) (de _)
 have cellK:∀ x c,X.env.cells.lookup x=some c→∀ v,s.heap.IsCell c v→h'.IsCell c v:=fun x c e v ⟨o,ho,hd⟩=>by
  have nch:c∉ch:=fun z=>(hch c z).2.2.1 x c e rfl
  by_cases hc:c∈X.fs
  ·obtain⟨sl,q⟩:=slot c o (I.cne x c e) hc nch ho (I.freeC x c e)
   exact⟨_,q,hd⟩
  ·exact⟨o,keep c o (I.cne x c e) hc nch ho (I.freeC x c e),hd⟩
 refine⟨I.ok,I.os,hg,⟨fun b o e n hb hx=>?_,fun b o e n hb hx=>?_,fun b o e n hx=>?_,fun b o e hx=>?_,fun b xs e=>tups b xs (I.base.tups b xs e),fun b o xs e=>frzs b o xs (I.base.frzs b o xs e),fun b ps e=>?_⟩,?_,fun x c e=>?_,?_,fun x c e=>?_,fun p hp=>?_,hok,I.len⟩
 ·exact keep b o (neL b o e) hb (neC b o e hx) (I.base.keep b o e n hb hx) (I.base.free b o e n hx)
 ·obtain⟨sl,e1⟩:=I.base.slot b o e n hb hx
  obtain⟨sl',e2⟩:=slot b _ (neL b o e) hb (neC b o e hx) e1 (I.base.free b o e n hx)
  exact⟨sl',e2⟩
 ·obtain⟨o',e1⟩:=I.base.there b o e hx
  exact free b o' (neC b o e hx) e1 (I.base.free b o e n hx)
 ·obtain⟨o',e1⟩:=I.base.there b o e hx
  exact there b o' (neC b o e hx) e1
 ·exact tbls b _ (I.base.tbls b ps e)
 ·obtain⟨m,hn,hl⟩:=I.loc
  refine⟨m,ns m hn,fun i x v e1 e2 e3=>?_⟩
  obtain⟨u,r,l⟩:=hl i x v e1 e2 e3
  refine⟨u,r,?_⟩
  rcases l with l | ⟨k,c,e,z⟩
  ·exact .inl l
  ·exact .inr ⟨k,c,e,cellK x c e _ z⟩
 ·obtain⟨v,z⟩:=I.cell x c e
  exact⟨v,cellK x c e v z⟩
 ·obtain⟨m,⟨o,u0,u0,ho,u0⟩,u0⟩:=I.loc
  exact free _ o (fun z=>(hch _ z).2.1 rfl) ho I.free
 ·obtain⟨v,o,ho,hd⟩:=I.cell x c e
  exact free c o (fun z=>(hch c z).2.2.1 x c e rfl) ho (I.freeC x c e)
 ·obtain⟨e,n,ne,nf,d⟩:=I.pin p hp
  have nch:p.1∉ch:=fun z=>(hch p.1 z).2.2.2 p hp rfl
  exact⟨keep p.1 p.2 ne nf nch e n,free p.1 p.2 nch e n,ne,nf,d⟩
theorem zW.un{t':Nat}(I:zW X pins σ H s)(u:Un X.fs [] H H' s.heap h')(hok:HOk X.prog X.w H' h'):zW X pins σ H' { s with heap:=h',toks:=t' }:=by
 obtain⟨m,⟨o,es,ep,ho,r⟩,u0⟩:=id I.loc
 obtain⟨sl,hL⟩:=u.any ho I.free (by simp)
 exact I.step (g':=s.gens) (d':=s.drawn) (ch:=[]) (fun u0 z=>nomatch z) (fun b o u0 hb u0 e n=>u.keep b o e n hb (by simp)) (fun b o u0 hb u0 e n=>u.slot b o e n hb (by simp)) (fun b o u0 e n=>u.free b o e n (by simp)) (fun b o u0 e=>u.there b o e (by simp)) u.tups u.frzs u.tbls (fun m' hm=>by
  obtain⟨o',es',ep',ho',r'⟩:=hm
  rw[ho] at ho';cases ho'
  exact⟨_,es',ep',hL,r'⟩) hok I.bare
theorem zW.call{g':Array GenState}{t':Nat}{d':Drawn}{ch:List Addr}(I:zW X pins σ H s)(u:Un (frs X.stack) ch H H' s.heap h')(hok:HOk X.prog X.w H' h')(hg:AllBare g')
  (hch:∀ b∈ch,(b∈X.ex∨X.s₀.heap.objs.size≤b)∧b≠X.env.locals∧(∀ x c,X.env.cells.lookup x=some c→c≠b)∧∀ p∈X.pn++pins,p.1≠b) :
  zW X pins σ H' { s with heap:=h',gens:=g',drawn:=d',toks:=t' }:=by
 obtain⟨m,⟨o,es,ep,ho,r⟩,u0⟩:=id I.loc
 obtain⟨sl,hL⟩:=u.any ho I.free fun z=>(hch _ z).2.1 rfl
 exact I.step (ch:=ch) hch (fun b o hL hb hc e n=>u.keep b o e n (fun z=>(ce.mp (I.stkSub b z)).elim hL hb) hc) (fun b o u0 u0 hc e n=>u.any e n hc) (fun b o hc e n=>u.free b o e n hc) (fun b o hc e=>u.there b o e hc) u.tups u.frzs u.tbls (fun m' hm=>by
  obtain⟨o',es',ep',ho',r'⟩:=hm
  rw[ho] at ho';cases ho'
  exact⟨_,es',ep',hL,r'⟩) hok hg
theorem zW.turned{t':Nat}{it:Addr}(I:zW X pins σ H s)(k:∀ b o,b≠it→s.heap.get? b=some o→h'.get? b=some o)(hn:H it=none)(hL:it≠X.env.locals)
  (h1:it∈X.ex∨X.s₀.heap.objs.size≤it) (h2:∀ x c,X.env.cells.lookup x=some c→c≠it) (h3:∀ p∈X.pn++pins,p.1≠it):zW X pins σ H { s with heap:=h',toks:=t' }:=by
 have nit:∀ b u,H b=some u→b≠it:=fun b u e z=>by rw[z,hn] at e;cases e
 refine I.step (g':=s.gens) (d':=s.drawn) (ch:=[it]) (fun b hb=>?_) (fun b o u0 u0 hc e u0=>k b o (fun z=>hc (by simp[z])) e) (fun b o u0 u0 hc e u0=>⟨o.slots,k b o (fun z=>hc (by simp[z])) e⟩) (fun u0 u0 u0 u0 n=>n)
  (fun b o hc e=>⟨o,k b o (fun z=>hc (by simp[z])) e⟩) (fun u0 u0 e=>e) (fun u0 u0 u0 e=>e) (fun u0 u0 e=>e) (fun m hm=>?_) (fun b u e=>?_) I.bare
 ·have e:b=it:=by simpa using hb
  subst e
  exact⟨h1,hL,h2,h3⟩
 ·obtain⟨o,es,ep,ho,r⟩:=hm
  exact⟨o,es,ep,k _ o (Ne.symm hL) ho,r⟩
 ·refine(I.hok b u e).stay (fun c v hc q=>k c v ?_ q) (fun u0 q=>q) (fun u0 u0 q=>q) fun u0 u0 u0 q=>q
  rcases hc with z | z
  ·rw[z];exact nit b u e
  ·exact nit c _ z
theorem zW.tok(I:zW X pins σ H s)(t:Nat):zW X pins σ H { s with toks:=t }:=I.un (h':=s.heap) (t':=t) Un.refl I.hok
theorem zW.kept{t':Nat}(I:zW X pins σ H s)(k:∀ b u,s.heap.get? b=some u→h'.get? b=some u):zW X pins σ H { s with heap:=h',toks:=t' }:=I.un (Un.kept k) (I.hok.kept k)
theorem zW.laid{a:Addr}{o:HO}{t':Nat}(I:zW X pins σ H s)(k:∀ b u,s.heap.get? b=some u→h'.get? b=some u)(hp:s.heap.objs.size≤a)(new:wf X.prog X.w (wd H a o) h' a o) :
  zW X pins σ (wd H a o) { s with heap:=h',toks:=t' }:=I.un (Un.laid k hp (I.hok.fresh hp)) (I.hok.laid k hp new)
theorem zW.write{x e:Addr}{o:HO}{t':Nat}(I:zW X pins σ H s)(mu:Mut (H x))(he:e=x∨H e=some (.own x))(k:∀ b u,b≠e→s.heap.get? b=some u→h'.get? b=some u)(heo:∃ u,h'.get? e=some u)
  (new:wf X.prog X.w (wd H x o) h' x o):zW X pins σ (wd H x o) { s with heap:=h',toks:=t' }:=I.un (Un.write mu he k heo) (I.hok.write mu he k heo new)
theorem zW.weak{σ':List (Option V)}(I:zW X pins σ H s)(hl:σ'.length=σ.length)(w:∀(i:Nat) v,σ'[i]?=some (some v)→σ[i]?=some (some v)):zW X pins σ' H s :=
 ⟨I.ok,I.os,I.bare,I.base,let ⟨m,hn,hl'⟩:=I.loc;⟨m,hn,fun i x v e1 e2 e3=>hl' i x v e1 (w i v e2) e3⟩,I.cell,I.free,I.freeC,I.pin,I.hok,hl.trans I.len⟩
theorem zW.pins_of{pins':List (Addr×Obj)}(I:zW X pins σ H s)(h:∀ p∈pins',s.heap.get? p.1=some p.2∧H p.1=none∧p.1≠X.env.locals∧p.1∉X.fs∧∀ v,p.2.data≠.cell v):zW X pins' σ H s :=
 ⟨I.ok,I.os,I.bare,I.base,I.loc,I.cell,I.free,I.freeC,fun p hp=>(bR.mp hp).elim (fun z=>I.pin p (dW _ z)) (h p),I.hok,I.len⟩
theorem zGf{N:List Str}(hN:N.Nodup){i j:Nat}{x:Str}(a:N[i]?=some x)(b:N[j]?=some x):i=j:=by
 obtain⟨h1,e1⟩:=bN.mp a
 obtain⟨h2,e2⟩:=bN.mp b
 exact(List.getElem_inj hN).mp (e1.trans e2.symm)
theorem zFN{M:Model}{A:Around}{E:Value→Shared→Prop}{i:Nat}{x:Str}{v:V}{u:Value}{Q:Unit→Shared→Prop}(I:zW X pins σ H s)(hN:X.N.Nodup)(hi:X.N[i]?=some x)(hx:Loc X.env.scope x)(r:RelV v u)
  (h:∀ s',zW X pins (σ.set i (some v)) H s'→(∃ a,dP a s.heap s'.heap∧(a=X.env.locals∨X.env.cells.lookup x=some a))→Q () s') (hf:X.fn x=true∨X.env.scope.names.lookup x=some .local:=by first | exact .inl rfl | exact .inr rfl | assumption):wpAny M A (storeName X.env x u) Q E s:=by
 obtain⟨m,hn,hl⟩:=id I.loc
 have hcls:(X.env.scope.kind==.class||(X.env.scope.kind==.module&&X.env.locals != X.env.globals))=false:=by rw[I.ok.kind];rfl
 have hiσ:i<σ.length:=by rw[I.len];exact(bN.mp hi).1
 have cne:=I.cne
 have tracked:∀ {a:Addr} {h':Heap},(∃ o,s.heap.get? a=some o∧H a=none)→dP a s.heap h'→HOk X.prog X.w H h':=fun {a h'} ha hs b ob e=>by
  obtain⟨u0,u0,hfree⟩:=ha
  refine(I.hok b ob e).stay (fun c w' hc q=>(hs.2 c ?_).trans q) (fun u0 q=>q) (fun u0 u0 q=>q) fun u0 u0 u0 q=>q
  rintro rfl
  rcases hc with rfl | hc
  ·rw[hfree] at e;cases e
  ·rw[hfree] at hc;cases hc
 rcases hx with hk | hk
 ·refine wpAny_storeName_local hk hn (fun h' hn' hs=>?_) hcls
  obtain⟨oL,u0,u0,hoL,u0⟩:=id hn
  refine h _ ⟨I.ok,I.os,I.bare,⟨fun b o e n hb hx=>?_,fun b o e n hb hx=>?_,I.base.free,fun b o e hx=>?_,I.base.tups,I.base.frzs,I.base.tbls⟩,⟨_,hn',fun j y v' e1 e2 e3=>?_⟩,fun y c e=>?_,I.free,I.freeC,fun p hp=>?_,tracked ⟨oL,hoL,I.free⟩ hs,by simpa using I.len⟩ ⟨_,hs,.inl rfl⟩
  ·exact(hs.2 b (cg (bX (bP e) I.ok.above))).trans (I.base.keep b o e n hb hx)
  ·obtain⟨sl,e1⟩:=I.base.slot b o e n hb hx
   exact⟨sl,(hs.2 b (cg (bX (bP e) I.ok.above))).trans e1⟩
  ·obtain⟨o',e1⟩:=I.base.there b o e hx
   exact⟨o',(hs.2 b (cg (bX (bP e) I.ok.above))).trans e1⟩
  ·by_cases hj:j=i
   ·subst hj
    rw[hi] at e1;cases e1
    rw[dw hiσ] at e2
    cases e2
    exact⟨u,r,.inl ⟨hk,by simp⟩⟩
   ·rw[dX (Ne.symm hj)] at e2
    obtain⟨u',r',q⟩:=hl j y v' e1 e2 e3
    refine⟨u',r',?_⟩
    rcases q with ⟨k,e⟩ | ⟨k,c,e,z⟩
    ·refine .inl ⟨k,?_⟩
     have:y≠x:=fun e=>hj (zGf hN e1 (e▸hi))
     simp[this,e]
    ·exact .inr ⟨k,c,e,z.sameBut hs (cne y c e)⟩
  ·obtain⟨w',z⟩:=I.cell y c e
   exact⟨w',z.sameBut hs (cne y c e)⟩
  ·obtain⟨e,n,ne,nf,d⟩:=I.pin p hp
   exact⟨(hs.2 p.1 ne).trans e,n,ne,nf,d⟩
 ·have hfn:X.fn x=true:=by
   rcases hf with z | z
   ·exact z
   ·rw[z] at hk;cases hk
  obtain⟨c,hc⟩:=I.ok.has x (.inl hk)
  obtain⟨w',z⟩:=I.cell x c hc
  refine wpAny_storeName_cell I.ok.kind hk hc z (fun h' hc' hs=>?_)
  obtain⟨oc,hoc,hocd⟩:=id z
  refine h { s with heap:=h' } ⟨I.ok,I.os,I.bare,⟨fun b o e n hb hx=>?_,fun b o e n hb hx=>?_,I.base.free,fun b o e hx=>?_,I.base.tups,I.base.frzs,I.base.tbls⟩,⟨m,hn.sameBut hs (Ne.symm (cne x c hc)),fun j y v' e1 e2 e3=>?_⟩,fun y c' e=>?_,I.free,I.freeC,fun p hp=>?_,tracked ⟨oc,hoc,I.freeC x c hc⟩ hs,by simpa using I.len⟩ ⟨c,hs,.inr hc⟩
  ·exact(hs.2 b (cg (bX (bP e) (I.ok.cab x c hfn hc)))).trans (I.base.keep b o e n hb hx)
  ·obtain⟨sl,e1⟩:=I.base.slot b o e n hb hx
   exact⟨sl,(hs.2 b (cg (bX (bP e) (I.ok.cab x c hfn hc)))).trans e1⟩
  ·obtain⟨o',e1⟩:=I.base.there b o e hx
   exact⟨o',(hs.2 b (cg (bX (bP e) (I.ok.cab x c hfn hc)))).trans e1⟩
  ·by_cases hj:j=i
   ·subst hj
    rw[hi] at e1;cases e1
    rw[dw hiσ] at e2
    cases e2
    exact⟨u,r,.inr ⟨.inl hk,c,hc,hc'⟩⟩
   ·rw[dX (Ne.symm hj)] at e2
    obtain⟨u',r',q⟩:=hl j y v' e1 e2 e3
    refine⟨u',r',?_⟩
    rcases q with q | ⟨k,c',e,z'⟩
    ·exact .inl q
    ·refine .inr ⟨k,c',e,z'.sameBut hs ?_⟩
     rintro rfl
     exact hj (zGf hN e1 (I.ok.inj _ _ _ e hc▸hi))
  ·by_cases hcc:c'=c
   ·subst hcc;exact⟨_,hc'⟩
   ·obtain⟨w2,z2⟩:=I.cell y c' e
    exact⟨w2,z2.sameBut hs hcc⟩
  ·obtain⟨e,n,ne,nf,d⟩:=I.pin p hp
   refine⟨(hs.2 p.1 ?_).trans e,n,ne,nf,d⟩
   intro q
   rw[q,hoc] at e
   have q':oc=p.2:=Option.some.inj e
   exact d w' (by rw[← q'];exact hocd)
theorem zGg{M:Model}{A:Around}{E:Value→Shared→Prop}{i:Nat}{x:Str}{v:V}{u:Value}{Q:Unit→Shared→Prop}(I:zW X pins σ H s)(hN:X.N.Nodup)(hi:X.N[i]?=some x)(hx:Loc X.env.scope x)(r:RelV v u)
  (h:∀ s',zW X pins (σ.set i (some v)) H s'→Q () s') (hf:X.fn x=true∨X.env.scope.names.lookup x=some .local:=by first | exact .inl rfl | exact .inr rfl | assumption):wpAny M A (storeName X.env x u) Q E s :=
 zFN I hN hi hx r (fun s' I' u0=>h s' I') hf
theorem zW.call'{s':Shared}{ch:List Addr}(I:zW X pins σ H s)(ho:s'.os=s.os)(u:Un (frs X.stack) ch H H' s.heap s'.heap)(hok:HOk X.prog X.w H' s'.heap)(hg:AllBare s'.gens)
  (hch:∀ b∈ch,(b∈X.ex∨X.s₀.heap.objs.size≤b)∧b≠X.env.locals∧(∀ x c,X.env.cells.lookup x=some c→c≠b)∧∀ p∈X.pn++pins,p.1≠b):zW X pins σ H' s':=by
 obtain⟨h',g',d',t',o'⟩:=s'
 have e:o'=s.os:=ho
 subst e
 exact I.call (g':=g') (t':=t') (d':=d') u hok hg hch
end
noncomputable abbrev XK:=Value→Option Addr→Hp→Prop
noncomputable abbrev St:=List (Option V)
noncomputable abbrev VK:=V→Hp→Prop
noncomputable abbrev TE:=St→Hp→VK→Prop
noncomputable abbrev TT:=St→Hp→(Bool→Hp→Prop)→Prop
noncomputable abbrev TA:=St→Hp→(List V→Hp→Prop)→Prop
structure Ends where
 nx:St→Hp→Prop
 rt:VK
 bk:St→Hp→Prop:=fun u0 u0=>False
 ct:St→Hp→Prop:=fun u0 u0=>False
noncomputable abbrev TS:=Ends→St→Hp→Prop
noncomputable def EP(X:Cx)(pins:List (Addr×Obj))(σ:St)(Q:VK)(u:Value)(s':Shared):Prop:=∃ v H',zW X pins σ H' s'∧RelV v u∧Q v H'
noncomputable def TP(X:Cx)(pins:List (Addr×Obj))(σ:St)(Q:Bool→Hp→Prop)(b:Bool)(s':Shared):Prop:=∃ H',zW X pins σ H' s'∧Q b H'
noncomputable def AP(X:Cx)(pins:List (Addr×Obj))(σ:St)(Q:List V→Hp→Prop)(us:List Value)(s':Shared):Prop:=∃ vs H',zW X pins σ H' s'∧zY vs us∧Q vs H'
noncomputable def SP(X:Cx)(pins:List (Addr×Obj))(D:Ends)(f:Flow)(s':Shared):Prop :=
 match f with
 | .next=>∃ σ' H',zW X pins σ' H' s'∧D.nx σ' H'
 | .brk=>∃ σ' H',zW X pins σ' H' s'∧D.bk σ' H'
 | .cont=>∃ σ' H',zW X pins σ' H' s'∧D.ct σ' H'
 | .ret u=>∃ v σ' H',zW X pins σ' H' s'∧RelV v u∧D.rt v H'
noncomputable def PE(X:Cx)(e:Expr)(t:TE):Prop :=
 ∀(pins:List (Addr×Obj)) (s:Shared) (σ:St) (H:Hp) (Q:VK),zW X pins σ H s→t σ H Q→wpAny (model X.prog X.w) X.A (eval e X.env) (EP X pins σ Q) X.xe s
noncomputable def PT(X:Cx)(e:Expr)(t:TT):Prop :=
 ∀(pins:List (Addr×Obj)) (s:Shared) (σ:St) (H:Hp) (Q:Bool→Hp→Prop),zW X pins σ H s→t σ H Q→wpAny (model X.prog X.w) X.A (isTrue e X.env (eval e X.env)) (TP X pins σ Q) X.xe s
noncomputable def PW(X:Cx)(e:Expr)(t:TT):Prop :=
 ∀(whole:Sem Value) (pins:List (Addr×Obj)) (s:Shared) (σ:St) (H:Hp) (Q:Bool→Hp→Prop),zW X pins σ H s→t σ H Q→wpAny (model X.prog X.w) X.A (isTrue e X.env whole) (TP X pins σ Q) X.xe s
theorem PW.pt{X:Cx}{e:Expr}{t:TT}(h:PW X e t):PT X e t:=h _
noncomputable def PA(X:Cx)(es:List Expr)(t:TA):Prop :=
 ∀(pos:Pos) (pins:List (Addr×Obj)) (s:Shared) (σ:St) (H:Hp) (Q:List V→Hp→Prop),zW X pins σ H s→t σ H Q→wpAny (model X.prog X.w) X.A (spliced (backTo pos (starEach es X.env))) (AP X pins σ Q) X.xe s
noncomputable def PS(X:Cx)(st:Stmt)(t:TS):Prop :=
 ∀(pins:List (Addr×Obj)) (s:Shared) (σ:St) (H:Hp) (D:Ends),zW X pins σ H s→t D σ H→wpAny (model X.prog X.w) X.A (exec st X.env) (SP X pins D) X.xe s
noncomputable def PSs(X:Cx)(st:List Stmt)(t:TS):Prop :=
 ∀(pins:List (Addr×Obj)) (s:Shared) (σ:St) (H:Hp) (D:Ends),zW X pins σ H s→t D σ H→wpAny (model X.prog X.w) X.A (execs st X.env) (SP X pins D) X.xe s
theorem wM{α:Type}{t:Sem α}{Q Q':α→Shared→Prop}{M:Model}{A:Around}{E:Value→Shared→Prop}{s:Shared}(h:wpAny M A t Q E s)(hQ:∀ a s,Q a s→Q' a s):wpAny M A t Q' E s:=wpAny_mono h hQ fun u0 u0 x=>x
section
variable {X:Cx}
noncomputable def zPd(i:Nat):TE:=fun σ H Q=>∃ v,σ[i]?=some (some v)∧Q v H
noncomputable def tC(v:V):TE:=fun u0 H Q=>Q v H
theorem zKl{i:Nat}{x:Str}{pos:Pos}(hN:X.N[i]?=some x)(hv:Vis X.env.scope x)(hd:(x==("__debug__":Str))=false:=by decide)(hcd:(x==("__classdict__":Str))=false:=by decide):PE X (.Name x pos) (zPd i):=by
 intro pins s σ H Q I h
 obtain⟨v,e,h⟩:=h
 obtain⟨m,hn,hl⟩:=I.loc
 obtain⟨u,r,l⟩:=hl i x v hN e hv
 have fin:EP X pins σ Q u s:=⟨v,H,I,r,h⟩
 rcases l with ⟨hk,hm⟩ | ⟨hk,c,hc,hcell⟩
 ·exact wpAny_Name (wpAny_loadName_local I.ok.kind hk hn hm fin) hd
 ·rcases hk with hk | hk
  ·exact wpAny_Name (wpAny_loadName_cell I.ok.kind hk hc hcell fin) hd
  ·exact wpAny_Name (wpAny_loadName_free I.ok.kind hk hc hcell fin hcd) hd
theorem zOD{i j pos}:PE X (.Constant (.int i) j pos) (tC (.int i)):=fun u0 u0 u0 H u0 I h=>wpAny_Constant_int ⟨.int i,H,I.tok _,⟨_,rfl⟩,h⟩
theorem zPe{b j pos}:PE X (.Constant (.bool b) j pos) (tC (.bl b)):=fun u0 u0 u0 H u0 I h=>Constant_bool ⟨.bl b,H,I,rfl,h⟩
theorem zOE{j pos}:PE X (.Constant .none j pos) (tC .non):=fun u0 u0 u0 H u0 I h=>Constant_none ⟨.non,H,I,rfl,h⟩
theorem zOF{x j pos}:PE X (.Constant (.str x) j pos) (tC (.str x)):=fun u0 u0 u0 H u0 I h=>Calls.Constant_str ⟨.str x,H,I.tok _,⟨_,rfl⟩,h⟩
noncomputable def Gl(X:Cx)(x:Str):Prop:=X.env.kindOf x=some .globalImplicit
theorem zIp{E:Value→Shared→Prop}{pins:List (Addr×Obj)}{s:Shared}{σ:St}{H:Hp}{x:Str}{u:Value}{pos:Pos}{Q:Value→Shared→Prop}(I:zW X pins σ H s)(hg:Gl X x)(hm:X.mg x=some u)(h:Q u s)
  (hd:(x==("__debug__":Str))=false:=by decide):wpAny (model X.prog X.w) X.A (eval (.Name x pos) X.env) Q E s :=
 Calls.Name_function_global I.ok.kind hg (Calls.loadGlobal_global (by rw[I.ok.glob];exact I.mod.glob.keeps I.bk) hm h) hd
theorem zBc{E:Value→Shared→Prop}{pins:List (Addr×Obj)}{s:Shared}{σ:St}{H:Hp}{x:Str}{u:Value}{pos:Pos}{Q:Value→Shared→Prop}(I:zW X pins σ H s)(hg:Gl X x)(hm:X.mg x=none)(hv:bootBuiltins x=some u)(h:Q u s)
  (hn:x≠"__name__":=by decide) (hd:(x==("__debug__":Str))=false:=by decide):wpAny (model X.prog X.w) X.A (eval (.Name x pos) X.env) Q E s:=by
 obtain⟨mb,h1,h2⟩:=I.mod.blt
 exact Calls.Name_function_global I.ok.kind hg (Calls.loadGlobal_builtin (by rw[I.ok.glob];exact I.mod.glob.keeps I.bk) hm (by rw[I.ok.blt];exact h1.keeps I.bk) ((h2 x hn).trans hv) h) hd
theorem zMV{x:Str}{v:V}{u:Value}{pos:Pos}(hg:Gl X x)(hm:X.mg x=some u)(r:RelV v u)(hd:(x==("__debug__":Str))=false:=by decide):PE X (.Name x pos) (tC v) :=
 fun u0 u0 u0 H u0 I h=>zIp I hg hm ⟨v,H,I,r,h⟩ hd
theorem zMW{x:Str}{v:V}{u:Value}{pos:Pos}(hg:Gl X x)(hm:X.mg x=none)(hv:bootBuiltins x=some u)(r:RelV v u)(hn:x≠"__name__":=by decide)(hd:(x==("__debug__":Str))=false:=by decide):PE X (.Name x pos) (tC v) :=
 fun u0 u0 u0 H u0 I h=>zBc I hg hm hv ⟨v,H,I,r,h⟩ hn hd
variable {a b:Expr} {ta tb:TE} {pos:Pos}
noncomputable def tB(t:TE):TT:=fun σ H Q=>t σ H fun x H1=>∃ c,x=.bl c∧Q c H1
theorem zOG{e:Expr}{t:TE}(h:PE X e t)(he:∀ whole,isTrue e X.env whole=(do let v ← whole;standAt e.pos;holding [v] (truthy v)):=by intro u0;rfl):PT X e (tB t):=by
 intro pins s σ H Q I hw
 refine isTrue_plain (wM (h pins s σ H _ I hw) fun v s1 ⟨x,H1,I1,r1,q1⟩=>?_) (he _)
 obtain⟨d,rfl,q⟩:=q1
 cases r1
 exact dQ ⟨H1,I1,q⟩
variable {tA tB':TT} {rest:List Expr}
noncomputable def zQW(t u:TT):TT:=fun σ H Q=>t σ H fun c H1=>if c=true then u σ H1 Q else Q false H1
noncomputable def tOr(t u:TT):TT:=fun σ H Q=>t σ H fun c H1=>if c=true then Q true H1 else u σ H1 Q
noncomputable def zQX(t:TT):TT:=fun σ H Q=>t σ H fun c H1=>Q (!c) H1
theorem zMX(ha:PT X a tA):PW X (.BoolOp .And [a] pos) tA:=by
 intro wh pins s σ H Q I h
 refine isTrue_and (wM (ha pins s σ H Q I h) fun c s1 e=>?_)
 cases c with
 | true=>exact isTrue_and_nil e
 | false=>exact e
theorem zOH(ha:PT X a tA):PW X (.BoolOp .Or [a] pos) tA:=by
 intro wh pins s σ H Q I h
 refine isTrue_or (wM (ha pins s σ H Q I h) fun c s1 e=>?_)
 cases c with
 | false=>exact isTrue_or_nil e
 | true=>exact e
theorem zOI(ha:PT X a tA)(hb:PW X (.BoolOp .And (b::rest) pos) tB'):PW X (.BoolOp .And (a::b::rest) pos) (zQW tA tB'):=by
 intro wh pins s σ H Q I h
 refine isTrue_and (wM (ha pins s σ H _ I h) fun c s1 ⟨H1,I1,q1⟩=>?_)
 cases c with
 | true=>exact hb wh pins s1 σ H1 Q I1 q1
 | false=>exact⟨H1,I1,q1⟩
theorem zPf(ha:PT X a tA)(hb:PW X (.BoolOp .Or (b::rest) pos) tB'):PW X (.BoolOp .Or (a::b::rest) pos) (tOr tA tB'):=by
 intro wh pins s σ H Q I h
 refine isTrue_or (wM (ha pins s σ H _ I h) fun c s1 ⟨H1,I1,q1⟩=>?_)
 cases c with
 | true=>exact⟨H1,I1,q1⟩
 | false=>exact hb wh pins s1 σ H1 Q I1 q1
theorem zOJ(ha:PT X a tA):PT X (.UnaryOp .Not a pos) (zQX tA):=by
 intro pins s σ H Q I h
 exact isTrue_not (ha pins s σ H (fun c H1=>Q (!c) H1) I h)
noncomputable def zPg(ta tb:TE):TE:=fun σ H Q=>ta σ H fun x H1=>∃ c,x=.bl c∧if c=true then tb σ H1 Q else Q (.bl false) H1
noncomputable def zPh(ta:TE):TE:=fun σ H Q=>ta σ H fun x H1=>∃ c,x=.bl c∧Q (.bl (!c)) H1
theorem zOK{op}{t:TE}(h:PE X a t):PE X (.BoolOp op [a] pos) t:=fun pins s σ H Q I hw=>BoolOp_one (h pins s σ H Q I hw)
theorem zOL(ha:PE X a ta)(hb:PE X (.BoolOp .And (b::rest) pos) tb):PE X (.BoolOp .And (a::b::rest) pos) (zPg ta tb):=by
 intro pins s σ H Q I h
 refine BoolOp_and (wM (ha pins s σ H _ I h) fun v s1 ⟨x,H1,I1,r1,q1⟩=>?_)
 obtain⟨c,rfl,q1⟩:=q1
 cases r1
 refine dQ ?_
 cases c with
 | true=>exact hb pins s1 σ H1 Q I1 q1
 | false=>exact⟨.bl false,H1,I1,rfl,q1⟩
theorem zOM(ha:PE X a ta):PE X (.UnaryOp .Not a pos) (zPh ta):=by
 intro pins s σ H Q I h
 refine UnaryOp_ (wM (ha pins s σ H _ I h) fun v s1 ⟨x,H1,I1,r1,q1⟩=>?_)
 obtain⟨c,rfl,q1⟩:=q1
 cases r1
 exact not_of (dQ ⟨.bl (!c),H1,I1,rfl,q1⟩)
noncomputable def tIf(t:TT)(ta tb:TE):TE:=fun σ H Q=>t σ H fun c H1=>if c=true then ta σ H1 Q else tb σ H1 Q
theorem zKm{c:Expr}(hc:PT X c tA)(ha:PE X a ta)(hb:PE X b tb):PE X (.IfExp c a b pos) (tIf tA ta tb):=by
 intro pins s σ H Q I h
 refine wpAny_IfExp (wM (hc pins s σ H _ I h) fun d s1 ⟨H1,I1,q1⟩=>?_)
 cases d with
 | true=>exact ha pins s1 σ H1 Q I1 q1
 | false=>exact hb pins s1 σ H1 Q I1 q1
end
noncomputable def SqL(K:PySem.W.Frag)(H:Hp)(a:Addr)(xs:List V):Prop :=
 Rd H a (.lst xs) ∨
  ∃(o:Obj) (its:Array Value) (n:Nat),K.lookup a=some o∧o.cls=.type "list"∧o.dict=none∧o.data=.seq its n∧its.size≤sizeLine∧zY xs its.toList
noncomputable def SqT(K:PySem.W.Frag)(H:Hp)(a:Addr)(xs:List V):Prop :=
 Rd H a (.tup xs) ∨
  ∃(o:Obj) (its:Array Value) (n:Nat),K.lookup a=some o∧o.cls=.type "tuple"∧o.data=.seq its n∧its.size≤sizeLine∧zY xs its.toList∧o.dict=none
noncomputable def zQY:Value→Option V
 | .none=>some .non
 | .bool b=>some (.bl b)
 | .int i _=>some (.int i)
 | .str x _=>some (.str x)
 | .bytes b _=>some (.byt b)
 | .float b _=>some (.flt b)
 | .ref a=>some (.ref a)
 | .type n=>some (.ty n)
 | _=>none
theorem RelV.abs{x:V}{u:Value}(r:RelV x u):zQY u=some x:=by
 cases x with
 | non=>cases r;rfl
 | bl _=>cases r;rfl
 | int _=>obtain⟨t,rfl⟩:=r;rfl
 | str _=>obtain⟨t,rfl⟩:=r;rfl
 | byt _=>obtain⟨t,rfl⟩:=r;rfl
 | flt _=>obtain⟨t,rfl⟩:=r;rfl
 | ref _=>cases r;rfl
 | ty _=>cases r;rfl
theorem RelV.inj{x y:V}{u:Value}(r:RelV x u)(q:RelV y u):x=y:=Option.some.inj (r.abs.symm.trans q.abs)
theorem zY.inj:∀ {xs ys:List V} {us:List Value},zY xs us→zY ys us→xs=ys
 | _,_,_,.nil,.nil=>rfl
 | _,_,_,.cons r t,.cons r' t'=>by rw[r.inj r',zY.inj t t']
section
variable {X:Cx} {pins:List (Addr×Obj)} {σ:St} {H:Hp} {s:Shared} {a:Addr} {xs ys:List V}
theorem SqL.of{K:PySem.W.Frag}(h:H a=some (.lst xs)):SqL K H a xs:=.inl (.inl h)
theorem SqT.of{K:PySem.W.Frag}(h:H a=some (.tup xs)):SqT K H a xs:=.inl (.inl h)
theorem zW.list(I:zW X pins σ H s)(h:SqL X.K H a xs):∃ its:List Value,zY xs its∧PlainL s.heap a its.toArray∧xs.length≤sizeLine:=by
 rcases h with h | ⟨o,its,n,hk,hc,hd,hs,hz,r⟩
 ·obtain⟨z,its,n,r,e⟩:=h.ok I.hok
  exact⟨its,r,⟨_,n,e,rfl,rfl,rfl⟩,z⟩
 ·refine⟨its.toList,r,⟨o,n,I.kIn a o hk,hc,hd,by simpa using hs⟩,?_⟩
  have e:=r.length
  simp only[bJ] at e
  omega
theorem zW.tuple(I:zW X pins σ H s)(h:SqT X.K H a xs):∃ its:List Value,zY xs its∧IsTup s.heap a its.toArray∧xs.length≤sizeLine:=by
 rcases h with h | ⟨o,its,n,hk,hc,hs,hz,r,u0⟩
 ·obtain⟨z,its,r,p⟩:=h.ok I.hok
  exact⟨its,r,p.isTup,z⟩
 ·refine⟨its.toList,r,⟨o,I.kIn a o hk,hc,n,by simpa using hs⟩,?_⟩
  have e:=r.length
  simp only[bJ] at e
  omega
theorem zW.noDict(I:zW X pins σ H s)(h:SqT X.K H a xs):s.TypeIs (.ref a) "tuple"∧∃ ob,s.heap.get? a=some ob∧ob.dict=none:=by
 rcases h with h | ⟨o,its,n,hk,hc,hs,hz,r,hd⟩
 ·obtain⟨z,its,r,o,h1,h2,h3,h4⟩:=h.ok I.hok
  exact⟨⟨o,h1,h2⟩,o,h1,h4⟩
 ·exact⟨⟨o,I.kIn a o hk,hc⟩,o,I.kIn a o hk,hd⟩
theorem zW.list_inj(I:zW X pins σ H s)(h:SqL X.K H a xs)(h':SqL X.K H a ys):xs=ys:=by
 obtain⟨its,r,⟨o,n,e,u0,u0,d⟩,u0⟩:=I.list h
 obtain⟨its',r',⟨o',n',e',u0,u0,d'⟩,u0⟩:=I.list h'
 rw[e] at e';cases e'
 rw[d] at d'
 injection d' with d1 _
 have:its=its':=by simpa using congrArg Array.toList d1
 subst this
 exact r.inj r'
theorem zW.tuple_inj(I:zW X pins σ H s)(h:SqT X.K H a xs)(h':SqT X.K H a ys):xs=ys:=by
 obtain⟨its,r,⟨o,e,u0,n,d⟩,u0⟩:=I.tuple h
 obtain⟨its',r',⟨o',e',u0,n',d'⟩,u0⟩:=I.tuple h'
 rw[e] at e';cases e'
 rw[d] at d'
 injection d' with d1 _
 have:its=its':=by simpa using congrArg Array.toList d1
 subst this
 exact r.inj r'
end
noncomputable abbrev Cx.wish(X:Cx)(E:Value→Shared→Prop):Cx:={ X with xe:=E }
noncomputable abbrev Cx.nox(X:Cx):Cx:=X.wish fun u0 u0=>False
theorem Cx.Ok.wish{X:Cx}(ok:X.Ok)(E:Value→Shared→Prop):(X.wish E).Ok :=
 ⟨ok.mod,ok.kind,ok.glob,ok.blt,ok.above,ok.inj,ok.has,ok.cab,ok.hd,ok.frames,ok.stk,ok.exf,ok.bs,ok.bsz,ok.noex,ok.exfs,ok.funs,ok.frf,ok.tb⟩
theorem Cx.Ok.unwish{X:Cx}{E:Value→Shared→Prop}(ok:(X.wish E).Ok):X.Ok :=
 ⟨ok.mod,ok.kind,ok.glob,ok.blt,ok.above,ok.inj,ok.has,ok.cab,ok.hd,ok.frames,ok.stk,ok.exf,ok.bs,ok.bsz,ok.noex,ok.exfs,ok.funs,ok.frf,ok.tb⟩
section
variable {X:Cx} {pins:List (Addr×Obj)} {σ:St} {H:Hp} {s:Shared} {E:Value→Shared→Prop}
theorem zW.wish(I:zW X pins σ H s)(E:Value→Shared→Prop):zW (X.wish E) pins σ H s:=⟨I.ok.wish E,I.os,I.bare,I.base,I.loc,I.cell,I.free,I.freeC,I.pin,I.hok,I.len⟩
theorem zW.unwish(I:zW (X.wish E) pins σ H s):zW X pins σ H s:=⟨I.ok.unwish,I.os,I.bare,I.base,I.loc,I.cell,I.free,I.freeC,I.pin,I.hok,I.len⟩
theorem SP.unwish{D:Ends}{f:Flow}{s':Shared}(h:SP (X.wish E) pins D f s'):SP X pins D f s':=by
 cases f with
 | next=>obtain⟨σ',H',I,q⟩:=h;exact⟨σ',H',I.unwish,q⟩
 | brk=>obtain⟨σ',H',I,q⟩:=h;exact⟨σ',H',I.unwish,q⟩
 | cont=>obtain⟨σ',H',I,q⟩:=h;exact⟨σ',H',I.unwish,q⟩
 | ret u=>obtain⟨v,σ',H',I,r,q⟩:=h;exact⟨v,σ',H',I.unwish,r,q⟩
theorem PSs.nox{st:List Stmt}{t:TS}(h:PSs X.nox st t):PSs X st t:=fun pins s σ H D I hw =>
 wpAny_mono (h pins s σ H D (I.wish _) hw) (fun u0 u0 q=>q.unwish) fun u0 u0 z=>False.elim z
end
section
variable {X:Cx} {st:Stmt} {rest:List Stmt} {t u:TS} {e:Expr} {te:TE} {pos:Pos}
noncomputable def zPi:TS:=fun D σ H=>D.nx σ H
noncomputable def zQZ(t u:TS):TS:=fun D σ H=>t { D with nx:=u D } σ H
theorem zMY:PSs X [] zPi:=fun u0 u0 σ H u0 I h=>wpAny_execs_nil ⟨σ,H,I,h⟩
theorem zKn(h1:PS X st t)(h2:PSs X rest u):PSs X (st::rest) (zQZ t u):=by
 intro pins s σ H D I h
 refine wpAny_execs_cons (wM (h1 pins s σ H { D with nx:=u D } I h) fun f s1 q=>?_)
 cases f with
 | next =>
  obtain⟨σ',H',I',q⟩:=q
  exact h2 pins s1 σ' H' D I' q
 | ret v=>exact q
 | brk=>exact q
 | cont=>exact q
theorem zMZ(h1:PS X st t):PSs X [st] t:=by
 intro pins s σ H D I h
 refine wpAny_execs_cons (wM (h1 pins s σ H D I h) fun f s1 q=>?_)
 cases f with
 | next=>exact wpAny_execs_nil q
 | ret v=>exact q
 | brk=>exact q
 | cont=>exact q
theorem zW.quiet{pins:List (Addr×Obj)}{σ:St}{H:Hp}{s:Shared}(I:zW X pins σ H s):interactive X.env=false:=by simp[interactive,I.ok.kind]
noncomputable def zPj(te:TE):TS:=fun D σ H=>te σ H fun u0 H1=>D.nx σ H1
theorem zMa(he:PE X e te)(hs:swapsWith e none pos.line X.env=pure false:=by rfl):PS X (.Expr e pos) (zPj te):=by
 intro pins s σ H D I h
 exact wpAny_Expr_any (wM (he pins s σ H _ I h) fun v s1 ⟨x,H1,I1,r1,q1⟩=>⟨σ,H1,I1,q1⟩) I.quiet hs
noncomputable def zQa(te:TE):TS:=fun D σ H=>te σ H D.rt
theorem zON(he:PE X e te):PS X (.Return (some e) pos) (zQa te):=by
 intro pins s σ H D I h
 exact wpAny_Return_some (wM (he pins s σ H _ I h) fun v s1 ⟨x,H1,I1,r1,q1⟩=>⟨x,σ,H1,I1,r1,q1⟩)
noncomputable def zQb(c:TT)(t u:TS):TS:=fun D σ H=>c σ H fun b H1=>if b=true then t D σ H1 else u D σ H1
theorem zPk{c:Expr}{a b:List Stmt}{tc:TT}(hc:PT X c tc)(ha:PSs X a t)(hb:PSs X b u):PS X (.If c a b pos) (zQb tc t u):=by
 intro pins s σ H D I h
 refine wpAny_If (wM (hc pins s σ H _ I h) fun d s1 ⟨H1,I1,q1⟩=>?_)
 cases d with
 | true=>exact ha pins s1 σ H1 D I1 q1
 | false=>exact hb pins s1 σ H1 D I1 q1
end
noncomputable abbrev TG:=V→St→Hp→(St→Hp→Prop)→Prop
noncomputable abbrev TGs:=List V→St→Hp→(St→Hp→Prop)→Prop
noncomputable def PG(X:Cx)(target:Expr)(t:TG):Prop :=
 ∀(pins:List (Addr×Obj)) (s:Shared) (σ:St) (H:Hp) (v:V) (u:Value) (Q:St→Hp→Prop),zW X pins σ H s→RelV v u→t v σ H Q →
  wpAny (model X.prog X.w) X.A (assign target X.env u) (fun u0 s'=>∃ σ' H',zW X pins σ' H' s'∧Q σ' H') X.xe s
noncomputable def PGs(X:Cx)(ts:List Expr)(t:TGs):Prop :=
 ∀(pins:List (Addr×Obj)) (s:Shared) (σ:St) (H:Hp) (vs:List V) (us:List Value) (Q:St→Hp→Prop),zW X pins σ H s→zY vs us→t vs σ H Q →
  wpAny (model X.prog X.w) X.A (assignInOrder ((assignEach ts X.env).map (·.2)) us) (fun u0 s'=>∃ σ' H',zW X pins σ' H' s'∧Q σ' H') X.xe s
noncomputable abbrev zOO:=V→V→V→Hp→(Hp→Prop)→Prop
noncomputable def zPl(X:Cx)(t:zOO):Prop :=
 ∀(pins:List (Addr×Obj)) (s:Shared) (σ:St) (H:Hp) (o i v:V) (ov iv u:Value) (Q:Hp→Prop),zW X pins σ H s→RelV o ov→RelV i iv→RelV v u→t o i v H Q →
  wpAny (model X.prog X.w) X.A (setItem ov iv u) (fun u0 s'=>∃ H',zW X pins σ H' s'∧Q H') X.xe s
section
variable {X:Cx} {pos:Pos}
noncomputable def zCk(i:Nat):TG:=fun v σ H Q=>Q (σ.set i (some v)) H
theorem zBI{i:Nat}{x:Str}(hN:X.N.Nodup)(hi:X.N[i]?=some x)(hx:Loc X.env.scope x)(hf:X.fn x=true∨X.env.scope.names.lookup x=some .local:=by first | exact .inl rfl | exact .inr rfl | assumption):PG X (.Name x pos) (zCk i):=by
 intro pins s σ H v u Q I r h
 exact wpAny_assign_Name (zGg I hN hi hx r (fun s' I'=>⟨_,H,I',h⟩) hf)
noncomputable def zOP:TGs:=fun vs σ H Q=>vs=[]∧Q σ H
noncomputable def zGh(t:TG)(u:TGs):TGs:=fun vs σ H Q=>∃ v r,vs=v::r∧t v σ H fun σ' H'=>u r σ' H' Q
theorem zIq:PGs X [] zOP:=by
 intro pins s σ H vs us Q I r h
 obtain⟨e,h⟩:=h
 subst e
 cases r
 exact assignInOrder_nil ⟨σ,H,I,h⟩
theorem zCl{e:Expr}{es:List Expr}{t:TG}{u:TGs}(h1:PG X e t)(h2:PGs X es u)
  (hs:(assignEach (e::es) X.env).map (·.2)=assign e X.env::(assignEach es X.env).map (·.2):=by rfl):PGs X (e::es) (zGh t u):=by
 intro pins s σ H vs us Q I r h
 obtain⟨v,vr,e1,h⟩:=h
 subst e1
 cases r with
 | cons r rr =>
  rw[hs]
  refine assignInOrder_cons (wM (h1 pins s σ H _ _ _ I r h) fun _ s1 ⟨σ1,H1,I1,q1⟩=>?_)
  exact h2 pins s1 σ1 H1 _ _ Q I1 rr q1
noncomputable def zOQ(K:PySem.W.Frag)(n:Nat)(t:TGs):TG:=fun v σ H Q=>∃ a xs,v=.ref a∧SqT K H a xs∧xs.length=n∧t xs σ H Q
theorem zKo{es:List Expr}{k:Nat}{t:TGs}{n:Nat}(hc:X.calm=true)(h:PGs X es t)
  (hn:(assignEach es X.env).length=n:=by rfl) (hst:(assignEach es X.env).findIdx? (·.1)=none:=by rfl):PG X (.Tuple es k pos) (zOQ X.K n t):=by
 intro pins s σ H v u Q I r hw
 obtain⟨a,xs,e1,hq,hl,hw⟩:=hw
 subst e1
 cases r
 obtain⟨its,rv,ht,hz⟩:=I.tuple hq
 refine assign_Tuple_tuple (I.ok.hd hc) ht (by simp[hn,← hl,rv.length]) hst fun h' hx=>?_
 have I1:zW X pins σ H { s with heap:=h' }:=I.kept (t':=s.toks) fun b o e=>hx b o (cg (bP e)) e
 exact h pins _ σ H xs _ Q I1 (by simpa using rv) hw
noncomputable def zQc(to ti:TE)(t:zOO):TG:=fun v σ H Q=>to σ H fun o H1=>ti σ H1 fun i H2=>t o i v H2 fun H3=>Q σ H3
theorem zOR{o i:Expr}{to ti:TE}{t:zOO}(ho:PE X o to)(hi:PE X i ti)(hs:zPl X t)
  (ha:∀ v,assign (.Subscript o i pos) X.env v=(do
   let ov ← holding [v] (eval o X.env)
   let iv ← holding [v,ov] (eval i X.env)
   standAt pos
   holding [v,ov,iv] (setItem ov iv v)
   release [v,ov,iv] []):=by intro u0;rfl):PG X (.Subscript o i pos) (zQc to ti t):=by
 intro pins s σ H v u Q I r h
 rw[ha]
 refine bq (cP (wM (ho pins s σ H _ I h) fun ov s1 ⟨x,H1,I1,r1,q1⟩=>?_))
 refine bq (cP (wM (hi pins s1 σ H1 _ I1 q1) fun iv s2 ⟨y,H2,I2,r2,q2⟩=>?_))
 refine bq (wpAny_standAt (bq (cP (wM (hs pins s2 σ H2 x y v ov iv u _ I2 r1 r2 r q2) fun _ s3 ⟨H3,I3,q3⟩=>?_))))
 exact wpAny_release ⟨σ,H3,I3,q3⟩
noncomputable def zOS(te:TE)(g:TG):TS:=fun D σ H=>te σ H fun x H1=>g x σ H1 D.nx
theorem zOT{tg e:Expr}{te:TE}{g:TG}(he:PE X e te)(hg:PG X tg g)(hs:swapsWithSole [tg] e pos.line X.env=pure false:=by rfl)(hw:swappedStores [tg] e X.env=pure none:=by rfl)
  (h1:(assignEach [tg] X.env).map (·.2)=[assign tg X.env]:=by rfl):PS X (.Assign [tg] e pos) (zOS te g):=by
 intro pins s σ H D I h
 refine wpAny_Assign_stores (wM (he pins s σ H _ I h) fun v s1 ⟨x,H1,I1,r1,q1⟩=>?_) hs hw
 rw[h1]
 exact wM (hg pins s1 σ H1 x v _ I1 r1 q1) fun u0 s2 q=>q
theorem zOU{i:Nat}{x:Str}{e:Expr}{te:TE}{pos':Pos}(hN:X.N.Nodup)(hi:X.N[i]?=some x)(hx:Loc X.env.scope x)(he:PE X e te)(hs:swapsWith e (some (.Name x pos')) pos.line X.env=pure false:=by rfl)(hf:X.fn x=true∨X.env.scope.names.lookup x=some .local:=by first | exact .inl rfl | exact .inr rfl | assumption) :
  PS X (.Assign [.Name x pos'] e pos) (zOS te (zCk i)):=by
 intro pins s σ H D I h
 refine wpAny_Assign_Name (wM (he pins s σ H _ I h) fun v s1 ⟨y,H1,I1,r1,q1⟩=>?_) hs
 exact zGg I1 hN hi hx r1 (fun s2 I2=>⟨_,H1,I2,q1⟩) hf
noncomputable def zOV(c:TT)(tb:TS):TS:=fun D σ H=>∃ W:Nat→St→Hp→Prop,(∃ m,W m σ H)∧∀ m σ H,W m σ H →
 c σ H fun b H1=>if b=true then ∃ N:St→Hp→Prop,(∀ σ' H',N σ' H'→∃ m',m'<m∧W m' σ' H')∧tb { D with nx:=N,ct:=N,bk:=D.nx } σ H1 else D.nx σ H1
theorem zKp{c:Expr}{body:List Stmt}{tc:TT}{tb:TS}(hp:PassesOwn (model X.prog X.w) X.A X.env X.xe)(hc:PT X c tc)(hb:PSs X body tb):PS X (.While c body [] pos) (zOV tc tb):=by
 intro pins s σ H D I h
 obtain⟨W,⟨m0,w0⟩,turn⟩:=h
 refine wpAny_While (codeAny_whileLoop (fun n s'=>∃ σ' H',zW X pins σ' H' s'∧W n σ' H') ?_ m0 ⟨σ,H,I,w0⟩)
 rintro n s1 ⟨σ1,H1,I1,w1⟩
 refine dL hp (wM (hc pins s1 σ1 H1 _ I1 (turn n σ1 H1 w1)) fun b s2 ⟨H2,I2,q2⟩=>?_)
 cases b with
 | true =>
  obtain⟨N,hN,q2⟩:=q2
  rw[if_pos rfl]
  refine dL hp (wM (hb pins s2 σ1 H2 _ I2 q2) fun f s3 q3=>?_)
  cases f with
  | next =>
   obtain⟨σ3,H3,I3,n3⟩:=q3
   obtain⟨m',hm,w3⟩:=hN σ3 H3 n3
   exact⟨m',hm,σ3,H3,I3,w3⟩
  | cont =>
   obtain⟨σ3,H3,I3,n3⟩:=q3
   obtain⟨m',hm,w3⟩:=hN σ3 H3 n3
   exact⟨m',hm,σ3,H3,I3,w3⟩
  | brk=>exact q3
  | ret v=>exact q3
 | false =>
  rw[if_neg cK]
  exact wpAny_execs_nil ⟨σ1,H2,I2,q2⟩
end
structure It where
 go:Nat→Hp→Prop
 yld:Nat→Hp→V→Hp→Prop
 stop:Nat→Hp→Prop
noncomputable def zDF(X:Cx)(pins:List (Addr×Obj))(H:Hp)(b:Addr):Prop :=
 H b=none∧b≠X.env.locals∧b∉X.fs∧(b∈X.ex∨X.s₀.heap.objs.size≤b)∧(∀ x c,X.env.cells.lookup x=some c→c≠b)∧∀ p∈X.pn++pins,p.1≠b
theorem zW.fpOk{X:Cx}{pins:List (Addr×Obj)}{σ:St}{H H':Hp}{s:Shared}{b:Addr}(I:zW X pins σ H s)(hb:s.heap.objs.size≤b)(hn:H' b=none):zDF X pins H' b:=by
 refine⟨hn,Nat.ne_of_gt (bX I.lt hb),I.nofs hb,.inr (cC I.sz hb),fun x c e z=>?_,fun p hp z=>?_⟩
 ·obtain⟨v,q⟩:=I.cell x c e
  exact absurd (bX q.lt (by rw[z];exact hb)) (de _)
 ·exact absurd (bX (bP (I.pin p hp).1) (by rw[z];exact hb)) (de _)
structure Turn (P:Program) (w:World) (K:PySem.W.Frag) (tg:Expr) (J:It) (fp:List Addr) (it:Addr) (tn:Nat→Heap→Prop):Prop where
 mem:it∈fp
 obj:∀ i h,tn i h→∀ b∈fp,∃ o,h.get? b=some o∧∀ v,o.data≠.cell v
 keep:∀ i h h',tn i h→(∀ b∈fp,∀ o,h.get? b=some o→h'.get? b=some o)→tn i h'
 item:∀(X:Cx),X.prog=P→X.w=w→X.K=K→X.calm=true→∀(i:Nat) (pins:List (Addr×Obj)) (s:Shared) (σ:St) (H:Hp) (E:Value→Shared→Prop),zW X pins σ H s→(∀ b∈fp,zDF X pins H b)→tn i s.heap→J.go i H →
  wpAny (model P w) X.A (pyNext (.ref it)) (fun r s1=>∃ u,r=some u ∧
   wpAny (model P w) X.A (letOwnedTupleGo tg (.ref it) u) (fun u0 s2=>∃ x H',zW X pins σ H' s2∧RelV x u∧J.yld i H x H'∧tn (i+1) s2.heap∧∀ b∈fp,H' b=none) E s1) E s
 done:∀(X:Cx),X.prog=P→X.w=w→X.K=K→X.calm=true→∀(i:Nat) (pins:List (Addr×Obj)) (s:Shared) (σ:St) (H:Hp) (E:Value→Shared→Prop),zW X pins σ H s→(∀ b∈fp,zDF X pins H b)→tn i s.heap→J.stop i H →
  wpAny (model P w) X.A (pyNext (.ref it)) (fun r s1=>r=none∧zW X pins σ H s1) E s
 self:∀(A:Around) (i:Nat) (s:Shared) (Q:Value→Shared→Prop) (E:Value→Shared→Prop),tn i s.heap→Q (.ref it) s→wpAny (model P w) A (pyIter (.ref it)) Q E s
noncomputable abbrev TI:=St→Hp→(It→Hp→Prop)→Prop
noncomputable def PIE(X:Cx)(pins:List (Addr×Obj))(σ:St)(tg:Expr)(R:It→Hp→Prop)(itv:Value)(s2:Shared):Prop :=
 ∃(it:Addr) (fp:List Addr) (tn:Nat→Heap→Prop) (J:It) (H':Hp),itv=.ref it∧zW X pins σ H' s2∧Turn X.prog X.w X.K tg J fp it tn∧tn 0 s2.heap∧(∀ b∈fp,zDF X pins H' b)∧R J H'
noncomputable def PI(X:Cx)(tg iter:Expr)(wi:TI):Prop :=
 ∀(pins:List (Addr×Obj)) (s:Shared) (σ:St) (H:Hp) (R:It→Hp→Prop),zW X pins σ H s→wi σ H R →
  wpAny (model X.prog X.w) X.A (eval iter X.env) (fun v s1=>wpAny (model X.prog X.w) X.A (pyIter v) (PIE X pins σ tg R) X.xe s1) X.xe s
theorem zKq{M:Model}{A:Around}{E:Value→Shared→Prop}{s:Shared}{tg:Expr}{it:Addr}{u:Value}{o:Obj}{n:String}{vs:Array Value}{Q:Unit→Shared→Prop}(ho:s.heap.get? it=some o)(hc:o.cls=.type n)(hd:o.data=.fields vs)
    (hn:["enumerate","zip","dict_itemiterator","dict_reverseitemiterator","odict_iterator","itertools.zip_longest","itertools.pairwise"].contains n=false) (hQ:Q () s):wpAny M A (letOwnedTupleGo tg (.ref it) u) Q E s:=by
  unfold letOwnedTupleGo
  cases tg<;>first
    | exact bC hQ
    | (cases u<;>first
        | exact bC hQ
        | (refine bq (wpAny_load ho ?_)
           rw[hc,hd]
           show wpAny M A (if (["enumerate","zip","dict_itemiterator","dict_reverseitemiterator","odict_iterator","itertools.zip_longest","itertools.pairwise"].contains n&&vs[0]?==some (rawInt _))=true then _ else _) Q E s
           rw[if_neg (by intro h;rw[hn,Bool.false_and] at h;cases h)]
           exact bC hQ))
noncomputable def Itl(K:PySem.W.Frag)(a:Addr):It :=
 ⟨fun i H=>∃ xs x,SqL K H a xs∧xs[i]?=some x,fun i H x H'=>H'=H∧∀ xs,SqL K H a xs→xs[i]?=some x,fun i H=>∃ xs,SqL K H a xs∧xs.length≤i⟩
noncomputable def Itt(K:PySem.W.Frag)(a:Addr):It :=
 ⟨fun i H=>∃ xs x,SqT K H a xs∧xs[i]?=some x,fun i H x H'=>H'=H∧∀ xs,SqT K H a xs→xs[i]?=some x,fun i H=>∃ xs,SqT K H a xs∧xs.length≤i⟩
noncomputable def Itr(lo:Int)(n:Nat):It:=⟨fun i u0=>i<n,fun i H x H'=>H'=H∧x=.int (lo+i),fun i u0=>n≤i⟩
theorem zJe{P:Program}{w:World}{K:PySem.W.Frag}{tg:Expr}(a it:Addr):Turn P w K tg (Itl K a) [it] it (fun i h=>h.IsListIter it a i) where
 mem:=by simp
 obj:=fun i h st b hb=>by
  have e:b=it:=by simpa using hb
  subst e
  obtain⟨o,e,c,d⟩:=st
  exact⟨o,e,fun v z=>by rw[d] at z;cases z⟩
 keep:=fun i h h' st k=>st.at fun o e=>k it (by simp) o e
 item:=by
  intro X hP hw hK hc i pins s σ H E I hf st hg
  subst hP hw hK
  obtain⟨xs,x,hq,hx⟩:=hg
  obtain⟨its,rv,p,hz⟩:=I.list hq
  obtain⟨u,hu,ru⟩:=rv.get hx
  obtain⟨f0,f1,f2,f3,f4,f5⟩:=hf it (by simp)
  refine wpAny_pyNext_list_item st p.isList (x:=u) (by simpa using hu) fun h' st' sb=>?_
  have I1:zW X pins σ H { s with heap:=h' }:=I.turned (t':=s.toks) (fun b o hb e=>(sb.2 b hb).trans e) f0 f1 f3 f4 f5
  obtain⟨o,e,c,d⟩:=id st'
  exact⟨u,rfl,zKq (s:={ s with heap:=h' }) e c d (by decide) ⟨x,H,I1,ru,⟨rfl,fun ys hy=>by rw[I.list_inj hy hq];exact hx⟩,st',fun b hb=>(hf b hb).1⟩⟩
 done:=by
  intro X hP hw hK hc i pins s σ H E I hf st hg
  subst hP hw hK
  obtain⟨xs,hq,hx⟩:=hg
  obtain⟨its,rv,p,hz⟩:=I.list hq
  obtain⟨f0,f1,f2,f3,f4,f5⟩:=hf it (by simp)
  have hl:=rv.length
  exact wpAny_pyNext_list_end (I.ok.hd hc) st p.isList (by simp;omega) fun h' eb=>⟨rfl,I.turned (t':=s.toks) (fun b o hb e=>eb b o hb e) f0 f1 f3 f4 f5⟩
 self:=fun u0 u0 u0 u0 u0 st h=>wpAny_pyIter_listiter st h
theorem zHo{P:Program}{w:World}{K:PySem.W.Frag}{tg:Expr}(a it:Addr):Turn P w K tg (Itt K a) [it] it (fun i h=>h.IsTupleIter it a i) where
 mem:=by simp
 obj:=fun i h st b hb=>by
  have e:b=it:=by simpa using hb
  subst e
  obtain⟨o,e,c,d⟩:=st
  exact⟨o,e,fun v z=>by rw[d] at z;cases z⟩
 keep:=fun i h h' st k=>st.at fun o e=>k it (by simp) o e
 item:=by
  intro X hP hw hK hc i pins s σ H E I hf st hg
  subst hP hw hK
  obtain⟨xs,x,hq,hx⟩:=hg
  obtain⟨its,rv,p,hz⟩:=I.tuple hq
  obtain⟨u,hu,ru⟩:=rv.get hx
  obtain⟨f0,f1,f2,f3,f4,f5⟩:=hf it (by simp)
  refine wpAny_pyNext_tuple_item st (show s.heap.IsTuple a its.toArray from p) (x:=u) (by simpa using hu) fun h' st' sb=>?_
  have I1:zW X pins σ H { s with heap:=h' }:=I.turned (t':=s.toks) (fun b o hb e=>(sb.2 b hb).trans e) f0 f1 f3 f4 f5
  obtain⟨o,e,c,d⟩:=id st'
  exact⟨u,rfl,zKq (s:={ s with heap:=h' }) e c d (by decide) ⟨x,H,I1,ru,⟨rfl,fun ys hy=>by rw[I.tuple_inj hy hq];exact hx⟩,st',fun b hb=>(hf b hb).1⟩⟩
 done:=by
  intro X hP hw hK hc i pins s σ H E I hf st hg
  subst hP hw hK
  obtain⟨xs,hq,hx⟩:=hg
  obtain⟨its,rv,p,hz⟩:=I.tuple hq
  obtain⟨f0,f1,f2,f3,f4,f5⟩:=hf it (by simp)
  have hl:=rv.length
  exact wpAny_pyNext_tuple_end (I.ok.hd hc) st (show s.heap.IsTuple a its.toArray from p) (by simp;omega) fun h' eb=>⟨rfl,I.turned (t':=s.toks) (fun b o hb e=>eb b o hb e) f0 f1 f3 f4 f5⟩
 self:=fun u0 u0 u0 u0 u0 st h=>wpAny_pyIter_tupleiter st h
theorem zHp{P:Program}{w:World}{K:PySem.W.Frag}{tg:Expr}(it:Addr)(lo:Int)(n:Nat):Turn P w K tg (Itr lo n) [it] it (fun i h=>IsRangeIter h it (lo+(i:Nat)*1) ((n:Int)-(i:Nat)) 1) where
 mem:=by simp
 obj:=fun i h st b hb=>by
  have e:b=it:=by simpa using hb
  subst e
  exact⟨_,st,fun v z=>by
   have z':Data.fields _=Data.cell v:=z
   cases z'⟩
 keep:=fun i h h' st k=>k it (by simp) _ st
 item:=by
  intro X hP hw hK hc i pins s σ H E I hf st hg
  subst hP hw hK
  obtain⟨f0,f1,f2,f3,f4,f5⟩:=hf it (by simp)
  have W:=Walks.range (prog:=X.prog) (w:=X.w) (I.ok.hd hc) it lo 1 n
  refine W.item i s _ _ hg st fun v h' tk hv st' kk=>?_
  obtain⟨t,rfl⟩:=hv
  have I1:zW X pins σ H { s with heap:=h',toks:=tk }:=I.turned (fun b o hb e=>kk b o (by simpa using hb) e) f0 f1 f3 f4 f5
  refine⟨_,rfl,zKq (s:={ s with heap:=h',toks:=tk }) (n:="range_iterator") st' rfl rfl (by decide) ⟨.int (lo+i),H,I1,⟨t,?_⟩,⟨rfl,rfl⟩,st',fun b hb=>(hf b hb).1⟩⟩
  rw[Int.mul_one]
 done:=by
  intro X hP hw hK hc i pins s σ H E I hf st hg
  subst hP hw hK
  obtain⟨f0,f1,f2,f3,f4,f5⟩:=hf it (by simp)
  exact wpAny_pyNext_range_end (I.ok.hd hc) st (by have:n≤i:=hg;omega) fun h' eb=>⟨rfl,I.turned (t':=s.toks) (fun b o hb e=>eb b o hb e) f0 f1 f3 f4 f5⟩
 self:=fun u0 u0 u0 u0 u0 st h=>wpAny_pyIter_rangeiter st h
section
variable {X:Cx} {tg:Expr}
theorem zGi{pins:List (Addr×Obj)}{σ:St}{H:Hp}{s:Shared}{R:It→Hp→Prop}{E:Value→Shared→Prop}{lo hi:Int}{t u v:Tok}{tk:Nat}(I:zW X pins σ H s)(h1:-(2 ^ 62)≤lo)(h2:lo<2 ^ 62)(h3:-(2 ^ 62)≤hi)(h4:hi<2 ^ 62)
  (q:R (Itr lo (hi-lo).toNat) H):wpAny (model X.prog X.w) X.A (pyIter (.ref s.heap.objs.size)) (PIE X pins σ tg R) E { s with heap:=s.heap.push { cls:=.type "range",data:=.fields #[.int lo t,.int hi u,.int 1 v] },toks:=tk }:=by
 refine wpAny_pyIter_range (IsRange.new ..) (small_one h1 h2 h3 h4) ?_
 have I1:zW X pins σ H { s with heap:=s.heap.push { cls:=.type "range",data:=.fields #[.int lo t,.int hi u,.int 1 v] },toks:=tk }:=I.kept fun b o e=>bz _ e
 refine⟨(s.heap.push { cls:=.type "range",data:=.fields #[.int lo t,.int hi u,.int 1 v] }).objs.size,[(s.heap.push { cls:=.type "range",data:=.fields #[.int lo t,.int hi u,.int 1 v] }).objs.size],_,_,H,rfl,
  I1.kept (t':=tk) fun b o e=>bz _ e,zHp _ lo (hi-lo).toNat,?_,fun b hb=>?_,q⟩
 ·have e1:lo+((0:Nat):Int)*1=lo:=by simp
  have e2:(((hi-lo).toNat:Nat):Int)-((0:Nat):Int)=Builtin.Range.rangeSize lo hi 1:=by rw[rangeSize_one];split<;>omega
  show IsRangeIter _ _ (lo+((0:Nat):Int)*1) ((((hi-lo).toNat:Nat):Int)-((0:Nat):Int)) 1
  rw[e1,e2]
  exact bM _ rfl
 ·have e:b=(s.heap.push { cls:=.type "range",data:=.fields #[.int lo t,.int hi u,.int 1 v] }).objs.size:=by simpa using hb
  subst e
  exact I1.fpOk (bF _) (I1.hok.fresh (bF _))
noncomputable def zPm(ta:TA):TI:=fun σ H R=>ta σ H fun vs H1=>∃ j:Int,vs=[.int j]∧-(2 ^ 62)≤j∧j<2 ^ 62∧R (Itr 0 j.toNat) H1
noncomputable def zPn(ta:TA):TI:=fun σ H R=>ta σ H fun vs H1=>∃ i j:Int,vs=[.int i,.int j]∧(-(2 ^ 62)≤i∧i<2 ^ 62∧-(2 ^ 62)≤j∧j<2 ^ 62)∧R (Itr i (j-i).toNat) H1
theorem zJf{a:Expr}{ta:TA}{p pos:Pos}(hg:Gl X "range")(hm:X.mg "range"=none)(ha:PA X [a] ta)(hs:starEach [a] X.env=[(false,eval a X.env)]:=by rfl):PI X tg (.Call (.Name "range" p) [a] [] pos) (zPm ta):=by
 intro pins s σ H R I h
 refine Call_ (zBc I hg hm boot_range (PyProof.Rows.callWith_type1 (wM (ha pos pins s σ H _ I h) fun us s1 ⟨vs,H1,I1,r1,q1⟩=>?_) hs rfl))
 obtain⟨j,e,q1,q2,q⟩:=q1
 subst e
 cases r1 with
 | cons r rr =>
  cases rr
  obtain⟨t,rfl⟩:=r
  exact call_range_1 (zGi I1 (by omega) (by omega) q1 q2 (by simpa using q))
theorem zJg{a b:Expr}{ta:TA}{p pos:Pos}(hg:Gl X "range")(hm:X.mg "range"=none)(ha:PA X [a,b] ta)(hs:starEach [a,b] X.env=[(false,eval a X.env),(false,eval b X.env)]:=by rfl)(hs2:starEach [b] X.env=[(false,eval b X.env)]:=by rfl) :
  PI X tg (.Call (.Name "range" p) [a,b] [] pos) (zPn ta):=by
 intro pins s σ H R I h
 refine Call_ (zBc I hg hm boot_range (PyProof.Rows.callWith_type1 (wM (ha pos pins s σ H _ I h) fun us s1 ⟨vs,H1,I1,r1,q1⟩=>?_) (by rw[hs,hs2]) (by rw[hs2];rfl)))
 obtain⟨i,j,e,⟨q1,q2,q3,q4⟩,q⟩:=q1
 subst e
 cases r1 with
 | cons r rr =>
  cases rr with
  | cons r' rr =>
   cases rr
   obtain⟨t,rfl⟩:=r
   obtain⟨t',rfl⟩:=r'
   exact call_range_2 (zGi I1 q1 q2 q3 q4 q)
noncomputable def zQd(wi:TI)(g:TG)(tb:TS):TS:=fun D σ H=>wi σ H fun J H1=>∃ W:Nat→Nat→St→Hp→Prop,(∃ m,W 0 m σ H1)∧∀ i m σ H,W i m σ H →
 (J.stop i H∧D.nx σ H)∨(J.go i H∧∃ N:St→Hp→Prop,(∀ σ' H',N σ' H'→∃ m',m'<m∧W (i+1) m' σ' H')∧∀ x H',J.yld i H x H'→g x σ H' fun σ2 H2=>tb { D with nx:=N,ct:=N,bk:=D.nx } σ2 H2)
noncomputable def zEB(fp:List Addr)(h:Heap):List (Addr×Obj):=fp.filterMap fun b=>(h.get? b).map fun o=>(b,o)
theorem zBJ{fp:List Addr}{h:Heap}{b:Addr}{o:Obj}(hb:b∈fp)(e:h.get? b=some o):(b,o)∈zEB fp h:=List.mem_filterMap.mpr ⟨b,hb,by rw[e];rfl⟩
theorem zJh{fp:List Addr}{h:Heap}{p:Addr×Obj}(hp:p∈zEB fp h):p.1∈fp∧h.get? p.1=some p.2:=by
 obtain⟨b,hb,e⟩:=List.mem_filterMap.mp hp
 cases q:h.get? b with
 | none=>rw[q] at e;cases e
 | some o =>
  rw[q] at e
  have e':(b,o)=p:=Option.some.inj e
  subst e'
  exact⟨hb,q⟩
theorem zW.pinned{pins:List (Addr×Obj)}{σ:St}{H:Hp}{s:Shared}{fp:List Addr}(I:zW X pins σ H s)(hf:∀ b∈fp,zDF X pins H b)(ho:∀ b∈fp,∃ o,s.heap.get? b=some o∧∀ v,o.data≠.cell v):zW X (pins++zEB fp s.heap) σ H s :=
 I.pins_of fun p hp=>(bR.mp hp).elim (fun z=>I.pin p (cG _ z)) fun z=>by
  obtain⟨hb,e⟩:=zJh z
  obtain⟨f0,f1,f2,u0⟩:=hf p.1 hb
  obtain⟨o,e',d⟩:=ho p.1 hb
  rw[e] at e';cases e'
  exact⟨e,f0,f1,f2,d⟩
theorem zW.unpinned{pins pl:List (Addr×Obj)}{σ:St}{H:Hp}{s:Shared}(I:zW X (pins++pl) σ H s):zW X pins σ H s:=I.pins_of fun p hp=>I.pin p (cG _ (dW _ hp))
theorem zOW{iter:Expr}{body:List Stmt}{wi:TI}{g:TG}{tb:TS}{pos:Pos}(hp:PassesOwn (model X.prog X.w) X.A X.env X.xe)(hc:X.calm=true)(hi:PI X tg iter wi)(hg:PG X tg g)(hb:PSs X body tb)
  (hs:∀ x,foldedSetIterable iter X.env x=pure x:=by intro u0;rfl):PS X (.For tg iter body [] pos) (zQd wi g tb):=by
 intro pins s σ H D I h
 refine wpAny_For (wM (hi pins s σ H _ I h) fun v s1 h1=>wM h1 fun itv s2 h2=>?_) hs
 obtain⟨it,fp,tn,J,H2,e,I2,T,st2,f2,W,⟨m0,w0⟩,turn⟩:=h2
 subst e
 -- what stays true of the iterator's objects through the loop
 have stat:∀ {H':Hp},(∀ b∈fp,H' b=none)→∀ b∈fp,zDF X pins H' b:=fun hn b hb=>⟨hn b hb,(f2 b hb).2⟩
 refine codeAny_forLoop_any (fun n s'=>∃ i σ' H',zW X pins σ' H' s'∧tn i s'.heap∧(∀ b∈fp,H' b=none)∧W i n σ' H') ?_ m0 ⟨0,σ,H2,I2,st2,fun b hb=>(f2 b hb).1,w0⟩
 rintro n s3 ⟨i,σ3,H3,I3,st3,fr3,w3⟩
 rcases turn i n σ3 H3 w3 with ⟨stop,qn⟩ | ⟨go,N,hN,step⟩
 ·refine dL hp (wM (T.done X rfl rfl rfl hc i pins s3 σ3 H3 X.xe I3 (stat fr3) st3 stop) fun r s4 ⟨hr,I4⟩=>?_)
  subst hr
  exact wpAny_execs_nil ⟨σ3,H3,I4,qn⟩
 ·refine dL hp (wM (T.item X rfl rfl rfl hc i pins s3 σ3 H3 X.xe I3 (stat fr3) st3 go) fun r s4 ⟨u,hr,h4⟩=>?_)
  subst hr
  refine dL hp (wM h4 fun _ s5 ⟨x,H5,I5,r5,y5,st5,fr5⟩=>?_)
  have I5':=I5.pinned (stat fr5) (T.obj _ _ st5)
  refine dL hp (wM (hg _ s5 σ3 H5 x u _ I5' r5 (step x H5 y5)) fun _ s6 ⟨σ6,H6,I6,q6⟩=>?_)
  refine dL hp (wM (hb _ s6 σ6 H6 _ I6 q6) fun f s7 q7=>?_)
  have again:∀ {σ7:St} {H7:Hp},zW X (pins++zEB fp s5.heap) σ7 H7 s7→N σ7 H7→∃ m,m<n∧∃ i σ' H',zW X pins σ' H' s7∧tn i s7.heap∧(∀ b∈fp,H' b=none)∧W i m σ' H':=fun {σ7 H7} I7 n7=>by
   obtain⟨m',hm,w7⟩:=hN σ7 H7 n7
   refine⟨m',hm,i+1,σ7,H7,I7.unpinned,T.keep _ _ _ st5 fun b hb o e=>(I7.pin (b,o) (cG _ (cG _ (zBJ hb e)))).1,fun b hb=>?_,w7⟩
   obtain⟨o,e,d⟩:=T.obj _ _ st5 b hb
   exact(I7.pin (b,o) (cG _ (cG _ (zBJ hb e)))).2.1
  cases f with
  | next=>obtain⟨σ7,H7,I7,n7⟩:=q7;exact again I7 n7
  | cont=>obtain⟨σ7,H7,I7,n7⟩:=q7;exact again I7 n7
  | brk=>obtain⟨σ7,H7,I7,q7⟩:=q7;exact⟨σ7,H7,I7.unpinned,q7⟩
  | ret v=>obtain⟨x7,σ7,H7,I7,r7,q7⟩:=q7;exact⟨x7,σ7,H7,I7.unpinned,r7,q7⟩
end
noncomputable abbrev R2:=V→V→Hp→VK→Prop
noncomputable def OpR(X:Cx)(f:Value→Value→Sem Value)(r:R2):Prop :=
 ∀(pins:List (Addr×Obj)) (s:Shared) (σ:St) (H:Hp) (x y:V) (v u:Value) (Q:VK),zW X pins σ H s→RelV x v→RelV y u→r x y H Q →
  wpAny (model X.prog X.w) X.A (f v u) (EP X pins σ Q) X.xe s
noncomputable def UnR(X:Cx)(f:Value→Sem Value)(r:V→Hp→VK→Prop):Prop :=
 ∀(pins:List (Addr×Obj)) (s:Shared) (σ:St) (H:Hp) (x:V) (v:Value) (Q:VK),zW X pins σ H s→RelV x v→r x H Q →
  wpAny (model X.prog X.w) X.A (f v) (EP X pins σ Q) X.xe s
noncomputable def wE(X:Cx)(f:Value)(r:List V→Hp→VK→Prop):Prop :=
 ∀(pins:List (Addr×Obj)) (s:Shared) (σ:St) (H:Hp) (xs:List V) (us:List Value) (Q:VK),zW X pins σ H s→zY xs us→r xs H Q →
  wpAny (model X.prog X.w) X.A (call f us) (EP X pins σ Q) X.xe s
noncomputable def tOp(r:R2)(ta tb:TE):TE:=fun σ H Q=>ta σ H fun x H1=>tb σ H1 fun y H2=>r x y H2 Q
noncomputable def tUn(r:V→Hp→VK→Prop)(ta:TE):TE:=fun σ H Q=>ta σ H fun x H1=>r x H1 Q
noncomputable def rI(C:Int→Int→Prop)(g:Int→Int→V):R2:=fun x y H Q=>∃ i j,x=.int i∧y=.int j∧C i j∧Q (g i j) H
noncomputable def rI0(g:Int→Int→V):R2:=fun x y H Q=>∃ i j,x=.int i∧y=.int j∧Q (g i j) H
noncomputable def rU(g:Int→V):V→Hp→VK→Prop:=fun x H Q=>∃ i,x=.int i∧Q (g i) H
section
variable {X:Cx} {a b c:Expr} {ta tb tc:TE} {pos:Pos}
theorem zOX(ha:PE X a ta)(hb:PE X b tb){pins:List (Addr×Obj)}{s:Shared}{σ:St}{H:Hp}{R:V→V→Hp→Prop}(I:zW X pins σ H s)
  (h:ta σ H fun x H1=>tb σ H1 fun y H2=>R x y H2) {Q:Value→Shared→Prop} {f:Value→Value→Sem Value}
  (hf:∀ v u s2 x y H2,zW X pins σ H2 s2→RelV x v→RelV y u→R x y H2→wpAny (model X.prog X.w) X.A (f v u) Q X.xe s2) :
  wpAny (model X.prog X.w) X.A (eval a X.env) (fun v s₁=>wpAny (model X.prog X.w) X.A (eval b X.env) (fun u s₂=>wpAny (model X.prog X.w) X.A (f v u) Q X.xe s₂) X.xe s₁) X.xe s:=by
 refine wM (ha pins s σ H _ I h) fun v s1 ⟨x,H1,I1,r1,q1⟩=>?_
 refine wM (hb pins s1 σ H1 _ I1 q1) fun u s2 ⟨y,H2,I2,r2,q2⟩=>?_
 exact hf v u s2 x y H2 I2 r1 r2 q2
theorem zKr{op:Operator}{r:R2}(ho:OpR X (binaryOp op) r)(ha:PE X a ta)(hb:PE X b tb):PE X (.BinOp a op b pos) (tOp r ta tb):=by
 intro pins s σ H Q I h
 exact wpAny_BinOp (zOX ha hb I h fun v u s2 x y H2 I2 rx ry q=>ho pins s2 σ H2 x y v u Q I2 rx ry q)
theorem zPo{op:UnaryOp}{r:V→Hp→VK→Prop}(ho:UnR X (unaryOp op) r)(ha:PE X a ta):PE X (.UnaryOp op a pos) (tUn r ta):=by
 intro pins s σ H Q I h
 exact UnaryOp_ (wM (ha pins s σ H _ I h) fun v s1 ⟨x,H1,I1,r1,q1⟩=>ho pins s1 σ H1 x v Q I1 r1 q1)
theorem opI{f:Value→Value→Sem Value}{C:Int→Int→Prop}{g:Int→Int→Int}
  (rule:∀(i j:Int) (t u:Tok) (s:Shared) (Q:Value→Shared→Prop) (E:Value→Shared→Prop),C i j→Q (.int (g i j) s.toks) { s with toks:=s.toks+1 }→wpAny (model X.prog X.w) X.A (f (.int i t) (.int j u)) Q E s) :
  OpR X f (rI C fun i j=>.int (g i j)):=by
 intro pins s σ H x y v u Q I rx ry h
 obtain⟨i,j,rfl,rfl,hc,q⟩:=h
 obtain⟨t,rfl⟩:=rx
 obtain⟨t',rfl⟩:=ry
 exact rule i j t t' s _ _ hc ⟨.int (g i j),H,I.tok _,⟨_,rfl⟩,q⟩
theorem zOY{f:Value→Value→Sem Value}{g:Int→Int→Int}
  (rule:∀(i j:Int) (t u:Tok) (s:Shared) (Q:Value→Shared→Prop) (E:Value→Shared→Prop),Q (.int (g i j) s.toks) { s with toks:=s.toks+1 }→wpAny (model X.prog X.w) X.A (f (.int i t) (.int j u)) Q E s) :
  OpR X f (rI0 fun i j=>.int (g i j)):=by
 intro pins s σ H x y v u Q I rx ry h
 obtain⟨i,j,rfl,rfl,q⟩:=h
 obtain⟨t,rfl⟩:=rx
 obtain⟨t',rfl⟩:=ry
 exact rule i j t t' s _ _ ⟨.int (g i j),H,I.tok _,⟨_,rfl⟩,q⟩
theorem zOZ{f:Value→Value→Sem Value}{g:Int→Int→Bool}
  (rule:∀(i j:Int) (t u:Tok) (s:Shared) (Q:Value→Shared→Prop) (E:Value→Shared→Prop),Q (.bool (g i j)) s→wpAny (model X.prog X.w) X.A (f (.int i t) (.int j u)) Q E s) :
  OpR X f (rI0 fun i j=>.bl (g i j)):=by
 intro pins s σ H x y v u Q I rx ry h
 obtain⟨i,j,rfl,rfl,q⟩:=h
 obtain⟨t,rfl⟩:=rx
 obtain⟨t',rfl⟩:=ry
 exact rule i j t t' s _ _ ⟨.bl (g i j),H,I,rfl,q⟩
noncomputable def zGj(i j:Int):Prop:=0<j∧j<1073741824
noncomputable def zDq(i j:Int):Prop:=0≤j∧j≤1000000∧i.natAbs<2 ^ 64
noncomputable def zCV(i j:Int):Prop:=(-(2 ^ 64)<i∧i<2 ^ 64)∨(-(2 ^ 64)<j∧j<2 ^ 64)
theorem zCV.ok{i j:Int}(h:zCV i j):IntMulOk i j:=by
 rcases h with ⟨h1,h2⟩ | ⟨h1,h2⟩
 ·exact .of_left (intBits_le_64 h1 h2)
 ·exact .of_right (intBits_le_64 h1 h2)
theorem zOa:OpR X (binaryOp .Add) (rI0 fun i j=>.int (i+j)):=zOY fun u0 u0 u0 u0 u0 u0 u0 q=>add_int q
theorem zOb:OpR X (binaryOp .Sub) (rI0 fun i j=>.int (i-j)):=zOY fun u0 u0 u0 u0 u0 u0 u0 q=>sub_int q
theorem zOc:OpR X (binaryOp .Mult) (rI zCV fun i j=>.int (i*j)):=opI fun u0 u0 u0 u0 u0 u0 u0 hc q=>mul_int q hc.ok
theorem zMb:OpR X (binaryOp .FloorDiv) (rI zGj fun i j=>.int (i / j)):=opI fun i j u0 u0 u0 u0 u0 hc q=>by
 have h1:(0:Int)<j:=hc.1
 have h2:j<1073741824:=hc.2
 exact floordiv_int (by omega) (by rw[Int.fdiv_eq_ediv_of_nonneg i (by omega)];exact q) (.inl (PyProof.noPylong_small (by omega)))
theorem zOd:OpR X (binaryOp .Mod) (rI (fun u0 j=>0<j) fun i j=>.int (i%j)):=opI fun i j u0 u0 u0 u0 u0 hc q=>by
 have h1:(0:Int)<j:=hc
 exact mod_int' (by omega) (by rw[Int.fmod_eq_emod_of_nonneg i (by omega)];exact q)
theorem zOe:OpR X (binaryOp .Pow) (rI zDq fun i j=>.int (i ^ j.toNat)):=opI fun u0 u0 u0 u0 u0 u0 u0 hc q=>pow_int_small hc.1 hc.2.1 hc.2.2 q
theorem zOf:OpR X (binaryOp .LShift) (rI zDq fun i j=>.int (i*2 ^ j.toNat)):=opI fun u0 u0 u0 u0 u0 u0 u0 hc q=>lshift_int_small hc.1 hc.2.1 hc.2.2 q
theorem zOg:OpR X (binaryOp .BitXor) (rI0 fun i j=>.int (Builtin.bitXor i j)):=zOY fun u0 u0 u0 u0 u0 u0 u0 q=>xor_int q
theorem unI{f:Value→Sem Value}{g:Int→Int}
  (rule:∀(i:Int) (t:Tok) (s:Shared) (Q:Value→Shared→Prop) (E:Value→Shared→Prop),Q (.int (g i) s.toks) { s with toks:=s.toks+1 }→wpAny (model X.prog X.w) X.A (f (.int i t)) Q E s) :
  UnR X f (rU fun i=>.int (g i)):=by
 intro pins s σ H x v Q I rx h
 obtain⟨i,rfl,q⟩:=h
 obtain⟨t,rfl⟩:=rx
 exact rule i t s _ _ ⟨.int (g i),H,I.tok _,⟨_,rfl⟩,q⟩
theorem zOh:UnR X (unaryOp .USub) (rU fun i=>.int (-i)):=unI fun u0 u0 u0 u0 u0 q=>neg_int q
theorem zOi{pins:List (Addr×Obj)}{σ:St}{H:Hp}{s:Shared}{Q:VK}{k k':Bool}(I:zW X pins σ H s)(q:Q (.bl k) H)(e:k=k'):EP X pins σ Q (.bool k') s:=by
 subst e
 exact⟨.bl k,H,I,rfl,q⟩
theorem zPp:OpR X (compareOp .Lt) (rI0 fun i j=>.bl (decide (i<j))):=zOZ fun u0 u0 u0 u0 u0 u0 u0 q=>lt_int q
theorem zPq:OpR X (compareOp .Gt) (rI0 fun i j=>.bl (decide (j<i))):=zOZ fun u0 u0 u0 u0 u0 u0 u0 q=>gt_int q
theorem zPr:OpR X (compareOp .GtE) (rI0 fun i j=>.bl (decide (j≤i))):=zOZ fun u0 u0 u0 u0 u0 u0 u0 q=>ge_int q
theorem zKs:OpR X (compareOp .Is) (fun x y H Q=>y=.non∧Q (.bl (decide (x=.non))) H):=by
 intro pins s σ H x y v u Q I rx ry h
 obtain⟨rfl,q⟩:=h
 cases ry
 refine is_none_gen (zOi I q ?_)
 cases x<;>first
  | (cases rx;rfl)
  | (obtain⟨t,rfl⟩:=rx;rfl)
theorem OpR.or{f:Value→Value→Sem Value}{r r':R2}(h:OpR X f r)(h':OpR X f r'):OpR X f (fun x y H Q=>r x y H Q∨r' x y H Q):=by
 intro pins s σ H x y v u Q I rx ry q
 rcases q with q | q
 ·exact h pins s σ H x y v u Q I rx ry q
 ·exact h' pins s σ H x y v u Q I rx ry q
theorem zBd(b:Expr){op:CmpOp}(h:op≠.In:=by decide)(h2:op≠.NotIn:=by decide):behindInMarks op b=false:=by
 have e1:(op==CmpOp.In)=false:=by cases op<;>first | rfl | exact absurd rfl h
 have e2:(op==CmpOp.NotIn)=false:=by cases op<;>first | rfl | exact absurd rfl h2
 cases b<;>simp[behindInMarks,e1,e2]
theorem zMc{op:CmpOp}{r:R2}(ho:OpR X (compareOp op) r)(ha:PE X a ta)(hb:PE X b tb)(hm:behindInMarks op b=false):PE X (.Compare a [op] [b] pos) (tOp r ta tb):=by
 intro pins s σ H Q I h
 exact wpAny_Compare1 (zOX ha hb I h fun v u s2 x y H2 I2 rx ry q=>ho pins s2 σ H2 x y v u Q I2 rx ry q) hm
noncomputable def zPs(t:TE):TT:=fun σ H Q=>t σ H fun x H'=>∃ k,x=.bl k∧Q k H'
theorem zMd{op:CmpOp}{r:R2}(ho:OpR X (compareOp op) r)(ha:PE X a ta)(hb:PE X b tb)(hm:behindInMarks op b=false):PT X (.Compare a [op] [b] pos) (zPs (tOp r ta tb)):=by
 intro pins s σ H Q I h
 refine wpAny_isTrue_Compare1 (wM (ha pins s σ H _ I h) fun v s1 ⟨x,H1,I1,r1,q1⟩=>wM (hb pins s1 σ H1 _ I1 q1) fun u s2 ⟨y,H2,I2,r2,q2⟩ =>
  wM (ho pins s2 σ H2 x y v u _ I2 r1 r2 q2) fun c s3 ⟨z,H3,I3,r3,k,e,q3⟩=>?_) hm
 subst e
 cases r3
 exact dQ ⟨H3,I3,q3⟩
theorem zEC:(sizeLine:Nat)<2 ^ 63:=by rw[sizeLine_eq];decide
theorem vals1{x:V}{us:List Value}(r:zY [x] us):∃ u,us=[u]∧RelV x u:=by
 cases r with
 | cons r1 r2=>cases r2;exact⟨_,rfl,r1⟩
theorem vals2{x y:V}{us:List Value}(r:zY [x,y] us):∃ u w',us=[u,w']∧RelV x u∧RelV y w':=by
 cases r with
 | cons r1 r2 =>
  cases r2 with
  | cons r3 r4=>cases r4;exact⟨_,_,rfl,r1,r3⟩
theorem zJi(hc:X.calm=true):wE X (.builtin "max") (fun xs H Q=>∃ i j,xs=[.int i,.int j]∧Q (.int (if j>i then j else i)) H):=by
 intro pins s σ H xs us Q I r h
 obtain⟨i,j,rfl,q⟩:=h
 obtain⟨u,w',rfl,⟨t,rfl⟩,⟨t',rfl⟩⟩:=vals2 r
 refine max_two_ints (I.ok.hd hc) fun h' tk k=>⟨_,H,I.kept k,?_,q⟩
 by_cases hj:j>i
 ·rw[if_pos hj,if_pos hj];exact⟨_,rfl⟩
 ·rw[if_neg hj,if_neg hj];exact⟨_,rfl⟩
theorem zJj(hc:X.calm=true):wE X (.builtin "min") (fun xs H Q=>∃ i j,xs=[.int i,.int j]∧Q (.int (if j<i then j else i)) H):=by
 intro pins s σ H xs us Q I r h
 obtain⟨i,j,rfl,q⟩:=h
 obtain⟨u,w',rfl,⟨t,rfl⟩,⟨t',rfl⟩⟩:=vals2 r
 refine min_two_ints (I.ok.hd hc) fun h' tk k=>⟨_,H,I.kept k,?_,q⟩
 by_cases hj:j<i
 ·rw[if_pos hj,if_pos hj];exact⟨_,rfl⟩
 ·rw[if_neg hj,if_neg hj];exact⟨_,rfl⟩
end
structure zMe (h:Heap) (x dx C:Addr) (mA:Str→Option Value):Prop where
 obj:h.get? x=some (PySem.W.instObj C dx)
 ns:h.Ns1 dx mA
 ne:dx≠x
theorem zJk{h:Heap}{dx:Addr}{mA:Str→Option Value}(n:h.Ns1 dx mA):∃ od,h.get? dx=some od∧∀ name,PySem.W.lookIn name od=some (mA name):=by
 obtain⟨o,es,ep,ho,hd,hk,u0,hm⟩:=n
 refine⟨o,ho,fun name=>?_⟩
 have e:=hm name
 unfold nsFind findBy at e
 rw[← Array.find?_toList] at e
 unfold PySem.W.lookIn
 rw[hd]
 dsimp only
 split
 ·rename_i y q
  rw[q] at e
  exact congrArg some e
 ·rename_i q
  rw[q] at e
  have a:es.toList.any (·.refKey)=false:=by
   rw[List.any_eq_false]
   intro y hy
   obtain⟨z,t,hkey⟩:=hk y (Array.mem_toList_iff.mp hy)
   simp[DictEntry.refKey,hkey]
  have a':¬ es.toList.any (·.refKey)=true:=by rw[a];exact cK
  rw[if_neg a']
  exact congrArg some e
theorem zMe.look{h:Heap}{x dx C:Addr}{mA:Str→Option Value}(I:zMe h x dx C mA):∃ od,PySem.W.InstAt h x (PySem.W.instObj C dx) C (some od)∧∀ name,PySem.W.lookIn name od=some (mA name) :=
 let ⟨od,ho,hl⟩:=zJk I.ns
 ⟨od,⟨I.obj,rfl,rfl,ho⟩,hl⟩
section
variable {prog:Program} {w:World} {A:Around} {E:Value→Shared→Prop} {s:Shared} {K:PySem.W.Frag} {x dx C f:Addr} {mA:Str→Option Value} {name:Str} {v:Value}
theorem zDz{expr:Bool}{Q:Value→Shared→Prop}(X:K.In s.heap)(I:zMe s.heap x dx C mA)(hg:PySem.W.plainGet K C name=true)(hh:PySem.W.hasDictIn K C=true)
  (ha:PySem.W.findIn K (.ref C) name=some none) (hv:mA name=some v) (hv':PySem.W.handedIn v=true) (h:Q v { s with toks:=s.toks+1 }) :
  wpAny (model prog w) A (getAttr (.ref x) name expr) Q E s:=by
 obtain⟨od,J,hl⟩:=I.look
 exact PySem.W.get_value X J (PySem.W.plainGet_of hg).1 (PySem.W.findObj_own hh ha rfl (by rw[hl,hv])) hv' h
end
section
variable {P:Program} {w:World} {H H':Hp} {h h':Heap} {a C dx:Addr} {fs fs':List (Str×V)}
theorem zMf(hok:HOk P w H h)(e:H a=some (.ins C dx fs)):∃ mA,zMe h a dx C mA∧(∀ f,zOC (fs.lookup f) (mA f))∧PySem.Within mA (fs.map (·.1))∧fs.length≤1000∧H dx=some (.own a):=by
 obtain⟨d,z,ne,ob,mA,n,r,q⟩:=(show wf P w H h a (.ins C dx fs) from hok a _ e)
 exact⟨mA,⟨ob,n,ne⟩,r,q,z,d⟩
end
structure Cls (K:PySem.W.Frag) (C:Addr):Prop where
 pg:PySem.W.plainGet K C Str.empty=true
 hd:PySem.W.hasDictIn K C=true
 po:PySem.W.plainOver K C=true
 sa:PySem.W.findIn K (.ref C) "__setattr__"=some (some (.builtin "object.__setattr__"))
theorem Cls.get{K:PySem.W.Frag}{C:Addr}(c:Cls K C)(f:Str):PySem.W.plainGet K C f=true:=c.pg
section
variable {X:Cx} {pins:List (Addr×Obj)} {σ:St} {H:Hp} {s:Shared} {a C dx:Addr} {fs:List (Str×V)} {f:Str} {v:V} {A:Around} {E:Value→Shared→Prop}
end
section
variable {X:Cx} {o e value:Expr} {f:Str} {pos pos' tpos:Pos} {ta tv:TE}
end
section
variable {X:Cx} {pins:List (Addr×Obj)} {σ:St} {H:Hp} {s:Shared} {A:Around} {E:Value→Shared→Prop} {Q:Value→Shared→Prop} {c:Value} {b:Bool}
set_option genInjectivity true in
inductive zDr (K:PySem.W.Frag) (H:Hp):V→Value→Prop where
 | non:zDr K H .non (.type "NoneType")
 | bl (x:Bool):zDr K H (.bl x) (.type "bool")
 | int (i:Int):zDr K H (.int i) (.type "int")
 | str (x:Str):zDr K H (.str x) (.type "str")
 | flt (x:UInt64):zDr K H (.flt x) (.type "float")
 | lst {a:Addr} {xs:List V} (e:H a=some (.lst xs)):zDr K H (.ref a) (.type "list")
 | frz {a:Addr} {o:Obj} {xs:List V} (e:H a=some (.frz o (.lst xs))):zDr K H (.ref a) (.type "list")
 | tup {a:Addr} {xs:List V} (e:H a=some (.tup xs)):zDr K H (.ref a) (.type "tuple")
 | dK {a:Addr} {kvs:List (Key×V)} (e:H a=some (.dK kvs)):zDr K H (.ref a) (.type "dict")
 | dT {a:Addr} {kvs:List (List Key×V)} (e:H a=some (.dT kvs)):zDr K H (.ref a) (.type "dict")
 | ins {a C dx:Addr} {fs:List (Str×V)} (e:H a=some (.ins C dx fs)) (cl:Cls K C) (ha:PySem.W.findIn K (.ref C) "__class__"=some (some (.builtin "object.__class__")))
   (hn:PySem.W.specialIn K (.builtin "object.__class__") "__get__"=some (some (.builtin "getset_descriptor.__get__"))) (htk:PySem.W.takesIn K (.builtin "object.__class__")=some true)
   (hm:PySem.W.mroIn K C (.type "object")=some true):zDr K H (.ref a) (.ref C)
theorem zB3{x:V}{u t:Value}(I:zW X pins σ H s)(rx:RelV x u)(ty:zDr X.K H x t)(e:PySem.W.kitOne X.K t c=some b)(h:∀ tk,Q (.bool b) { s with toks:=tk }) :
  wpAny (model X.prog X.w) A (call (.builtin "isinstance") [u,c]) Q E s:=by
 cases ty with
 | non=>cases (show u=Value.none from rx);exact PySem.W.kia_one PySem.W.kitx_none I.kIn True.intro e (fun z=>nomatch z) h
 | bl y=>cases (show u=Value.bool y from rx);exact PySem.W.kia_one PySem.W.kitx_bool I.kIn True.intro e (fun z=>nomatch z) h
 | int i=>obtain⟨t,q⟩:=(show ∃ t,u=Value.int i t from rx);cases q;exact PySem.W.kia_one PySem.W.kitx_int I.kIn True.intro e (fun z=>nomatch z) h
 | str y=>obtain⟨t,q⟩:=(show ∃ t,u=Value.str y t from rx);cases q;exact PySem.W.kia_one PySem.W.kitx_str I.kIn True.intro e (fun z=>nomatch z) h
 | flt y=>obtain⟨t,q⟩:=(show ∃ t,u=Value.float y t from rx);cases q;exact PySem.W.kia_one PySem.W.kitx_float I.kIn True.intro e (fun z=>nomatch z) h
 | @lst a xs ea =>
  cases (show u=Value.ref a from rx)
  obtain⟨u0,u0,n,u0,h1⟩:=(show wf X.prog X.w H s.heap a (.lst xs) from I.hok a _ ea)
  exact PySem.W.kia_one PySem.W.kitx_list I.kIn ⟨_,h1,rfl⟩ e (fun z=>nomatch z) h
 | @frz a ob xs ea =>
  cases (show u=Value.ref a from rx)
  obtain⟨u0,u0,u0,n,u0,h1⟩:=(show wf X.prog X.w H s.heap a (.frz ob (.lst xs)) from I.hok a _ ea)
  exact PySem.W.kia_one PySem.W.kitx_list I.kIn ⟨_,h1,rfl⟩ e (fun z=>nomatch z) h
 | @tup a xs ea =>
  cases (show u=Value.ref a from rx)
  obtain⟨u0,u0,u0,p⟩:=(show wf X.prog X.w H s.heap a (.tup xs) from I.hok a _ ea)
  obtain⟨o,h1,h2,u0⟩:=p
  exact PySem.W.kia_one PySem.W.kitx_tuple I.kIn ⟨o,h1,h2⟩ e (fun z=>nomatch z) h
 | @dK a kvs ea =>
  cases (show u=Value.ref a from rx)
  obtain⟨u0,u0,vs,u0,p⟩:=(show wf X.prog X.w H s.heap a (.dK kvs) from I.hok a _ ea)
  obtain⟨o,es,ep,h1,h2,u0⟩:=p
  exact PySem.W.kia_one PySem.W.kitx_dict I.kIn ⟨o,h1,h2.1⟩ e (fun z=>nomatch z) h
 | @dT a kvs ea =>
  cases (show u=Value.ref a from rx)
  obtain⟨u0,u0,xs,u0,o,es,ep,h1,h2,u0⟩:=(show wf X.prog X.w H s.heap a (.dT kvs) from I.hok a _ ea)
  exact PySem.W.kia_one PySem.W.kitx_dict I.kIn ⟨o,h1,h2.1⟩ e (fun z=>nomatch z) h
 | @ins a C dx fs ea cl ha hn htk hm =>
  cases (show u=Value.ref a from rx)
  obtain⟨mA,O,u0⟩:=zMf I.hok ea
  obtain⟨od,J,u0⟩:=O.look
  exact PySem.W.kia_one (PySem.W.kitx_own (cl.get _) cl.hd ha hn htk hm) I.kIn J e (fun z=>nomatch z) h
end
structure wt (k:Nat) (A:Around):Prop where
 hd:A.handled=none
 dp:A.depth+3*k+5<recursionLimit
 un:A.units+16*k+200<cLine
theorem wt.mono{j k:Nat}{A:Around}(r:wt k A)(h:j≤k):wt j A:=⟨r.hd,by have:=r.dp;omega,by have:=r.un;omega⟩
theorem wt.deeper{k:Nat}{A:Around}(r:wt (k+1) A)(env:Env):wt k (A.deeper env) :=
 ⟨r.hd,by have:=r.dp;show A.depth+1+3*k+5<_;omega,by have:=r.un;show A.units+3+16*k+200<_;omega⟩
theorem wt.depth{k:Nat}{A:Around}(r:wt k A):A.depth<recursionLimit:=by have:=r.dp;omega
theorem wt.units{k:Nat}{A:Around}(r:wt k A):A.units+64<cLine:=by have:=r.un;omega
noncomputable def zPt:TA:=fun u0 H Q=>Q [] H
noncomputable def zNo(ta:TE)(tr:TA):TA:=fun σ H Q=>ta σ H fun x H1=>tr σ H1 fun xs H2=>Q (x::xs) H2
section
variable {X:Cx} {e:Expr} {es:List Expr} {te:TE} {t:TA} {pos:Pos}
theorem zCW:PA X [] zPt:=fun u0 u0 u0 u0 H Q I h=>Calls.spliced_nil ⟨[],H,I,.nil,h⟩
theorem zAq(ha:PE X e te)(hr:PA X es t)(hs:starEach (e::es) X.env=(false,eval e X.env)::starEach es X.env:=by rfl):PA X (e::es) (zNo te t):=by
 intro pos pins s σ H Q I h
 rw[hs]
 show wpAny _ _ (spliced ((false,eval e X.env)::backTo pos (starEach es X.env))) _ _ s
 refine Calls.spliced_cons (wM (ha pins s σ H _ I h) fun u s1 ⟨x,H1,I1,r1,q1⟩=>?_)
 exact wM (hr pos pins s1 σ H1 _ I1 q1) fun us s2 ⟨xs,H2,I2,r2,q2⟩=>⟨x::xs,H2,I2,.cons r1 r2,q2⟩
noncomputable def zQe(t:TA):TE:=fun σ H Q=>t σ H fun xs H1=>xs.length≤sizeLine∧∀ p,H1 p=none→Q (.ref p) (wd H1 p (.tup xs))
noncomputable def zQf(t:TA):TE:=fun σ H Q=>t σ H fun xs H1=>xs.length≤sizeLine∧∀ p,H1 p=none→Q (.ref p) (wd H1 p (.lst xs))
theorem zOj{x1}(h:PA X es t):PE X (.Tuple es x1 pos) (zQe t):=by
 intro pins s σ H Q I hq
 refine wpAny_Tuple_spliced (wM (h pos pins s σ H _ I hq) fun us s1 ⟨xs,H1,I1,r,z,q⟩=>⟨by rw[← r.length];exact z,?_⟩)
 have hf:H1 s1.heap.objs.size=none:=I1.hok.fresh (bF _)
 refine⟨.ref s1.heap.objs.size,wd H1 s1.heap.objs.size (.tup xs),I1.laid (t':=s1.toks) (fun b u e=>bz _ e) (bF _) ?_,rfl,q _ hf⟩
 exact⟨z,us,r,⟨_,bM _ rfl,rfl,⟨_,rfl⟩,rfl⟩⟩
theorem zOk(h:PA X es t):PE X (.List es pos) (zQf t):=by
 intro pins s σ H Q I hq
 refine wpAny_List_spliced (wM (h pos pins s σ H _ I hq) fun us s1 ⟨xs,H1,I1,r,z,q⟩=>⟨by rw[← r.length];exact z,?_⟩)
 have hf:H1 s1.heap.objs.size=none:=I1.hok.fresh (bF _)
 refine⟨.ref s1.heap.objs.size,wd H1 s1.heap.objs.size (.lst xs),I1.laid (t':=s1.toks) (fun b u e=>bz _ e) (bF _) ?_,rfl,q _ hf⟩
 exact⟨z,us,0,r,bM _ rfl⟩
end
noncomputable abbrev Sp:=List V→Hp→VK→XK→Prop
noncomputable abbrev CXT:=List Env→Hp→Shared→XK→Value→Shared→Prop
structure zMg (P:Program) (w:World) (K:PySem.W.Frag) (mg:Str→Option Value) (base:Heap) (A:Around) (outer:List Env) (s:Shared) (H:Hp):Prop where
 frames:A.frames=some outer
 mod:Mod K mg base
 bs:∀ b o,base.get? b=some o→s.heap.get? b=some o∧H b=none
 bsz:base.objs.size≤s.heap.objs.size
 funs:s.heap.FunFrames base outer
 frf:∀ b∈frs outer,H b=none
 hok:HOk P w H s.heap
 bare:AllBare s.gens
 tb:TabsOk K H
noncomputable def CE(outer:List Env)(P:Program)(w:World)(H:Hp)(s:Shared)(Q:VK)(u:Value)(s':Shared):Prop :=
 ∃ v H',s'.os=s.os∧AllBare s'.gens∧Un (frs outer) [] H H' s.heap s'.heap∧HOk P w H' s'.heap∧RelV v u∧Q v H'
noncomputable def CR(CX:CXT)(outer:List Env)(P:Program)(w:World)(H:Hp)(s:Shared)(Q:VK)(E:XK)(r:Result)(s':Shared):Prop :=
 match r with
 | .ok (.ret u)=>CE outer P w H s Q u s'
 | .ok _=>False
 | .error e=>CX outer H s E e s'
structure zBe (P:Program) (w:World) (K:PySem.W.Frag) (mg:Str→Option Value) (base:Heap) (CX:CXT) (k:Nat) (f:Addr) (fd:FuncData) (ps:List Str) (sp:Sp):Prop where
 len:∀ vs H Q E,sp vs H Q E→vs.length=ps.length
 run:∀(A:Around) (outer:List Env) (s:Shared) (H:Hp) (args:Args) (us:List Value) (vs:List V) (Q:VK) (E:XK),wt k A→zMg P w K mg base A outer s H→BindsTo s fd args (ps.zip us)→zY vs us→sp vs H Q E →
  codeAny (model P w) A (.call (.ref f) args) (CR CX outer P w H s Q E) s
theorem zBe.mono{P:Program}{w:World}{K:PySem.W.Frag}{mg:Str→Option Value}{base:Heap}{CX:CXT}{j k:Nat}{f:Addr}{fd:FuncData}{ps:List Str}{sp:Sp}(F:zBe P w K mg base CX j f fd ps sp)(h:j≤k) :
  zBe P w K mg base CX k f fd ps sp:=⟨F.len,fun A outer s H args us vs Q E hr=>F.run A outer s H args us vs Q E (hr.mono h)⟩
theorem zBe.imp{P:Program}{w:World}{K:PySem.W.Frag}{mg:Str→Option Value}{base:Heap}{CX:CXT}{k:Nat}{f:Addr}{fd:FuncData}{ps:List Str}{sp sp':Sp}(F:zBe P w K mg base CX k f fd ps sp)
  (h:∀ vs H Q E,sp' vs H Q E→sp vs H Q E):zBe P w K mg base CX k f fd ps sp' :=
 ⟨fun vs H Q E q=>F.len vs H Q E (h _ _ _ _ q),fun A outer s H args us vs Q E hr he hb hv hs=>F.run A outer s H args us vs Q E hr he hb hv (h _ _ _ _ hs)⟩
section
variable {X:Cx} {pins:List (Addr×Obj)} {σ:St} {H:Hp} {s s':Shared}
theorem zW.env0(I:zW X pins σ H s):zMg X.prog X.w X.K X.mg X.base X.A X.stack s H :=
 ⟨I.ok.frames,I.ok.mod,I.bs,cC I.ok.bsz I.sz,I.stack,I.stkFree,I.hok,I.bare,I.tabs⟩
theorem zW.after{Q:VK}{u:Value}(I:zW X pins σ H s)(h:CE X.stack X.prog X.w H s Q u s'):EP X pins σ Q u s':=by
 obtain⟨v,H',os,bare,un,hok,r,q⟩:=h
 obtain⟨hh,g,d,t,os'⟩:=s'
 obtain rfl:os'=s.os:=os
 exact⟨v,H',I.call (h':=hh) (g':=g) (d':=d) (t':=t) (ch:=[]) un hok bare (fun b z=>absurd z (by simp)),r,q⟩
end
noncomputable def zPu(sp:Sp)(dvs:List V)(E:XK)(t:TA):TE:=fun σ H Q=>t σ H fun vs H1=>sp (vs++dvs) H1 Q E
noncomputable def Binds(K:PySem.W.Frag)(fd:FuncData)(ps:List Str)(ds:List Value):Prop :=
 ∀(s:Shared) (us:List Value),K.In s.heap→(us++ds).length=ps.length→BindsTo s fd ⟨us,[]⟩ (ps.zip (us++ds))
theorem Binds.all{K:PySem.W.Frag}{fd:FuncData}{ps:List Str}(h:∀ us:List Value,us.length=ps.length→bindArgs fd ⟨us,[]⟩=pure (ps.zip us)):Binds K fd ps []:=fun s us u0 hl=>by
 rw[cO] at hl ⊢
 exact .of_eq (h us hl)
noncomputable def zHq(CX:CXT)(X:Cx)(E:XK):Prop:=∀(pins:List (Addr×Obj)) (σ:St) (H:Hp) (s:Shared) (e:Value) (s':Shared),zW X pins σ H s→CX X.stack H s E e s'→X.xe e s'
section
variable {X:Cx} {CX:CXT} {k:Nat} {f C:Addr} {fd:FuncData} {ps:List Str} {sp:Sp} {dvs:List V} {ds:List Value} {E:XK} {x m:Str} {p pos apos:Pos} {e o:Expr} {es:List Expr} {ta:TE} {t:TA}
theorem zOl{pins:List (Addr×Obj)}{σ:St}{H:Hp}{s:Shared}{Q:VK}{us:List Value}{vs:List V}(F:zBe X.prog X.w X.K X.mg X.base CX k f fd ps sp)(hr:wt k X.A)(hb:Binds X.K fd ps ds)(hd:zY dvs ds)(hx:zHq CX X E)
  (I:zW X pins σ H s) (r:zY vs us) (h:sp (vs++dvs) H Q E):wpAny (model X.prog X.w) X.A (call (.ref f) us) (EP X pins σ Q) X.xe s:=by
 have r2:zY (vs++dvs) (us++ds):=r.append hd
 have hl:(us++ds).length=ps.length:=by rw[← r2.length];exact F.len _ _ _ _ h
 refine wpAny_call (dN (F.run X.A X.stack s H ⟨us,[]⟩ (us++ds) (vs++dvs) Q E hr I.env0 (hb s us I.kIn hl) r2 h) fun r s' hq=>?_)
 cases r with
 | error e=>exact hx pins σ H s e s' I hq
 | ok fl =>
  cases fl with
  | ret u=>exact I.after hq
  | next=>exact False.elim hq
  | brk=>exact False.elim hq
  | cont=>exact False.elim hq
theorem zIr(F:zBe X.prog X.w X.K X.mg X.base CX k f fd ps sp)(hr:wt k X.A)(hg:Gl X x)(hm:X.mg x=some (.ref f))(hk:PySem.W.keepIn X.K (.ref f)=true)(hb:Binds X.K fd ps ds)(hd:zY dvs ds)(hx:zHq CX X E)
  (ha:PA X (e::es) t) (hdb:(x==("__debug__":Str))=false:=by decide) (he:starEach (e::es) X.env=(false,eval e X.env)::starEach es X.env:=by rfl) (hpl:(backTo pos (starEach es X.env)).any (·.1)=false:=by rfl) :
  PE X (.Call (.Name x p) (e::es) [] pos) (zPu sp dvs E t):=by
 intro pins s σ H Q I h
 refine ev (zIp I hg hm ?_ hdb)
 refine PySem.W.callWith_K (h₀:=X.base) I.ok.mod.kin hk (wM (ha pos pins s σ H _ I h) fun us s1 ⟨vs,H1,I1,r,q⟩=>⟨I1.kIn,?_⟩) he hpl
 exact zOl F hr hb hd hx I1 r q
end
section
variable {X:Cx} {CX:CXT} {k:Nat} {f C:Addr} {fd:FuncData} {ps ks:List Str} {sp:Sp} {E:XK} {x m:Str} {p pos apos kpos:Pos} {e o:Expr} {es:List Expr} {kws:List Keyword} {te ta:TE} {t tk:TA} {nm:Option Str}
variable {g:List Value→List Value→List Value} {gV:List V→List V→List V}
end
structure zd (N P:List Str) (sc:Scope):Prop where
 kind:sc.kind=.function
 co:sc.isCoroutine=false
 gen:sc.isGenerator=false
 nd:N.Nodup
 pre:N.take P.length=P
 par:∀ x∈P,sc.names.lookup x=some .local∨sc.names.lookup x=some .cell
 nofree:∀ y∈sc.names,y.2≠.free
theorem zFO{kindOf:Str→Option NameKind}{x:Str}:∀ {binds:List (Str×Value)} {m:Str→Option Value},(∀ v,(x,v)∉binds)→bindL kindOf binds m x=m x
 | [],_,_=>rfl
 | (n,v)::r,m,h=>by
  unfold bindL
  rw[zFO fun w hw=>h w (ca _ hw)]
  split
  ·have:x≠n:=by rintro rfl;exact h v cc
   simp[this]
  ·rfl
theorem zFP{kindOf:Str→Option NameKind}{x:Str}:∀ {binds:List (Str×Value)} {m:Str→Option Value},(∀ v,(x,v)∉binds)→bindC kindOf binds m x=m x
 | [],_,_=>rfl
 | (n,v)::r,m,h=>by
  unfold bindC
  rw[zFP fun w hw=>h w (ca _ hw)]
  split
  ·rfl
  ·have:x≠n:=by rintro rfl;exact h v cc
   simp[this]
theorem zFQ{kindOf:Str→Option NameKind}{x:Str}{v:Value}:∀ {P:List Str} {vs:List Value} {i:Nat} {m:Str→Option Value},P.Nodup→P[i]?=some x→vs[i]?=some v→kindOf x=some .local →
  bindL kindOf (P.zip vs) m x=some v
 | [],_,_,_,_,h,_,_=>by simp at h
 | _::_,[],_,_,_,_,h,_=>by simp at h
 | p::P,w::vs,0,m,nd,h1,h2,hk=>by
  simp at h1 h2;subst h1;subst h2
  show bindL kindOf ((p,w)::P.zip vs) m p=_
  unfold bindL
  rw[zFO fun v hv=>(cR.mp nd).1 (List.of_mem_zip hv).1,if_pos hk]
  simp
 | p::P,w::vs,i+1,m,nd,h1,h2,hk=>by
  show bindL kindOf ((p,w)::P.zip vs) m x=_
  unfold bindL
  exact zFQ (i:=i) (cR.mp nd).2 (by simpa using h1) (by simpa using h2) hk
theorem zFR{kindOf:Str→Option NameKind}{x:Str}{v:Value}:∀ {P:List Str} {vs:List Value} {i:Nat} {m:Str→Option Value},P.Nodup→P[i]?=some x→vs[i]?=some v→kindOf x≠some .local →
  bindC kindOf (P.zip vs) m x=some v
 | [],_,_,_,_,h,_,_=>by simp at h
 | _::_,[],_,_,_,_,h,_=>by simp at h
 | p::P,w::vs,0,m,nd,h1,h2,hk=>by
  simp at h1 h2;subst h1;subst h2
  show bindC kindOf ((p,w)::P.zip vs) m p=_
  unfold bindC
  rw[zFP fun v hv=>(cR.mp nd).1 (List.of_mem_zip hv).1,if_neg hk]
  simp
 | p::P,w::vs,i+1,m,nd,h1,h2,hk=>by
  show bindC kindOf ((p,w)::P.zip vs) m x=_
  unfold bindC
  exact zFR (i:=i) (cR.mp nd).2 (by simpa using h1) (by simpa using h2) hk
noncomputable def start(N:List Str)(vs:List V):St:=vs.map some++bL (N.length-vs.length) none
noncomputable def zF0(CX:CXT)(P:Program)(w:World)(K:PySem.W.Frag)(mg:Str→Option Value)(base:Heap)(N:List Str)(qual:Str)(scope:Scope)(f:Addr)(cd:Value)(A:Around)(outer:List Env)(s:Shared)(H:Hp)(E:XK):Cx where
 prog:=P
 w:=w
 K:=K
 mg:=mg
 base:=base
 A:=A.deeper (envOfC qual scope s.heap.objs.size f cd)
 N:=N
 s₀:=s
 H₀:=H
 env:=envOfC qual scope s.heap.objs.size f cd
 outer:=outer
 stack:=envOfC qual scope s.heap.objs.size f cd::outer
 ex:=[]
 calm:=true
 fn:=fun u0=>true
 pn:=[]
 xe:=fun e s'=>wpAny (model P w) (A.deeper (envOfC qual scope s.heap.objs.size f cd)) (leaving (envOfC qual scope s.heap.objs.size f cd) e) (fun u0 s''=>CX outer H s E e s'') (fun e' s''=>CX outer H s E e' s'') s'
theorem zGk{sc:Scope}{n:Nat}{x:Str}(h:sc.names.lookup x=some .cell):∃ c,(cellsFrom n sc.names []).lookup x=some c:=by
 have q:=PySem.W.cellsFrom_some sc.names n [] (.inl h)
 exact Option.isSome_iff_exists.mp q
theorem zJl{CX:CXT}{P:Program}{w:World}{K:PySem.W.Frag}{mg:Str→Option Value}{base:Heap}{N ps:List Str}{qual:Str}{scope:Scope}{f:Addr}{cd:Value}{A:Around}{outer:List Env}{s s1:Shared}{H:Hp}{E:XK}{us:List Value}{vs:List V}
  (S:zd N ps scope) (hd:A.handled=none) (e0:zMg P w K mg base A outer s H) (hl:vs.length=ps.length) (r:zY vs us)
  (x:InCallC s s.heap.objs.size (bindL (envOfC qual scope s.heap.objs.size f cd).kindOf (ps.zip us) fun u0=>none) (cellsFrom (s.heap.objs.size+1) scope.names []) (bindC (envOfC qual scope s.heap.objs.size f cd).kindOf (ps.zip us) fun u0=>none) s1) :
  zW (zF0 CX P w K mg base N qual scope f cd A outer s H E) [] (start N vs) H s1:=by
 have hpl:ps.length≤N.length:=by have:=congrArg List.length S.pre;rw[bW] at this;omega
 obtain⟨h1,tk,rfl,hk⟩:=x.done
 have noA:∀ b:Addr,b∉(zF0 CX P w K mg base N qual scope f cd A outer s H E).ex:=fun b z=>absurd (show b∈([]:List Addr) from z) (by simp)
 refine⟨⟨e0.mod,S.kind,rfl,rfl,bF _,fun y z c h1 h2=>?_,fun y hy=>?_,fun y c u0 h=>?_,fun u0=>hd,Around.frames_deeper e0.frames,.inr ⟨rfl,rfl⟩,fun b z=>absurd z (noA b),e0.bs,e0.bsz,fun b u0 u0=>noA b,fun b z=>absurd z (noA b),e0.funs,e0.frf,e0.tb⟩,
  rfl,e0.bare,Un.kept hk,⟨_,x.toInCall.ns,fun i y v h1 h2 h3=>?_⟩,fun y c h=>⟨_,x.cell y c h⟩,e0.hok.fresh (bF _),fun y c h=>?_,fun p hp=>absurd (show p∈([]:List (Addr×Obj)) from hp) (by simp),e0.hok.kept hk,?_⟩
 ·exact name_of_addr x.apart (PySem.mem_of_lookup h1) (PySem.mem_of_lookup h2)
 ·have hy:scope.names.lookup y=some .cell∨scope.names.lookup y=some .free:=hy
  rcases hy with hy | hy
  ·exact zGk hy
  ·exact absurd rfl (S.nofree _ (PySem.mem_of_lookup hy))
 ·exact el (x.above y c (PySem.mem_of_lookup h))
 ·have hi:i<vs.length:=by
   unfold start at h2
   by_cases hi:i<vs.length
   ·exact hi
   ·rw[cn (by simpa using hi)] at h2
    rw[eB] at h2
    split at h2<;>cases h2
  have ha:vs[i]?=some v:=by
   unfold start at h2
   rw[cj (by simpa using hi),bY] at h2
   cases e:vs[i]? with
   | none=>rw[e] at h2;cases h2
   | some a=>rw[e] at h2;cases h2;rfl
  obtain⟨u,hu,rv⟩:=r.get ha
  have hp:ps[i]?=some y:=by
   rw[← S.pre,List.getElem?_take_of_lt (by omega)];exact h1
  have ndP:ps.Nodup:=by rw[← S.pre];exact S.nd.sublist (cX _ _)
  refine⟨u,rv,?_⟩
  rcases S.par y (cf hp) with k | k
  ·exact .inl ⟨k,zFQ ndP hp hu k⟩
  ·obtain⟨c,e⟩:=zGk (n:=s.heap.objs.size+1) k
   refine .inr ⟨.inl k,c,e,?_⟩
   have q:=x.cell y c e
   rw[zFR ndP hp hu (by show scope.names.lookup y≠_;rw[k];decide)] at q
   exact q
 ·exact e0.hok.fresh (el (x.above y c (PySem.mem_of_lookup h)))
 ·unfold start
  show _=N.length
  rw[bI,bx,List.length_replicate]
  omega
theorem zPv{CX:CXT}{P:Program}{w:World}{K:PySem.W.Frag}{mg:Str→Option Value}{base:Heap}{k:Nat}{f:Addr}{name qual:Str}{params:Arguments}{body:List Stmt}{scope:Scope}{dV kV doc pm cdv ct oc:Value}{an od:Option Addr}
  {osl:Array (Option Value)} {N ps:List Str} {sp:Sp} (lk:K.lookup f=some ⟨oc,od,.func (PySem.W.fnOf name qual params body scope dV kV doc pm an cdv ct),osl⟩) (hcd:PySem.W.codeIn K cdv qual=true) (S:zd N ps scope)
  (len:∀ vs H Q E,sp vs H Q E→vs.length=ps.length)
  (hbody:∀(A:Around) (outer:List Env) (s:Shared) (H:Hp) (vs:List V) (Q:VK) (E:XK),wt k (A.deeper (envOfC qual scope s.heap.objs.size f cdv))→sp vs H Q E →
   ∃ t,PSs (zF0 CX P w K mg base N qual scope f cdv A outer s H E) body t∧t { nx:=fun u0 H'=>Q .non H',rt:=Q } (start N vs) H) :
  zBe P w K mg base CX (k+1) f (PySem.W.fnOf name qual params body scope dV kV doc pm an cdv ct) ps sp:=by
 refine⟨len,fun A outer s H args us vs Q E hr e0 hb r hsp=>?_⟩
 have hl:=len _ _ _ _ hsp
 have KX:K.In s.heap:=e0.mod.kin.keeps fun b o e=>(e0.bs b o e).1
 have lim:s.heap.NoLimit:=e0.mod.nolimit.keeps fun b o e=>(e0.bs b o e).1
 have hkind:∀ y∈ps.zip us,scope.names.lookup y.1=some .local∨(scope.names.lookup y.1=some .cell∧((cellsFrom (s.heap.objs.size+1) scope.names []).lookup y.1).isSome=true):=fun⟨n,v⟩ hy=>by
  rcases S.par n (List.of_mem_zip hy).1 with q | q
  ·exact .inl q
  ·exact .inr ⟨q,PySem.W.cellsFrom_some _ _ _ (.inl q)⟩
 refine codeAny_call_function hr.depth (KX _ _ lk) rfl S.co S.gen rfl (PySem.W.codeRec_of KX hcd) (hb _ _ _ _ ?_)
 refine wpAny_newFunctionEnv_cells S.kind hkind fun env he s1 x=>?_
 subst he
 refine⟨lim.keeps x.toInCall.keep,codeAny_func ?_⟩
 obtain⟨t,ht,hq⟩:=hbody A outer s H vs Q E (hr.deeper _) hsp
 have I:zW (zF0 CX P w K mg base N qual scope f cdv A outer s H E) [] (start N vs) H s1:=zJl S hr.hd e0 hl r x
 refine wpAny_mono (ht [] s1 (start N vs) H _ I hq) (fun fl s' hs=>?_) fun e s' hs=>hs
 have fin:∀ {σ':St} {H':Hp} {v:V} {u:Value},zW (zF0 CX P w K mg base N qual scope f cdv A outer s H E) [] σ' H' s'→RelV v u→Q v H'→CE outer P w H s Q u s' :=
  fun {σ' H' v u} J rv q=>⟨v,H',J.os,J.bare,J.base,J.hok,rv,q⟩
 cases fl with
 | ret u =>
  obtain⟨v,σ',H',J,rv,q⟩:=hs
  exact fin J rv q
 | next =>
  obtain⟨σ',H',J,q⟩:=hs
  exact fin (v:=V.non) (u:=Value.none) J rfl q
 | brk =>
  obtain⟨u0,u0,u0,q⟩:=hs
  exact False.elim q
 | cont =>
  obtain⟨u0,u0,u0,q⟩:=hs
  exact False.elim q
section
variable {X:Cx} {x:Str} {p pos:Pos} {e:Expr} {es:List Expr} {t:TA} {id T:String} {r:List V→Hp→VK→Prop}
noncomputable def tCB(r:List V→Hp→VK→Prop)(t:TA):TE:=fun σ H Q=>t σ H fun vs H1=>r vs H1 Q
theorem zA6(hc:wE X (.builtin id) r)(hg:Gl X x)(hm:X.mg x=none)(hv:bootBuiltins x=some (.builtin id))(ha:PA X (e::es) t)(hn:x≠"__name__":=by decide)(hdb:(x==("__debug__":Str))=false:=by decide)
  (he:starEach (e::es) X.env=(false,eval e X.env)::starEach es X.env:=by rfl) (hpl:(backTo pos (starEach es X.env)).any (·.1)=false:=by rfl):PE X (.Call (.Name x p) (e::es) [] pos) (tCB r t):=by
 intro pins s σ H Q I h
 refine ev (zBc I hg hm hv ?_ hn hdb)
 exact PyProof.Rows.callWith_builtin1 (wM (ha pos pins s σ H _ I h) fun us s1 ⟨vs,H1,I1,r1,q1⟩=>hc pins s1 σ H1 vs us Q I1 r1 q1) he hpl
theorem zDG(hc:wE X (.type T) r)(hg:Gl X x)(hm:X.mg x=none)(hv:bootBuiltins x=some (.type T))(ha:PA X (e::es) t)(hn:x≠"__name__":=by decide)(hdb:(x==("__debug__":Str))=false:=by decide)
  (he:starEach (e::es) X.env=(false,eval e X.env)::starEach es X.env:=by rfl) (hpl:(backTo pos (starEach es X.env)).any (·.1)=false:=by rfl):PE X (.Call (.Name x p) (e::es) [] pos) (tCB r t):=by
 intro pins s σ H Q I h
 refine ev (zBc I hg hm hv ?_ hn hdb)
 exact PyProof.Rows.callWith_type1 (wM (ha pos pins s σ H _ I h) fun us s1 ⟨vs,H1,I1,r1,q1⟩=>hc pins s1 σ H1 vs us Q I1 r1 q1) he hpl
end
end L2
namespace HT
open PySem PyProof.Rows
noncomputable def lexLt:List Int→List Int→Bool
 | [],[]=>false
 | [],_::_=>true
 | _::_,[]=>false
 | x::xs,y::ys=>if x=y then lexLt xs ys else decide (x<y)
theorem zHr(x y:Int)(xs ys:List Int):lexLt (x::xs) (y::ys)=if x=y then lexLt xs ys else decide (x<y):=rfl
theorem zE9:lexLt [] []=false:=rfl
theorem zED(y:Int)(ys:List Int):lexLt [] (y::ys)=true:=rfl
theorem zEE(x:Int)(xs:List Int):lexLt (x::xs) []=false:=rfl
theorem zKt(A:Around)(s:Shared)(a:Int)(t:Tok)(c:Int)(u:Tok):∃ e,SeqAt.EqAt A s (.int a t) (.int c u) e∧(e=true↔a=c) :=
 ⟨(a==c),SeqAt.EqAt.int_int a t c u,by simp⟩
section
open PySem.SeqAt
open PySem.MeetsSeq PySem.MeetsSeq2 PySem.MeetsSeq3
end
section
variable {prog:Program} {w:World} {A:Around} {E:Value→Shared→Prop} {s:Shared}
theorem zMh{t b:Addr}{vs ws:List Value}{Q:Value→Shared→Prop}(ht:IsTup s.heap t vs.toArray)(hb:IsTup s.heap b ws.toArray)(hv:vs≠[])
  (h1:ws=[]→Q (.ref t) s) (h2:ws≠[]→Q (.ref s.heap.objs.size) { s with heap:=s.heap.push { cls:=.type "tuple",data:=.seq (vs++ws).toArray } })
  (hsz:vs.length+ws.length≤sizeLine):wpAny (model prog w) A (binaryOp .Add (.ref t) (.ref b)) Q E s:=by
 obtain⟨⟨cls,dd,data,sl⟩,ho,hc,n,hd⟩:=id ht
 obtain⟨⟨cls2,dd2,data2,sl2⟩,ho2,hc2,n2,hd2⟩:=id hb
 simp only at hc hd hc2 hd2
 subst hc hd hc2 hd2
 have e:vs.toArray++ws.toArray=(vs++ws).toArray:=by simp
 by_cases hw:ws=[]
 ·exact concat_meets ⟨_,ho,rfl⟩ ⟨_,ho2,rfl⟩ noFill_tuple_add seq_tuple_add PySem.F.slot_tuple_add PySem.F.entry_tuple_add (PySem.F.args_tuple_add_2 _ _)
   (tuple_addW1 t b vs.toArray ws.toArray n n2 dd dd2 sl sl2 (by simpa using hv) (by simp[hw])) ⟨ho,ho2,h1 hw⟩
 ·refine concat_meets ⟨_,ho,rfl⟩ ⟨_,ho2,rfl⟩ noFill_tuple_add seq_tuple_add PySem.F.slot_tuple_add PySem.F.entry_tuple_add (PySem.F.args_tuple_add_2 _ _)
   (tuple_addW2 t b vs.toArray ws.toArray n n2 dd dd2 sl sl2 (by simpa using hv) (by simpa using hw) (by rw[bO,bO];exact hsz)) ⟨ho,ho2,?_⟩
  rw[e]
  exact h2 hw
noncomputable def wO(n d:Nat):Option Int→Nat
 | none=>d
 | some v=>if v<0 then (v+(n:Int)).toNat else min v.toNat n
theorem zGl(n d:Nat):wO n d none=d:=rfl
theorem zB4(n d k:Nat):wO n d (some (k:Int))=min k n:=by
 show(if (k:Int)<0 then ((k:Int)+(n:Int)).toNat else min (k:Int).toNat n)=min k n
 rw[if_neg (by omega),Int.toNat_natCast]
theorem zOm(n d:Nat)(hd:d≤n)(o:Option Int):wO n d o≤n:=by
 cases o with
 | none=>exact hd
 | some v =>
  show(if v<0 then (v+(n:Int)).toNat else min v.toNat n)≤n
  by_cases hv:v<0
  ·rw[if_pos hv];omega
  ·rw[if_neg hv];exact Nat.min_le_right _ _
theorem zIs(v:Int)(n d:Nat):(if v<0 then max (v+(n:Int)) 0 else min v (n:Int))=((wO n d (some v):Nat):Int):=by
 show(if v<0 then max (v+(n:Int)) 0 else min v (n:Int))=(((if v<0 then (v+(n:Int)).toNat else min v.toNat n):Nat):Int)
 by_cases hv:v<0
 ·simp only[if_pos hv];omega
 ·simp only[if_neg hv];omega
theorem zHs(lo hi:Option Int)(n:Nat):Builtin.Slice.sliceAdjust lo hi 1 (n:Int)=(((wO n 0 lo:Nat):Int),((wO n n hi:Nat):Int)):=by
 have h1:¬ ((1:Int)<0):=by omega
 unfold Builtin.Slice.sliceAdjust
 simp only[h1,if_false]
 refine Prod.ext ?_ ?_
 ·cases lo with
  | none=>rfl
  | some v=>exact zIs v n 0
 ·cases hi with
  | none=>rfl
  | some v=>exact zIs v n n
theorem zHt(i j:Nat):Builtin.Slice.slicePlaces (i:Int) (j:Int) 1=j-i:=by
 unfold Builtin.Slice.slicePlaces
 have h1:(1:Int)>0:=by omega
 simp only[h1,if_true,Int.ediv_one]
 split<;>omega
theorem zEF{v:Value}{o:Option Int}{Q:Option Int→Shared→Prop}(p:IsPart v o)(h:Q o s):wpAny (model prog w) A (Builtin.Slice.slicePartIndex v) Q E s:=by
 cases p with
 | none=>exact slicePart_none h
 | int i t=>exact slicePart_int h
theorem zA7{sl:Addr}{vl vu:Value}{lo hi:Option Int}{n:Nat}{Q:Int×Int×Nat→Shared→Prop}(hs:s.heap.IsSliceOf sl vl vu .none)(pl:IsPart vl lo)(pu:IsPart vu hi)
  (h:Q (((wO n 0 lo:Nat):Int),1,wO n n hi-wO n 0 lo) s):wpAny (model prog w) A (Builtin.Slice.sliceApplied (.ref sl) (pure (n:Int))) Q E s:=by
 obtain⟨os,hos,hcs,hds⟩:=id hs
 unfold Builtin.Slice.sliceApplied Builtin.Slice.sliceFields
 refine bq (bq (wpAny_field hos hds (x:=vl) rfl (bq (wpAny_field hos hds (x:=vu) rfl (bq (wpAny_field hos hds (x:=.none) rfl (bC ?_)))))))
 refine bq (slicePart_none ?_)
 show wpAny _ _ (if ((1:Int)==0)=true then _ else _) _ _ s
 rw[if_neg (by decide)]
 refine bq (zEF pl (bq (zEF pu (bq (bC ?_)))))
 show wpAny _ _ (match Builtin.Slice.sliceAdjust lo hi 1 (n:Int) with | (lo,hi)=>pure (lo,(1:Int),Builtin.Slice.slicePlaces lo hi 1)) _ _ s
 rw[zHs lo hi n]
 show wpAny _ _ (pure (((wO n 0 lo:Nat):Int),(1:Int),Builtin.Slice.slicePlaces ((wO n 0 lo:Nat):Int) ((wO n n hi:Nat):Int) 1)) _ _ s
 rw[zHt]
 exact bC h
theorem zKu(xs:Array Value)(i k:Nat):((bE k).filterMap fun(m:Nat)=>xs[((i:Int)+(m:Int)*1).toNat]?).toArray=((xs.toList.drop i).take k).toArray:=by
 have e:(fun(m:Nat)=>xs[((i:Int)+(m:Int)*1).toNat]?)=fun m=>xs[i+m]?:=by
  funext m
  have:((i:Int)+(m:Int)*1).toNat=i+m:=by omega
  rw[this]
 rw[e]
 have:=pick_run xs i k
 rw[List.filterMap_map] at this
 have e2:((fun x=>xs[x]?)∘fun x=>i+x)=fun m=>xs[i+m]?:=rfl
 rw[e2] at this
 rw[this]
theorem zCm{t sl:Addr}{items:Array Value}{vl vu:Value}{lo hi:Option Int}{Q:Value→Shared→Prop}(ht:IsTup s.heap t items)(hs:s.heap.IsSliceOf sl vl vu .none)(pl:IsPart vl lo)(pu:IsPart vu hi)
  (hw:¬ (wO items.size 0 lo=0∧wO items.size items.size hi=items.size))
  (h:Q (.ref s.heap.objs.size) { s with heap:=s.heap.push { cls:=.type "tuple",data:=.seq ((items.toList.drop (wO items.size 0 lo)).take (wO items.size items.size hi-wO items.size 0 lo)).toArray } })
  (hsz:items.size≤sizeLine):wpAny (model prog w) A (getItem (.ref t) (.ref sl)) Q E s:=by
 have htake:sizeOk (.seq ((items.toList.drop (wO items.size 0 lo)).take (wO items.size items.size hi-wO items.size 0 lo)).toArray):=by
  show((items.toList.drop (wO items.size 0 lo)).take (wO items.size items.size hi-wO items.size 0 lo)).toArray.size≤sizeLine
  rw[bO,bW,cV,bJ]
  omega
 have hj:wO items.size items.size hi≤items.size:=zOm _ _ (bF _) hi
 obtain⟨os,hos,hcs,hds⟩:=id hs
 have hTs:s.TypeIs (.ref sl) "slice":=⟨os,hos,hcs⟩
 unfold getItem
 try with_reducible refine cP ?_
 first | refine bq (bC ?_) | skip
 refine bq (wpAny_sequenceKey ht.typeIs (by decide) ?_)
 refine bq (wpAny_callSpecial?_slot (name:=Str.ofString "__getitem__") ht.typeIs PyProof.Rows.slot_tuple_getitem
  (cT PyProof.Rows.slot_tuple_getitem ht.typeIs entry_tuple_getitem ?_ (args_tuple_getitem _ _)))
 show wpAny _ _ (Builtin.Tuple.tupleItemsOf (.ref t)>>=_) _ _ s
 refine bq (tupleItemsOf_ ht ?_)
 refine bq (eG hTs ?_)
 rw[if_pos (by decide)]
 refine bq (zA7 hs pl pu ?_)
 have hno:¬ ((((wO items.size 0 lo:Nat):Int)==0&&(1:Int)==1&&(wO items.size items.size hi-wO items.size 0 lo)==items.size)=true):=by
  intro q
  rw[dk,dk] at q
  have q1:((wO items.size 0 lo:Nat):Int)=0:=eq_of_beq q.1.1
  have q2:wO items.size items.size hi-wO items.size 0 lo=items.size:=eq_of_beq q.2
  exact hw ⟨by omega,by omega⟩
 show wpAny _ _ (if (((wO items.size 0 lo:Nat):Int)==0&&(1:Int)==1&&(wO items.size items.size hi-wO items.size 0 lo)==items.size)=true then _ else _) _ _ s
 rw[if_neg hno,zKu]
 first
  | exact bq (m:=Builtin.Tuple.tupleExact _) (cW (bC ⟨_,rfl,bC h⟩) htake)
  | exact bq (m:=Builtin.Tuple.tupleExact _) (cW (bq (bC (bC ⟨_,rfl,bC h⟩))) htake)
  | exact bq (bq (m:=Builtin.Tuple.tupleExact _) (cW (bC (bC ⟨_,rfl,bC h⟩)) htake))
  | exact bq (bq (m:=Builtin.Tuple.tupleExact _) (cW (bC ⟨_,rfl,bC h⟩) htake))
end
end HT
namespace L2
noncomputable abbrev TO:=St→Hp→(Option Int→Hp→Prop)→Prop
noncomputable def PO(X:Cx)(e:Option Expr)(t:TO):Prop :=
 ∀(pins:List (Addr×Obj)) (s:Shared) (σ:St) (H:Hp) (Q:Option Int→Hp→Prop),zW X pins σ H s→t σ H Q →
  wpAny (model X.prog X.w) X.A (evalPart e X.env) (fun u s'=>∃ o H',zW X pins σ H' s'∧IsPart u o∧Q o H') X.xe s
noncomputable def zMi:TO:=fun u0 H Q=>Q none H
noncomputable def zPw(t:TE):TO:=fun σ H Q=>t σ H fun x H1=>∃ i,x=.int i∧Q (some i) H1
theorem intsAre_of{ns:List Int}:∀ {us:List Value},zY (ns.map V.int) us→IntsAre us ns:=by
 induction ns with
 | nil=>intro us r;rw[et] at r;cases r;exact .nil
 | cons n ns ih =>
  intro us r
  rw[cD] at r
  cases r with
  | cons r1 r2 =>
   obtain⟨t,e⟩:=r1
   subst e
   exact .cons n t (ih r2)
section
variable {X:Cx} {e:Expr} {te:TE} {lo hi:Option Expr} {tl th:TO} {pos p2:Pos}
theorem zMj:PO X none zMi:=by
 intro pins s σ H Q I h
 rw[evalPart_none]
 exact bC ⟨none,H,I,.none,h⟩
theorem zMk(h:PE X e te):PO X (some e) (zPw te):=by
 intro pins s σ H Q I hw
 rw[evalPart_some]
 refine wM (h pins s σ H _ I hw) fun u s1 ⟨x,H1,I1,r1,q1⟩=>?_
 obtain⟨i,rfl,q⟩:=q1
 obtain⟨t,rfl⟩:=r1
 exact⟨some i,H1,I1,.int i t,q⟩
noncomputable def SlR(X:Cx)(r:V→Option Int→Option Int→Hp→VK→Prop):Prop :=
 ∀(pins:List (Addr×Obj)) (s:Shared) (σ:St) (H:Hp) (x:V) (v vl vu:Value) (lo hi:Option Int) (sl:Addr) (Q:VK),zW X pins σ H s→RelV x v→s.heap.IsSliceOf sl vl vu .none→IsPart vl lo→IsPart vu hi→r x lo hi H Q →
  ∃ T id,typeLookup (.type T) "__getitem__"=pure (some (.builtin id))∧s.TypeIs v T∧wpAny (model X.prog X.w) X.A (getItem v (.ref sl)) (EP X pins σ Q) X.xe s
theorem SlR.or{r r':V→Option Int→Option Int→Hp→VK→Prop}(h:SlR X r)(h':SlR X r'):SlR X (fun x lo hi H Q=>r x lo hi H Q∨r' x lo hi H Q):=by
 intro pins s σ H x v vl vu lo hi sl Q I rx hs pl pu q
 rcases q with q | q
 ·exact h pins s σ H x v vl vu lo hi sl Q I rx hs pl pu q
 ·exact h' pins s σ H x v vl vu lo hi sl Q I rx hs pl pu q
noncomputable def tSl(r:V→Option Int→Option Int→Hp→VK→Prop)(te:TE)(tl th:TO):TE:=fun σ H Q=>te σ H fun x H1=>tl σ H1 fun l H2=>th σ H2 fun u H3=>r x l u H3 Q
theorem zGm{r:V→Option Int→Option Int→Hp→VK→Prop}(hr:SlR X r)(he:PE X e te)(hl:PO X lo tl)(hu:PO X hi th):PE X (.Subscript e (.Slice lo hi none p2) pos) (tSl r te tl th):=by
 intro pins s σ H Q I h
 refine Subscript_ (wM (he pins s σ H _ I h) fun v s1 ⟨x,H1,I1,r1,q1⟩=>?_)
 refine wpAny_Slice (wM (hl pins s1 σ H1 _ I1 q1) fun vl s2 ⟨l,H2,I2,pl,q2⟩=>wM (hu pins s2 σ H2 _ I2 q2) fun vu s3 ⟨u,H3,I3,pu,q3⟩=>?_)
 rw[evalPart_none]
 refine bC ?_
 have I4:zW X pins σ H3 { s3 with heap:=s3.heap.push { cls:=.type "slice",data:=.fields #[vl,vu,.none] } }:=I3.kept (t':=s3.toks) fun b ob q=>bz _ q
 obtain⟨T,id,hT,ht,hg⟩:=hr pins { s3 with heap:=s3.heap.push { cls:=.type "slice",data:=.fields #[vl,vu,.none] } } σ H3 x v vl vu l u s3.heap.objs.size Q I4 r1 (Heap.IsSliceOf.new ..) pl pu q3
 show wpAny (model X.prog X.w) X.A (subscriptTail e (.Slice lo hi none p2) v (.ref s3.heap.objs.size)) (EP X pins σ Q) X.xe { s3 with heap:=s3.heap.push { cls:=.type "slice",data:=.fields #[vl,vu,.none] } }
 exact tail_any (ops:=[.ref s3.heap.objs.size,v]) ht hT hg (by with_unfolding_all rfl)
noncomputable def zGn(xs:List V)(lo hi:Option Int):List V:=(xs.drop (HT.wO xs.length 0 lo)).take (HT.wO xs.length xs.length hi-HT.wO xs.length 0 lo)
theorem zDb(xs:List V)(lo hi:Option Int):(zGn xs lo hi).length≤xs.length:=by
 unfold zGn
 rw[bW,cV]
 omega
noncomputable def zQh(K:PySem.W.Frag):V→Option Int→Option Int→Hp→VK→Prop:=fun x lo hi H Q=>∃ a xs,x=.ref a∧SqT K H a xs ∧
 ¬ (HT.wO xs.length 0 lo=0∧HT.wO xs.length xs.length hi=xs.length)∧∀ p,H p=none→Q (.ref p) (wd H p (.tup (zGn xs lo hi)))
theorem zOn:SlR X (zQh X.K):=by
 intro pins s σ H x v vl vu lo hi sl Q I rx hs pl pu h
 obtain⟨a,xs,rfl,hx,hw,q⟩:=h
 cases rx
 obtain⟨its,r,ht,hz⟩:=I.tuple hx
 have hlen:its.toArray.size=xs.length:=by rw[bO];exact r.length.symm
 refine⟨"tuple",_,PyProof.Rows.slot_tuple_getitem.lookup,ht.typeIs,?_⟩
 refine HT.zCm ht hs pl pu (by rw[hlen];exact hw) ?_ (by rw[hlen];exact hz)
 rw[hlen]
 refine⟨.ref s.heap.objs.size,_,I.laid (t':=s.toks) (o:=.tup (zGn xs lo hi)) (fun b ob q=>bz _ q) (bF _) ?_,rfl,q _ (I.hok.fresh (bF _))⟩
 exact⟨cC (zDb xs lo hi) hz,_,(r.drop (HT.wO xs.length 0 lo)).take (HT.wO xs.length xs.length hi-HT.wO xs.length 0 lo),zE8.new _ _⟩
noncomputable def zNp(K:PySem.W.Frag):R2:=fun x y H Q=>∃ a b xs ys,x=.ref a∧y=.ref b∧SqT K H a xs∧SqT K H b ys∧xs≠[]∧xs.length+ys.length≤sizeLine ∧
 (ys=[]→Q (.ref a) H)∧(ys≠[]→∀ p,H p=none→Q (.ref p) (wd H p (.tup (xs++ys))))
theorem zY.nil_iff{xs:List V}{us:List Value}(r:zY xs us):us=[]↔xs=[]:=by
 cases r with
 | nil=>simp
 | cons _ _=>simp
theorem zMl:OpR X (binaryOp .Add) (zNp X.K):=by
 intro pins s σ H x y v u Q I rx ry h
 obtain⟨a,b,xs,ys,rfl,rfl,ha,hb,hx,hz,q1,q2⟩:=h
 cases rx
 cases ry
 obtain⟨its,r1,p1,u0⟩:=I.tuple ha
 obtain⟨its2,r2,p2,u0⟩:=I.tuple hb
 refine HT.zMh p1 p2 (fun z=>hx (r1.nil_iff.mp z)) (fun z=>⟨.ref a,H,I,rfl,q1 (r2.nil_iff.mp z)⟩) (fun z=>?_) (by rw[← r1.length,← r2.length];exact hz)
 refine⟨.ref s.heap.objs.size,_,I.laid (t':=s.toks) (o:=.tup (xs++ys)) (fun b ob q=>bz _ q) (bF _) ?_,rfl,q2 (fun w=>z (r2.nil_iff.mpr w)) _ (I.hok.fresh (bF _))⟩
 exact⟨by rw[bI];exact hz,_,r1.append r2,zE8.new _ _⟩
end
noncomputable def ixN(n:Nat)(i:Int):Option Nat:=if 0≤i then (if i<n then some i.toNat else none) else if -(n:Int)≤i then some (i+n).toNat else none
noncomputable def atI{α:Type}(xs:List α)(i:Int):Option α:=(ixN xs.length i).bind fun j=>xs[j]?
theorem zIt{n:Nat}{i:Int}{j:Nat}(h:ixN n i=some j):seqIndex? i n=some j∧j<n∧-(n:Int)≤i∧i<n:=by
 unfold ixN at h
 by_cases h0:0≤i
 ·rw[if_pos h0] at h
  by_cases h1:i<n
  ·rw[if_pos h1] at h
   have e:i.toNat=j:=Option.some.inj h
   exact⟨by rw[seqIndex_of h0 h1,e],by omega,by omega,h1⟩
  ·rw[if_neg h1] at h;cases h
 ·rw[if_neg h0] at h
  by_cases h1:-(n:Int)≤i
  ·rw[if_pos h1] at h
   have e:(i+n).toNat=j:=Option.some.inj h
   exact⟨by rw[seqIndex_neg (by omega) h1,e],by omega,h1,by omega⟩
  ·rw[if_neg h1] at h;cases h
theorem zF1{α:Type}{xs:List α}{i:Int}{v:α}(h:atI xs i=some v):∃ j,seqIndex? i xs.length=some j∧xs[j]?=some v∧j<xs.length∧-(xs.length:Int)≤i∧i<xs.length:=by
 unfold atI at h
 cases e:ixN xs.length i with
 | none=>rw[e] at h;cases h
 | some j =>
  rw[e] at h
  obtain⟨h1,h2,h3,h4⟩:=zIt e
  exact⟨j,h1,h,h2,h3,h4⟩
theorem wB{α:Type}{xs:List α}{j:Nat}{v:α}(h:xs[j]?=some v):atI xs (j:Int)=some v:=by
 have hj:j<xs.length:=(bN.mp h).1
 have e:ixN xs.length (j:Int)=some j:=by
  unfold ixN
  rw[if_pos (by omega),if_pos (by omega)];simp
 unfold atI;rw[e];exact h
noncomputable def zF2(b:Expr):Prop:=∀ o i,subscripted b false o i=operate [o,i] (getItem o i)
noncomputable def IxR(X:Cx)(r:R2):Prop :=
 ∀(value slice:Expr) (pins:List (Addr×Obj)) (s:Shared) (σ:St) (H:Hp) (x y:V) (v u:Value) (Q:VK),zW X pins σ H s→RelV x v→RelV y u→r x y H Q →
  subscripted slice false v u=operate [v,u] (getItem v u)→wpAny (model X.prog X.w) X.A (subscriptTail value slice v u) (EP X pins σ Q) X.xe s
noncomputable def MtR(X:Cx)(id:String)(r:V→List V→Hp→VK→Prop):Prop :=
 ∀(pins:List (Addr×Obj)) (s:Shared) (σ:St) (H:Hp) (x:V) (xs:List V) (v:Value) (us:List Value) (Q:VK),zW X pins σ H s→RelV x v→zY xs us→r x xs H Q →
  wpAny (model X.prog X.w) X.A (call (.builtin id) (v::us)) (EP X pins σ Q) X.xe s
section
variable {X:Cx} {a b:Expr} {ta tb:TE} {pos:Pos}
theorem IxR.or{r r':R2}(h:IxR X r)(h':IxR X r'):IxR X (fun x y H Q=>r x y H Q∨r' x y H Q):=by
 intro value slice pins s σ H x y v u Q I rx ry q hs
 rcases q with q | q
 ·exact h value slice pins s σ H x y v u Q I rx ry q hs
 ·exact h' value slice pins s σ H x y v u Q I rx ry q hs
theorem MtR.or{id:String}{r r':V→List V→Hp→VK→Prop}(h:MtR X id r)(h':MtR X id r'):MtR X id (fun x xs H Q=>r x xs H Q∨r' x xs H Q):=by
 intro pins s σ H x xs v us Q I rx rs q
 rcases q with q | q
 ·exact h pins s σ H x xs v us Q I rx rs q
 ·exact h' pins s σ H x xs v us Q I rx rs q
theorem zNq{r:R2}(hr:IxR X r)(ha:PE X a ta)(hb:PE X b tb)(hs:zF2 b):PE X (.Subscript a b pos) (tOp r ta tb):=by
 intro pins s σ H Q I h
 exact Subscript_ (zOX ha hb I h fun v u s2 x y H2 I2 rx ry q=>hr a b pins s2 σ H2 x y v u Q I2 rx ry q (hs _ _))
noncomputable def zPx(K:PySem.W.Frag):R2:=fun x y H Q=>∃ p xs i v,x=.ref p∧y=.int i∧SqL K H p xs∧atI xs i=some v∧Q v H
noncomputable def zPy(K:PySem.W.Frag):R2:=fun x y H Q=>∃ p xs i v,x=.ref p∧y=.int i∧SqT K H p xs∧atI xs i=some v∧Q v H
noncomputable def zPz:R2:=fun x y H Q=>∃ z i c,x=.str z∧y=.int i∧z.length≤sizeLine∧atI z.cps.toList i=some c∧Q (.str ⟨#[c]⟩) H
theorem zMm:IxR X (zPx X.K):=by
 intro value slice pins s σ H x y v u Q I rx ry h hs
 obtain⟨p,xs,i,z,rfl,rfl,hq,he,q⟩:=h
 cases rx
 obtain⟨t,rfl⟩:=ry
 obtain⟨its,r,pl,hz⟩:=I.list hq
 obtain⟨j,h1,h2,h3,h4,h5⟩:=zF1 he
 obtain⟨w,ew,rw'⟩:=r.get h2
 have hl:=r.length
 have hn:=zEC
 have fin:EP X pins σ Q w s:=⟨z,H,I,rw',q⟩
 by_cases h0:0≤i
 ·have hj:i.toNat=j:=by
   rw[seqIndex_of h0 h5] at h1
   exact Option.some.inj h1
  exact item_listR pl.isList h0 (by omega) (by rw[hj];simpa using ew) fin hs
 ·have hj:(i+(its.toArray.size:Int)).toNat=j:=by
   rw[seqIndex_neg (by omega) h4] at h1
   rw[bO,← hl]
   exact Option.some.inj h1
  exact subscriptTail_builtinR (x:=w) pl.isList.typeIs slot_list_getitem.lookup
   (wpAny_getItem_list_neg (Q:=fun r s'=>r=w∧EP X pins σ Q r s') pl.isList (by omega) (by rw[bO]<;>omega) (by omega) (by rw[hj];simpa using ew) ⟨rfl,fin⟩) hs
theorem zOo:IxR X (zPy X.K):=by
 intro value slice pins s σ H x y v u Q I rx ry h hs
 obtain⟨p,xs,i,z,rfl,rfl,hq,he,q⟩:=h
 cases rx
 obtain⟨t,rfl⟩:=ry
 obtain⟨its,r,pl,hz⟩:=I.tuple hq
 obtain⟨j,h1,h2,h3,h4,h5⟩:=zF1 he
 obtain⟨w,ew,rw'⟩:=r.get h2
 have hl:=r.length
 have hn:=zEC
 have fin:EP X pins σ Q w s:=⟨z,H,I,rw',q⟩
 exact subscriptTail_builtinR (x:=w) pl.typeIs slot_tuple_getitem.lookup
  (getItem_tuple (j:=j) (Q:=fun r s'=>r=w∧EP X pins σ Q r s') pl (by omega) (by omega) (by rw[bO,← hl];exact h1) (by simpa using ew) ⟨rfl,fin⟩) hs
theorem zOp:IxR X zPz:=by
 intro value slice pins s σ H x y v u Q I rx ry h hs
 obtain⟨z,i,c,rfl,rfl,hz,he,q⟩:=h
 obtain⟨t,rfl⟩:=rx
 obtain⟨t',rfl⟩:=ry
 obtain⟨j,h1,h2,h3,h4,h5⟩:=zF1 he
 have hl:z.cps.toList.length=z.length:=by simp[Str.length]
 rw[hl] at h1 h4 h5
 have hn:=zEC
 exact tail_any (typeIs_str s z t) slot_str_getitem.lookup (getItem_str (c:=c) (by
  have e1:decide (i < -(2 ^ 63:Int))=false:=decide_eq_false (by omega)
  have e2:decide (i≥2 ^ 63)=false:=decide_eq_false (by omega)
  rw[e1,e2,Bool.or_false]) (by rw[h1];simpa using h2) ⟨.str ⟨#[c]⟩,H,I.tok _,⟨_,rfl⟩,q⟩) hs
theorem zHu(its:List Value)(n j:Nat)(u:Value):Obj.mapSeq (·.setIfInBounds j u) { cls:=.type "list",data:=.seq its.toArray n }={ cls:=.type "list",data:=.seq (its.set j u).toArray n }:=by
 simp[Obj.mapSeq]
theorem zW.lst{pins:List (Addr×Obj)}{σ:St}{H:Hp}{s:Shared}{p:Addr}{xs:List V}(I:zW X pins σ H s)(h:H p=some (.lst xs)) :
  ∃(its:List Value) (n:Nat),zY xs its∧s.heap.get? p=some { cls:=.type "list",data:=.seq its.toArray n }∧xs.length≤sizeLine:=by
 obtain⟨z,its,n,r,e⟩:=I.hok p _ h
 exact⟨its,n,r,e,z⟩
theorem zW.lstUpd{pins:List (Addr×Obj)}{σ:St}{H:Hp}{s:Shared}{p:Addr}{xs ys:List V}{its its':List Value}{n n':Nat}{f:Obj→Obj}(I:zW X pins σ H s)(h:H p=some (.lst xs))
  (ho:s.heap.get? p=some { cls:=.type "list",data:=.seq its.toArray n }) (hf:f { cls:=.type "list",data:=.seq its.toArray n }={ cls:=.type "list",data:=.seq its'.toArray n' }) (r:zY ys its') (hz:ys.length≤sizeLine) (t:Nat) :
  zW X pins σ (wd H p (.lst ys)) { s with heap:=s.heap.update p f,toks:=t }:=by
 have e:(s.heap.update p f).get? p=some { cls:=.type "list",data:=.seq its'.toArray n' }:=by
  rw[dC f ho (by rw[hf]<;>rfl),hf]
 refine I.write (x:=p) (e:=p) (by rw[h];trivial) (.inl rfl) (fun b u hb q=>(cI _ _ (Ne.symm hb)).trans q) ⟨_,e⟩ ?_
 exact⟨hz,its',n',r,e⟩
noncomputable def zP0:V→V→V→Hp→(Hp→Prop)→Prop:=fun o i v H Q=>∃ p xs k j,o=.ref p∧i=.int k∧H p=some (.lst xs)∧ixN xs.length k=some j∧Q (wd H p (.lst (xs.set j v)))
theorem set_list:zPl X zP0:=by
 intro pins s σ H o i v ov iv u Q I ro ri rv h
 obtain⟨p,xs,k,j,rfl,rfl,hp,hj,q⟩:=h
 cases ro
 obtain⟨t,rfl⟩:=ri
 obtain⟨its,n,r,ho,hz⟩:=I.lst hp
 obtain⟨h1,h2,h3,h4⟩:=zIt hj
 have hl:=r.length
 have hn:=zEC
 have I':zW X pins σ (wd H p (.lst (xs.set j v))) { s with heap:=s.heap.update p (Obj.mapSeq (·.setIfInBounds j u)) } :=
  I.lstUpd hp ho (zHu its n j u) (r.set rv j) (by rw[List.length_set];exact hz) s.toks
 by_cases h0:0≤k
 ·have hk:k.toNat=j:=by
   rw[seqIndex_of h0 h4] at h1
   exact Option.some.inj h1
  exact PySem.W.ki_setAt ho h0 (by omega) (by rw[bO,← hl];exact h4) (by rw[hk];exact⟨_,I',q⟩)
 ·have hk:(k+(its.toArray.size:Int)).toNat=j:=by
   rw[seqIndex_neg (by omega) h3] at h1
   rw[bO,← hl]
   exact Option.some.inj h1
  exact PySem.W.ki_setBack ho (by omega) (by rw[bO,← hl];exact h3) (by omega) (by rw[hk];exact⟨_,I',q⟩)
theorem zF3(lo hi:Option Int)(n:Nat):(sliceBounds lo hi none n).1=((HT.wO n 0 lo:Nat):Int)∧(sliceBounds lo hi none n).2.1=((HT.wO n n hi:Nat):Int)∧(sliceBounds lo hi none n).2.2=1:=by
 refine⟨?_,?_,rfl⟩
 ·cases lo with
  | none=>simp[sliceBounds,HT.wO]
  | some i =>
   simp only[sliceBounds,HT.wO,Option.getD_none,show(1:Int)>0 by decide,if_true]
   by_cases h:i<0
   ·simp only[h,if_true]<;>omega
   ·simp only[h,if_false]<;>omega
 ·cases hi with
  | none=>simp[sliceBounds,HT.wO]
  | some i =>
   simp only[sliceBounds,HT.wO,Option.getD_none,show(1:Int)>0 by decide,if_true]
   by_cases h:i<0
   ·simp only[h,if_true]<;>omega
   ·simp only[h,if_false]<;>omega
theorem zFA(its:List Value)(lo hi:Option Int):slicePick its.toArray lo hi none=((its.drop (HT.wO its.length 0 lo)).take (HT.wO its.length its.length hi-HT.wO its.length 0 lo)).toArray:=by
 obtain⟨h1,h2,h3⟩:=zF3 lo hi its.toArray.size
 unfold slicePick
 rw[h1,h2,h3]
 simp only[sliceRange_one,pick_run,bO]<;>rfl
noncomputable def zQi(K:PySem.W.Frag):V→Option Int→Option Int→Hp→VK→Prop:=fun x lo hi H Q=>∃ a xs,x=.ref a∧SqL K H a xs∧∀ p,H p=none→Q (.ref p) (wd H p (.lst (zGn xs lo hi)))
theorem zMn:SlR X (zQi X.K):=by
 intro pins s σ H x v vl vu lo hi sl Q I rx hs pl pu h
 obtain⟨a,xs,rfl,hx,q⟩:=h
 cases rx
 obtain⟨its,r,ht,hz⟩:=I.list hx
 have hlen:=r.length
 refine⟨"list",_,slot_list_getitem.lookup,ht.isList.typeIs,?_⟩
 refine wpAny_getItem_list_slice ht.isList hs pl pu .none (by simp) ?_ (by rw[bO]<;>omega)
 rw[zFA,← hlen]
 refine⟨.ref s.heap.objs.size,_,I.laid (t':=s.toks) (o:=.lst (zGn xs lo hi)) (fun b ob q=>bz _ q) (bF _) ?_,rfl,q _ (I.hok.fresh (bF _))⟩
 exact⟨cC (zDb xs lo hi) hz,_,0,(r.drop (HT.wO xs.length 0 lo)).take (HT.wO xs.length xs.length hi-HT.wO xs.length 0 lo),bM _ rfl⟩
noncomputable def zIu:V→Bool
 | .non=>true
 | .bl _=>true
 | .int _=>true
 | .str _=>true
 | _=>false
noncomputable def eqV:V→V→Bool
 | .non,.non=>true
 | .bl a,.bl b=>a==b
 | .bl a,.int b=>(if a then 1 else 0)==b
 | .int a,.bl b=>a==(if b then 1 else 0)
 | .int a,.int b=>a==b
 | .str a,.str b=>a==b
 | _,_=>false
theorem zKv{A:Around}{s:Shared}{y x:V}{u v:Value}(ry:RelV y u)(rx:RelV x v)(fy:zIu y=true)(fx:zIu x=true):SeqAt.EqAt A s u v (eqV y x):=by
 cases y with
 | non =>
  cases ry
  cases x with
  | non=>cases rx;exact SeqAt.EqAt.same _
  | bl b=>cases rx;exact SeqAt.EqAt.none_bool b
  | int b=>obtain⟨t,rfl⟩:=rx;exact SeqAt.EqAt.none_int b t
  | str b=>obtain⟨t,rfl⟩:=rx;exact SeqAt.EqAt.none_str b t
  | _=>exact absurd (show false=true from fx) cK
 | bl a =>
  cases ry
  cases x with
  | non=>cases rx;exact SeqAt.EqAt.bool_none a
  | bl b=>cases rx;exact SeqAt.EqAt.bool_bool a b
  | int b=>obtain⟨t,rfl⟩:=rx;exact SeqAt.EqAt.bool_int a b t
  | str b=>obtain⟨t,rfl⟩:=rx;exact SeqAt.EqAt.bool_str a b t
  | _=>exact absurd (show false=true from fx) cK
 | int a =>
  obtain⟨t',rfl⟩:=ry
  cases x with
  | non=>cases rx;exact SeqAt.EqAt.int_none a t'
  | bl b=>cases rx;exact SeqAt.EqAt.int_bool a t' b
  | int b=>obtain⟨t,rfl⟩:=rx;exact SeqAt.EqAt.int_int a t' b t
  | str b=>obtain⟨t,rfl⟩:=rx;exact SeqAt.EqAt.int_str a t' b t
  | _=>exact absurd (show false=true from fx) cK
 | str a =>
  obtain⟨t',rfl⟩:=ry
  cases x with
  | non=>cases rx;exact SeqAt.EqAt.str_none a t'
  | bl b=>cases rx;exact SeqAt.EqAt.str_bool a t' b
  | int b=>obtain⟨t,rfl⟩:=rx;exact SeqAt.EqAt.str_int a t' b t
  | str b=>obtain⟨t,rfl⟩:=rx;exact SeqAt.EqAt.str_str a t' b t
  | _=>exact absurd (show false=true from fx) cK
 | _=>exact absurd (show false=true from fy) cK
theorem zF4:wE X (.builtin "len") (fun xs H Q=>∃ p ys,xs=[.ref p]∧(SqL X.K H p ys∨SqT X.K H p ys)∧Q (.int ys.length) H):=by
 intro pins s σ H xs us Q I r h
 obtain⟨p,ys,rfl,hq,q⟩:=h
 obtain⟨u,rfl,rx⟩:=vals1 r
 cases rx
 have hn:=zEC
 rcases hq with hq | hq
 ·obtain⟨its,r',pl,hz⟩:=I.list hq
  have hlen:=r'.length
  exact Calls.call_len_list pl.isList (by simp only[bO]<;>omega) ⟨.int ys.length,H,I.tok _,⟨s.toks+1,by rw[bO,hlen]⟩,q⟩
 ·obtain⟨its,r',pl,hz⟩:=I.tuple hq
  have hlen:=r'.length
  exact len_tuple pl (by simp only[bO]<;>omega) ⟨.int ys.length,H,I.tok _,⟨s.toks+1,by rw[bO,hlen]⟩,q⟩
theorem wE.or{f:Value}{r r':List V→Hp→VK→Prop}(h:wE X f r)(h':wE X f r'):wE X f (fun xs H Q=>r xs H Q∨r' xs H Q):=by
 intro pins s σ H xs us Q I rs q
 rcases q with q | q
 ·exact h pins s σ H xs us Q I rs q
 ·exact h' pins s σ H xs us Q I rs q
theorem zCL:wE X (.type "tuple") (fun xs H Q=>∃ p ys,xs=[.ref p]∧((SqL X.K H p ys∧∀ l,H l=none→Q (.ref l) (wd H l (.tup ys)))∨(SqT X.K H p ys∧Q (.ref p) H))):=by
 intro pins s σ H xs us Q I r h
 obtain⟨p,ys,rfl,h⟩:=h
 obtain⟨u,rfl,rx⟩:=vals1 r
 cases rx
 rcases h with ⟨hq,q⟩ | ⟨hq,q⟩
 ·obtain⟨its,r',pl,hz⟩:=I.list hq
  have hlen:=r'.length
  refine call_tuple_list pl.isList (fun h' kp=>?_) (by simp only[bO]<;>omega)
  have I1:zW X pins σ H { s with heap:=h' }:=I.kept (t':=s.toks) kp
  have I2:zW X pins σ (wd H h'.objs.size (.tup ys)) { s with heap:=h'.push { cls:=.type "tuple",data:=.seq its.toArray } } :=
   I1.laid (t':=s.toks) (fun b o e=>bz _ e) (bF _) (show wf X.prog X.w _ _ _ (.tup ys) from⟨hz,its,r',zE8.new _ _⟩)
  exact⟨.ref h'.objs.size,_,I2,rfl,q _ (I1.hok.fresh (bF _))⟩
 ·obtain⟨its,r',pl,hz⟩:=I.tuple hq
  exact call_tuple_same pl ⟨.ref p,H,I,rfl,q⟩
noncomputable def tyV(K:PySem.W.Frag)(T:String)(x:V)(H:Hp):Prop:=match x with
 | .str _=>T="str"
 | .int _=>T="int"
 | .ref p=>(T="list"∧∃ xs,SqL K H p xs)∨(T="tuple"∧∃ xs,SqT K H p xs) ∨
   (T="dict"∧((∃ kvs,H p=some (.dK kvs))∨∃ kvs,H p=some (.dT kvs)))∨(T="set"∧∃ S n,H p=some (.set S n))
 | _=>False
theorem zKw{pins:List (Addr×Obj)}{σ:St}{H:Hp}{s:Shared}{T:String}{x:V}{v:Value}(I:zW X pins σ H s)(r:RelV x v)(ty:tyV X.K T x H) :
  s.TypeIs v T∧∀ a,v=.ref a→∃ ob,s.heap.get? a=some ob∧ob.dict=none:=by
 cases x with
 | str z =>
  obtain⟨t,rfl⟩:=r
  cases (show T="str" from ty)
  exact⟨typeIs_str s z t,fun u0 e=>nomatch e⟩
 | int i =>
  obtain⟨t,rfl⟩:=r
  cases (show T="int" from ty)
  exact⟨typeIs_int s i t,fun u0 e=>nomatch e⟩
 | ref p =>
  cases r
  rcases ty with ⟨rfl,xs,hq⟩ | ⟨rfl,xs,hq⟩ | ⟨rfl,hk⟩ | ⟨rfl,S,n,hk⟩
  ·obtain⟨its,u0,pl,u0⟩:=I.list hq
   refine⟨pl.isList.typeIs,fun a e=>?_⟩
   cases e
   obtain⟨o,n,e,c,hd,u0⟩:=pl
   exact⟨o,e,hd⟩
  ·obtain⟨h1,o,h2,h3⟩:=I.noDict hq
   refine⟨h1,fun a e=>?_⟩
   cases e
   exact⟨o,h2,h3⟩
  ·have z:∃ o,s.heap.get? p=some o∧o.ExactDict:=by
    rcases hk with ⟨kvs,hk⟩ | ⟨kvs,hk⟩
    ·obtain⟨u0,u0,u0,u0,o,u0,u0,e,ex,u0⟩:=I.hok p _ hk
     exact⟨o,e,ex⟩
    ·obtain⟨u0,u0,u0,u0,o,u0,u0,e,ex,u0⟩:=I.hok p _ hk
     exact⟨o,e,ex⟩
   obtain⟨o,e,ex⟩:=z
   refine⟨⟨o,e,ex.1⟩,fun a e2=>?_⟩
   cases e2
   exact⟨o,e,ex.2.1⟩
  ·obtain⟨o,u0,u0,u0,e,ex,u0⟩:=I.hok p _ hk
   refine⟨⟨o,e,ex.1⟩,fun a e2=>?_⟩
   cases e2
   exact⟨o,e,ex.2.1⟩
 | _=>exact False.elim ty
noncomputable def zQj(K:PySem.W.Frag)(T:String)(r:V→List V→Hp→VK→Prop)(to:TE):TE:=fun σ H Q=>to σ H fun x H1=>tyV K T x H1∧r x [] H1 Q
noncomputable def tBM(K:PySem.W.Frag)(T:String)(r:V→List V→Hp→VK→Prop)(to:TE)(t:TA):TE:=fun σ H Q=>to σ H fun x H1=>tyV K T x H1∧t σ H1 fun xs H2=>r x xs H2 Q
variable {o e:Expr} {es:List Expr} {to:TE} {t:TA} {name:Str} {apos cpos:Pos} {T id:String} {r:V→List V→Hp→VK→Prop}
theorem zOq(pa:PlainAttrs T)(slot:Slot T name id)(hty:typeOf (.builtin id)=pure (.type "method_descriptor"))(hm:MtR X id r)(ho:PE X o to)
  (hbase:attributeBase o name X.env (eval o X.env)=eval o X.env:=by rfl) (hline:(apos.endLine==cpos.line)=true:=by rfl):PE X (.Call (.Attribute o name apos) [] [] cpos) (zQj X.K T r to):=by
 intro pins s σ H Q I h
 refine wpAny_Call_method0_late hbase hline (wM (ho pins s σ H _ I h) fun v s1 ⟨x,H1,I1,r1,ty,q1⟩=>?_)
 obtain⟨h1,h2⟩:=zKw I1 r1 ty
 exact⟨T,id,pa,slot,hty,h1,h2,Calls.callWith_builtin rfl (PySem.evalArgs_none (hm pins s1 σ H1 x [] v [] Q I1 r1 .nil q1))⟩
theorem zIv(pa:PlainAttrs T)(slot:Slot T name id)(hty:typeOf (.builtin id)=pure (.type "method_descriptor"))(hm:MtR X id r)(ho:PE X o to)(ha:PA X (e::es) t)
  (hbase:attributeBase o name X.env (eval o X.env)=eval o X.env:=by rfl)
  (hfew:((backTo cpos (starEach (e::es) X.env)).all (fun x=>!x.1)&&(backToKw cpos (keywordEach [] X.env)).all (fun x=>x.1.isSome)
   && decide ((e::es).length+([]:List Keyword).length+(if ([]:List Keyword).isEmpty then 0 else 1)<30))=true:=by rfl)
  (hline:(apos.endLine==cpos.line)=true:=by rfl) (hs:starEach (e::es) X.env=(false,eval e X.env)::starEach es X.env:=by rfl) (hplain:(backTo cpos (starEach es X.env)).any (·.1)=false:=by rfl) :
  PE X (.Call (.Attribute o name apos) (e::es) [] cpos) (tBM X.K T r to t):=by
 intro pins s σ H Q I h
 refine wpAny_Call_method_late hbase hfew hline rfl (wM (ho pins s σ H _ I h) fun v s1 ⟨x,H1,I1,r1,ty,q1⟩=>?_)
 obtain⟨h1,h2⟩:=zKw I1 r1 ty
 refine⟨T,id,pa,slot,hty,h1,h2,?_⟩
 have hA:=ha cpos pins s1 σ H1 _ I1 q1
 rw[hs] at hA ⊢
 refine Calls.callWith_builtin (by show(false||(backTo cpos (starEach es X.env)).any (·.1))=false;rw[hplain]<;>rfl) (Calls.evalArgs_plain ?_)
 exact wM hA fun us s2 ⟨vs,H2,I2,r2,q2⟩=>hm pins s2 σ H2 x vs v us Q I2 r1 r2 q2
end
noncomputable def MtM(X:Cx)(id:String)(r:V→List V→Hp→VK→Prop):Prop :=
 ∀(pins:List (Addr×Obj)) (s:Shared) (σ:St) (H:Hp) (x:V) (xs:List V) (v:Value) (us:List Value) (Q:VK),zW X pins σ H s→RelV x v→zY xs us→r x xs H Q →
  wpAny (model X.prog X.w) X.A (call (.builtin id) (v::us)) (EP X pins σ Q) X.xe s
theorem zY.one:∀ {x:V} {us:List Value},zY [x] us→∃ u,us=[u]∧RelV x u
 | _,_,.cons r .nil=>⟨_,rfl,r⟩
theorem zY.zero:∀ {us:List Value},zY [] us→us=[]
 | _,.nil=>rfl
theorem zY.dropLast{xs:List V}{us:List Value}(h:zY xs us):zY xs.dropLast us.dropLast:=by
 induction h with
 | nil=>exact .nil
 | cons r t ih =>
  cases t with
  | nil=>exact .nil
  | cons q t'=>exact .cons r ih
theorem zY.eraseIdx:∀ {xs:List V} {us:List Value} (i:Nat),zY xs us→zY (xs.eraseIdx i) (us.eraseIdx i)
 | _,_,_,.nil=>.nil
 | _,_,0,.cons _ t=>t
 | _,_,i+1,.cons r t=>.cons r (zY.eraseIdx i t)
theorem zY.reverse{xs:List V}{us:List Value}(h:zY xs us):zY xs.reverse us.reverse:=by
 induction h with
 | nil=>exact .nil
 | cons r t ih=>rw[dE,dE];exact zY.append ih (.cons r .nil)
theorem zY.rep{xs:List V}{us:List Value}(h:zY xs us):∀ k:Nat,zY (bL k xs).flatten (bL k us).flatten
 | 0=>.nil
 | k+1=>by
  rw[br,br,dq,dq]
  exact zY.append h (zY.rep h k)
theorem zHv{α:Type}(l:List α):l.eraseIdx (l.length-1)=l.dropLast:=by
 induction l with
 | nil=>rfl
 | cons a r ih =>
  cases r with
  | nil=>rfl
  | cons b r =>
   have e:(a::b::r).length-1=((b::r).length-1)+1:=by
    have h1:(a::b::r).length=r.length+2:=rfl
    have h2:(b::r).length=r.length+1:=rfl
    omega
   rw[e,List.eraseIdx_cons_succ,ih]
   all_goals rfl
theorem zFS{α:Type}:∀(l:List α) (i:Nat),(l.eraseIdx i).length≤l.length
 | [],_=>bF _
 | _::_,0=>dh _
 | _::r,i+1=>Nat.succ_le_succ (zFS r i)
theorem foldl_rep(its:List Value):∀(k:Nat) (acc:List Value),
  List.foldl (fun x1 x2=>x1++x2) acc.toArray (bL k its.toArray)=(acc++(bL k its).flatten).toArray
 | 0,acc=>by simp
 | k+1,acc=>by
  have e:acc.toArray++its.toArray=(acc++its).toArray:=by simp
  have e2:(acc++its)++(bL k its).flatten=acc++(bL (k+1) its).flatten:=by
   rw[br,dq,bZ]
  rw[← e2,← foldl_rep its k (acc++its),← e,br,List.foldl_cons]
section
variable {X:Cx} {pins:List (Addr×Obj)} {σ:St} {H:Hp} {s:Shared} {l b:Addr} {xs ys zs:List V}
theorem zW.lset{its its':List Value}{n:Nat}{f:Array Value→Array Value}{t':Nat}(I:zW X pins σ H s)(hH:H l=some (.lst xs))
  (e:s.heap.get? l=some { cls:=.type "list",data:=.seq its.toArray n }) (hf:f its.toArray=its'.toArray) (hv:zY ys its') (hz:ys.length≤sizeLine) :
  zW X pins σ (wd H l (.lst ys)) { s with heap:=s.heap.update l (Obj.mapSeq f),toks:=t' }:=by
 have q:=PySem.IsL.update e f
 rw[hf] at q
 refine I.write (x:=l) (e:=l) (by rw[hH];exact trivial) (.inl rfl) (fun b' u hb hu=>(cI s.heap (Obj.mapSeq f) (Ne.symm hb)).trans hu) ⟨_,q⟩ ?_
 exact⟨hz,its',_,hv,q⟩
theorem zW.lnew{its:List Value}{t':Nat}(I:zW X pins σ H s)(hv:zY ys its)(hz:ys.length≤sizeLine) :
  zW X pins σ (wd H s.heap.objs.size (.lst ys)) { s with heap:=s.heap.push { cls:=.type "list",data:=.seq its.toArray },toks:=t' } :=
 I.laid (fun u0 u0 q=>bz _ q) (bF _) ⟨hz,its,0,hv,bM _ rfl⟩
theorem zW.fresh(I:zW X pins σ H s):H s.heap.objs.size=none:=I.hok.fresh (bF _)
theorem zW.lstM(I:zW X pins σ H s)(hH:H l=some (.lst xs)):xs.length≤sizeLine∧∃(its:List Value) (n:Nat),zY xs its∧xs.length=its.length∧s.heap.get? l=some { cls:=.type "list",data:=.seq its.toArray n }:=by
 obtain⟨z,its,n,r,e⟩:=I.hok l _ hH
 exact⟨z,its,n,r,r.length,e⟩
theorem zCn{n:Nat}(h:n≤sizeLine):Builtin.List.listTooLong n=false:=by
 unfold Builtin.List.listTooLong
 exact decide_eq_false (by omega)
end
section
variable {X:Cx}
noncomputable def zMo:V→List V→Hp→VK→Prop:=fun x vs H Q=>∃ l xs y,x=.ref l∧vs=[y]∧H l=some (.lst xs)∧xs.length<sizeLine∧Q .non (wd H l (.lst (xs++[y])))
theorem zFT:MtM X "list.append" zMo:=by
 intro pins s σ H x vs v us Q I rx rv h
 obtain⟨l,xs,y,rfl,rfl,hH,hz,q⟩:=h
 cases rx
 obtain⟨u,rfl,ru⟩:=rv.one
 obtain⟨z,its,n,r,hl,e⟩:=I.lstM hH
 refine call_meets F.slot_list_append ⟨_,e,rfl⟩ F.entry_list_append (F.args_list_append_2 _ _) (PySem.list_append l its.toArray n u (by rw[bO];omega)) ⟨e,?_⟩
 refine⟨.non,_,I.lset (its':=its++[u]) hH e (by simp) (r.append (.cons ru .nil)) ?_,rfl,q⟩
 rw[bI,List.length_singleton]
 omega
noncomputable def zMp:V→List V→Hp→VK→Prop:=fun x vs H Q=>∃ l b xs zs,x=.ref l∧vs=[.ref b]∧H l=some (.lst xs)∧H b=some (.lst zs)∧xs.length+zs.length≤sizeLine∧Q .non (wd H l (.lst (xs++zs)))
theorem zJm:MtM X "list.extend" zMp:=by
 intro pins s σ H x vs v us Q I rx rv h
 obtain⟨l,b,xs,zs,rfl,rfl,hH,hB,hz,q⟩:=h
 cases rx
 obtain⟨u,rfl,ru⟩:=rv.one
 cases ru
 obtain⟨z,its,n,r,hl,e⟩:=I.lstM hH
 obtain⟨z2,its2,n2,r2,hl2,e2⟩:=I.lstM hB
 have hsz:its.toArray.size+its2.toArray.size≤sizeLine:=by rw[bO,bO];omega
 have hlong:¬ (!its.toArray.isEmpty&&Builtin.List.listTooLong (its.toArray.size+its2.toArray.size))=true:=by
  rw[zCn hsz,Bool.and_false]
  exact cK
 refine call_meets F.slot_list_extend ⟨_,e,rfl⟩ F.entry_list_extend (F.args_list_extend_2 _ _)
  (AutoSeq1.list_extend_list_list_0 l its.toArray n b its2.toArray n2 hlong (by rw[bO];omega) (by omega)) ⟨e,e2,?_⟩
 refine⟨.non,_,I.lset (its':=its++its2) hH e (by simp) (r.append r2) ?_,rfl,q⟩
 rw[bI]
 omega
noncomputable def zQk:V→List V→Hp→VK→Prop:=fun x vs H Q=>∃ l xs y,x=.ref l∧vs=[]∧H l=some (.lst xs)∧xs[xs.length-1]?=some y∧Q y (wd H l (.lst xs.dropLast))
theorem zOr:MtM X "list.pop" zQk:=by
 intro pins s σ H x vs v us Q I rx rv h
 obtain⟨l,xs,y,rfl,rfl,hH,hy,q⟩:=h
 cases rx
 have hus:=rv.zero
 subst hus
 obtain⟨z,its,n,r,hl,e⟩:=I.lstM hH
 obtain⟨u,hu,ru⟩:=r.get hy
 have hy':its.toArray[its.toArray.size-1]?=some u:=by
  show its.toArray[its.length-1]?=some u
  rw[← cx,← hl]
  exact hu
 refine call_meets F.slot_list_pop ⟨_,e,rfl⟩ F.entry_list_pop (F.args_list_pop_1 _) (MeetsSeq.list_pop_last l its.toArray n u hy' (by rw[bO];omega)) ⟨e,?_⟩
 refine⟨y,_,I.lset (its':=its.dropLast) hH e ?_ r.dropLast ?_,ru,q⟩
 ·show its.toArray.eraseIdxIfInBounds (its.toArray.size-1)=its.dropLast.toArray
  rw[bO,List.eraseIdxIfInBounds_toArray,zHv]
 ·rw[List.length_dropLast]
  omega
noncomputable def zOs:V→List V→Hp→VK→Prop:=fun x vs H Q=>∃ l xs i k y,x=.ref l∧vs=[.int i]∧H l=some (.lst xs)∧-(2 ^ 63)≤i∧i<2 ^ 63∧seqIndex? i xs.length=some k∧xs[k]?=some y∧Q y (wd H l (.lst (xs.eraseIdx k)))
theorem zKx:MtM X "list.pop" zOs:=by
 intro pins s σ H x vs v us Q I rx rv h
 obtain⟨l,xs,i,k,y,rfl,rfl,hH,h1,h2,hk,hy,q⟩:=h
 cases rx
 obtain⟨u,rfl,ru⟩:=rv.one
 obtain⟨t,rfl⟩:=ru
 obtain⟨z,its,n,r,hl,e⟩:=I.lstM hH
 obtain⟨w,hw,rw'⟩:=r.get hy
 refine call_meets F.slot_list_pop ⟨_,e,rfl⟩ F.entry_list_pop (F.args_list_pop_2 _ _)
  (MeetsSeq.list_pop_at l its.toArray n i t k w (fitsIndex_both h1 h2) (by rw[bO,← hl];exact hk) (by rw[← cx];exact hw) (by rw[bO];omega)) ⟨e,?_⟩
 refine⟨y,_,I.lset (its':=its.eraseIdx k) hH e ?_ (r.eraseIdx k) ?_,rw',q⟩
 ·show its.toArray.eraseIdxIfInBounds k=(its.eraseIdx k).toArray
  rw[List.eraseIdxIfInBounds_toArray]
 ·have:=zFS xs k
  omega
noncomputable def zQl:R2:=fun x y H Q=>∃ l b xs zs,x=.ref l∧y=.ref b∧H l=some (.lst xs)∧H b=some (.lst zs)∧xs.length+zs.length≤sizeLine∧∀ p,H p=none→Q (.ref p) (wd H p (.lst (xs++zs)))
theorem zOt:OpR X (binaryOp .Add) zQl:=by
 intro pins s σ H x y v u Q I rx ry h
 obtain⟨l,b,xs,zs,rfl,rfl,hH,hB,hz,q⟩:=h
 cases rx
 cases ry
 obtain⟨z,its,n,r,hl,e⟩:=I.lstM hH
 obtain⟨z2,its2,n2,r2,hl2,e2⟩:=I.lstM hB
 refine PySem.P.add_list e e2 ?_ (by rw[bO,bO];omega)
 have ea:its.toArray++its2.toArray=(its++its2).toArray:=by simp
 rw[ea]
 exact⟨.ref _,_,I.lnew (t':=s.toks) (r.append r2) (by rw[bI];omega),rfl,q _ I.fresh⟩
noncomputable def zQm:R2:=fun x y H Q=>∃ l k xs,x=.ref l∧y=.int k∧H l=some (.lst xs)∧-(2 ^ 63)≤k∧k<2 ^ 63∧xs.length*k.toNat≤sizeLine ∧
 ∀ p,H p=none→Q (.ref p) (wd H p (.lst (bL k.toNat xs).flatten))
theorem len_rep{α:Type}(xs:List α)(k:Nat):(bL k xs).flatten.length=k*xs.length:=by
 induction k with
 | zero=>simp
 | succ k ih=>rw[br,dq,bI,ih,Nat.succ_mul,Nat.add_comm]
theorem zOu:OpR X (binaryOp .Mult) zQm:=by
 intro pins s σ H x y v u Q I rx ry h
 obtain⟨l,k,xs,rfl,rfl,hH,h1,h2,hz,q⟩:=h
 cases rx
 obtain⟨t,rfl⟩:=ry
 obtain⟨z,its,n,r,hl,e⟩:=I.lstM hH
 have hlen:its.toArray.size*k.toNat≤sizeLine:=by rw[bO,← hl];exact hz
 have hcap:¬ its.toArray.size*k.toNat>(2 ^ 63-1) / 8:=by
  have:(sizeLine:Nat)≤(2 ^ 63-1) / 8:=by decide
  omega
 have hfit:¬ (!Builtin.List.listFitsIndex k)=true:=by
  rw[fitsIndex_both h1 h2]
  exact cK
 have hlong:¬ Builtin.List.listTooLong (its.toArray.size*k.toNat)=true:=by
  rw[zCn hlen]
  exact cK
 have hnew:List.foldl (fun x1 x2=>x1++x2) #[] (bL (if its.toArray.isEmpty=true then 0 else k.toNat) its.toArray)=(bL k.toNat its).flatten.toArray:=by
  have f0:∀ m:Nat,List.foldl (fun x1 x2=>x1++x2) #[] (bL m its.toArray)=(bL m its).flatten.toArray:=fun m=>by
   have:=foldl_rep its m []
   rw[bB] at this
   exact this
  rw[f0]
  cases its with
  | nil=>simp
  | cons a r'=>rw[if_neg (by simp)]
 refine wpAny_binaryOp_repeat_ref (T:="list") (U:="int") (by decide) ⟨_,e,rfl⟩ (fun s'=>typeIs_int s' k t) noFill_list_mul F.fills_int_mul F.slot_int_rmul repeat_list F.slot_int_index.lookup
  (call_meets F.slot_int_rmul (typeIs_int s k t) F.entry_int_rmul (F.args_int_rmul_2 _ _) (int___rmul___int_list k t l its.toArray n)
   ⟨e,rfl,⟨_,e,rfl⟩,call_meets F.slot_list_mul ⟨_,e,rfl⟩ F.entry_list_mul (F.args_list_mul_2 _ _) (AutoListH.list___mul___list_int_3 l its.toArray n k t hfit hcap hlong) ⟨e,?_⟩⟩)
 rw[hnew]
 exact⟨.ref _,_,I.lnew (t':=s.toks) (r.rep k.toNat) (by rw[len_rep,Nat.mul_comm];exact hz),rfl,q _ I.fresh⟩
end
section
variable {prog:Program} {w:World} {A:Around} {E:Value→Shared→Prop} {s:Shared}
end
section
variable {X:Cx}
end
end L2
namespace Att
open PySem PySem.W PySem.Calls PyProof.Rows
theorem zDs{P:Params}{h:Heap}:∀(ns:List Int) (vs:List Value),WellAll P h vs (ns.map WData.int)→IntsAre vs ns:=by
 intro ns
 induction ns with
 | nil =>
  intro vs w
  rw[et] at w
  cases w
  exact .nil
 | cons n ns ih =>
  intro vs w
  rw[cD] at w
  cases w with
  | cons a b =>
   cases a
   exact .cons _ _ (ih _ b)
theorem zJn{l:OpenLaw}{n:Nat}(hn:l.most=some n){P:Params}{h:Heap}{args:List WData}{vals:List Value}
  (hpre:l.row.toRowW.claim.pre args=true) (hwl:WellAll P h vals args) :
  ∃ a vs ns,vals=[Value.ref a]∧args=[WData.list (ns.map WData.int)]∧h.get? a=some { cls:=.type "list",data:=.seq vs.toArray }∧IntsAre vs ns∧ns.length≤n:=by
 have hsh:WShape.hasAll [] args [.list .int]=true:=(pre_splitW hpre).1
 have hc:l.pre.holds [] { args:=args }=true:=(pre_splitW hpre).2
 obtain⟨d,r,rfl,h1,h2⟩:=hasAllW_cons hsh
 obtain rfl:=hasAllW_nil h2
 obtain⟨xs,rfl,h3⟩:=hasW_list h1
 obtain⟨ns,rfl⟩:=items_int h3
 have hlen:ns.length≤n:=by
  unfold OpenLaw.pre at hc
  have h4:(WTm.not (.lt (.lit (.int (n:Int))) (.len (.arg 0)))).holds [] { args:=[.list (ns.map .int)] }=true:=by
   have h4:=(holds_andW hc).1
   rw[hn] at h4
   exact h4
  have h5:=condW_of h4 (w_not (w_lt w_lit (w_len_list (w_arg rfl))))
  rw[bx] at h5
  refine Nat.le_of_not_lt fun q=>?_
  have q':(n:Int)<((ns.length:Nat):Int):=by omega
  first
   | (rw[decide_eq_true q'] at h5;exact absurd h5 (by decide))
   | (simp at h5;omega)
 cases hwl with
 | cons w1 w2 =>
  cases w2
  cases w1 with
  | list ho hall=>exact⟨_,_,ns,rfl,rfl,ho,zDs ns _ hall,hlen⟩
theorem zJo(l:OpenLaw)(args:List WData):l.row.toRowW.claim.post args (.bool true) args=true :=
 postW_of (r:=l.row.toRowW) (X:=(true==true))
  (show WShape.has [] (.bool true) .bool=true by first | rfl | decide | simp[WShape.has,WShape.arms,WShape.armsAll])
  (show(WTm.eq .res (.lit (.bool true))).value [] { args:=args,res:=some (.bool true),after:=args }=some (.bool (true==true)) from w_eq_bool (w_res rfl) w_lit) rfl
theorem zGo{l:OpenLaw}{n:Nat}{q:Program}{loose:List Str}{XP:(Str→Option Value)→Heap→Prop}{YP:World→Heap→Prop}{d:DefRec}
  (hn:l.most=some n) (hdf:d.params.defaults=[])
  (call:∀(w:World) (s₀ s₁:Shared) (mg mb:Str→Option Value) (fa:Addr) (o:Obj) (pm cd doc:Value) (a:Addr) (vs:List Value) (ns:List Int),
   Ground q loose [] XP w s₀ mg mb s₁.heap→YP w s₁.heap →
   s₁.heap.get? fa=some o→o.data=.func (docDef d.name d.params d.body d.scope pm cd doc)→s₁.heap.CodeRec cd d.name→mg d.name=some (.ref fa) →
   s₁.heap.get? a=some { cls:=.type "list",data:=.seq vs.toArray }→IntsAre vs ns→ns.length≤n→s₁.gens=#[] →
   codeAny (model l.prog w) callerA (.call (.ref fa) ⟨[.ref a],[]⟩) (fun r s'=>r=.ok (.ret (.bool true))∧OldK s₁.heap s'.heap∧s'.os=s₁.os∧AllBare s'.gens) s₁) :
  WalkO q loose XP YP l.row.toRowW d [] (fun f vs=>PySem.call f vs):=by
 intro w s₀ s₁ mg mb G Y fa o pm cd doc dV kV ho hd hcd hD hmg hg args vals as hpre hlay hrd hwl hlo
 obtain rfl:dV=.none:=Dflts.none hD hdf
 obtain rfl:kV=.none:=Dflts.noKw hD
 obtain⟨a,vs,ns,rfl,rfl,hobj,hints,hlen⟩:=zJn hn hpre hwl
 refine enter_call (dN (call w s₀ s₁ mg mb fa o pm cd doc a vs ns G Y ho (fd_plain hd) hcd hmg hobj hints hlen hg) fun r s' hq=>?_)
 obtain⟨rfl,h2,h3,h4⟩:=hq
 exact⟨.inl ⟨.bool true,.bool true,[],rfl,fun u0=>rfl,.bool true,zJo l _,fun u0=>⟨dF.nil,fun u0 hm=>(nomatch hm)⟩⟩,h2,h3,h4⟩
section
variable {prog:Program} {w:World} {A:Around} {E:Value→Shared→Prop} {s:Shared} {K:Frag}
end
end Att
namespace L2
theorem zA8:∀ {vs:List Value} {ns:List Int},IntsAre vs ns→zY (ns.map V.int) vs
 | _,_,.nil=>.nil
 | _,_,.cons n t h=>.cons ⟨t,rfl⟩ (zA8 h)
noncomputable def zMq(H:Hp):Prop:=∀ b,H b=none∨(∃ o xs,H b=some (.frz o (.lst xs)))∨∃ ps,H b=some (.tbl ps)
structure TabsAt (K:PySem.W.Frag) (h:Heap) (ts:List Addr) (qn:Addr→Str):Prop where
 obj:∀ P∈ts,h.get? P=some (PySem.W.tabObj #[])
 out:∀ P∈ts,K.lookup P=none
 code:∀ P∈ts,isCodeTable h P
 name:∀ x∈zIo,∀ c b,PySem.W.tabIn K x=some (c,b)→b∈ts∧qn b=x++".<locals>.<lambda>"
theorem zKy{P':Program}{w:World}{K:PySem.W.Frag}{mg mb:Str→Option Value}{CX:CXT}{k:Nat}{fa a:Addr}{fd:FuncData}{x:Str}{sp:Sp}{s₁:Shared}{vs:List Value}{ns:List Int}{ts:List Addr}{qn:Addr→Str}
  (TB:TabsAt K s₁.heap ts qn) (KX:K.In s₁.heap) (hns:s₁.heap.Ns mainGlobals mg) (hb:s₁.heap.Ns builtinsNs mb) (hbb:∀ x:Str,x≠"__name__"→mb x=bootBuiltins x) (hlim:s₁.heap.NoLimit) (hg:s₁.gens=#[])
  (ha:s₁.heap.get? a=some { cls:=.type "list",data:=.seq vs.toArray }) (hi:IntsAre vs ns) (hl:ns.length≤sizeLine) (hr:wt k callerA)
  (F:∀ base:Heap,K.In base→base.Ns mainGlobals mg→zBe P' w K mg base CX k fa fd [x] sp) (hbind:∀(s:Shared) (u:Value),BindsTo s fd ⟨[u],[]⟩ [(x,u)])
  (hsp:∀ H:Hp,zMq H→SqL K H a (ns.map V.int)→sp [.ref a] H (fun v u0=>v=.bl true) fun u0 u0 u0=>False)
  (hCX:∀ H e s',CX [] H s₁ (fun u0 u0 u0=>False) e s'→False) :
  codeAny (model P' w) callerA (.call (.ref fa) ⟨[.ref a],[]⟩) (fun r s'=>r=.ok (.ret (.bool true))∧OldK s₁.heap s'.heap∧s'.os=s₁.os∧AllBare s'.gens) s₁:=by
 have rv:=zA8 hi
 have lenV:=hi.length
 -- from an abstract heap in which nothing but the script may be tracked
 have core:∀ H:Hp,zMq H→SqL K H a (ns.map V.int)→HOk P' w H s₁.heap→(∀ b,H b≠none→b=a∨b∈ts)→(H a≠none→K.lookup a=none)→(∀ P∈ts,H P=some (.tbl #[.str (qn P) 0])) →
   codeAny (model P' w) callerA (.call (.ref fa) ⟨[.ref a],[]⟩) (fun r s'=>r=.ok (.ret (.bool true))∧OldK s₁.heap s'.heap∧s'.os=s₁.os∧AllBare s'.gens) s₁:=by
  intro H hO hS hok hA hK hT
  have base_of:∀ {b:Addr} {o:Obj},s₁.heap.get? b=some o→H b=none→(zFz s₁.heap H).get? b=some o:=fun e n=>zKk e n
  have noA:∀ {b:Addr} {o:Obj} {es:Array DictEntry} {ep:Nat},s₁.heap.get? b=some o→o.data=.dict es ep→H b=none:=fun {b o es ep} e d=>by
   cases q:H b with
   | none=>rfl
   | some u =>
    rcases hA b (by rw[q];simp) with e' | e'
    ·subst e'
     rw[ha] at e;cases e
     have d':Data.seq vs.toArray _=Data.dict es ep:=d
     cases d'
    ·rw[TB.obj b e'] at e;cases e
     have d':Data.fields #[]=Data.dict es ep:=d
     cases d'
  have nsK:∀ {b:Addr} {m:Str→Option Value},s₁.heap.Ns b m→(zFz s₁.heap H).Ns b m:=fun {b m} ⟨o,es,ep,e,d,r⟩=>⟨o,es,ep,base_of e (noA e d),d,r⟩
  have hKb:K.In (zFz s₁.heap H):=fun b o e=>base_of (KX b o e) (by
   cases q:H b with
   | none=>rfl
   | some u =>
    rcases hA b (by rw[q];simp) with e' | e'
    ·subst e'
     rw[hK (by rw[q];simp)] at e;cases e
    ·rw[TB.out b e'] at e;cases e)
  have hM:Mod K mg (zFz s₁.heap H):=⟨hKb,nsK hns,⟨mb,nsK hb,hbb⟩,let ⟨mc,h1,h2⟩:=hlim;⟨mc,nsK h1,h2⟩⟩
  have e0:zMg P' w K mg (zFz s₁.heap H) callerA [] s₁ H:=⟨rfl,hM,fun b o e=>zMT e,Nat.le_of_eq (zJd _ _),trivial,fun b hb=>absurd (show b∈([]:List Addr) from hb) (by simp),hok,.of_eq hg,fun x hx c b e=>by
   obtain⟨z1,z2⟩:=TB.name x hx c b e
   exact⟨0,by rw[← z2];exact hT b z1⟩⟩
  refine dN ((F _ hKb (nsK hns)).run callerA [] s₁ H ⟨[.ref a],[]⟩ [.ref a] [.ref a] _ _ hr e0 (hbind s₁ (.ref a)) (.cons rfl .nil) (hsp H hO hS)) fun r s' h=>?_
  cases r with
  | error e=>exact(hCX H e s' h).elim
  | ok fl =>
   cases fl with
   | next=>exact False.elim h
   | brk=>exact False.elim h
   | cont=>exact False.elim h
   | ret u =>
    obtain⟨v,H',os,bare,un,hok',r',q⟩:=h
    have q':v=.bl true:=q
    subst q'
    obtain rfl:u=Value.bool true:=r'
    have K1:∀ b o,b∉ts→s₁.heap.get? b=some o→s'.heap.get? b=some o:=fun b o hb e=>by
     cases q:H b with
     | none=>exact un.keep b o e q (by intro z;exact absurd (show b∈([]:List Addr) from z) (by simp)) (by simp)
     | some u =>
      rcases hO b with z | ⟨ob,xs,z⟩ | ⟨ps,z⟩
      ·rw[q] at z;cases z
      ·have z2:=un.frzs b ob _ z
       obtain⟨e1,u0⟩:=hok b _ z
       obtain⟨e2,u0⟩:=hok' b _ z2
       rw[e] at e1;cases e1
       exact e2
      ·rcases hA b (by rw[q];simp) with e' | e'
       ·obtain⟨u0,u0,u0,u0,w1,u0⟩:=hok b _ z
        rw[e',ha] at w1;cases w1
       ·exact absurd e' hb
    have K2:∀ b,b∈ts→∃ vs,s'.heap.get? b=some (PySem.W.tabObj vs):=fun b hb=>by
     have z2:=un.tbls b _ (hT b hb)
     obtain⟨u0,u0,vs,u0,w1,u0⟩:=hok' b _ z2
     exact⟨vs,w1⟩
    refine⟨rfl,⟨fun b o e=>?_,fun b o e=>?_⟩,os,bare⟩
    ·by_cases hb:b∈ts
     ·obtain⟨vs,w1⟩:=K2 b hb
      rw[TB.obj b hb] at e
      cases e
      exact .inr (.inl ⟨TB.code b hb,rfl,#[],vs,rfl,by simpa using w1⟩)
     ·exact .inl (K1 b o hb e)
    ·by_cases hb:b∈ts
     ·obtain⟨vs,w1⟩:=K2 b hb
      exact⟨_,w1⟩
     ·exact⟨o,K1 b o hb e⟩
 have naT:∀ P∈ts,P≠a:=fun P hP z=>by
  have e:=TB.obj P hP
  rw[z,ha] at e;cases e
 have tok:∀(H:Hp),∀ P∈ts,wf P' w H s₁.heap P (.tbl #[.str (qn P) 0]):=fun H P hP=>⟨qn P,0,#[],rfl,TB.obj P hP,trivial,fun pos cv e=>by cases e⟩
 cases hk:K.lookup a with
 | some o =>
  -- the script is one of the module's own objects
  have e:=KX a o hk
  rw[ha] at e
  cases e
  refine core (fun b=>if b∈ts then some (.tbl #[.str (qn b) 0]) else none) (fun b=>?_) (.inr ⟨_,vs.toArray,_,hk,rfl,rfl,rfl,by rw[bO,lenV];exact hl,by simpa using rv⟩) (fun b u z=>?_) (fun b z=>?_) (fun z=>?_) fun P hP=>if_pos hP
  ·by_cases hb:b∈ts
   ·exact .inr (.inr ⟨_,if_pos hb⟩)
   ·exact .inl (if_neg hb)
  ·by_cases hb:b∈ts
   ·have z':=(if_pos hb).symm.trans z
    cases z'
    exact tok _ b hb
   ·have z':=(if_neg hb).symm.trans z
    cases z'
  ·by_cases hb:b∈ts
   ·exact .inr hb
   ·exact absurd (if_neg hb) z
  ·by_cases hb:a∈ts
   ·exact absurd rfl (naT a hb)
   ·exact absurd (if_neg hb) z
 | none =>
  refine core (fun b=>if b=a then some (.frz { cls:=.type "list",data:=.seq vs.toArray } (.lst (ns.map V.int))) else if b∈ts then some (.tbl #[.str (qn b) 0]) else none) (fun b=>?_) (.inl (.inr ⟨{ cls:=.type "list",data:=.seq vs.toArray },if_pos rfl⟩)) (fun b u z=>?_) (fun b z=>?_) (fun u0=>hk) fun P hP=>?_
  ·by_cases hb:b=a
   ·exact .inr (.inl ⟨_,_,if_pos hb⟩)
   ·by_cases hb2:b∈ts
    ·exact .inr (.inr ⟨_,(if_neg hb).trans (if_pos hb2)⟩)
    ·exact .inl ((if_neg hb).trans (if_neg hb2))
  ·by_cases hb:b=a
   ·have z':=(if_pos hb).symm.trans z
    cases z'
    subst hb
    exact⟨ha,by rw[bx];exact hl,vs,_,rv,ha⟩
   ·by_cases hb2:b∈ts
    ·have z':=((if_neg hb).trans (if_pos hb2)).symm.trans z
     cases z'
     exact tok _ b hb2
    ·have z':=((if_neg hb).trans (if_neg hb2)).symm.trans z
     cases z'
  ·by_cases hb:b=a
   ·exact .inl hb
   ·by_cases hb2:b∈ts
    ·exact .inr hb2
    ·exact absurd ((if_neg hb).trans (if_neg hb2)) z
  ·exact(if_neg (naT P hP)).trans (if_pos hP)
theorem zMr{l:PySem.W.OpenLaw}{n k:Nat}{q:Program}{loose:List Str}{XP:(Str→Option Value)→Heap→Prop}{YP:World→Heap→Prop}{d:DefRec}{K:Params→PySem.W.Frag}{CX:World→CXT}{sp:World→Sp}{x:Str}
  (hn:l.most=some n) (hn2:n≤sizeLine) (hdf:d.params.defaults=[]) (hr:wt k callerA)
  (hY:∀(w:World) (h:Heap),YP w h→(K w.params).In h∧∃ ts qn,TabsAt (K w.params) h ts qn)
  (F:∀(w:World) (mg:Str→Option Value) (fa:Addr) (h:Heap),(K w.params).In h→h.Ns mainGlobals mg→mg d.name=some (.ref fa) →
   ∃ fd:FuncData,(∀(s:Shared) (u:Value),BindsTo s fd ⟨[u],[]⟩ [(x,u)]) ∧
    ∀ base:Heap,(K w.params).In base→base.Ns mainGlobals mg→zBe l.prog w (K w.params) mg base (CX w) k fa fd [x] (sp w))
  (hsp:∀(w:World) (H:Hp) (a:Addr) (ns:List Int),ns.length≤n→zMq H→SqL (K w.params) H a (ns.map V.int)→sp w [.ref a] H (fun v u0=>v=.bl true) fun u0 u0 u0=>False)
  (hCX:∀(w:World) (H:Hp) (s:Shared) (e:Value) (s':Shared),CX w [] H s (fun u0 u0 u0=>False) e s'→False) :
  PySem.W.WalkO q loose XP YP l.row.toRowW d [] (fun f vs=>PySem.call f vs):=by
 refine Att.zGo hn hdf fun w s₀ s₁ mg mb fa o pm cd doc a vs ns G Y ho hd hcd hmg hobj hints hlen hg=>?_
 obtain⟨KX,ts,qn,TB⟩:=hY w _ Y
 obtain⟨fd,hb,hF⟩:=F w mg fa _ KX G.T.g hmg
 exact zKy TB KX G.T.g G.T.b G.T.builtins G.T.nolimit hg hobj hints (cC hlen hn2) hr hF hb (fun H hO hS=>hsp w H a ns hlen hO hS) fun H e s'=>hCX w H s₁ e s'
noncomputable def zg(s:Stmt):Arguments:=match s with
 | .FunctionDef _ a _ _ _ _ _ _ _ _=>a
 | _=>{ posonlyargs:=[],args:=[],vararg:=none,kwonlyargs:=[],kw_defaults:=[],kwarg:=none,defaults:=[] }
noncomputable def zb(s:Stmt):List Stmt:=match s with
 | .FunctionDef _ _ b _ _ _ _ _ _ _=>b
 | _=>[]
noncomputable def zH(s:Stmt):Scope:=match s with
 | .FunctionDef _ _ _ _ _ _ sc _ _ _=>sc
 | _=>{ kind:=.function,names:=[],isGenerator:=false,isCoroutine:=false }
noncomputable abbrev CX0:CXT:=fun u0 u0 u0 u0 u0 u0=>False
noncomputable abbrev E0:XK:=fun u0 u0 u0=>False
theorem zNr{X:Cx}:zHq CX0 X E0:=fun u0 u0 u0 u0 u0 u0 u0 h=>h.elim
structure Fun (K:PySem.W.Frag) (x qual:Str) (st:Stmt) (f:Addr) (fd:FuncData):Prop where
 ex:∃(oc:Value) (od:Option Addr) (kV doc pm:Value) (an:Option Addr) (cdv ct:Value) (osl:Array (Option Value)),
  fd=PySem.W.fnOf x qual (zg st) (zb st) (zH st) .none kV doc pm an cdv ct∧K.lookup f=some ⟨oc,od,.func fd,osl⟩∧PySem.W.codeIn K cdv qual=true
 kp:PySem.W.keepIn K (.ref f)=true
section
variable {P:Program} {w:World} {K:PySem.W.Frag} {mg:Str→Option Value} {base:Heap}
theorem Fun.ok{x qual:Str}{st:Stmt}{f:Addr}{fd:FuncData}{N ps:List Str}{k:Nat}{sp:Sp}(F:Fun K x qual st f fd)(S:zd N ps (zH st))(len:∀ vs H Q E,sp vs H Q E→vs.length=ps.length)
  (hbody:∀(cdv:Value) (A:Around) (outer:List Env) (s:Shared) (H:Hp) (vs:List V) (Q:VK) (E:XK),wt k (A.deeper (envOfC qual (zH st) s.heap.objs.size f cdv))→sp vs H Q E →
   ∃ t,PSs (zF0 CX0 P w K mg base N qual (zH st) f cdv A outer s H E).nox (zb st) t∧t { nx:=fun u0 H'=>Q .non H',rt:=Q } (start N vs) H):zBe P w K mg base CX0 (k+1) f fd ps sp:=by
 obtain⟨oc,od,kV,doc,pm,an,cdv,ct,osl,rfl,lk,hcd⟩:=F.ex
 refine zPv lk hcd S len fun A outer s H vs Q E hr hsp=>?_
 obtain⟨t,h,q⟩:=hbody cdv A outer s H vs Q E hr hsp
 exact⟨t,h.nox,q⟩
theorem Fun.binds{x qual:Str}{st:Stmt}{f:Addr}{fd:FuncData}{ps:List Str}(F:Fun K x qual st f fd)
  (h:∀(kV doc pm:Value) (an:Option Addr) (cdv ct:Value) (us:List Value),us.length=ps.length→bindArgs (PySem.W.fnOf x qual (zg st) (zb st) (zH st) .none kV doc pm an cdv ct) ⟨us,[]⟩=pure (ps.zip us)):Binds K fd ps []:=by
 obtain⟨oc,od,kV,doc,pm,an,cdv,ct,osl,rfl,lk,hcd⟩:=F.ex
 exact .all (h kV doc pm an cdv ct)
theorem zp{x qual:Str}{st:Stmt}{f:Addr}{oc:Value}{od an:Option Addr}{osl:Array (Option Value)}{kV doc pm cdv ct:Value}(l:K.lookup f=some ⟨oc,od,.func (PySem.W.fnOf x qual (zg st) (zb st) (zH st) .none kV doc pm an cdv ct),osl⟩)
  (c:PySem.W.codeIn K cdv qual=true) (k:PySem.W.keepIn K (.ref f)=true):Fun K x qual st f (PySem.W.fnOf x qual (zg st) (zb st) (zH st) .none kV doc pm an cdv ct):=⟨⟨oc,od,kV,doc,pm,an,cdv,ct,osl,rfl,l,c⟩,k⟩
end
section
variable {X:Cx}
theorem pv(i:Nat){x:Str}{pos:Pos}(hN:X.N[i]?=some x:=by rfl)(hv:Vis X.env.scope x:=by first | exact Or.inl rfl | exact Or.inr (Or.inl rfl) | exact Or.inr (Or.inr rfl))(hd:(x==("__debug__":Str))=false:=by decide)
  (hcd:(x==("__classdict__":Str))=false:=by decide):PE X (.Name x pos) (zPd i):=zKl hN hv hd hcd
end
end L2
namespace K
end K
set_option maxHeartbeats 4000000
namespace L2
noncomputable def zDH(env:Env):List (Str×NameKind)→List (Str×Addr)→List (Str×Addr)
 | [],cs=>cs
 | (n,k)::r,cs=>zDH env r (if k==.free then match env.cells.lookup n with | some a=>(n,a)::cs | none=>cs else cs)
noncomputable def zJp(sc:Scope)(env:Env):List (Str×Addr):=zDH env sc.names []
theorem zFU{env:Env}:∀ {ns:List (Str×NameKind)} {cs:List (Str×Addr)} {x:Str} {c:Addr},(∀ y a,cs.lookup y=some a→env.cells.lookup y=some a)→(zDH env ns cs).lookup x=some c→env.cells.lookup x=some c
 | [],_,_,_,h,e=>h _ _ e
 | (n,k)::r,cs,x,c,h,e=>by
  unfold zDH at e
  refine zFU (ns:=r) (fun y a q=>?_) e
  by_cases hk:(k==NameKind.free)=true
  ·rw[if_pos hk] at q
   cases hc:env.cells.lookup n with
   | none=>rw[hc] at q;exact h y a q
   | some d =>
    rw[hc] at q
    cases hy:y==n with
    | true =>
     simp only[cw,hy] at q
     have:y=n:=by simpa using hy
     rw[this,hc];exact q
    | false =>
     simp only[cw,hy] at q
     exact h y a q
  ·rw[if_neg hk] at q;exact h y a q
theorem zJq{sc:Scope}{env:Env}{x:Str}{c:Addr}(e:(zJp sc env).lookup x=some c):env.cells.lookup x=some c :=
 zFU (fun u0 u0 q=>by simp at q) e
theorem zEG{env:Env}:∀ {ns:List (Str×NameKind)} {cs:List (Str×Addr)} {x:Str},(∀ y∈ns,y.2=.free→∃ c,env.cells.lookup y.1=some c)→((∃ c,cs.lookup x=some c)∨(x,NameKind.free)∈ns)→∃ c,(zDH env ns cs).lookup x=some c
 | [],cs,x,_,h=>by
  rcases h with h | h
  ·exact h
  ·cases h
 | (n,k)::r,cs,x,hh,h=>by
  unfold zDH
  refine zEG (ns:=r) (fun y hy=>hh y (ca _ hy)) ?_
  by_cases hk:k=.free
  ·subst hk
   obtain⟨c,hc⟩:=hh (n,.free) cc rfl
   have hc':env.cells.lookup n=some c:=hc
   simp only[beq_self_eq_true,if_true,hc']
   cases hx:x==n with
   | true=>exact .inl ⟨c,by simp[cw,hx]⟩
   | false =>
    rcases h with ⟨d,h⟩ | h
    ·exact .inl ⟨d,by simp[cw,hx,h]⟩
    ·rcases ce.mp h with e | h
     ·injection e with e1 _
      subst e1;simp at hx
     ·exact .inr h
  ·have hb:(k==NameKind.free)=false:=by simpa using hk
   simp only[hb,bp,if_false]
   rcases h with h | h
   ·exact .inl h
   ·rcases ce.mp h with e | h
    ·injection e with _ e2
     exact absurd e2.symm hk
    ·exact .inr h
theorem zGp{env:Env}:∀ {ns:List (Str×NameKind)} {cs:List (Str×Addr)},(∀ y∈ns,y.2=.free→∃ c,env.cells.lookup y.1=some c) →
  (forIn ns cs fun(x:Str×NameKind) (r:List (Str×Addr))=>if (x.2==NameKind.free)=true then (do let a ← cellOf env x.1;pure (ForInStep.yield ((x.1,a)::r)):Sem _) else pure (ForInStep.yield r))=(pure (zDH env ns cs):Sem _)
 | [],_,_=>rfl
 | (n,k)::r,cs,hh=>by
  rw[List.forIn_cons]
  have ih:=fun cs'=>zGp (env:=env) (ns:=r) (cs:=cs') fun y hy=>hh y (ca _ hy)
  by_cases hk:k=.free
  ·subst hk
   obtain⟨c,hc⟩:=hh (n,.free) cc rfl
   have hc':env.cells.lookup n=some c:=hc
   have e:cellOf env n=pure c:=by unfold cellOf;rw[hc']
   simp only[beq_self_eq_true,if_true,e,pure_bind]
   rw[ih]
   have q:zDH env ((n,NameKind.free)::r) cs=zDH env r ((n,c)::cs):=by simp only[zDH,beq_self_eq_true,if_true,hc']
   rw[q]
  ·have hb:(k==NameKind.free)=false:=by simpa using hk
   simp only[hb,bp,if_false,pure_bind]
   rw[ih]
   have q:zDH env ((n,k)::r) cs=zDH env r cs:=by simp only[zDH,hb,bp,if_false]
   rw[q]
theorem zCM{sc:Scope}{env:Env}(hh:∀ y∈sc.names,y.2=.free→∃ c,env.cells.lookup y.1=some c):closureFor sc env=pure (zJp sc env):=by
 have e:=zGp (env:=env) (ns:=sc.names) (cs:=[]) hh
 unfold closureFor
 show(forIn sc.names [] (fun(x:Str×NameKind) (r:List (Str×Addr))=>(match x with | (name,kind)=>if (kind==NameKind.free)=true then (do let a ← cellOf env name;pure (ForInStep.yield ((name,a)::r))) else pure (ForInStep.yield r):Sem (ForInStep (List (Str×Addr)))))>>=fun s=>pure s)=_
 have hb:(fun(x:Str×NameKind) (r:List (Str×Addr))=>(match x with | (name,kind)=>if (kind==NameKind.free)=true then (do let a ← cellOf env name;pure (ForInStep.yield ((name,a)::r))) else pure (ForInStep.yield r):Sem (ForInStep (List (Str×Addr))))) =
   fun(x:Str×NameKind) (r:List (Str×Addr))=>if (x.2==NameKind.free)=true then (do let a ← cellOf env x.1;pure (ForInStep.yield ((x.1,a)::r)):Sem _) else pure (ForInStep.yield r):=by
  funext x r
  obtain⟨n,k⟩:=x
  rfl
 rw[hb,e]
 rfl
noncomputable def Cx.comp(X:Cx)(N':List Str)(sc:Scope)(C:Addr)(s:Shared)(H:Hp)(fp:List Addr)(pins:List (Addr×Obj)):Cx :=
 { X with N:=N',s₀:=s,H₀:=H,env:=compEnvC sc (zJp sc X.env) C X.env,outer:=X.stack,ex:=fp,fn:=fun u0=>false,pn:=X.pn++pins,xe:=fun u0 u0=>False }
noncomputable def PTs(X:Cx)(ifs:List Expr)(t:TT):Prop :=
 ∀(pins:List (Addr×Obj)) (s:Shared) (σ:St) (H:Hp) (Q:Bool→Hp→Prop),zW X pins σ H s→t σ H Q →
  wpAny (model X.prog X.w) X.A (forIn ifs true fun c r=>if r=true then do let ok ← isTrue c X.env (eval c X.env);pure (ForInStep.yield ok) else pure (ForInStep.yield r)) (TP X pins σ Q) X.xe s
noncomputable def zQn:TT:=fun u0 H Q=>Q true H
theorem zMs{X:Cx}:PTs X [] zQn:=fun u0 u0 u0 H u0 I h=>wpAny_tests_nil ⟨H,I,h⟩
theorem zMt{X:Cx}{c:Expr}{t:TT}(h:PT X c t):PTs X [c] t:=fun pins s σ H Q I hq=>wpAny_tests_one (h pins s σ H Q I hq)
noncomputable def zKz(n0:Nat)(wi:TI)(g:TG)(tc:TT)(te:TE):TE:=fun σ H Q=>wi σ H fun J H1=>∀ D,H1 D=none→∃ W:Nat→Nat→Hp→Prop,(∃ m,W 0 m (wd H1 D (.lst []))) ∧
 ∀ i m H2,W i m H2→(J.stop i H2∧Q (.ref D) H2) ∨
  (J.go i H2∧∀ x H3,J.yld i H2 x H3→g x (σ++bL n0 none) H3 fun σ4 H4=>σ4.take σ.length=σ∧σ4.length=σ.length+n0∧tc σ4 H4 fun b H5 =>
   if b=true then te σ4 H5 fun v H6=>∃ acc,H6 D=some (.lst acc)∧acc.length<sizeLine∧∃ m',m'<m∧W (i+1) m' (wd H6 D (.lst (acc++[v]))) else ∃ m',m'<m∧W (i+1) m' H5)
theorem PE.mono{X:Cx}{e:Expr}{t t':TE}(h:PE X e t)(hm:∀ σ H Q,t' σ H Q→t σ H Q):PE X e t':=fun pins s σ H Q I q=>h pins s σ H Q I (hm σ H Q q)
theorem PT.mono{X:Cx}{e:Expr}{t t':TT}(h:PT X e t)(hm:∀ σ H Q,t' σ H Q→t σ H Q):PT X e t':=fun pins s σ H Q I q=>h pins s σ H Q I (hm σ H Q q)
theorem PS.mono{X:Cx}{e:Stmt}{t t':TS}(h:PS X e t)(hm:∀ D σ H,t' D σ H→t D σ H):PS X e t':=fun pins s σ H D I q=>h pins s σ H D I (hm D σ H q)
section
variable {X:Cx} {tg elt iter:Expr} {ifs:List Expr} {sc:Scope} {pos:Pos} {N0 own:List Str} {wi:TI} {g:TG} {tc:TT} {te:TE}
structure zCX (X:Cx) (sc:Scope) (N0:List Str):Prop where
 kind:sc.kind=.function
 cell:∀ y∈sc.names,y.2≠.cell
 names:∀ y∈sc.names,y.2=.local→sc.names.lookup y.1=some .local
 cap:∀ y∈sc.names,y.2=.free→X.env.kindOf y.1=some .cell∨X.env.kindOf y.1=some .free
 len:N0.length=X.N.length
 vis:∀(i:Nat) (x:Str),N0[i]?=some x→Vis (relabel sc X.env) x→X.N[i]?=some x∧sc.names.lookup x=some .free
theorem zAr{env:Env}:∀ {names:List (Str×NameKind)} {x:Str},(∀ y∈names,y.2≠.cell) →
    ((names.map fun(n,k)=>if (k==NameKind.free&&env.scope.kind==.function&&env.kindOf n==some .cell) then (n,NameKind.cell) else (n,k)).lookup x=some .cell ∨
     (names.map fun(n,k)=>if (k==NameKind.free&&env.scope.kind==.function&&env.kindOf n==some .cell) then (n,NameKind.cell) else (n,k)).lookup x=some .free)→names.lookup x=some .free
  | [],_,_,h=>by rcases h with h | h<;>simp at h
  | (n,k)::r,x,hc,h=>by
    have ih:=@zAr env r x fun y hy=>hc y (ca _ hy)
    have hk:k≠.cell:=hc (n,k) cc
    have hd:∀(z:NameKind),(((n,k)::r).map fun(n,k)=>if (k==NameKind.free&&env.scope.kind==.function&&env.kindOf n==some .cell) then (n,NameKind.cell) else (n,k)).lookup x=some z →
        if (x==n)=true then (if (k==NameKind.free&&env.scope.kind==.function&&env.kindOf n==some .cell)=true then z=.cell else z=k) else (r.map fun(n,k)=>if (k==NameKind.free&&env.scope.kind==.function&&env.kindOf n==some .cell) then (n,NameKind.cell) else (n,k)).lookup x=some z:=by
      intro z e
      have e':List.lookup x ((if (k==NameKind.free&&env.scope.kind==.function&&env.kindOf n==some .cell)=true then (n,NameKind.cell) else (n,k))::(r.map fun(n,k)=>if (k==NameKind.free&&env.scope.kind==.function&&env.kindOf n==some .cell) then (n,NameKind.cell) else (n,k)))=some z:=e
      cases hx:x==n with
      | true =>
        rw[if_pos rfl]
        by_cases hq:(k==NameKind.free&&env.scope.kind==.function&&env.kindOf n==some .cell)=true
        · rw[if_pos hq] at e' ⊢
          simp only[cw,hx] at e'
          exact(Option.some.inj e').symm
        · rw[if_neg hq] at e' ⊢
          simp only[cw,hx] at e'
          exact(Option.some.inj e').symm
      | false =>
        rw[if_neg (by simp)]
        by_cases hq:(k==NameKind.free&&env.scope.kind==.function&&env.kindOf n==some .cell)=true
        · rw[if_pos hq] at e';simpa only[cw,hx] using e'
        · rw[if_neg hq] at e';simpa only[cw,hx] using e'
    cases hx:x==n with
    | true =>
      simp only[cw,hx]
      rcases h with h | h
      · have q:=hd _ h
        rw[if_pos hx] at q
        by_cases hq:(k==NameKind.free&&env.scope.kind==.function&&env.kindOf n==some .cell)=true
        · have:(k==NameKind.free)=true:=by
            cases hk':k==NameKind.free with
            | true=>rfl
            | false=>simp[hk'] at hq
          have:k=.free:=by simpa using this
          rw[this]
        · rw[if_neg hq] at q;exact absurd q.symm hk
      · have q:=hd _ h
        rw[if_pos hx] at q
        by_cases hq:(k==NameKind.free&&env.scope.kind==.function&&env.kindOf n==some .cell)=true
        · rw[if_pos hq] at q;cases q
        · rw[if_neg hq] at q;rw[← q]
    | false =>
      simp only[cw,hx]
      refine ih ?_
      rcases h with h | h
      · have q:=hd _ h
        rw[if_neg (by simp[hx])] at q;exact .inl q
      · have q:=hd _ h
        rw[if_neg (by simp[hx])] at q;exact .inr q
theorem zJr{X':Cx}{σ:St}{it D:Addr}{fp:List Addr}{tn:Nat→Heap→Prop}{J:It}{Q:VK}{W:Nat→Nat→Hp→Prop}{Z:Hp→Shared→Prop}{H0:Hp}{s₅:Shared}{m0:Nat}(hc:X'.calm=true)(hx:∀ v s,X'.xe v s→False)(Tn:Turn X'.prog X'.w X'.K tg J fp it tn)
  (hg:PG X' tg g) (ht:PTs X' ifs tc) (he:PE X' elt te)
  (turn:∀ i m H2,W i m H2→(J.stop i H2∧Q (.ref D) H2) ∨
    (J.go i H2∧∀ x H3,J.yld i H2 x H3→g x (σ++bL own.length none) H3 fun σ4 H4=>σ4.take σ.length=σ∧σ4.length=σ.length+own.length∧tc σ4 H4 fun b H5 =>
     if b=true then te σ4 H5 fun v H6=>∃ acc,H6 D=some (.lst acc)∧acc.length<sizeLine∧∃ m',m'<m∧W (i+1) m' (wd H6 D (.lst (acc++[v]))) else ∃ m',m'<m∧W (i+1) m' H5))
  (fpX:∀ {H:Hp},(∀ b∈fp,H b=none)→∀ b∈fp,zDF X' [] H b) (back:∀ {σ':St} {H':Hp} {s':Shared},zW X' [] σ' H' s'→Z H' s')
  (I4:zW X' [] (σ++bL own.length none) H0 s₅) (st4:tn 0 s₅.heap) (fpD:∀ b∈fp,H0 b=none) (w0:W 0 m0 H0) :
  codeAny (model X'.prog X'.w) X'.A (.compLoop (.ListComp elt [⟨tg,iter,ifs,0⟩] sc pos) 0 (.ref it) (.ref D) X'.env) (fun r s'=>∃ H',r=.ok .next∧Z H' s'∧Q (.ref D) H') s₅:=by
  refine codeAny_loop rfl (fun n s'=>∃ i H',zW X' [] (σ++bL own.length none) H' s'∧tn i s'.heap∧(∀ b∈fp,H' b=none)∧W i n H') (fun n s6=>?_) m0 ⟨0,_,I4,st4,fpD,w0⟩
  rintro⟨i,H6,I6,st6,fr6,w6⟩
  show wpAny _ X'.A ((compTurn (.ListComp elt [⟨tg,iter,ifs,0⟩] sc pos) 0 (.ref it) (.ref D) X'.env).onRaise (fun x=>do noteFrame x X'.env;theTreesLotGoes x)) _ _ s6
  refine wpAny_noted ?_
  rw[compTurn_list]
  have nox:∀ {α:Type} {t:Sem α} {Q:α→Shared→Prop} {E':Value→Shared→Prop} {s:Shared},wpAny (model X'.prog X'.w) X'.A t Q X'.xe s→wpAny (model X'.prog X'.w) X'.A t Q E' s:=fun h=>wpAny_mono h (fun u0 u0 q=>q) fun v s z=>(hx v s z).elim
  refine bq (wpAny_standAt (bq ?_))
  rcases turn i n H6 w6 with ⟨stop,qn⟩ | ⟨go,step⟩
  ·refine nox (wM (Tn.done X' rfl rfl rfl hc i [] s6 _ H6 _ I6 (fpX fr6) st6 stop) fun r s7 ⟨hr,I7⟩=>?_)
   subst hr
   exact bC ⟨H6,rfl,back I7,qn⟩
  ·refine nox (wM (Tn.item X' rfl rfl rfl hc i [] s6 _ H6 _ I6 (fpX fr6) st6 go) fun r s7 ⟨u,hr,h7⟩=>?_)
   subst hr
   refine bq (nox (wM h7 fun _ s8 ⟨x,H8,I8,r8,y8,st8,fr8⟩=>?_))
   have I8':=I8.pinned (fpX fr8) (Tn.obj _ _ st8)
   refine bq (nox (wM (hg _ s8 _ H8 x u _ I8' r8 (step x H8 y8)) fun _ s9 ⟨σ9,H9,I9,q1,q2,q9⟩=>?_))
   have again:∀ {s':Shared} {H':Hp},zW X' ([]++zEB fp s8.heap) σ9 H' s'→(∃ m',m'<n∧W (i+1) m' H')→∃ m,m<n∧∃ i H',zW X' [] (σ++bL own.length none) H' s'∧tn i s'.heap∧(∀ b∈fp,H' b=none)∧W i m H':=by
    intro s' H' J ⟨m',hm,w'⟩
    refine⟨m',hm,i+1,H',?_,Tn.keep _ _ _ st8 fun b hb o e=>(J.pin (b,o) (cG _ (cG _ (zBJ hb e)))).1,fun b hb=>?_,w'⟩
    ·refine(J.unpinned).weak ?_ fun j v e=>?_
     ·rw[q2,bI,List.length_replicate]
     ·have hj:j<σ.length:=by
       by_cases hj:j<σ.length
       ·exact hj
       ·rw[cn (by omega),eB] at e
        split at e<;>cases e
      rw[cj hj] at e
      rw[← q1,List.getElem?_take_of_lt hj] at e
      exact e
    ·obtain⟨o,e,d⟩:=Tn.obj _ _ st8 b hb
     exact(J.pin (b,o) (cG _ (cG _ (zBJ hb e)))).2.1
   refine bq (nox (wM (ht _ s9 σ9 H9 _ I9 q9) fun ok s10 ⟨H10,I10,q10⟩=>?_))
   cases ok with
   | false=>exact bC ⟨rfl,again I10 q10⟩
   | true =>
    refine bq (bq (nox (wM (he _ s10 σ9 H10 _ I10 q10) fun uv s11 ⟨v,H11,I11,r11,acc,hD11,hz,q11⟩=>?_)))
    refine bq (nox (wM (zFT _ s11 σ9 H11 (.ref D) [v] (.ref D) [uv] (fun u0 H12=>H12=wd H11 D (.lst (acc++[v]))) I11 rfl (.cons r11 .nil) ⟨_,acc,v,rfl,rfl,hD11,hz,rfl⟩) fun _ s12 ⟨_,H12,I12,_,q12⟩=>?_))
    subst q12
    exact bC (bC ⟨rfl,again I12 q11⟩)
theorem zEH{pins:List (Addr×Obj)}{σ:St}{s₂:Shared}{itv:Value}{Q:VK}{E:Value→Shared→Prop}(hc:X.calm=true)(T:zCX X sc N0)
  (hg:∀ C s H fp pins,PG (X.comp (N0++own) sc C s H fp pins) tg g) (ht:∀ C s H fp pins,PTs (X.comp (N0++own) sc C s H fp pins) ifs tc) (he:∀ C s H fp pins,PE (X.comp (N0++own) sc C s H fp pins) elt te)
  (h:PIE X pins σ tg (fun J H1=>∀ D,H1 D=none→∃ W:Nat→Nat→Hp→Prop,(∃ m,W 0 m (wd H1 D (.lst []))) ∧
   ∀ i m H2,W i m H2→(J.stop i H2∧Q (.ref D) H2) ∨
    (J.go i H2∧∀ x H3,J.yld i H2 x H3→g x (σ++bL own.length none) H3 fun σ4 H4=>σ4.take σ.length=σ∧σ4.length=σ.length+own.length∧tc σ4 H4 fun b H5 =>
     if b=true then te σ4 H5 fun v H6=>∃ acc,H6 D=some (.lst acc)∧acc.length<sizeLine∧∃ m',m'<m∧W (i+1) m' (wd H6 D (.lst (acc++[v]))) else ∃ m',m'<m∧W (i+1) m' H5)) itv s₂) :
  wpAny (model X.prog X.w) X.A (newList []) (fun acc s₃=>wpAny (model X.prog X.w) X.A (newFunctionEnv sc X.env.globals (zJp sc X.env) [] X.env.qual none .none (some X.env)) (fun cenv s₄ =>
   codeAny (model X.prog X.w) X.A (.compStart (.ListComp elt [⟨tg,iter,ifs,0⟩] sc pos) 0 itv acc { cenv with scope:=relabel sc X.env })
    (fun r s'=>∃ D H' m,r=.ok .next∧acc=.ref D∧zW X pins σ H' s'∧zDF X pins H' cenv.locals∧s'.heap.Ns cenv.locals m∧Q (.ref D) H') s₄) E s₃) E s₂:=by
 obtain⟨it,fp,tn,J,H1,rfl,I2,Tn,st2,f2,hR⟩:=h
 refine cW (wpAny_newFunctionEnv T.cell (by intro y hy;simp at hy) (fun h₁ hns₁ hsb₁=>?_) T.kind)
 dsimp only at hns₁ hsb₁ ⊢
 generalize hH2:s₂.heap.push { cls:=.type "list",dict:=none,data:=.seq ([]:List Value).toArray }=h3 at hns₁ hsb₁ ⊢
 have hC:h3.objs.size=s₂.heap.objs.size+1:=by rw[← hH2,e7]
 -- the list
 have I3:zW X pins σ (wd H1 s₂.heap.objs.size (.lst [])) { s₂ with heap:=h3 }:=by
  rw[← hH2]
  exact I2.laid (t':=s₂.toks) (fun b u e=>bz _ e) (bF _) ⟨by simp,[],0,.nil,bM _ rfl⟩
 have fD:H1 s₂.heap.objs.size=none:=I2.hok.fresh (bF _)
 obtain⟨W,⟨m0,w0⟩,turn⟩:=hR _ fD
 have kp:∀ b o,h3.get? b=some o→h₁.get? b=some o:=fun b o e=>hsb₁.extBut b o (cg (bP e)) (bz _ e)
 have fp2:∀ b∈fp,b<s₂.heap.objs.size:=fun b hb=>by
  obtain⟨o,e,u0⟩:=Tn.obj _ _ st2 b hb
  exact bP e
 -- the block's context
 have CK:∀ x c,(zJp sc X.env).lookup x=some c→X.env.cells.lookup x=some c:=fun x c e=>zJq e
 have nofs:∀ {b:Addr},h3.objs.size≤b→b∉frs X.stack:=fun {b} hb z=>by
  rcases ce.mp (I3.stkSub b z) with e | z
  ·exact absurd (bX I3.lt (show h3.objs.size≤X.env.locals by rw[← e];exact hb)) (de _)
  ·exact I3.nofs (a:=b) hb z
 have fpS:∀ b∈fp,b∉frs X.stack:=fun b hb z=>by
  rcases ce.mp (I3.stkSub b z) with e | z
  ·exact(f2 b hb).2.1 e
  ·exact(f2 b hb).2.2.1 z
 have fpD:∀ b∈fp,wd H1 s₂.heap.objs.size (.lst []) b=none:=fun b hb=>by rw[yL (cg (fp2 b hb))];exact(f2 b hb).1
 have pinS:∀ p∈X.pn++pins,p.1∉frs X.stack:=fun p hp z=>by
  obtain⟨u0,u0,n1,n2,u0⟩:=I3.pin p hp
  rcases ce.mp (I3.stkSub p.1 z) with e | z
  ·exact n1 e
  ·exact n2 z
 let X':=X.comp (N0++own) sc h3.objs.size { s₂ with heap:=h3 } (wd H1 s₂.heap.objs.size (.lst [])) fp pins
 have cells':∀ x,(X'.env.kindOf x=some .cell∨X'.env.kindOf x=some .free)→sc.names.lookup x=some .free:=fun x hx=>zAr T.cell hx
 have hfree:∀ y∈sc.names,y.2=.free→∃ c,X.env.cells.lookup y.1=some c:=fun y hy hf=>I2.ok.has _ (T.cap y hy hf)
 have ok':X'.Ok:=by
  refine⟨I3.ok.mod,?_,I3.ok.glob,I3.ok.blt,bF _,fun x y c e1 e2=>I3.ok.inj x y c (CK _ _ e1) (CK _ _ e2),fun x hx=>?_,fun x c z=>(by cases z),I3.ok.hd,I3.ok.frames,.inl rfl,fun b hb=>⟨?_,fun x c e=>?_⟩,I3.bs,cC I3.ok.bsz I3.sz,fun b o e hb=>?_,fpS,I3.stack,I3.stkFree,I3.tabs⟩
  ·exact T.kind
  ·have hx':=cells' x hx
   exact zEG hfree (.inr (PySem.mem_of_lookup hx'))
  ·exact cg (bX (fp2 b hb) (by show s₂.heap.objs.size≤h3.objs.size;rw[hC];exact dh _))
  ·exact(f2 b hb).2.2.2.2.1 x c (CK x c e)
  ·have:=(I3.bs b o e).1
   rcases(f2 b hb).2.2.2.1 with z | z
   ·exact I3.ok.noex b o e z
   ·have:=bX (bP e) I3.ok.bsz
    exact absurd (bX this z) (de _)
 have hlook:∀(i:Nat) (x:Str) (v:V),(N0++own)[i]?=some x→(σ++bL own.length none)[i]?=some (some v)→Vis (relabel sc X.env) x→∃ c u,RelV v u∧X'.env.cells.lookup x=some c∧(X'.env.kindOf x=some .cell∨X'.env.kindOf x=some .free)∧h3.IsCell c (some u):=by
  intro i x v e1 e2 e3
  have hi:i<σ.length:=by
   by_cases hi:i<σ.length
   ·exact hi
   ·rw[cn (by omega),eB] at e2
    split at e2<;>cases e2
  have e2':σ[i]?=some (some v):=by rw[cj hi] at e2;exact e2
  have hi0:i<N0.length:=by rw[T.len,← I3.len];exact hi
  have e1':N0[i]?=some x:=by rw[cj hi0] at e1;exact e1
  obtain⟨n1,n2⟩:=T.vis i x e1' e3
  have cp:=T.cap _ (PySem.mem_of_lookup n2) rfl
  obtain⟨m,hn,hl⟩:=I3.loc
  have vis:Vis X.env.scope x:=by
   rcases cp with z | z
   ·exact .inr (.inl z)
   ·exact .inr (.inr z)
  obtain⟨u,r,l⟩:=hl i x v n1 e2' vis
  obtain⟨c',hc'⟩:=zEG (env:=X.env) (ns:=sc.names) (cs:=[]) (x:=x) hfree (.inr (PySem.mem_of_lookup n2))
  have hc2:(zJp sc X.env).lookup x=some c':=hc'
  rcases l with ⟨z,u0⟩ | ⟨u0,c,e,q⟩
  ·rcases cp with z' | z'<;>(rw[z] at z';cases z')
  ·have:c=c':=by
    have:=CK _ _ hc2
    rw[e] at this;exact Option.some.inj this
   subst this
   refine⟨c,u,r,hc2,?_,q⟩
   rcases e3 with z | z | z
   ·exfalso
    have:=lookup_relabel_local (env:=X.env) (names:=sc.names) (x:=x)
    -- a free name is not relabelled local
    have nl:∀ {names:List (Str×NameKind)},names.lookup x=some .free→(names.map fun(n,k)=>if (k==NameKind.free&&X.env.scope.kind==.function&&X.env.kindOf n==some .cell) then (n,NameKind.cell) else (n,k)).lookup x≠some .local:=by
     intro names
     induction names with
     | nil=>intro h;simp at h
     | cons p r ih =>
      obtain⟨n,k⟩:=p
      intro h
      show List.lookup x ((if (k==NameKind.free&&X.env.scope.kind==.function&&X.env.kindOf n==some .cell)=true then (n,NameKind.cell) else (n,k))::_)≠_
      cases hx:x==n with
      | true =>
       simp only[cw,hx] at h
       cases h
       by_cases hq:(NameKind.free==NameKind.free&&X.env.scope.kind==.function&&X.env.kindOf n==some .cell)=true
       ·rw[if_pos hq];simp[cw,hx]
       ·rw[if_neg hq];simp[cw,hx]
      | false =>
       simp only[cw,hx] at h
       by_cases hq:(k==NameKind.free&&X.env.scope.kind==.function&&X.env.kindOf n==some .cell)=true
       ·rw[if_pos hq];simp only[cw,hx];exact ih h
       ·rw[if_neg hq];simp only[cw,hx];exact ih h
    exact nl n2 z
   ·exact .inl z
   ·exact .inr z
 have σl:(σ++bL own.length none).length=(N0++own).length:=by
  rw[bI,bI,List.length_replicate,T.len,← I3.len]
 have I4:zW X' [] (σ++bL own.length none) (wd H1 s₂.heap.objs.size (.lst [])) { s₂ with heap:=h₁,toks:=s₂.toks+([]:List (Str×Value)).length }:=by
  refine⟨ok',rfl,I3.bare,Un.kept kp,⟨_,hns₁,fun i x v e1 e2 e3=>?_⟩,fun x c e=>?_,I3.hok.fresh (bF _),fun x c e=>I3.freeC x c (CK x c e),fun p hp=>?_,I3.hok.kept kp,σl⟩
  ·obtain⟨c,u,r,q1,q2,q3⟩:=hlook i x v e1 e2 e3
   obtain⟨o,ho,hd⟩:=q3
   exact⟨u,r,.inr ⟨q2,c,q1,o,kp c o ho,hd⟩⟩
  ·obtain⟨v,o,ho,hd⟩:=I3.cell x c (CK x c e)
   exact⟨v,o,kp c o ho,hd⟩
  ·have hp':p∈X.pn++pins:=by
    have:p∈(X.pn++pins)++[]:=hp
    simpa using this
   obtain⟨e,n,ne,nf,d⟩:=I3.pin p hp'
   exact⟨kp _ _ e,n,cg (bP e),pinS p hp',d⟩
 have fpX:∀ {H:Hp},(∀ b∈fp,H b=none)→∀ b∈fp,zDF X' [] H b:=fun {H} hn b hb=>by
  refine⟨hn b hb,(ok'.exf b hb).1,fpS b hb,.inl hb,(ok'.exf b hb).2,fun p hp=>?_⟩
  have hp':p∈X.pn++pins:=by
   have:p∈(X.pn++pins)++[]:=hp
   simpa using this
  exact(f2 b hb).2.2.2.2.2 p hp'
 have st4:tn 0 h₁:=Tn.keep 0 s₂.heap h₁ st2 fun b hb o e=>kp b o (hH2▸bz _ e)
 -- back to the context around
 have back:∀ {σ':St} {H':Hp} {s':Shared},zW X' [] σ' H' s'→zW X pins σ H' s'∧zDF X pins H' h3.objs.size∧∃ m,s'.heap.Ns h3.objs.size m:=fun {σ' H' s'} J=>by
  have u:Un (frs X.stack) fp (wd H1 s₂.heap.objs.size (.lst [])) H' h3 s'.heap:=J.base
  have J3:zW X pins σ H' s':=I3.call' J.os u J.hok J.bare fun b hb=>⟨(f2 b hb).2.2.2.1,(f2 b hb).2.1,(f2 b hb).2.2.2.2.1,(f2 b hb).2.2.2.2.2⟩
  obtain⟨m,hn,u0⟩:=J.loc
  refine⟨J3,?_,m,hn⟩
  refine⟨J.free,Nat.ne_of_gt I3.lt,I3.nofs (bF _),.inr I3.sz,fun x c e z=>?_,fun p hp z=>?_⟩
  ·obtain⟨v,q⟩:=I3.cell x c e
   exact absurd (bX q.lt (by rw[z];exact bF _)) (de _)
  ·exact absurd (bX (bP (I3.pin p hp).1) (by rw[z];exact bF _)) (de _)
 have loop:∀ s₅:Shared,s₅={ s₂ with heap:=h₁,toks:=s₂.toks+([]:List (Str×Value)).length } →
   codeAny (model X.prog X.w) X.A (.compLoop (.ListComp elt [⟨tg,iter,ifs,0⟩] sc pos) 0 (.ref it) (.ref s₂.heap.objs.size) X'.env)
    (fun r s'=>∃ D H' m,r=.ok .next∧Value.ref s₂.heap.objs.size=.ref D∧zW X pins σ H' s'∧zDF X pins H' h3.objs.size∧s'.heap.Ns h3.objs.size m∧Q (.ref D) H') s₅:=by
  rintro s₅ rfl
  exact dN (zJr (X':=X') (Z:=fun H' s'=>zW X pins σ H' s'∧zDF X pins H' h3.objs.size∧∃ m,s'.heap.Ns h3.objs.size m) hc (fun u0 u0 z=>z) Tn (hg _ _ _ _ _) (ht _ _ _ _ _) (he _ _ _ _ _) turn fpX back I4 st4 fpD w0) fun r s' ⟨H',e,⟨b1,b2,m,b3⟩,q⟩=>⟨_,H',m,e,rfl,b1,b2,b3,q⟩
 exact codeAny_compStart_list (loop _ rfl) (Tn.self _ 0 _ _ _ st4 (loop _ rfl))
theorem zIw(hc:X.calm=true)(T:zCX X sc N0)(hi:PI X tg iter wi)
  (hg:∀ C s H fp pins,PG (X.comp (N0++own) sc C s H fp pins) tg g) (ht:∀ C s H fp pins,PTs (X.comp (N0++own) sc C s H fp pins) ifs tc) (he:∀ C s H fp pins,PE (X.comp (N0++own) sc C s H fp pins) elt te)
  (hs:∀ x,foldedSetIterable iter X.env x=pure x:=by intro u0;rfl):PE X (.ListComp elt [⟨tg,iter,ifs,0⟩] sc pos) (zKz own.length wi g tc te):=by
 intro pins s σ H Q I h
 rw[eval_ListComp]
 refine wpAny_comprehension_free (use:=none) rfl hs (zCM fun y hy hf=>I.ok.has _ (T.cap y hy hf)) T.kind T.names ?_
 refine wM (hi pins s σ H _ I h) fun xv s₁ h₁=>wM h₁ fun it s₂ h₂=>?_
 refine wM (zEH (iter:=iter) (pos:=pos) (E:=X.xe) (Q:=Q) hc T hg ht he h₂) fun acc s₃ h₃=>wM h₃ fun cenv s₄ h₄=>dN h₄ fun r s' hr=>?_
 obtain⟨D,H',m,rfl,rfl,J,f,hn,q⟩:=hr
 refine⟨m,hn,fun h' hs'=>⟨.ref D,H',?_,rfl,q⟩⟩
 exact J.turned (t':=s'.toks) (fun b o hb e=>(hs'.2 b hb).trans e) f.1 f.2.1 f.2.2.2.1 f.2.2.2.2.1 f.2.2.2.2.2
theorem zHx{i:Nat}{y:Str}{py spos:Pos}(hc:X.calm=true)(T:zCX X sc N0)(hi:PI X tg iter wi)
  (hg:∀ C s H fp pins,PG (X.comp (N0++own) sc C s H fp pins) tg g) (ht:∀ C s H fp pins,PTs (X.comp (N0++own) sc C s H fp pins) ifs tc) (he:∀ C s H fp pins,PE (X.comp (N0++own) sc C s H fp pins) elt te)
  (hN:X.N.Nodup) (hy:X.N[i]?=some y) (hl:X.env.scope.names.lookup y=some .local)
  (hsw:swapsWith (.ListComp elt [⟨tg,iter,ifs,0⟩] sc pos) (some (.Name y py)) spos.line X.env=pure true)
  (hs:∀ x,foldedSetIterable iter X.env x=pure x:=by intro u0;rfl):PS X (.Assign [.Name y py] (.ListComp elt [⟨tg,iter,ifs,0⟩] sc pos) spos) (fun D σ H=>zKz own.length wi g tc te σ H fun v H1=>D.nx (σ.set i (some v)) H1):=by
 intro pins s σ H D I h
 rw[exec_Assign_Name_used _ _ _ _ hsw]
 refine bq (wpAny_standAt (bq ?_))
 show wpAny _ X.A (do let _ ← comprehension (.ListComp elt [⟨tg,iter,ifs,0⟩] sc pos) sc X.env _ (newList []) false (eval iter X.env) (some (assign (.Name y py) X.env))) _ _ s
 refine bq (wpAny_mono (wpAny_comprehension_free (use:=some (assign (.Name y py) X.env)) (Q:=fun u0 s'=>SP X pins D .next s') rfl hs (zCM fun y hy hf=>I.ok.has _ (T.cap y hy hf)) T.kind T.names
  (wM (hi pins s σ H _ I h) fun xv s₁ h₁=>wM h₁ fun it s₂ h₂=>?_)) (fun u0 s' hq=>bC (bC hq)) fun u0 u0 e=>e)
 refine wM (zEH (iter:=iter) (pos:=pos) (E:=X.xe) (Q:=fun v H1=>D.nx (σ.set i (some v)) H1) hc T hg ht he h₂) fun acc s₃ h₃=>wM h₃ fun cenv s₄ h₄=>dN h₄ fun r s' hr=>?_
 obtain⟨A,H',m,rfl,rfl,J,f,hn,q⟩:=hr
 show wpAny _ X.A (assign (.Name y py) X.env (.ref A)) _ _ _
 refine wpAny_assign_Name (zFN J hN hy (.inl hl) (v:=.ref A) rfl (fun s'' J' ⟨a,sb,ha⟩=>?_) (.inr hl))
 have hCa:cenv.locals≠a:=by
  rcases ha with z | z
  ·rw[z];exact f.2.1
  ·exact fun e=>f.2.2.2.2.1 y a z e.symm
 refine⟨m,hn.sameBut sb hCa,fun h' hs'=>⟨_,H',?_,q⟩⟩
 exact J'.turned (t':=s''.toks) (fun b o hb e=>(hs'.2 b hb).trans e) f.1 f.2.1 f.2.2.2.1 f.2.2.2.2.1 f.2.2.2.2.2
end
end L2
namespace L3
open L2
set_option genInjectivity true in
inductive D where
 | non | bl (b:Bool) | int (i:Int) | str (x:Str) | tup (ds:List D) | adr (a:Addr) | dic (a:Addr)
mutual
noncomputable def zQ(K:PySem.W.Frag)(H:Hp):D→V→Prop
 | .non,v=>v=V.non
 | .bl b,v=>v=V.bl b
 | .int i,v=>v=V.int i
 | .str x,v=>v=V.str x
 | .adr a,v=>v=V.ref a
 | .dic a,v=>v=V.ref a∧∃ o x,H a=some (.frz o (.own x))∧o.cls=.type "dict"
 | .tup ds,v=>∃ a xs,v=V.ref a∧SqT K H a xs∧Dens K H ds xs
noncomputable def Dens(K:PySem.W.Frag)(H:Hp):List D→List V→Prop
 | [],xs=>xs=[]
 | d::ds,xs=>∃ x r,xs=x::r∧zQ K H d x∧Dens K H ds r
end
structure Gp where
 m:Addr→Option (List D)
 ro:Addr→Option (List D)
noncomputable def zN(G:Gp)(a:Addr)(o:List D):Gp:={ G with m:=fun b=>if b=a then some o else G.m b }
theorem zF{G:Gp}{a:Addr}{o:List D}:(zN G a o).m a=some o:=if_pos rfl
theorem zO{G:Gp}{a b:Addr}{o:List D}(h:b≠a):(zN G a o).m b=G.m b:=if_neg h
theorem zDI{G:Gp}{a:Addr}{o u:List D}:zN (zN G a o) a u=zN G a u:=by
 unfold zN
 congr 1
 funext b;by_cases h:b=a
 ·simp only[if_pos h]
 ·simp only[if_neg h]
theorem gne{G:Gp}{a b:Addr}{o:List D}(h:G.m a=some o)(h':G.m b=none):a≠b:=fun e=>by rw[e,h'] at h;cases h
structure Sub (G G':Gp):Prop where
 m:∀ a o,G.m a=some o→G'.m a=some o
 ro:∀ a o,G.ro a=some o→G'.ro a=some o
theorem Sub.refl(G:Gp):Sub G G:=⟨fun u0 u0 h=>h,fun u0 u0 h=>h⟩
theorem Sub.trans{G G1 G2:Gp}(h:Sub G G1)(h':Sub G1 G2):Sub G G2:=⟨fun a o e=>h'.m a o (h.m a o e),fun a o e=>h'.ro a o (h.ro a o e)⟩
theorem Sub.new{G:Gp}{p:Addr}{o:List D}(h:G.m p=none):Sub G (zN G p o):=⟨fun a u e=>by rw[zO (gne e h)];exact e,fun u0 u0 e=>e⟩
noncomputable def Ls(G:Gp)(a:Addr)(ds:List D):Prop:=G.m a=some ds∨G.ro a=some ds
theorem Ls.sub{G G':Gp}{a:Addr}{ds:List D}(h:Ls G a ds)(s:Sub G G'):Ls G' a ds:=by
 rcases h with h | h
 ·exact .inl (s.m a ds h)
 ·exact .inr (s.ro a ds h)
theorem Ls.own{G:Gp}{a:Addr}{ds:List D}:Ls (zN G a ds) a ds:=.inl zF
noncomputable def RoL(K:PySem.W.Frag)(H:Hp)(a:Addr)(xs:List V):Prop :=
 (∃ o,H a=some (.frz o (.lst xs)))∨∃(o:Obj) (its:Array Value) (n:Nat),K.lookup a=some o∧o.cls=.type "list"∧o.dict=none∧o.data=.seq its n∧its.size≤sizeLine∧zY xs its.toList
theorem RoL.sq{K:PySem.W.Frag}{H:Hp}{a:Addr}{xs:List V}(h:RoL K H a xs):SqL K H a xs:=by
 rcases h with h | h
 ·exact .inl (.inr h)
 ·exact .inr h
structure yX (K:PySem.W.Frag) (G:Gp) (H:Hp):Prop where
 m:∀ a ds,G.m a=some ds→∃ xs,H a=some (.lst xs)∧Dens K H ds xs
 ro:∀ a ds,G.ro a=some ds→∃ xs,RoL K H a xs∧Dens K H ds xs
structure yF (H H':Hp):Prop where
 tups:∀ a xs,H a=some (.tup xs)→H' a=some (.tup xs)
 frzs:∀ a o u,H a=some (.frz o u)→H' a=some (.frz o u)
section
variable {K:PySem.W.Frag} {H H' H'':Hp} {G G':Gp}
theorem yF.refl(H:Hp):yF H H:=⟨fun u0 u0 h=>h,fun u0 u0 u0 h=>h⟩
theorem yF.trans(a:yF H H')(b:yF H' H''):yF H H'':=⟨fun c xs h=>b.tups c xs (a.tups c xs h),fun c o u h=>b.frzs c o u (a.frzs c o u h)⟩
theorem yF.fresh{p:Addr}{o:HO}(h:H p=none):yF H (wd H p o):=⟨fun a xs e=>by rw[yL (yk e h)];exact e,fun a o u e=>by rw[yL (yk e h)];exact e⟩
theorem yF.lst{p:Addr}{xs:List V}{o:HO}(h:H p=some (.lst xs)):yF H (wd H p o) :=
 ⟨fun a ys e=>by rw[yL (zNn e h (by intro z;cases z))];exact e,fun a o u e=>by rw[yL (zNn e h (by intro z;cases z))];exact e⟩
theorem yF.sqT(g:yF H H'){a:Addr}{xs:List V}(h:SqT K H a xs):SqT K H' a xs:=by
 rcases h with (h | ⟨o,h⟩) | h
 ·exact .inl (.inl (g.tups _ _ h))
 ·exact .inl (.inr ⟨o,g.frzs _ _ _ h⟩)
 ·exact .inr h
theorem yF.roL(g:yF H H'){a:Addr}{xs:List V}(h:RoL K H a xs):RoL K H' a xs:=by
 rcases h with ⟨o,h⟩ | h
 ·exact .inl ⟨o,g.frzs _ _ _ h⟩
 ·exact .inr h
mutual
theorem zQ.grow(g:yF H H'):∀ {d:D} {v:V},zQ K H d v→zQ K H' d v
 | .non,_,h=>by unfold zQ at h ⊢;exact h
 | .bl _,_,h=>by unfold zQ at h ⊢;exact h
 | .int _,_,h=>by unfold zQ at h ⊢;exact h
 | .str _,_,h=>by unfold zQ at h ⊢;exact h
 | .adr _,_,h=>by unfold zQ at h ⊢;exact h
 | .dic _,_,h=>by unfold zQ at h ⊢;obtain⟨e,o,x,q,c⟩:=h;exact⟨e,o,x,g.frzs _ _ _ q,c⟩
 | .tup ds,v,h=>by
  unfold zQ at h ⊢
  obtain⟨a,xs,e,s,r⟩:=h
  exact⟨a,xs,e,g.sqT s,Dens.grow g r⟩
theorem Dens.grow(g:yF H H'):∀ {ds:List D} {xs:List V},Dens K H ds xs→Dens K H' ds xs
 | [],_,h=>by unfold Dens at h ⊢;exact h
 | d::ds,xs,h=>by
  unfold Dens at h ⊢
  obtain⟨x,r,e,h1,h2⟩:=h
  exact⟨x,r,e,zQ.grow g h1,Dens.grow g h2⟩
end
theorem Dens.length:∀ {ds:List D} {xs:List V},Dens K H ds xs→ds.length=xs.length
 | [],xs,h=>by unfold Dens at h;rw[h];rfl
 | d::ds,xs,h=>by
  unfold Dens at h
  obtain⟨x,r,rfl,u0,h2⟩:=h
  simp[Dens.length h2]
theorem Dens.get:∀ {ds:List D} {xs:List V} {i:Nat} {d:D},Dens K H ds xs→ds[i]?=some d→∃ x,xs[i]?=some x∧zQ K H d x
 | [],_,_,_,_,e=>by simp at e
 | d::ds,xs,0,d',h,e=>by
  unfold Dens at h
  obtain⟨x,r,rfl,h1,u0⟩:=h
  simp at e;subst e
  exact⟨x,rfl,h1⟩
 | d::ds,xs,i+1,d',h,e=>by
  unfold Dens at h
  obtain⟨x,r,rfl,u0,h2⟩:=h
  obtain⟨y,e1,e2⟩:=Dens.get (i:=i) (d:=d') h2 (by simpa using e)
  exact⟨y,by simpa using e1,e2⟩
theorem Dens.got:∀ {ds:List D} {xs:List V} {i:Nat} {x:V},Dens K H ds xs→xs[i]?=some x→∃ d,ds[i]?=some d∧zQ K H d x
 | ds,xs,i,x,h,e=>by
  have hl:=h.length
  have hi:i<ds.length:=by rw[hl];exact(bN.mp e).1
  obtain⟨y,e1,e2⟩:=h.get (i:=i) (d:=ds[i]) (by simp[hi])
  rw[e] at e1;cases e1
  exact⟨ds[i],by simp[hi],e2⟩
theorem Dens.nil:Dens K H [] []:=by unfold Dens;rfl
theorem Dens.cons{d:D}{ds:List D}{x:V}{xs:List V}(h:zQ K H d x)(h':Dens K H ds xs):Dens K H (d::ds) (x::xs):=by unfold Dens;exact⟨x,xs,rfl,h,h'⟩
theorem Dens.append:∀ {ds es:List D} {xs ys:List V},Dens K H ds xs→Dens K H es ys→Dens K H (ds++es) (xs++ys)
 | [],_,xs,_,h,h'=>by unfold Dens at h;rw[h];exact h'
 | d::ds,_,xs,_,h,h'=>by
  unfold Dens at h
  obtain⟨x,r,rfl,h1,h2⟩:=h
  exact Dens.cons h1 (Dens.append h2 h')
theorem Dens.of_get:∀ {ds:List D} {xs:List V},ds.length=xs.length→(∀(i:Nat) d x,ds[i]?=some d→xs[i]?=some x→zQ K H d x)→Dens K H ds xs
 | [],[],_,_=>.nil
 | [],_::_,h,_=>by simp at h
 | _::_,[],h,_=>by simp at h
 | d::ds,x::xs,h,g=>.cons (g 0 d x rfl rfl) (Dens.of_get (by simpa using h) fun i d' x' e1 e2=>g (i+1) d' x' (by simpa using e1) (by simpa using e2))
theorem Dens.take{n:Nat}{ds:List D}{xs:List V}(h:Dens K H ds xs):Dens K H (ds.take n) (xs.take n) :=
 .of_get (by simp[h.length]) fun i d x e1 e2=>by
  rw[List.getElem?_take] at e1 e2
  split at e1
  ·rename_i hi
   rw[if_pos hi] at e2
   obtain⟨y,e,r⟩:=h.get e1
   rw[e2] at e;cases e;exact r
  ·cases e1
theorem Dens.drop{n:Nat}{ds:List D}{xs:List V}(h:Dens K H ds xs):Dens K H (ds.drop n) (xs.drop n) :=
 .of_get (by simp[h.length]) fun i d x e1 e2=>by
  rw[eC] at e1 e2
  obtain⟨y,e,r⟩:=h.get e1
  rw[e2] at e;cases e;exact r
theorem Dens.set{ds:List D}{xs:List V}{d:D}{x:V}(i:Nat)(h:Dens K H ds xs)(hd:zQ K H d x):Dens K H (ds.set i d) (xs.set i x) :=
 .of_get (by simp[h.length]) fun j d' x' e1 e2=>by
  by_cases hj:i=j
  ·subst hj
   have hi:i<ds.length:=by
    have:=(bN.mp e1).1;simpa using this
   rw[dw hi] at e1
   rw[dw (by rw[← h.length];exact hi)] at e2
   cases e1;cases e2;exact hd
  ·rw[dX hj] at e1 e2
   obtain⟨y,e,r⟩:=h.get e1
   rw[e2] at e;cases e;exact r
theorem Dens.eraseIdx:∀ {ds:List D} {xs:List V} (i:Nat),Dens K H ds xs→Dens K H (ds.eraseIdx i) (xs.eraseIdx i)
 | [],xs,i,h=>by unfold Dens at h;subst h;exact .nil
 | d::ds,xs,0,h=>by
  unfold Dens at h
  obtain⟨x,r,rfl,h1,h2⟩:=h
  exact h2
 | d::ds,xs,i+1,h=>by
  unfold Dens at h
  obtain⟨x,r,rfl,h1,h2⟩:=h
  exact .cons h1 (Dens.eraseIdx i h2)
theorem Dens.reverse:∀ {ds:List D} {xs:List V},Dens K H ds xs→Dens K H ds.reverse xs.reverse
 | [],xs,h=>by unfold Dens at h;subst h;exact .nil
 | d::ds,xs,h=>by
  unfold Dens at h
  obtain⟨x,r,rfl,h1,h2⟩:=h
  rw[dE,dE]
  exact(Dens.reverse h2).append (.cons h1 .nil)
theorem Dens.ints(ns:List Int):Dens K H (ns.map D.int) (ns.map V.int):=by
 induction ns with
 | nil=>exact .nil
 | cons n r ih=>exact .cons (by unfold zQ;rfl) ih
theorem yX.fresh{p:Addr}{o:HO}(h:H p=none)(r:yX K G H):yX K G (wd H p o) :=
  ⟨fun a ds e=>by
    obtain⟨xs,e1,e2⟩:=r.m a ds e
    exact⟨xs,by rw[yL (yk e1 h)];exact e1,e2.grow (.fresh h)⟩,
   fun a ds e=>by
    obtain⟨xs,e1,e2⟩:=r.ro a ds e
    exact⟨xs,(yF.fresh h).roL e1,e2.grow (.fresh h)⟩⟩
theorem yX.free{p:Addr}(r:yX K G H)(h:H p=none):G.m p=none:=by
 cases q:G.m p with
 | none=>rfl
 | some ds=>obtain⟨xs,e1,u0⟩:=r.m p _ q;rw[h] at e1;cases e1
theorem yX.own{l:Addr}{ds:List D}{xs:List V}(r:yX K G H)(e:H l=some (.lst xs))(d:Dens K H ds xs):yX K (zN G l ds) H :=
  ⟨fun b u q=>by
    by_cases hb:b=l
    · subst hb;rw[zF] at q;cases q;exact⟨xs,e,d⟩
    · rw[zO hb] at q;exact r.m b u q,
   r.ro⟩
theorem yX.new{p:Addr}{ds:List D}{xs:List V}(h:H p=none)(r:yX K G H)(d:Dens K H ds xs):yX K (zN G p ds) (wd H p (.lst xs)) :=
 (r.fresh h).own zo (d.grow (.fresh h))
theorem yX.put{p:Addr}{ds':List D}{xs xs':List V}(h:H p=some (.lst xs))(r:yX K G H)(d:Dens K H ds' xs'):yX K (zN G p ds') (wd H p (.lst xs')) :=
  ⟨fun a u e=>by
    by_cases ha:a=p
    · subst ha
      rw[zF] at e;cases e
      exact⟨xs',zo,d.grow (.lst h)⟩
    · rw[zO ha] at e
      obtain⟨ys,e1,e2⟩:=r.m a u e
      exact⟨ys,by rw[yL ha];exact e1,e2.grow (.lst h)⟩,
   fun a u e=>by
    obtain⟨ys,e1,e2⟩:=r.ro a u e
    exact⟨ys,(yF.lst h).roL e1,e2.grow (.lst h)⟩⟩
theorem yX.sub(s:Sub G G')(r:yX K G' H):yX K G H:=⟨fun a u e=>r.m a u (s.m a u e),fun a u e=>r.ro a u (s.ro a u e)⟩
theorem yX.sq{a:Addr}{ds:List D}(r:yX K G H)(e:Ls G a ds):∃ xs,SqL K H a xs∧Dens K H ds xs:=by
 rcases e with e | e
 ·obtain⟨xs,e1,e2⟩:=r.m a _ e
  exact⟨xs,.of e1,e2⟩
 ·obtain⟨xs,e1,e2⟩:=r.ro a _ e
  exact⟨xs,e1.sq,e2⟩
end
noncomputable abbrev S2:=List (Option D)
noncomputable abbrev ze:=S2→Gp→(D→Gp→Prop)→Prop
noncomputable abbrev TT2:=S2→Gp→(Bool→Gp→Prop)→Prop
noncomputable abbrev wW:=S2→Gp→(List D→Gp→Prop)→Prop
structure yH where
 nx:S2→Gp→Prop
 rt:D→Gp→Prop
 bk:S2→Gp→Prop:=fun u0 u0=>False
 ct:S2→Gp→Prop:=fun u0 u0=>False
noncomputable abbrev wD:=yH→S2→Gp→Prop
noncomputable def look:S2→Nat→Option D
 | [],_=>none
 | o::_,0=>o
 | _::r,i+1=>look r i
theorem zGq:∀ {σ:S2} {i:Nat} {d:D},look σ i=some d→σ[i]?=some (some d)
 | [],_,_,e=>by cases e
 | o::_,0,d,e=>by simp[look] at e;simp[e]
 | _::r,i+1,d,e=>by simpa using zGq (σ:=r) (i:=i) (d:=d) e
structure Rel (K:PySem.W.Frag) (σ:S2) (G:Gp) (σ1:L2.St) (H:Hp):Prop where
 g:yX K G H
 len:σ.length=σ1.length
 val:∀(i:Nat) d,σ[i]?=some (some d)→∃ v,σ1[i]?=some (some v)∧zQ K H d v
theorem Rel.to{K:PySem.W.Frag}{σ:S2}{G G':Gp}{σ1:L2.St}{H H':Hp}(r:Rel K σ G σ1 H)(g:yF H H')(r':yX K G' H'):Rel K σ G' σ1 H' :=
 ⟨r',r.len,fun i d e=>by obtain⟨v,e1,e2⟩:=r.val i d e;exact⟨v,e1,e2.grow g⟩⟩
theorem Rel.set{K:PySem.W.Frag}{σ:S2}{G:Gp}{σ1:L2.St}{H:Hp}(r:Rel K σ G σ1 H)(i:Nat){d:D}{v:V}(h:zQ K H d v):Rel K (σ.set i (some d)) G (σ1.set i (some v)) H :=
 ⟨r.g,by simp[r.len],fun j d' e=>by
  by_cases hj:i=j
  ·subst hj
   have hi:i<σ.length:=by
    have:=(bN.mp e).1;simpa using this
   rw[dw hi] at e
   cases e
   exact⟨v,by rw[dw (by rw[← r.len];exact hi)],h⟩
  ·rw[dX hj] at e
   obtain⟨u,e1,e2⟩:=r.val j d' e
   exact⟨u,by rw[dX hj];exact e1,e2⟩⟩
noncomputable def lE(K:PySem.W.Frag)(t:ze):TE:=fun σ1 H Q=>∃ σ G R,Rel K σ G σ1 H∧t σ G R∧∀ d G',R d G'→∀ v H',yF H H'→yX K G' H'→zQ K H' d v→Q v H'
noncomputable def lT(K:PySem.W.Frag)(t:TT2):TT:=fun σ1 H Q=>∃ σ G R,Rel K σ G σ1 H∧t σ G R∧∀ b G',R b G'→∀ H',yF H H'→yX K G' H'→Q b H'
noncomputable def lA(K:PySem.W.Frag)(t:wW):TA:=fun σ1 H Q=>∃ σ G R,Rel K σ G σ1 H∧t σ G R∧∀ ds G',R ds G'→∀ vs H',yF H H'→yX K G' H'→Dens K H' ds vs→Q vs H'
structure ER (K:PySem.W.Frag) (H:Hp) (D2:yH) (E:Ends):Prop where
 nx:∀ σ G,D2.nx σ G→∀ σ1 H',yF H H'→Rel K σ G σ1 H'→E.nx σ1 H'
 bk:∀ σ G,D2.bk σ G→∀ σ1 H',yF H H'→Rel K σ G σ1 H'→E.bk σ1 H'
 ct:∀ σ G,D2.ct σ G→∀ σ1 H',yF H H'→Rel K σ G σ1 H'→E.ct σ1 H'
 rt:∀ d G,D2.rt d G→∀ v H',yF H H'→yX K G H'→zQ K H' d v→E.rt v H'
theorem ER.to{K:PySem.W.Frag}{H H':Hp}{D2:yH}{E:Ends}(e:ER K H D2 E)(g:yF H H'):ER K H' D2 E :=
 ⟨fun σ G h σ1 H1 g1=>e.nx σ G h σ1 H1 (g.trans g1),fun σ G h σ1 H1 g1=>e.bk σ G h σ1 H1 (g.trans g1),fun σ G h σ1 H1 g1=>e.ct σ G h σ1 H1 (g.trans g1),fun d G h v H1 g1=>e.rt d G h v H1 (g.trans g1)⟩
noncomputable def lS(K:PySem.W.Frag)(t:wD):TS:=fun E σ1 H=>∃ σ G D2,Rel K σ G σ1 H∧t D2 σ G∧ER K H D2 E
noncomputable def E2(X:Cx)(e:Expr)(t:ze):Prop:=PE X e (lE X.K t)
noncomputable def T2(X:Cx)(e:Expr)(t:TT2):Prop:=PT X e (lT X.K t)
noncomputable def A2(X:Cx)(es:List Expr)(t:wW):Prop:=PA X es (lA X.K t)
noncomputable def P2(X:Cx)(st:Stmt)(t:wD):Prop:=PS X st (lS X.K t)
noncomputable def Ps2(X:Cx)(st:List Stmt)(t:wD):Prop:=PSs X st (lS X.K t)
section
variable {X:Cx} {a b c e o:Expr} {es:List Expr} {pos p:Pos} {ta tb tc te:ze}
noncomputable def zB(i:Nat):ze:=fun σ G R=>match look σ i with | some d=>R d G | none=>False
noncomputable def xC(d:D):ze:=fun u0 G R=>R d G
theorem zC(i:Nat){x:Str}(hN:X.N[i]?=some x:=by rfl)(hv:Vis X.env.scope x:=by first | exact Or.inl rfl | exact Or.inr (Or.inl rfl) | exact Or.inr (Or.inr rfl))(hd:(x==("__debug__":Str))=false:=by decide)
  (hcd:(x==("__classdict__":Str))=false:=by decide):E2 X (.Name x pos) (zB i):=by
 refine PE.mono (zKl hN hv hd hcd) ?_
 rintro σ1 H Q ⟨σ,G,R,r,t,k⟩
 unfold zB at t
 cases q:look σ i with
 | none=>rw[q] at t;exact t.elim
 | some d =>
  rw[q] at t
  obtain⟨v,e1,e2⟩:=r.val i d (zGq q)
  exact⟨v,e1,k d G t v H (.refl H) r.g e2⟩
theorem zM{i j}:E2 X (.Constant (.int i) j pos) (xC (.int i)):=by
 refine PE.mono zOD ?_
 rintro σ1 H Q ⟨σ,G,R,r,t,k⟩
 exact k _ G t _ H (.refl H) r.g (by unfold zQ;rfl)
theorem zFC{i j}:E2 X (.Constant (.bool i) j pos) (xC (.bl i)):=by
 refine PE.mono zPe ?_
 rintro σ1 H Q ⟨σ,G,R,r,t,k⟩
 exact k _ G t _ H (.refl H) r.g (by unfold zQ;rfl)
theorem zIx{i j}:E2 X (.Constant (.str i) j pos) (xC (.str i)):=by
 refine PE.mono zOF ?_
 rintro σ1 H Q ⟨σ,G,R,r,t,k⟩
 exact k _ G t _ H (.refl H) r.g (by unfold zQ;rfl)
theorem zK0{j}:E2 X (.Constant .none j pos) (xC .non):=by
 refine PE.mono zOE ?_
 rintro σ1 H Q ⟨σ,G,R,r,t,k⟩
 exact k _ G t _ H (.refl H) r.g (by unfold zQ;rfl)
noncomputable abbrev Q2:=D→Gp→Prop
noncomputable def Fit(K:PySem.W.Frag)(r:R2)(f:D→D→Gp→Q2→Prop):Prop :=
 ∀ dx dy G R x y H Q,f dx dy G R→yX K G H→zQ K H dx x→zQ K H dy y→(∀ d G',R d G'→∀ v H',yF H H'→yX K G' H'→zQ K H' d v→Q v H')→r x y H Q
noncomputable def zP(f:D→D→Gp→Q2→Prop)(ta tb:ze):ze:=fun σ G R=>ta σ G fun x G1=>tb σ G1 fun y G2=>f x y G2 R
theorem zGr{K:PySem.W.Frag}{r:R2}{f:D→D→Gp→Q2→Prop}(hf:Fit K r f){σ1:L2.St}{H:Hp}{Q:VK}(h:lE K (zP f ta tb) σ1 H Q):tOp r (lE K ta) (lE K tb) σ1 H Q:=by
 obtain⟨σ,G,R,rl,t,k⟩:=h
 refine⟨σ,G,_,rl,t,fun dx G1 t1 x H1 g1 r1 d1=>?_⟩
 refine⟨σ,G1,_,rl.to g1 r1,t1,fun dy G2 t2 y H2 g2 r2 d2=>?_⟩
 exact hf dx dy G2 R x y H2 Q t2 r2 (d1.grow g2) d2 fun d G' q v H' g' r' d'=>k d G' q v H' ((g1.trans g2).trans g') r' d'
theorem zGs{op:Operator}{r:R2}{f:D→D→Gp→Q2→Prop}(ho:OpR X (binaryOp op) r)(hf:Fit X.K r f)(ha:E2 X a ta)(hb:E2 X b tb):E2 X (.BinOp a op b pos) (zP f ta tb) :=
 PE.mono (zKr ho ha hb) fun σ1 H Q h=>zGr hf h
theorem zNs{op:CmpOp}{r:R2}{f:D→D→Gp→Q2→Prop}(ho:OpR X (compareOp op) r)(hf:Fit X.K r f)(ha:E2 X a ta)(hb:E2 X b tb)(hm:behindInMarks op b=false):E2 X (.Compare a [op] [b] pos) (zP f ta tb) :=
 PE.mono (zMc ho ha hb hm) fun σ1 H Q h=>zGr hf h
noncomputable def xB(t:ze):TT2:=fun σ G R=>t σ G fun d G1=>match d with | .bl b=>R b G1 | _=>False
theorem zCo{op:CmpOp}{r:R2}{f:D→D→Gp→Q2→Prop}(ho:OpR X (compareOp op) r)(hf:Fit X.K r f)(ha:E2 X a ta)(hb:E2 X b tb)(hm:behindInMarks op b=false):T2 X (.Compare a [op] [b] pos) (xB (zP f ta tb)):=by
 refine PT.mono (zMd ho ha hb hm) ?_
 rintro σ1 H Q ⟨σ,G,R,rl,t,k⟩
 refine zGr hf ⟨σ,G,_,rl,t,fun d G' q v H' g' r' d'=>?_⟩
 cases d with
 | bl b =>
  unfold zQ at d'
  exact⟨b,d',k b G' q H' g' r'⟩
 | _=>exact q.elim
noncomputable def fII(g:Int→Int→D):D→D→Gp→Q2→Prop:=fun x y G R=>match x,y with | .int i,.int j=>R (g i j) G | _,_=>False
noncomputable def zK1:D→Bool
 | .tup _=>false
 | .adr _=>false
 | .dic _=>false
 | _=>true
noncomputable def vOf:D→V
 | .non=>.non | .bl b=>.bl b | .int i=>.int i | .str x=>.str x | .tup _=>.non | .adr a=>.ref a | .dic a=>.ref a
theorem zIy{K:PySem.W.Frag}{H:Hp}{d:D}(h:zK1 d=true):zQ K H d (vOf d):=by
 cases d<;>first | (cases h;done) | (unfold zQ;rfl)
theorem zEI{K:PySem.W.Frag}{gv:Int→Int→V}{g:Int→Int→D}(hg:∀ i j,zK1 (g i j)=true∧gv i j=vOf (g i j)):Fit K (rI0 gv) (fII g):=by
 intro dx dy G R x y H Q h r d1 d2 k
 unfold fII at h
 cases dx with
 | int i =>
  cases dy with
  | int j =>
   unfold zQ at d1 d2
   subst d1 d2
   exact⟨i,j,rfl,rfl,k _ G h _ H (.refl H) r (by rw[(hg i j).2];exact zIy (hg i j).1)⟩
  | _=>exact h.elim
 | _=>exact h.elim
noncomputable def yd(C:Int→Int→Prop)(g:Int→Int→D):D→D→Gp→Q2→Prop:=fun x y G R=>match x,y with | .int i,.int j=>C i j∧R (g i j) G | _,_=>False
theorem zCp{K:PySem.W.Frag}{C:Int→Int→Prop}{gv:Int→Int→V}{g:Int→Int→D}(hg:∀ i j,zK1 (g i j)=true∧gv i j=vOf (g i j)):Fit K (rI C gv) (yd C g):=by
 intro dx dy G R x y H Q h r d1 d2 k
 unfold yd at h
 cases dx with
 | int i =>
  cases dy with
  | int j =>
   unfold zQ at d1 d2
   subst d1 d2
   exact⟨i,j,rfl,rfl,h.1,k _ G h.2 _ H (.refl H) r (by rw[(hg i j).2];exact zIy (hg i j).1)⟩
  | _=>exact h.elim
 | _=>exact h.elim
noncomputable abbrev TL2:=S2→Gp→(List D→Gp→Prop)→Prop
noncomputable def lL(K:PySem.W.Frag)(t:TL2):TE:=fun σ1 H Q=>∃ σ G R,Rel K σ G σ1 H∧t σ G R∧∀ ds G',R ds G'→∀ l xs H',yF H H'→yX K G' H'→G'.m l=none→H' l=some (.lst xs)→Dens K H' ds xs→Q (.ref l) H'
noncomputable def F2(X:Cx)(e:Expr)(t:TL2):Prop:=PE X e (lL X.K t)
noncomputable def za(t:TL2):ze:=fun σ G R=>t σ G fun ds G'=>∀ l,G'.m l=none→R (.adr l) (zN G' l ds)
theorem zh{t:TL2}(h:F2 X e t):E2 X e (za t):=by
 refine PE.mono h ?_
 rintro σ1 H Q ⟨σ,G,R,r,q,k⟩
 exact⟨σ,G,_,r,q,fun ds G' q' l xs H' g r' n e' d=>k _ _ (q' l n) _ H' g (r'.own e' d) (by unfold zQ;rfl)⟩
noncomputable def zG:wW:=fun u0 G R=>R [] G
noncomputable def zA(ta:ze)(tr:wW):wW:=fun σ G R=>ta σ G fun x G1=>tr σ G1 fun xs G2=>R (x::xs) G2
theorem zI:A2 X [] zG:=by
 intro pos pins s σ1 H Q I h
 refine zCW pos pins s σ1 H Q I ?_
 obtain⟨σ,G,R,r,q,k⟩:=h
 exact k [] G q [] H (.refl H) r.g .nil
theorem zD{tr:wW}(ha:E2 X e ta)(hr:A2 X es tr)(hs:starEach (e::es) X.env=(false,eval e X.env)::starEach es X.env:=by rfl):A2 X (e::es) (zA ta tr):=by
 intro pos pins s σ1 H Q I h
 refine zAq ha hr hs pos pins s σ1 H Q I ?_
 obtain⟨σ,G,R,r,q,k⟩:=h
 refine⟨σ,G,_,r,q,fun d G1 q1 v H1 g1 r1 d1=>?_⟩
 refine⟨σ,G1,_,r.to g1 r1,q1,fun ds G2 q2 vs H2 g2 r2 d2=>?_⟩
 exact k _ G2 q2 _ H2 (g1.trans g2) r2 (.cons (d1.grow g2) d2)
noncomputable def yK(t:wW):ze:=fun σ G R=>t σ G fun ds G1=>ds.length≤sizeLine∧R (.tup ds) G1
theorem wT{t:wW}{x1}(h:A2 X es t):E2 X (.Tuple es x1 pos) (yK t):=by
 refine PE.mono (zOj h) ?_
 rintro σ1 H Q ⟨σ,G,R,r,q,k⟩
 refine⟨σ,G,_,r,q,fun ds G1 q1 vs H1 g1 r1 d1=>⟨by rw[← d1.length];exact q1.1,fun p hp=>?_⟩⟩
 refine k _ G1 q1.2 _ _ (g1.trans (.fresh hp)) (r1.fresh hp) ?_
 unfold zQ
 exact⟨p,vs,rfl,.of zo,d1.grow (.fresh hp)⟩
noncomputable def yw(t:wW):TL2:=fun σ G R=>t σ G fun ds G1=>ds.length≤sizeLine∧R ds G1
theorem wU{t:wW}(h:A2 X es t):F2 X (.List es pos) (yw t):=by
 refine PE.mono (zOk h) ?_
 rintro σ1 H Q ⟨σ,G,R,r,q,k⟩
 refine⟨σ,G,_,r,q,fun ds G1 q1 vs H1 g1 r1 d1=>⟨by rw[← d1.length];exact q1.1,fun p hp=>?_⟩⟩
 exact k ds G1 q1.2 p vs _ (g1.trans (.fresh hp)) (r1.fresh hp) (r1.free hp) zo (d1.grow (.fresh hp))
noncomputable abbrev Sp2:=List D→Gp→Q2→Prop
noncomputable def lSp(K:PySem.W.Frag)(sp:Sp2):Sp:=fun vs H Q u0=>∃ ds G R,Dens K H ds vs∧yX K G H∧sp ds G R∧∀ d G',R d G'→∀ v H',yF H H'→yX K G' H'→zQ K H' d v→Q v H'
noncomputable def Df(P:Program)(w:World)(K:PySem.W.Frag)(mg:Str→Option Value)(base:Heap)(k:Nat)(x:Str)(ps:List Str)(sp:Sp2):Prop :=
 ∃ f fd,zBe P w K mg base CX0 k f fd ps (lSp K sp)∧mg x=some (.ref f)∧PySem.W.keepIn K (.ref f)=true∧Binds K fd ps []
noncomputable def zL(sp:Sp2)(t:wW):ze:=fun σ G R=>t σ G fun ds G1=>sp ds G1 R
theorem zv{sp:Sp2}{t:wW}{k k':Nat}{x:Str}{ps:List Str}(F:Df X.prog X.w X.K X.mg X.base k x ps sp)(hr:wt k' X.A)(hk:k≤k')(hg:Gl X x)(ha:A2 X (e::es) t)
  (hdb:(x==("__debug__":Str))=false:=by decide) (he:starEach (e::es) X.env=(false,eval e X.env)::starEach es X.env:=by rfl) (hpl:(backTo pos (starEach es X.env)).any (·.1)=false:=by rfl) :
  E2 X (.Call (.Name x p) (e::es) [] pos) (zL sp t):=by
 obtain⟨f,fd,F,hm,hkp,hb⟩:=F
 refine PE.mono (zIr (dvs:=[]) F (hr.mono hk) hg hm hkp hb .nil zNr ha hdb he hpl) ?_
 rintro σ1 H Q ⟨σ,G,R,r,q,kk⟩
 refine⟨σ,G,_,r,q,fun ds G1 q1 vs H1 g1 r1 d1=>?_⟩
 show lSp X.K _ (vs++[]) H1 Q E0
 rw[cO]
 exact⟨ds,G1,R,d1,r1,q1,fun d G' q' v H' g'=>kk d G' q' v H' (g1.trans g')⟩
noncomputable def spL(sp:List D→Gp→(List D→Gp→Prop)→Prop):Sp2:=fun ds G R=>sp ds G fun ls G'=>∀ l,G'.m l=none→R (.adr l) (zN G' l ls)
noncomputable def zq(sp:List D→Gp→(List D→Gp→Prop)→Prop)(t:wW):TL2:=fun σ G R=>t σ G fun ds G1=>sp ds G1 R
theorem zAO{sp:List D→Gp→(List D→Gp→Prop)→Prop}{t:wW}{k k':Nat}{x:Str}{ps:List Str}(F:Df X.prog X.w X.K X.mg X.base k x ps (spL sp))(hmono:∀ ds G R R',(∀ ls G',R ls G'→R' ls G')→sp ds G R→sp ds G R')(hr:wt k' X.A)(hk:k≤k')(hg:Gl X x)(ha:A2 X (e::es) t)
  (hdb:(x==("__debug__":Str))=false:=by decide) (he:starEach (e::es) X.env=(false,eval e X.env)::starEach es X.env:=by rfl) (hpl:(backTo pos (starEach es X.env)).any (·.1)=false:=by rfl) :
  F2 X (.Call (.Name x p) (e::es) [] pos) (zq sp t):=by
 obtain⟨f,fd,F,hm,hkp,hb⟩:=F
 refine PE.mono (zIr (dvs:=[]) F (hr.mono hk) hg hm hkp hb .nil zNr ha hdb he hpl) ?_
 rintro σ1 H Q ⟨σ,G,R,r,q,kk⟩
 refine⟨σ,G,_,r,q,fun ds G1 q1 vs H1 g1 r1 d1=>?_⟩
 show lSp X.K _ (vs++[]) H1 Q E0
 rw[cO]
 refine⟨ds,G1,fun d G'=>∃ l ls G0,d=.adr l∧G0.m l=none∧G'=zN G0 l ls∧R ls G0,d1,r1,hmono _ _ _ _ (fun ls G' q l n=>⟨l,ls,G',rfl,n,rfl,q⟩) q1,?_⟩
 rintro d G' ⟨l,ls,G0,rfl,n,rfl,q'⟩ v H' g' r' dv
 unfold zQ at dv
 subst dv
 obtain⟨xs,e1,e2⟩:=r'.m l ls zF
 exact kk ls G0 q' l xs H' (g1.trans g') (r'.sub (.new n)) n e1 e2
section
variable {st:Stmt} {rest:List Stmt} {t u:wD}
noncomputable def zr:wD:=fun E σ G=>E.nx σ G
noncomputable def zX(t u:wD):wD:=fun E σ G=>t { E with nx:=u E } σ G
theorem yM:Ps2 X [] zr:=by
 intro pins s σ1 H E I h
 refine zMY pins s σ1 H E I ?_
 obtain⟨σ,G,D2,r,q,k⟩:=h
 exact k.nx σ G q σ1 H (.refl H) r
theorem zK(h1:P2 X st t)(h2:Ps2 X rest u):Ps2 X (st::rest) (zX t u):=by
 intro pins s σ1 H E I h
 refine zKn h1 h2 pins s σ1 H E I ?_
 obtain⟨σ,G,D2,r,q,k⟩:=h
 refine⟨σ,G,_,r,q,⟨fun σ' G' q' σ1' H' g' r'=>⟨σ',G',D2,r',q',k.to g'⟩,k.bk,k.ct,k.rt⟩⟩
theorem zR(h1:P2 X st t):Ps2 X [st] t:=zMZ h1
noncomputable def zw(te:ze):wD:=fun E σ G=>te σ G E.rt
theorem zx(he:E2 X e te):P2 X (.Return (some e) pos) (zw te):=by
 refine PS.mono (L2.zON he) ?_
 rintro E σ1 H ⟨σ,G,D2,r,q,k⟩
 exact⟨σ,G,_,r,q,fun d G' q' v H' g' r' d'=>k.rt d G' q' v H' g' r' d'⟩
noncomputable def wF(te:ze):wD:=fun E σ G=>te σ G fun u0 G1=>E.nx σ G1
theorem zA0(he:E2 X e te)(hs:swapsWith e none pos.line X.env=pure false:=by rfl):P2 X (.Expr e pos) (wF te):=by
 refine PS.mono (L2.zMa he hs) ?_
 rintro E σ1 H ⟨σ,G,D2,r,q,k⟩
 exact⟨σ,G,_,r,q,fun d G' q' v H' g' r' d'=>k.nx σ G' q' σ1 H' g' (r.to g' r')⟩
noncomputable def xIf(c:TT2)(t u:wD):wD:=fun E σ G=>c σ G fun b G1=>if b=true then t E σ G1 else u E σ G1
theorem zAj{x y:List Stmt}{tc:TT2}(hc:T2 X c tc)(ha:Ps2 X x t)(hb:Ps2 X y u):P2 X (.If c x y pos) (xIf tc t u):=by
 refine PS.mono (L2.zPk hc ha hb) ?_
 rintro E σ1 H ⟨σ,G,D2,r,q,k⟩
 refine⟨σ,G,_,r,q,fun b G' q' H' g' r'=>?_⟩
 cases b with
 | true=>exact⟨σ,G',D2,r.to g' r',q',k.to g'⟩
 | false=>exact⟨σ,G',D2,r.to g' r',q',k.to g'⟩
noncomputable abbrev TG2:=D→S2→Gp→(S2→Gp→Prop)→Prop
noncomputable def lG(K:PySem.W.Frag)(g:TG2):TG:=fun v σ1 H Q=>∃ σ G d R,Rel K σ G σ1 H∧zQ K H d v∧g d σ G R∧∀ σ' G',R σ' G'→∀ σ1' H',yF H H'→Rel K σ' G' σ1' H'→Q σ1' H'
noncomputable def G2(X:Cx)(tg:Expr)(g:TG2):Prop:=PG X tg (lG X.K g)
theorem PG.mono{tg:Expr}{t t':TG}(h:PG X tg t)(hm:∀ v σ H Q,t' v σ H Q→t v σ H Q):PG X tg t':=fun pins s σ H v u Q I r q=>h pins s σ H v u Q I r (hm v σ H Q q)
noncomputable def gN(i:Nat):TG2:=fun d σ G R=>R (σ.set i (some d)) G
theorem zAP(i:Nat){x:Str}(hN:X.N.Nodup)(hi:X.N[i]?=some x:=by rfl)(hx:Loc X.env.scope x:=by first | exact Or.inl rfl | exact Or.inr rfl)(hf:X.fn x=true∨X.env.scope.names.lookup x=some .local:=by first | exact .inl rfl | exact .inr rfl | assumption):G2 X (.Name x pos) (gN i):=by
 refine PG.mono (zBI hN hi hx hf) ?_
 rintro v σ1 H Q ⟨σ,G,d,R,r,dv,q,k⟩
 exact k _ G q _ H (.refl H) (r.set i dv)
noncomputable def gNN(i j:Nat):TG2:=fun d σ G R=>match d with | .tup [a,b]=>R ((σ.set i (some a)).set j (some b)) G | _=>False
theorem zP1(i j:Nat){x y:Str}{px py:Pos}{kk:Nat}(hc:X.calm=true)(hN:X.N.Nodup)(hi:X.N[i]?=some x:=by rfl)(hj:X.N[j]?=some y:=by rfl)(hx:Loc X.env.scope x:=by first | exact Or.inl rfl | exact Or.inr rfl)(hy:Loc X.env.scope y:=by first | exact Or.inl rfl | exact Or.inr rfl)
  (hf:X.fn x=true∨X.env.scope.names.lookup x=some .local:=by first | exact .inl rfl | exact .inr rfl | assumption) (hf':X.fn y=true∨X.env.scope.names.lookup y=some .local:=by first | exact .inl rfl | exact .inr rfl | assumption) :
  G2 X (.Tuple [.Name x px,.Name y py] kk pos) (gNN i j):=by
 refine PG.mono (zKo (n:=2) hc (zCl (zBI hN hi hx hf) (zCl (zBI hN hj hy hf') zIq))) ?_
 rintro v σ1 H Q ⟨σ,G,d,R,r,dv,q,k⟩
 unfold gNN at q
 split at q
 ·rename_i d1 d2
  unfold zQ at dv
  obtain⟨a,xs,rfl,hs,hd⟩:=dv
  unfold Dens at hd
  obtain⟨x1,r1,rfl,h1,hd⟩:=hd
  unfold Dens at hd
  obtain⟨x2,r2,rfl,h2,hd⟩:=hd
  unfold Dens at hd
  subst hd
  exact⟨a,[x1,x2],rfl,hs,rfl,x1,[x2],rfl,x2,[],rfl,rfl,k _ G q _ H (.refl H) ((r.set i h1).set j h2)⟩
 ·exact q.elim
noncomputable def zn(te:ze)(g:TG2):wD:=fun E σ G=>te σ G fun d G1=>g d σ G1 E.nx
theorem zK2{g:TG2}{E:Ends}{σ1:L2.St}{H:Hp}{K:PySem.W.Frag}(h:lS K (zn te g) E σ1 H):zOS (lE K te) (lG K g) E σ1 H:=by
 obtain⟨σ,G,D2,r,q,k⟩:=h
 refine⟨σ,G,_,r,q,fun d G' q' v H' g' r' d'=>⟨σ,G',d,_,r.to g' r',d',q',fun σ' G'' q'' σ1' H'' g'' r''=>k.nx σ' G'' q'' σ1' H'' (g'.trans g'') r''⟩⟩
theorem zt(i:Nat){x:Str}{pos':Pos}(hN:X.N.Nodup)(he:E2 X e te)(hi:X.N[i]?=some x:=by rfl)(hx:Loc X.env.scope x:=by first | exact Or.inl rfl | exact Or.inr rfl)(hs:swapsWith e (some (.Name x pos')) pos.line X.env=pure false:=by rfl)(hf:X.fn x=true∨X.env.scope.names.lookup x=some .local:=by first | exact .inl rfl | exact .inr rfl | assumption) :
  P2 X (.Assign [.Name x pos'] e pos) (zn te (gN i)):=by
 refine PS.mono (L2.zOU hN hi hx he hs hf) fun E σ1 H h=>?_
 obtain⟨σ,G,D2,r,q,k⟩:=h
 refine⟨σ,G,_,r,q,fun d G' q' v H' g' r' d'=>?_⟩
 exact k.nx _ G' q' _ H' g' ((r.to g' r').set i d')
theorem zNt{tg:Expr}{g:TG2}(he:E2 X e te)(hg:G2 X tg g)(hs:swapsWithSole [tg] e pos.line X.env=pure false:=by rfl)(hw:swappedStores [tg] e X.env=pure none:=by rfl)
  (h1:(assignEach [tg] X.env).map (·.2)=[assign tg X.env]:=by rfl):P2 X (.Assign [tg] e pos) (zn te g) :=
 PS.mono (L2.zOT he hg hs hw h1) fun u0 u0 u0 h=>zK2 h
noncomputable def gIx(to ti:ze):TG2:=fun d σ G R=>to σ G fun o G1=>ti σ G1 fun i G2=>match o,i with
 | .adr l,.int k=>match G2.m l with
  | some ds=>match ixN ds.length k with | some j=>R σ (zN G2 l (ds.set j d)) | none=>False
  | none=>False
 | _,_=>False
theorem zP2{i:Expr}{to ti:ze}(ho:E2 X o to)(hi:E2 X i ti)
  (ha:∀ v,assign (.Subscript o i pos) X.env v=(do
   let ov ← holding [v] (eval o X.env)
   let iv ← holding [v,ov] (eval i X.env)
   standAt pos
   holding [v,ov,iv] (setItem ov iv v)
   release [v,ov,iv] []):=by intro u0;rfl):G2 X (.Subscript o i pos) (gIx to ti):=by
 refine PG.mono (zOR ho hi set_list ha) ?_
 rintro v σ1 H Q ⟨σ,G,d,R,r,dv,q,k⟩
 refine⟨σ,G,_,r,q,fun dx G1 q1 x H1 g1 r1 d1=>⟨σ,G1,_,r.to g1 r1,q1,fun dy G2' q2 y H2 g2 r2 d2=>?_⟩⟩
 cases dx with
 | adr l =>
  cases dy with
  | int j =>
   dsimp only at q2
   cases e1:G2'.m l with
   | none=>rw[e1] at q2;exact q2.elim
   | some ds =>
    rw[e1] at q2
    dsimp only at q2
    cases e2:ixN ds.length j with
    | none=>rw[e2] at q2;exact q2.elim
    | some jj =>
     rw[e2] at q2
     dsimp only at q2
     have d1':=d1.grow g2
     unfold zQ at d1' d2
     subst d1' d2
     obtain⟨xs,h1,h2⟩:=r2.m l ds e1
     refine⟨l,xs,j,jj,rfl,rfl,h1,by rw[← h2.length];exact e2,?_⟩
     have g3:yF H2 (wd H2 l (.lst (xs.set jj v))):=.lst h1
     exact k _ _ q2 _ _ ((g1.trans g2).trans g3) ((r.to (g1.trans g2) r2).to g3 (r2.put h1 (h2.set jj (dv.grow (g1.trans g2)))))
  | _=>exact q2.elim
 | _=>exact q2.elim
end
end
noncomputable abbrev TI2:=S2→Gp→(List D→(Gp→Prop)→Gp→Prop)→Prop
structure Walk (K:PySem.W.Frag) (H0:Hp) (ds:List D) (gd:Gp→Prop) (J:It):Prop where
 go:∀ i G H,gd G→yX K G H→yF H0 H→i<ds.length→J.go i H
 stop:∀ G H,gd G→yX K G H→yF H0 H→J.stop ds.length H
 yld:∀ i G H x H',gd G→yX K G H→yF H0 H→i<ds.length→J.yld i H x H'→yF H H'∧yX K G H'∧∃ d,ds[i]?=some d∧zQ K H' d x
noncomputable def lI(K:PySem.W.Frag)(wi:TI2):TI:=fun σ1 H R=>∃ σ G R2,Rel K σ G σ1 H∧wi σ G R2∧∀ ds gd G',R2 ds gd G'→∀ J H',yF H H'→yX K G' H'→Walk K H' ds gd J→ds.length≤sizeLine→R J H'
noncomputable def I2(X:Cx)(tg iter:Expr)(wi:TI2):Prop:=PI X tg iter (lI X.K wi)
theorem PI.mono{X:Cx}{tg iter:Expr}{t t':TI}(h:PI X tg iter t)(hm:∀ σ H R,t' σ H R→t σ H R):PI X tg iter t':=fun pins s σ H R I q=>h pins s σ H R I (hm σ H R q)
section
variable {X:Cx} {tg:Expr} {a b c e o l iter elt:Expr} {es:List Expr} {pos p:Pos} {ta tb te:ze}
theorem zK3{l:Expr}{tl:TE}(hl:PE X l tl):PI X tg l (fun σ H R=>tl σ H fun x H1=>∃ a xs,x=.ref a∧((SqL X.K H1 a xs∧(xs.length≤sizeLine→R (Itl X.K a) H1))∨(SqT X.K H1 a xs∧(xs.length≤sizeLine→R (Itt X.K a) H1)))):=by
 intro pins s σ H R I h
 refine wM (hl pins s σ H _ I h) fun v s1 ⟨x,H1,I1,r1,q1⟩=>?_
 obtain⟨a,xs,e,q⟩:=q1
 subst e
 cases r1
 have fpk:∀ b∈[s1.heap.objs.size],zDF X pins H1 b:=fun b hb=>by
  have e:b=s1.heap.objs.size:=by simpa using hb
  subst e
  exact I1.fpOk (bF _) (I1.hok.fresh (bF _))
 rcases q with ⟨hq,q⟩ | ⟨hq,q⟩
 ·obtain⟨its,rv,p,hz⟩:=I1.list hq
  refine wpAny_pyIter_list p.isList ?_
  exact⟨s1.heap.objs.size,[s1.heap.objs.size],_,_,H1,rfl,I1.kept (t':=s1.toks) fun b o e=>bz _ e,zJe a _,⟨_,bM _ rfl,rfl,rfl⟩,fpk,q hz⟩
 ·obtain⟨its,rv,p,hz⟩:=I1.tuple hq
  refine wpAny_pyIter_tuple (show s1.heap.IsTuple a its.toArray from p) ?_
  exact⟨s1.heap.objs.size,[s1.heap.objs.size],_,_,H1,rfl,I1.kept (t':=s1.toks) fun b o e=>bz _ e,zHo a _,⟨_,bM _ rfl,rfl,rfl⟩,fpk,q hz⟩
theorem zFV{K:PySem.W.Frag}{H0:Hp}{a:Addr}{ds:List D}:Walk K H0 ds (fun G=>Ls G a ds) (Itl K a) where
 go:=fun i G H g r u0 hi=>by
  obtain⟨xs,h1,h2⟩:=r.sq g
  exact⟨xs,xs[i]'(by rw[← h2.length];exact hi),h1,by simp⟩
 stop:=fun G H g r u0=>by
  obtain⟨xs,h1,h2⟩:=r.sq g
  exact⟨xs,h1,Nat.le_of_eq h2.length.symm⟩
 yld:=fun i G H x H' g r u0 hi y=>by
  obtain⟨xs,h1,h2⟩:=r.sq g
  obtain⟨e,y⟩:=y
  subst e
  obtain⟨d,e1,e2⟩:=h2.got (y xs h1)
  exact⟨.refl _,r,d,e1,e2⟩
theorem zK4{K:PySem.W.Frag}{H0:Hp}{a:Addr}{xs:List V}{ds:List D}(h:SqT K H0 a xs)(hd:Dens K H0 ds xs):Walk K H0 ds (fun u0=>True) (Itt K a) where
 go:=fun i G H u0 r g hi=>⟨xs,xs[i]'(by rw[← hd.length];exact hi),g.sqT h,by simp⟩
 stop:=fun G H u0 r g=>⟨xs,g.sqT h,Nat.le_of_eq hd.length.symm⟩
 yld:=fun i G H x H' u0 r g hi y=>by
  obtain⟨e,y⟩:=y
  subst e
  obtain⟨d,e1,e2⟩:=(hd.grow g).got (y xs (g.sqT h))
  exact⟨.refl _,r,d,e1,e2⟩
noncomputable def zy(lo:Int)(n:Nat):List D:=(bE n).map fun(k:Nat)=>D.int (lo+(k:Int))
theorem zAk(lo:Int)(n:Nat):(zy lo n).length=n:=by simp[zy]
theorem zHy{lo:Int}{n i:Nat}(h:i<n):(zy lo n)[i]?=some (.int (lo+i)):=by simp[zy,h]
theorem zEJ{K:PySem.W.Frag}{H0:Hp}{lo:Int}{n:Nat}:Walk K H0 (zy lo n) (fun u0=>True) (Itr lo n) where
 go:=fun i G H u0 u0 u0 hi=>by rw[zAk] at hi;exact hi
 stop:=fun G H u0 u0 u0=>by rw[zAk];exact bF _
 yld:=fun i G H x H' u0 r u0 hi y=>by
  rw[zAk] at hi
  obtain⟨e,rfl⟩:=y
  subst e
  exact⟨.refl _,r,_,zHy hi,by unfold zQ;rfl⟩
noncomputable def iV(t:ze):TI2:=fun σ G R=>t σ G fun d G1=>match d with
 | .tup ds=>R ds (fun u0=>True) G1
 | .adr a=>∃ ds,Ls G1 a ds∧R ds (fun G=>Ls G a ds) G1
 | _=>False
theorem zBf(h:E2 X l ta):I2 X tg l (iV ta):=by
 refine PI.mono (zK3 h) ?_
 rintro σ1 H R ⟨σ,G,R2,r,q,k⟩
 refine⟨σ,G,_,r,q,fun d G1 q1 v H1 g1 r1 d1=>?_⟩
 cases d with
 | tup ds =>
  unfold zQ at d1
  obtain⟨a,xs,rfl,h1,h2⟩:=d1
  exact⟨a,xs,rfl,.inr ⟨h1,fun hz=>k ds _ G1 q1 _ H1 g1 r1 (zK4 h1 h2) (by rw[h2.length];exact hz)⟩⟩
 | adr a =>
  unfold zQ at d1
  subst d1
  obtain⟨ds,e,q1⟩:=q1
  obtain⟨xs,h1,h2⟩:=r1.sq e
  exact⟨a,xs,rfl,.inl ⟨h1,fun hz=>k ds _ G1 q1 _ H1 g1 r1 zFV (by rw[h2.length];exact hz)⟩⟩
 | _=>exact q1.elim
noncomputable def iF(t:TL2):TI2:=fun σ G R=>t σ G fun ds G1=>∀ a,G1.m a=none→R ds (fun G=>Ls G a ds) (zN G1 a ds)
theorem zFW{t:TL2}(h:F2 X l t):I2 X tg l (iF t):=by
 refine PI.mono (zK3 h) ?_
 rintro σ1 H R ⟨σ,G,R2,r,q,k⟩
 refine⟨σ,G,_,r,q,fun ds G1 q1 a xs H1 g1 r1 n e1 d1=>?_⟩
 exact⟨a,xs,rfl,.inl ⟨.of e1,fun hz=>k ds _ _ (q1 a n) _ H1 g1 (r1.own e1 d1) zFV (by rw[d1.length];exact hz)⟩⟩
noncomputable def iR1(t:wW):TI2:=fun σ G R=>t σ G fun ds G1=>match ds with | [.int j]=>(-1000000≤j∧j≤1000000)∧R (zy 0 j.toNat) (fun u0=>True) G1 | _=>False
noncomputable def iR2(t:wW):TI2:=fun σ G R=>t σ G fun ds G1=>match ds with | [.int i,.int j]=>((-1000000≤i∧i≤1000000)∧-1000000≤j∧j≤1000000)∧R (zy i (j-i).toNat) (fun u0=>True) G1 | _=>False
theorem zAl{t:wW}(hg:Gl X "range")(hm:X.mg "range"=none)(ha:A2 X [a] t)(hs:starEach [a] X.env=[(false,eval a X.env)]:=by rfl):I2 X tg (.Call (.Name "range" p) [a] [] pos) (iR1 t):=by
 refine PI.mono (zJf hg hm ha hs) ?_
 rintro σ1 H R ⟨σ,G,R2,r,q,k⟩
 refine⟨σ,G,_,r,q,fun ds G1 q1 vs H1 g1 r1 d1=>?_⟩
 split at q1
 ·rename_i j
  unfold Dens at d1
  obtain⟨x,r',rfl,d1,d2⟩:=d1
  unfold zQ at d1
  unfold Dens at d2
  subst d1 d2
  refine⟨j,rfl,by omega,by omega,k _ _ G1 q1.2 _ H1 g1 r1 zEJ ?_⟩
  rw[zAk,sizeLine_eq];omega
 ·exact q1.elim
theorem zA9{t:wW}(hg:Gl X "range")(hm:X.mg "range"=none)(ha:A2 X [a,b] t)(hs:starEach [a,b] X.env=[(false,eval a X.env),(false,eval b X.env)]:=by rfl)(hs2:starEach [b] X.env=[(false,eval b X.env)]:=by rfl):I2 X tg (.Call (.Name "range" p) [a,b] [] pos) (iR2 t):=by
 refine PI.mono (zJg hg hm ha hs hs2) ?_
 rintro σ1 H R ⟨σ,G,R2,r,q,k⟩
 refine⟨σ,G,_,r,q,fun ds G1 q1 vs H1 g1 r1 d1=>?_⟩
 split at q1
 ·rename_i i j
  unfold Dens at d1
  obtain⟨x,r',rfl,d1,d2⟩:=d1
  unfold Dens at d2
  obtain⟨y,r',rfl,d2,d3⟩:=d2
  unfold zQ at d1 d2
  unfold Dens at d3
  subst d1 d2 d3
  refine⟨i,j,rfl,⟨by omega,by omega,by omega,by omega⟩,k _ _ G1 q1.2 _ H1 g1 r1 zEJ ?_⟩
  rw[zAk,sizeLine_eq];omega
 ·exact q1.elim
structure zAI (σ σ':S2):Prop where
 len:σ.length=σ'.length
 val:∀(i:Nat) d,σ[i]?=some (some d)→σ'[i]?=some (some d)
theorem zAI.refl(σ:S2):zAI σ σ:=⟨rfl,fun u0 u0 h=>h⟩
noncomputable def Fg(P:S2→Gp→Prop):S2→Gp→Prop:=fun σ G=>∃ σ' G',zAI σ' σ∧Sub G' G∧P σ' G'
theorem Fg.of{P:S2→Gp→Prop}{σ:S2}{G:Gp}(h:P σ G):Fg P σ G:=⟨σ,G,.refl σ,.refl G,h⟩
theorem Rel.sub{K:PySem.W.Frag}{σ σ':S2}{G G':Gp}{σ1:L2.St}{H:Hp}(r:Rel K σ G σ1 H)(s:zAI σ' σ)(g:Sub G' G):Rel K σ' G' σ1 H :=
 ⟨r.g.sub g,s.len.trans r.len,fun i d e=>r.val i d (s.val i d e)⟩
noncomputable def zP3(wi:TI2)(g:TG2)(tb:wD):wD:=fun E σ G=>wi σ G fun ds gd G1=>∃ Pv:Nat→S2→Gp→Prop,Pv 0 σ G1∧(∀ i σ G,i≤ds.length→Pv i σ G→gd G) ∧
 (∀ i x σ G,ds[i]?=some x→Pv i σ G→g x σ G fun σ2 G2=>tb { E with nx:=Fg (Pv (i+1)),ct:=Fg (Pv (i+1)),bk:=E.nx } σ2 G2)∧∀ σ G,Pv ds.length σ G→E.nx σ G
theorem zP4{wi:TI2}{g:TG2}{tb:wD}{body:List Stmt}(hp:PassesOwn (model X.prog X.w) X.A X.env X.xe)(hc:X.calm=true)(hi:I2 X tg iter wi)(hg:G2 X tg g)(hb:Ps2 X body tb)
  (hs:∀ x,foldedSetIterable iter X.env x=pure x:=by intro u0;rfl):P2 X (.For tg iter body [] pos) (zP3 wi g tb):=by
 refine PS.mono (L2.zOW hp hc hi hg hb hs) ?_
 rintro E σ1 H ⟨σ,G,D2,r,q,k⟩
 refine⟨σ,G,_,r,q,fun ds gd G1 q1 J H1 g1 r1 W hz=>?_⟩
 obtain⟨Pv,p0,pg,pt,pd⟩:=q1
 refine⟨fun i m σ1' H'=>m=ds.length-i∧i≤ds.length∧yF H1 H'∧∃ σ' G',Rel X.K σ' G' σ1' H'∧Pv i σ' G',⟨ds.length,by simp,dO _,.refl _,σ,G1,r.to g1 r1,p0⟩,?_⟩
 rintro i m σ1' H' ⟨rfl,hi',g',σ',G',r',p'⟩
 have gd':=pg i σ' G' hi' p'
 by_cases hlt:i<ds.length
 ·refine .inr ⟨W.go i G' H' gd' r'.g g' hlt,fun σ1'' H''=>yF H1 H''∧∃ σ'' G'',Rel X.K σ'' G'' σ1'' H''∧Pv (i+1) σ'' G'',fun σ1'' H'' ⟨a1,σ'',G'',a2,a3⟩=>⟨ds.length-(i+1),by omega,rfl,hlt,a1,σ'',G'',a2,a3⟩,fun x H'' y=>?_⟩
  obtain⟨gy,ry,d,e1,e2⟩:=W.yld i G' H' x H'' gd' r'.g g' hlt y
  replace g':=g'.trans gy
  refine⟨σ',G',d,_,r'.to gy ry,e2,pt i d σ' G' e1 p',fun σ2 G2 q2 σ12 H2 g2 r2=>⟨σ2,G2,_,r2,q2,?_⟩⟩
  have back:∀ σ3 G3,Fg (Pv (i+1)) σ3 G3→∀ σ13 H3,yF H2 H3→Rel X.K σ3 G3 σ13 H3→yF H1 H3∧∃ σ'' G'',Rel X.K σ'' G'' σ13 H3∧Pv (i+1) σ'' G'':=by
   rintro σ3 G3 ⟨σ4,G4,a1,a2,a3⟩ σ13 H3 g3 r3
   exact⟨(g'.trans g2).trans g3,σ4,G4,r3.sub a1 a2,a3⟩
  exact⟨back,fun σ3 G3 q3 σ13 H3 g3 r3=>k.nx σ3 G3 q3 σ13 H3 (((g1.trans g').trans g2).trans g3) r3,back,fun d3 G3 q3 v3 H3 g3 r3 dv=>k.rt d3 G3 q3 v3 H3 (((g1.trans g').trans g2).trans g3) r3 dv⟩
 ·have e:i=ds.length:=by omega
  subst e
  exact .inl ⟨W.stop G' H' gd' r'.g g',k.nx σ' G' (pd σ' G' p') σ1' H' (g1.trans g') r'⟩
noncomputable def FgG(P:Gp→Prop):Gp→Prop:=fun G=>∃ G',Sub G' G∧P G'
theorem FgG.of{P:Gp→Prop}{G:Gp}(h:P G):FgG P G:=⟨G,.refl G,h⟩
noncomputable def yE(wi:TI2)(bd:D→Option (List D))(tc:TT2)(te:ze):TL2:=fun σ G R=>wi σ G fun ds gd G1=>∀ A,G1.m A=none→∃ Pv:Nat→List D→Gp→Prop,Pv 0 [] (zN G1 A [])∧(∀ i acc G,i≤ds.length→Pv i acc G→gd G∧G.m A=some acc∧acc.length≤i) ∧
 (∀ i x acc G,ds[i]?=some x→Pv i acc G→match bd x with
  | some us=>tc (σ++us.map some) G fun b G3=>if b=true then te (σ++us.map some) G3 fun d G4=>G4.m A=some acc∧FgG (Pv (i+1) (acc++[d])) (zN G4 A (acc++[d])) else FgG (Pv (i+1) acc) G3
  | none=>False)∧∀ acc G,Pv ds.length acc G→∃ G',G'.m A=none∧Sub G' G∧R acc G'
noncomputable def Ts2(X:Cx)(ifs:List Expr)(t:TT2):Prop:=PTs X ifs (lT X.K t)
noncomputable def zDJ:TT2:=fun u0 G R=>R true G
theorem zEK:Ts2 X [] zDJ:=by
 intro pins s σ1 H Q I h
 refine zMs pins s σ1 H Q I ?_
 obtain⟨σ,G,R,r,q,k⟩:=h
 exact k true G q H (.refl H) r.g
theorem zAQ{t:TT2}(h:T2 X c t):Ts2 X [c] t:=zMt h
theorem Rel.app{K:PySem.W.Frag}{σ:S2}{G:Gp}{σ1:L2.St}{H:Hp}(r:Rel K σ G σ1 H){ds:List D}{vs:List V}(h:Dens K H ds vs):Rel K (σ++ds.map some) G (σ1++vs.map some) H :=
 ⟨r.g,by simp[r.len,h.length],fun i d e=>by
  by_cases hi:i<σ.length
  ·rw[cj hi] at e
   obtain⟨v,e1,e2⟩:=r.val i d e
   exact⟨v,by rw[cj (by rw[← r.len];exact hi)];exact e1,e2⟩
  ·rw[cn (by omega),bY] at e
   cases q:ds[i-σ.length]? with
   | none=>rw[q] at e;cases e
   | some d' =>
    rw[q] at e;cases e
    obtain⟨v,e1,e2⟩:=h.get q
    exact⟨v,by rw[cn (by rw[← r.len];omega),bY,← r.len,e1];rfl,e2⟩⟩
theorem zDK{K:PySem.W.Frag}{wi:TI2}{bd:D→Option (List D)}{tc:TT2}{te:ze}{n:Nat}{g:TG}{N:Nat}
  (hb:∀(σ1:L2.St) (H:Hp) (d:D) (v:V) (us:List D) (Q:L2.St→Hp→Prop),σ1.length=N→zQ K H d v→bd d=some us→us.length=n→(∀ vs,Dens K H us vs→Q (σ1++vs.map some) H)→g v (σ1++bL n none) H Q)
  (hn:∀ d us,bd d=some us→us.length=n)
  {σ1:L2.St} {H:Hp} {Q:VK} (hl:σ1.length=N) (h:lL K (yE wi bd tc te) σ1 H Q):zKz n (lI K wi) g (lT K tc) (lE K te) σ1 H Q:=by
 obtain⟨σ,G,R,r,q,k⟩:=h
 refine⟨σ,G,_,r,q,fun ds gd G1 q1 J H1 g1 r1 W hz A hA=>?_⟩
 obtain⟨Pv,p0,pg,pt,pd⟩:=q1 A (r1.free hA)
 refine⟨fun i m H2=>m=ds.length-i∧i≤ds.length∧yF H1 H2∧∃ as G2,yX K G2 H2∧Pv i as G2,⟨ds.length,by simp,dO _,.fresh hA,[],zN G1 A [],r1.new hA .nil,p0⟩,?_⟩
 rintro i m H2 ⟨rfl,hi',g2,as,G2,r2,p2⟩
 obtain⟨gd2,al,hlen⟩:=pg i as G2 hi' p2
 by_cases hlt:i<ds.length
 ·refine .inr ⟨W.go i G2 H2 gd2 r2 g2 hlt,fun x H3 y=>?_⟩
  obtain⟨gy,ry,d,e3,dv⟩:=W.yld i G2 H2 x H3 gd2 r2 g2 hlt y
  replace g2:=g2.trans gy
  replace r2:=ry
  have q3:=pt i d as G2 e3 p2
  cases eb:bd d with
  | none=>rw[eb] at q3;exact q3.elim
  | some us =>
   rw[eb] at q3
   dsimp only at q3
   have hus:=hn d us eb
   refine hb σ1 H3 d x us _ hl dv eb hus fun vs hv=>⟨?_,?_,?_⟩
   ·rw[List.take_append_of_le_length (bF _),cU]
   ·rw[bI,bx,← hv.length,hus]
   ·have rr:Rel K (σ++us.map some) G2 (σ1++vs.map some) H3:=(r.to (g1.trans g2) r2).app hv
    refine⟨σ++us.map some,G2,_,rr,q3,fun b G4 q4 H4 g4 r4=>?_⟩
    cases b with
    | false =>
     obtain⟨G5,s5,p5⟩:=q4
     exact⟨ds.length-(i+1),by omega,rfl,hlt,g2.trans g4,as,G5,r4.sub s5,p5⟩
    | true =>
     refine⟨σ++us.map some,G4,_,rr.to g4 r4,q4,fun d5 G5 q5 v H5 g5 r5 d5v=>?_⟩
     obtain⟨a5,G6,s6,p6⟩:=q5
     obtain⟨acc,e6,d6⟩:=r5.m A as a5
     refine⟨acc,e6,by rw[← d6.length];omega,ds.length-(i+1),by omega,rfl,hlt,((g2.trans g4).trans g5).trans (.lst e6),as++[d5],G6,?_,p6⟩
     exact(r5.put e6 (d6.append (.cons d5v .nil))).sub s6
 ·have e:i=ds.length:=by omega
  subst e
  obtain⟨G',n',s',q'⟩:=pd as G2 p2
  obtain⟨acc,e6,d6⟩:=r2.m A as al
  exact .inl ⟨W.stop G2 H2 gd2 r2 g2,k as G' q' A acc H2 (g1.trans g2) (r2.sub s') n' e6 d6⟩
noncomputable def bd1:D→Option (List D):=fun d=>some [d]
noncomputable def bd2:D→Option (List D):=fun d=>match d with | .tup [a,b]=>some [a,b] | _=>none
section
variable {ifs:List Expr} {sc:Scope} {N0:List Str} {wi:TI2} {tc:TT2}
theorem PE.at{t t':TE}(h:PE X e t)(hm:∀ σ H Q,σ.length=X.N.length→t' σ H Q→t σ H Q):PE X e t':=fun pins s σ H Q I q=>h pins s σ H Q I (hm σ H Q I.len q)
theorem PS.at{st:Stmt}{t t':TS}(h:PS X st t)(hm:∀ E σ H,σ.length=X.N.length→t' E σ H→t E σ H):PS X st t':=fun pins s σ H E I q=>h pins s σ H E I (hm E σ H I.len q)
theorem zGt(s t:List (Option V))(x:Option V):List.set (s++t) (List.length s) x=s++t.set 0 x:=by
 rw[eH _ _ (bF _),Nat.sub_self]
theorem zK5(s t:List (Option V))(x:Option V):List.set (s++t) (List.length s+1) x=s++t.set 1 x:=by
 rw[eH _ _ (show s.length≤s.length+1 by omega),Nat.add_sub_cancel_left]
theorem bind1{K:PySem.W.Frag}{N:Nat}(σ1:L2.St)(H:Hp)(d:D)(v:V)(us:List D)(Q:L2.St→Hp→Prop)(hl:σ1.length=N)(dv:zQ K H d v)(eb:bd1 d=some us)(hus:us.length=1)(h:∀ vs,Dens K H us vs→Q (σ1++vs.map some) H):zCk N v (σ1++bL 1 none) H Q:=by
 cases eb
 have:=h [v] (.cons dv .nil)
 show Q (List.set (σ1++[none]) N (some v)) H
 rw[← hl,zGt]
 exact this
theorem zP5{K:PySem.W.Frag}{N:Nat}(σ1:L2.St)(H:Hp)(d:D)(v:V)(us:List D)(Q:L2.St→Hp→Prop)(hl:σ1.length=N)(dv:zQ K H d v)(eb:bd2 d=some us)(hus:us.length=2)(h:∀ vs,Dens K H us vs→Q (σ1++vs.map some) H):zOQ K 2 (zGh (zCk N) (zGh (zCk (N+1)) zOP)) v (σ1++bL 2 none) H Q:=by
 unfold bd2 at eb
 split at eb
 ·rename_i d1 d2
  cases eb
  unfold zQ at dv
  obtain⟨a,xs,rfl,hs,hd⟩:=dv
  have hd0:=hd
  unfold Dens at hd
  obtain⟨x1,r1,rfl,h1,hd⟩:=hd
  unfold Dens at hd
  obtain⟨x2,r2,rfl,h2,hd⟩:=hd
  unfold Dens at hd
  subst hd
  refine⟨a,[x1,x2],rfl,hs,rfl,x1,[x2],rfl,x2,[],rfl,rfl,?_⟩
  have:=h [x1,x2] hd0
  rw[← hl]
  have e1:List.set (σ1++bL 2 none) (List.length σ1) (some x1)=σ1++[some x1,none]:=zGt σ1 _ _
  rw[e1,zK5]
  exact this
 ·cases eb
theorem zMu(x:Str){px:Pos}(hc:X.calm=true)(T:zCX X sc N0)(hi:I2 X (.Name x px) iter wi)
  (hnd:(N0++[x]).Nodup) (hx:(relabel sc X.env).names.lookup x=some .local)
  (ht:∀ C s H fp pins,Ts2 (X.comp (N0++[x]) sc C s H fp pins) ifs tc) (he:∀ C s H fp pins,E2 (X.comp (N0++[x]) sc C s H fp pins) elt te)
  (hs:∀ x,foldedSetIterable iter X.env x=pure x:=by intro u0;rfl):F2 X (.ListComp elt [⟨.Name x px,iter,ifs,0⟩] sc pos) (yE wi bd1 tc te):=by
 refine PE.at (zIw (own:=[x]) (g:=zCk X.N.length) (tc:=lT X.K tc) (te:=lE X.K te) hc T hi (fun C s H fp pins=>zBI (X:=X.comp (N0++[x]) sc C s H fp pins) hnd (by
  show(N0++[x])[X.N.length]?=some x
  rw[← T.len];simp) (.inl hx) (.inr hx)) ht he hs) fun σ H Q hl h=>?_
 exact zDK (n:=1) (N:=X.N.length) bind1 (fun d us e=>by cases e;rfl) hl h
theorem zMv(x y:Str){px py pt:Pos}{kk:Nat}(hc:X.calm=true)(T:zCX X sc N0)(hi:I2 X (.Tuple [.Name x px,.Name y py] kk pt) iter wi)
  (hnd:(N0++[x,y]).Nodup) (hx:(relabel sc X.env).names.lookup x=some .local) (hy:(relabel sc X.env).names.lookup y=some .local)
  (ht:∀ C s H fp pins,Ts2 (X.comp (N0++[x,y]) sc C s H fp pins) ifs tc) (he:∀ C s H fp pins,E2 (X.comp (N0++[x,y]) sc C s H fp pins) elt te)
  (hs:∀ x,foldedSetIterable iter X.env x=pure x:=by intro u0;rfl):F2 X (.ListComp elt [⟨.Tuple [.Name x px,.Name y py] kk pt,iter,ifs,0⟩] sc pos) (yE wi bd2 tc te):=by
 refine PE.at (zIw (own:=[x,y]) (g:=zOQ X.K 2 (zGh (zCk X.N.length) (zGh (zCk (X.N.length+1)) zOP))) (tc:=lT X.K tc) (te:=lE X.K te) hc T hi (fun C s H fp pins=>?_) ht he hs) fun σ H Q hl h=>?_
 ·have e1:(X.comp (N0++[x,y]) sc C s H fp pins).N[X.N.length]?=some x:=by
   show(N0++[x,y])[X.N.length]?=some x
   rw[← T.len];simp
  have e2:(X.comp (N0++[x,y]) sc C s H fp pins).N[X.N.length+1]?=some y:=by
   show(N0++[x,y])[X.N.length+1]?=some y
   rw[← T.len];simp
  exact zKo (X:=X.comp (N0++[x,y]) sc C s H fp pins) (n:=2) hc (zCl (zBI hnd e1 (.inl hx) (.inr hx)) (zCl (zBI hnd e2 (.inl hy) (.inr hy)) zIq))
 ·refine zDK (n:=2) (N:=X.N.length) zP5 (fun d us e=>?_) hl h
  unfold bd2 at e
  split at e<;>first | (cases e;rfl) | (cases e;done)
noncomputable def zAm(i:Nat)(t:TL2):wD:=fun E σ G=>t σ G fun ds G'=>∀ l,G'.m l=none→E.nx (σ.set i (some (.adr l))) (zN G' l ds)
theorem zHz(i:Nat)(x:Str){y:Str}{px py spos:Pos}(hc:X.calm=true)(T:zCX X sc N0)(hi:I2 X (.Name x px) iter wi)
  (hnd:(N0++[x]).Nodup) (hx:(relabel sc X.env).names.lookup x=some .local)
  (ht:∀ C s H fp pins,Ts2 (X.comp (N0++[x]) sc C s H fp pins) ifs tc) (he:∀ C s H fp pins,E2 (X.comp (N0++[x]) sc C s H fp pins) elt te)
  (hN:X.N.Nodup) (hy:X.N[i]?=some y) (hl:X.env.scope.names.lookup y=some .local)
  (hsw:swapsWith (.ListComp elt [⟨.Name x px,iter,ifs,0⟩] sc pos) (some (.Name y py)) spos.line X.env=pure true)
  (hs:∀ x,foldedSetIterable iter X.env x=pure x:=by intro u0;rfl):P2 X (.Assign [.Name y py] (.ListComp elt [⟨.Name x px,iter,ifs,0⟩] sc pos) spos) (zAm i (yE wi bd1 tc te)):=by
 refine PS.at (zHx (own:=[x]) (g:=zCk X.N.length) (tc:=lT X.K tc) (te:=lE X.K te) hc T hi (fun C s H fp pins=>zBI (X:=X.comp (N0++[x]) sc C s H fp pins) hnd (by
  show(N0++[x])[X.N.length]?=some x
  rw[← T.len];simp) (.inl hx) (.inr hx)) ht he hN hy hl hsw hs) fun E σ1 H hl h=>?_
 obtain⟨σ,G,D2,r,q,k⟩:=h
 refine zDK (n:=1) (N:=X.N.length) bind1 (fun d us e=>by cases e;rfl) hl ⟨σ,G,_,r,q,fun ds G' q' l xs H' g' r' n e d=>?_⟩
 exact k.nx _ _ (q' l n) _ H' g' ((r.to g' (r'.own e d)).set i (by unfold zQ;rfl))
end
end
section
variable {X:Cx} {a b c e o:Expr} {es:List Expr} {pos p:Pos} {ta tb te:ze}
noncomputable def zOv(ta tb:ze):ze:=fun σ G R=>ta σ G fun x G1=>match x with | .bl c=>if c=true then tb σ G1 R else R (.bl false) G1 | _=>False
noncomputable def zOw(ta:ze):ze:=fun σ G R=>ta σ G fun x G1=>match x with | .bl c=>R (.bl (!c)) G1 | _=>False
theorem zNu{op}(h:E2 X a ta):E2 X (.BoolOp op [a] pos) ta:=zOK h
theorem zNv{rest:List Expr}(ha:E2 X a ta)(hb:E2 X (.BoolOp .And (b::rest) pos) tb):E2 X (.BoolOp .And (a::b::rest) pos) (zOv ta tb):=by
 refine PE.mono (zOL ha hb) ?_
 rintro σ1 H Q ⟨σ,G,R,r,q,k⟩
 refine⟨σ,G,_,r,q,fun d G1 q1 v H1 g1 r1 d1=>?_⟩
 cases d with
 | bl c =>
  unfold zQ at d1
  refine⟨c,d1,?_⟩
  cases c with
  | true=>exact⟨σ,G1,R,r.to g1 r1,q1,fun d G' q' v H' g'=>k d G' q' v H' (g1.trans g')⟩
  | false=>exact k _ G1 q1 _ H1 g1 r1 (by unfold zQ;rfl)
 | _=>exact q1.elim
theorem zP6(ha:E2 X a ta):E2 X (.UnaryOp .Not a pos) (zOw ta):=by
 refine PE.mono (zOM ha) ?_
 rintro σ1 H Q ⟨σ,G,R,r,q,k⟩
 refine⟨σ,G,_,r,q,fun d G1 q1 v H1 g1 r1 d1=>?_⟩
 cases d with
 | bl c =>
  unfold zQ at d1
  exact⟨c,d1,k _ G1 q1 _ H1 g1 r1 (by unfold zQ;rfl)⟩
 | _=>exact q1.elim
theorem zEL(h:E2 X e te)(he:∀ whole,isTrue e X.env whole=(do let v ← whole;standAt e.pos;holding [v] (truthy v)):=by intro u0;rfl):T2 X e (xB te):=by
 refine PT.mono (zOG h he) ?_
 rintro σ1 H Q ⟨σ,G,R,r,q,k⟩
 refine⟨σ,G,_,r,q,fun d G1 q1 v H1 g1 r1 d1=>?_⟩
 cases d with
 | bl c =>
  unfold zQ at d1
  exact⟨c,d1,k _ G1 q1 H1 g1 r1⟩
 | _=>exact q1.elim
section
variable {t u:TT2} {rest:List Expr}
noncomputable def W2(X:Cx)(e:Expr)(t:TT2):Prop:=PW X e (lT X.K t)
theorem W2.test(h:W2 X e t):T2 X e t:=PW.pt h
noncomputable def zCq(t u:TT2):TT2:=fun σ G R=>t σ G fun c G1=>if c=true then u σ G1 R else R false G1
noncomputable def zCr(t u:TT2):TT2:=fun σ G R=>t σ G fun c G1=>if c=true then R true G1 else u σ G1 R
noncomputable def zAn(t:TT2):TT2:=fun σ G R=>t σ G fun c G1=>R (!c) G1
theorem PW.mono{t t':TT}(h:PW X e t)(hm:∀ σ H Q,t' σ H Q→t σ H Q):PW X e t':=fun w pins s σ H Q I q=>h w pins s σ H Q I (hm σ H Q q)
theorem zOx(ha:T2 X a t):W2 X (.BoolOp .And [a] pos) t:=zMX ha
theorem zK6(ha:T2 X a t):W2 X (.BoolOp .Or [a] pos) t:=zOH ha
theorem w_and(ha:T2 X a t)(hb:W2 X (.BoolOp .And (b::rest) pos) u):W2 X (.BoolOp .And (a::b::rest) pos) (zCq t u):=by
 refine PW.mono (zOI ha hb) ?_
 rintro σ1 H Q ⟨σ,G,R,r,q,k⟩
 refine⟨σ,G,_,r,q,fun c G1 q1 H1 g1 r1=>?_⟩
 cases c with
 | true=>exact⟨σ,G1,R,r.to g1 r1,q1,fun b G' q' H' g'=>k b G' q' H' (g1.trans g')⟩
 | false=>exact k _ G1 q1 H1 g1 r1
theorem w_or(ha:T2 X a t)(hb:W2 X (.BoolOp .Or (b::rest) pos) u):W2 X (.BoolOp .Or (a::b::rest) pos) (zCr t u):=by
 refine PW.mono (zPf ha hb) ?_
 rintro σ1 H Q ⟨σ,G,R,r,q,k⟩
 refine⟨σ,G,_,r,q,fun c G1 q1 H1 g1 r1=>?_⟩
 cases c with
 | true=>exact k _ G1 q1 H1 g1 r1
 | false=>exact⟨σ,G1,R,r.to g1 r1,q1,fun b G' q' H' g'=>k b G' q' H' (g1.trans g')⟩
theorem zIz(ha:T2 X a t):T2 X (.UnaryOp .Not a pos) (zAn t):=by
 refine PT.mono (zOJ ha) ?_
 rintro σ1 H Q ⟨σ,G,R,r,q,k⟩
 exact⟨σ,G,_,r,q,fun c G1 q1 H1 g1 r1=>k _ G1 q1 H1 g1 r1⟩
end
theorem zI0(ha:E2 X a ta)(hb:E2 X b tb):E2 X (.BinOp a .Sub b pos) (zP (fII fun i j=>.int (i-j)) ta tb):=zGs zOb (zEI fun u0 u0=>⟨rfl,rfl⟩) ha hb
theorem zBg(ha:E2 X a ta)(hb:E2 X b tb):E2 X (.BinOp a .Mult b pos) (zP (yd zCV fun i j=>.int (i*j)) ta tb):=zGs zOc (zCp fun u0 u0=>⟨rfl,rfl⟩) ha hb
theorem zF5(ha:E2 X a ta)(hb:E2 X b tb):E2 X (.BinOp a .FloorDiv b pos) (zP (yd zGj fun i j=>.int (i / j)) ta tb):=zGs zMb (zCp fun u0 u0=>⟨rfl,rfl⟩) ha hb
theorem zFX(ha:E2 X a ta)(hb:E2 X b tb):E2 X (.BinOp a .Mod b pos) (zP (yd (fun u0 j=>0<j) fun i j=>.int (i%j)) ta tb):=zGs zOd (zCp fun u0 u0=>⟨rfl,rfl⟩) ha hb
theorem zNw(ha:E2 X a ta)(hb:E2 X b tb):E2 X (.BinOp a .Pow b pos) (zP (yd zDq fun i j=>.int (i ^ j.toNat)) ta tb):=zGs zOe (zCp fun u0 u0=>⟨rfl,rfl⟩) ha hb
theorem zMw(ha:E2 X a ta)(hb:E2 X b tb):T2 X (.Compare a [.Lt] [b] pos) (xB (zP (fII fun i j=>.bl (decide (i<j))) ta tb)):=zCo zPp (zEI fun u0 u0=>⟨rfl,rfl⟩) ha hb (zBd _)
theorem zP7(ha:E2 X a ta)(hb:E2 X b tb):T2 X (.Compare a [.Gt] [b] pos) (xB (zP (fII fun i j=>.bl (decide (j<i))) ta tb)):=zCo zPq (zEI fun u0 u0=>⟨rfl,rfl⟩) ha hb (zBd _)
theorem zQo(ha:E2 X a ta)(hb:E2 X b tb):T2 X (.Compare a [.GtE] [b] pos) (xB (zP (fII fun i j=>.bl (decide (j≤i))) ta tb)):=zCo zPr (zEI fun u0 u0=>⟨rfl,rfl⟩) ha hb (zBd _)
mutual
noncomputable def eqD:D→D→Bool
 | .non,.non=>true
 | .bl a,.bl b=>a==b
 | .int a,.int b=>a==b
 | .bl a,.int b=>(if a then 1 else 0)==b
 | .int a,.bl b=>a==(if b then 1 else 0)
 | .str a,.str b=>a==b
 | .tup a,.tup b=>eqDs a b
 | _,_=>false
noncomputable def eqDs:List D→List D→Bool
 | [],[]=>true
 | x::xs,y::ys=>eqD x y&&eqDs xs ys
 | _,_=>false
end
noncomputable def flat:Nat→D→Bool
 | _,.non=>true
 | _,.bl _=>true
 | _,.int _=>true
 | _,.str _=>true
 | _,.adr _=>false
 | _,.dic _=>false
 | 0,.tup _=>false
 | n+1,.tup ds=>ds.all (flat n)
theorem zEM:∀(xs ys:List D),eqDs xs ys=((bE (min xs.length ys.length)).all (fun j=>eqD (xs.getD j .non) (ys.getD j .non))&&xs.length==ys.length)
 | [],[]=>by simp[eqDs]
 | [],y::ys=>by simp[eqDs]
 | x::xs,[]=>by simp[eqDs]
 | x::xs,y::ys=>by
  unfold eqDs
  rw[zEM xs ys]
  have e1:min (x::xs).length (y::ys).length=min xs.length ys.length+1:=by simp only[bu];omega
  rw[e1,List.range_succ_eq_map,List.all_cons,List.all_map]
  have e2:((x::xs).length==(y::ys).length)=(xs.length==ys.length):=by
   rw[bS];simp
  rw[e2,Bool.and_assoc]
  rfl
mutual
theorem zCs:∀ d:D,(∀ n,flat n d=true→eqD d d=true)
 | .non,_,_=>rfl
 | .bl b,_,_=>by show(b==b)=true;simp
 | .int b,_,_=>by show(b==b)=true;simp
 | .str b,_,_=>by show(b==b)=true;simp
 | .adr _,n,h=>by cases n<;>simp[flat] at h
 | .dic _,n,h=>by cases n<;>simp[flat] at h
 | .tup ds,0,h=>by simp[flat] at h
 | .tup ds,n+1,h=>by
  show eqDs ds ds=true
  exact eqDs_refl ds n (by simpa[flat] using h)
theorem eqDs_refl:∀ ds:List D,(∀ n,(∀ d∈ds,flat n d=true)→eqDs ds ds=true)
 | [],_,_=>rfl
 | d::ds,n,h=>by
  show(eqD d d&&eqDs ds ds)=true
  rw[zCs d n (h d cc),eqDs_refl ds n fun x hx=>h x (ca _ hx)]
  rfl
end
section
variable {pins:List (Addr×Obj)} {σ1:L2.St} {H:Hp} {s:Shared}
mutual
theorem zQ.inj(I:zW X pins σ1 H s):∀ {d d':D} {v:V} {n n':Nat},zQ X.K H d v→zQ X.K H d' v→flat n d=true→flat n' d'=true→d=d' 
 | .non,d',v,n,n',h,h',f,f'=>by
  unfold zQ at h;subst h
  cases d' with
  | tup _=>unfold zQ at h';obtain⟨u0,u0,e,u0⟩:=h';cases e
  | dic _=>unfold zQ at h';cases h'.1
  | _=>unfold zQ at h';first | rfl | cases h'
 | .bl b,d',v,n,n',h,h',f,f'=>by
  unfold zQ at h;subst h
  cases d' with
  | tup _=>unfold zQ at h';obtain⟨u0,u0,e,u0⟩:=h';cases e
  | dic _=>unfold zQ at h';cases h'.1
  | _=>unfold zQ at h';first | cases h';rfl | cases h'
 | .int b,d',v,n,n',h,h',f,f'=>by
  unfold zQ at h;subst h
  cases d' with
  | tup _=>unfold zQ at h';obtain⟨u0,u0,e,u0⟩:=h';cases e
  | dic _=>unfold zQ at h';cases h'.1
  | _=>unfold zQ at h';first | cases h';rfl | cases h'
 | .str b,d',v,n,n',h,h',f,f'=>by
  unfold zQ at h;subst h
  cases d' with
  | tup _=>unfold zQ at h';obtain⟨u0,u0,e,u0⟩:=h';cases e
  | dic _=>unfold zQ at h';cases h'.1
  | _=>unfold zQ at h';first | cases h';rfl | cases h'
 | .adr _,d',v,n,n',h,h',f,f'=>by cases n<;>simp[flat] at f
 | .dic _,d',v,n,n',h,h',f,f'=>by cases n<;>simp[flat] at f
 | .tup ds,d',v,n,n',h,h',f,f'=>by
  unfold zQ at h
  obtain⟨a,xs,rfl,hs,hd⟩:=h
  cases d' with
  | tup ds' =>
   unfold zQ at h'
   obtain⟨a',xs',e,hs',hd'⟩:=h'
   cases e
   have:=I.tuple_inj hs hs'
   subst this
   cases n with
   | zero=>simp[flat] at f
   | succ n =>
    cases n' with
    | zero=>simp[flat] at f'
    | succ n'=>rw[Dens.inj I hd hd' (by simpa[flat] using f) (by simpa[flat] using f')]
  | adr _=>cases n'<;>simp[flat] at f'
  | dic _=>cases n'<;>simp[flat] at f'
  | _=>unfold zQ at h';cases h'
theorem Dens.inj(I:zW X pins σ1 H s):∀ {ds ds':List D} {xs:List V} {n n':Nat},Dens X.K H ds xs→Dens X.K H ds' xs→(∀ d∈ds,flat n d=true)→(∀ d∈ds',flat n' d=true)→ds=ds'
 | [],ds',xs,n,n',h,h',f,f'=>by
  unfold Dens at h;subst h
  cases ds' with
  | nil=>rfl
  | cons _ _=>unfold Dens at h';obtain⟨u0,u0,e,u0⟩:=h';cases e
 | d::ds,ds',xs,n,n',h,h',f,f'=>by
  unfold Dens at h
  obtain⟨x,r,rfl,h1,h2⟩:=h
  cases ds' with
  | nil=>unfold Dens at h';cases h'
  | cons d' ds' =>
   unfold Dens at h'
   obtain⟨x',r',e,h1',h2'⟩:=h'
   cases e
   rw[zQ.inj I h1 h1' (f d cc) (f' d' cc),Dens.inj I h2 h2' (fun z hz=>f z (ca _ hz)) fun z hz=>f' z (ca _ hz)]
end
theorem in1_units{A:Around}:A.in1.units=A.units+1:=rfl
theorem zK7(I:zW X pins σ1 H s):∀(n:Nat) (d d':D) (v v':V) (u u':Value) (A:Around),zQ X.K H d v→zQ X.K H d' v'→RelV v u→RelV v' u'→flat n d=true→flat n d'=true→A.units+n<cLine→SeqAt.EqAt A s u u' (eqD d d'):=by
 intro n
 induction n with
 | zero =>
  intro d d' v v' u u' A h h' r r' f f' hu
  have fv:∀ {d:D} {v:V},flat 0 d=true→zQ X.K H d v→zIu v=true∧v=vOf d:=fun {d v} f h=>by
   cases d<;>first | (simp[flat] at f;done) | (unfold zQ at h;subst h;exact⟨rfl,rfl⟩)
  obtain⟨f1,e1⟩:=fv f h
  obtain⟨f2,e2⟩:=fv f' h'
  have q:=zKv (A:=A) (s:=s) r r' f1 f2
  have e:eqV v v'=eqD d d':=by
   rw[e1,e2]
   cases d<;>first | (simp[flat] at f;done) | (cases d'<;>first | (simp[flat] at f';done) | rfl)
  rw[← e];exact q
 | succ n ih =>
  intro d d' v v' u u' A h h' r r' f f' hu
  by_cases hs:flat 0 d=true∧flat 0 d'=true
  ·have fv:∀ {d:D} {v:V},flat 0 d=true→zQ X.K H d v→zIu v=true∧v=vOf d:=fun {d v} f h=>by
    cases d<;>first | (simp[flat] at f;done) | (unfold zQ at h;subst h;exact⟨rfl,rfl⟩)
   obtain⟨f1,e1⟩:=fv hs.1 h
   obtain⟨f2,e2⟩:=fv hs.2 h'
   have q:=zKv (A:=A) (s:=s) r r' f1 f2
   have e:eqV v v'=eqD d d':=by
    rw[e1,e2]
    cases d<;>first | (simp[flat] at hs;done) | (cases d'<;>first | (simp[flat] at hs;done) | rfl)
   rw[← e];exact q
  ·have hu0:A.units<cLine:=by omega
   cases d with
   | tup ds =>
    unfold zQ at h
    obtain⟨a,xs,rfl,hsq,hd⟩:=h
    cases r
    obtain⟨its,rv,tp,u0⟩:=I.tuple hsq
    have tp':s.heap.IsTuple a its.toArray:=tp
    cases d' with
    | tup ds' =>
     unfold zQ at h'
     obtain⟨a',xs',rfl,hsq',hd'⟩:=h'
     cases r'
     obtain⟨its',rv',tp2,u0⟩:=I.tuple hsq'
     by_cases ha:a=a'
     ·subst ha
      have:=I.tuple_inj hsq hsq'
      subst this
      have hds:ds=ds':=Dens.inj I hd hd' (by simpa[flat] using f) (by simpa[flat] using f')
      subst hds
      have e:eqD (.tup ds) (.tup ds)=true:=zCs _ _ f
      rw[e]
      exact SeqAt.EqAt.same _
     ·have q:=SeqAt.EqAt.of_refs ha (SeqAt.RcAt.tuples (A:=A) (s:=s) (e:=fun j=>eqD (ds.getD j .non) (ds'.getD j .non)) tp' (show s.heap.IsTuple a' its'.toArray from tp2) hu0 fun j h1 h2=>by
       have h1':j<its.length:=by simpa using h1
       have h2':j<its'.length:=by simpa using h2
       have l1:=hd.length
       have l2:=rv.length
       have l3:=hd'.length
       have l4:=rv'.length
       obtain⟨x,ex,dx⟩:=hd.get (i:=j) (d:=ds[j]'(by omega)) (by simp)
       obtain⟨y,ey,dy⟩:=hd'.get (i:=j) (d:=ds'[j]'(by omega)) (by simp)
       obtain⟨ux,eux,rx⟩:=rv.get ex
       obtain⟨uy,euy,ry⟩:=rv'.get ey
       have e1:its.toArray[j]=ux:=by
        have:=(bN.mp eux).2
        simpa using this
       have e2:its'.toArray[j]=uy:=by
        have:=(bN.mp euy).2
        simpa using this
       have g1:ds.getD j .non=ds[j]'(by omega):=by simp[cJ,(show j<ds.length by omega)]
       have g2:ds'.getD j .non=ds'[j]'(by omega):=by simp[cJ,(show j<ds'.length by omega)]
       rw[e1,e2]
       show SeqAt.EqAt A.in1 s ux uy (eqD (ds.getD j .non) (ds'.getD j .non))
       rw[g1,g2]
       refine ih _ _ x y ux uy A.in1 dx dy rx ry ?_ ?_ (by rw[in1_units];omega)
       ·have:∀ d∈ds,flat n d=true:=by simpa[flat] using f
        exact this _ (di _)
       ·have:∀ d∈ds',flat n d=true:=by simpa[flat] using f'
        exact this _ (di _))
      have e:eqD (.tup ds) (.tup ds')=((bE (min its.toArray.size its'.toArray.size)).all (fun j=>eqD (ds.getD j .non) (ds'.getD j .non))&&its.toArray.size==its'.toArray.size):=by
       show eqDs ds ds'=_
       rw[zEM]
       simp[hd.length,rv.length,hd'.length,rv'.length]
      rw[e];exact q
    | adr _=>simp[flat] at f'
    | dic _=>simp[flat] at f'
    | non=>unfold zQ at h';subst h';cases r';exact SeqAt.EqAt.tuple_none tp' hu0
    | bl _=>unfold zQ at h';subst h';cases r';exact SeqAt.EqAt.tuple_bool _ tp' hu0
    | int _=>unfold zQ at h';subst h';obtain⟨t,rfl⟩:=r';exact SeqAt.EqAt.tuple_int _ _ tp' hu0
    | str _=>unfold zQ at h';subst h';obtain⟨t,rfl⟩:=r';exact SeqAt.EqAt.tuple_str _ _ tp' hu0
   | adr _=>simp[flat] at f
   | dic _=>simp[flat] at f
   | non =>
    cases d' with
    | tup ds' =>
     unfold zQ at h h';subst h;cases r
     obtain⟨a',xs',rfl,hsq',hd'⟩:=h'
     cases r'
     obtain⟨its',rv',tp2,u0⟩:=I.tuple hsq'
     exact SeqAt.EqAt.none_tuple (show s.heap.IsTuple a' its'.toArray from tp2) hu0
    | adr _=>simp[flat] at f'
    | dic _=>simp[flat] at f'
    | _=>exact absurd ⟨rfl,rfl⟩ hs
   | bl _ =>
    cases d' with
    | tup ds' =>
     unfold zQ at h h';subst h;cases r
     obtain⟨a',xs',rfl,hsq',hd'⟩:=h'
     cases r'
     obtain⟨its',rv',tp2,u0⟩:=I.tuple hsq'
     exact SeqAt.EqAt.bool_tuple _ (show s.heap.IsTuple a' its'.toArray from tp2) hu0
    | adr _=>simp[flat] at f'
    | dic _=>simp[flat] at f'
    | _=>exact absurd ⟨rfl,rfl⟩ hs
   | int _ =>
    cases d' with
    | tup ds' =>
     unfold zQ at h h';subst h;obtain⟨t,rfl⟩:=r
     obtain⟨a',xs',rfl,hsq',hd'⟩:=h'
     cases r'
     obtain⟨its',rv',tp2,u0⟩:=I.tuple hsq'
     exact SeqAt.EqAt.int_tuple _ _ (show s.heap.IsTuple a' its'.toArray from tp2) hu0
    | adr _=>simp[flat] at f'
    | dic _=>simp[flat] at f'
    | _=>exact absurd ⟨rfl,rfl⟩ hs
   | str _ =>
    cases d' with
    | tup ds' =>
     unfold zQ at h h';subst h;obtain⟨t,rfl⟩:=r
     obtain⟨a',xs',rfl,hsq',hd'⟩:=h'
     cases r'
     obtain⟨its',rv',tp2,u0⟩:=I.tuple hsq'
     exact SeqAt.EqAt.str_tuple _ _ (show s.heap.IsTuple a' its'.toArray from tp2) hu0
    | adr _=>simp[flat] at f'
    | dic _=>simp[flat] at f'
    | _=>exact absurd ⟨rfl,rfl⟩ hs
end
end
section
variable {X:Cx} {pins:List (Addr×Obj)} {σ1:L2.St} {H:Hp} {s:Shared} {A:Around}
theorem zD0(I:zW X pins σ1 H s){n:Nat}{ds ds':List D}{xs xs':List V}{its its':List Value}(hd:Dens X.K H ds xs)(hd':Dens X.K H ds' xs')(rv:zY xs its)(rv':zY xs' its')
  (f:∀ d∈ds,flat n d=true) (f':∀ d∈ds',flat n d=true) (hu:A.units+n<cLine) (j:Nat) (h1:j<its.toArray.size) (h2:j<its'.toArray.size) :
  SeqAt.EqAt A s its.toArray[j] its'.toArray[j] (eqD (ds.getD j .non) (ds'.getD j .non)):=by
 have h1':j<its.length:=by simpa using h1
 have h2':j<its'.length:=by simpa using h2
 have l1:=hd.length
 have l2:=rv.length
 have l3:=hd'.length
 have l4:=rv'.length
 obtain⟨x,ex,dx⟩:=hd.get (i:=j) (d:=ds[j]'(by omega)) (by simp)
 obtain⟨y,ey,dy⟩:=hd'.get (i:=j) (d:=ds'[j]'(by omega)) (by simp)
 obtain⟨ux,eux,rx⟩:=rv.get ex
 obtain⟨uy,euy,ry⟩:=rv'.get ey
 have e1:its.toArray[j]=ux:=by
  have:=(bN.mp eux).2
  simpa using this
 have e2:its'.toArray[j]=uy:=by
  have:=(bN.mp euy).2
  simpa using this
 have g1:ds.getD j .non=ds[j]'(by omega):=by simp[cJ,(show j<ds.length by omega)]
 have g2:ds'.getD j .non=ds'[j]'(by omega):=by simp[cJ,(show j<ds'.length by omega)]
 rw[e1,e2,g1,g2]
 exact zK7 I n _ _ x y ux uy A dx dy rx ry (f _ (di _)) (f' _ (di _)) hu
theorem zBK{ds ds':List D}{n n':Nat}(h:ds.length=n)(h':ds'.length=n'):eqDs ds ds'=((bE (min n n')).all (fun j=>eqD (ds.getD j .non) (ds'.getD j .non))&&n==n'):=by
 rw[zEM,h,h']
theorem zOy(I:zW X pins σ1 H s){n:Nat}{d d':D}{v v':V}{u u':Value}(h:zQ X.K H d v)(h':zQ X.K H d' v')(r:RelV v u)(r':RelV v' u')(f:flat n d=true)(f':flat n d'=true)(hu:A.units+n+1<cLine) :
  SeqAt.RcAt A s u u' (eqD d d'):=by
 have hu0:A.units<cLine:=by omega
 have tupI:∀ {d:D} {v:V} {u:Value} {ds:List D},d=.tup ds→zQ X.K H d v→RelV v u→∃ a xs its,u=.ref a∧Dens X.K H ds xs∧zY xs its∧s.heap.IsTuple a its.toArray:=fun {d v u ds} e h r=>by
  subst e
  unfold zQ at h
  obtain⟨a,xs,rfl,hs,hd⟩:=h
  cases r
  obtain⟨its,rv,tp,u0⟩:=I.tuple hs
  exact⟨a,xs,its,rfl,hd,rv,tp⟩
 cases d with
 | tup ds =>
  obtain⟨a,xs,its,rfl,hd,rv,tp⟩:=tupI rfl h r
  cases d' with
  | tup ds' =>
   obtain⟨a',xs',its',rfl,hd',rv',tp'⟩:=tupI rfl h' r'
   cases n with
   | zero=>simp[flat] at f
   | succ n =>
    have q:=SeqAt.RcAt.tuples (A:=A) (s:=s) tp tp' hu0 (zD0 (A:=A.in1) I hd hd' rv rv' (by simpa[flat] using f) (by simpa[flat] using f') (by rw[in1_units];omega))
    have e:eqD (.tup ds) (.tup ds')=((bE (min its.toArray.size its'.toArray.size)).all (fun j=>eqD (ds.getD j .non) (ds'.getD j .non))&&its.toArray.size==its'.toArray.size) :=
     zBK (by simp[hd.length,rv.length]) (by simp[hd'.length,rv'.length])
    rw[e];exact q
  | adr _=>cases n<;>simp[flat] at f'
  | dic _=>cases n<;>simp[flat] at f'
  | non=>unfold zQ at h';subst h';cases r';exact SeqAt.RcAt.tuple_none tp hu0
  | bl _=>unfold zQ at h';subst h';cases r';exact SeqAt.RcAt.tuple_bool _ tp hu0
  | int _=>unfold zQ at h';subst h';obtain⟨t,rfl⟩:=r';exact SeqAt.RcAt.tuple_int _ _ tp hu0
  | str _=>unfold zQ at h';subst h';obtain⟨t,rfl⟩:=r';exact SeqAt.RcAt.tuple_str _ _ tp hu0
 | adr _=>cases n<;>simp[flat] at f
 | dic _=>cases n<;>simp[flat] at f
 | non =>
  unfold zQ at h;subst h;cases r
  cases d' with
  | tup ds'=>obtain⟨a',xs',its',rfl,hd',rv',tp'⟩:=tupI rfl h' r';exact SeqAt.RcAt.none_tuple tp' hu0
  | adr _=>cases n<;>simp[flat] at f'
  | dic _=>cases n<;>simp[flat] at f'
  | non=>unfold zQ at h';subst h';cases r';exact SeqAt.RcAt.none_none
  | bl _=>unfold zQ at h';subst h';cases r';exact SeqAt.RcAt.none_bool _
  | int _=>unfold zQ at h';subst h';obtain⟨t,rfl⟩:=r';exact SeqAt.RcAt.none_int _ _
  | str _=>unfold zQ at h';subst h';obtain⟨t,rfl⟩:=r';exact SeqAt.RcAt.none_str _ _
 | bl _ =>
  unfold zQ at h;subst h;cases r
  cases d' with
  | tup ds'=>obtain⟨a',xs',its',rfl,hd',rv',tp'⟩:=tupI rfl h' r';exact SeqAt.RcAt.bool_tuple _ tp' hu0
  | adr _=>cases n<;>simp[flat] at f'
  | dic _=>cases n<;>simp[flat] at f'
  | non=>unfold zQ at h';subst h';cases r';exact SeqAt.RcAt.bool_none _
  | bl _=>unfold zQ at h';subst h';cases r';exact SeqAt.RcAt.bool_bool _ _
  | int _=>unfold zQ at h';subst h';obtain⟨t,rfl⟩:=r';exact SeqAt.RcAt.bool_int _ _ _
  | str _=>unfold zQ at h';subst h';obtain⟨t,rfl⟩:=r';exact SeqAt.RcAt.bool_str _ _ _
 | int _ =>
  unfold zQ at h;subst h;obtain⟨t,rfl⟩:=r
  cases d' with
  | tup ds'=>obtain⟨a',xs',its',rfl,hd',rv',tp'⟩:=tupI rfl h' r';exact SeqAt.RcAt.int_tuple _ _ tp' hu0
  | adr _=>cases n<;>simp[flat] at f'
  | dic _=>cases n<;>simp[flat] at f'
  | non=>unfold zQ at h';subst h';cases r';exact SeqAt.RcAt.int_none _ _
  | bl _=>unfold zQ at h';subst h';cases r';exact SeqAt.RcAt.int_bool _ _ _
  | int _=>unfold zQ at h';subst h';obtain⟨t,rfl⟩:=r';exact SeqAt.RcAt.int_int _ _ _ _
  | str _=>unfold zQ at h';subst h';obtain⟨t,rfl⟩:=r';exact SeqAt.RcAt.int_str _ _ _ _
 | str _ =>
  unfold zQ at h;subst h;obtain⟨t,rfl⟩:=r
  cases d' with
  | tup ds'=>obtain⟨a',xs',its',rfl,hd',rv',tp'⟩:=tupI rfl h' r';exact SeqAt.RcAt.str_tuple _ _ tp' hu0
  | adr _=>cases n<;>simp[flat] at f'
  | dic _=>cases n<;>simp[flat] at f'
  | non=>unfold zQ at h';subst h';cases r';exact SeqAt.RcAt.str_none _ _
  | bl _=>unfold zQ at h';subst h';cases r';exact SeqAt.RcAt.str_bool _ _ _
  | int _=>unfold zQ at h';subst h';obtain⟨t,rfl⟩:=r';exact SeqAt.RcAt.str_int _ _ _ _
  | str _=>unfold zQ at h';subst h';obtain⟨t,rfl⟩:=r';exact SeqAt.RcAt.str_str _ _ _ _
theorem zOz(I:zW X pins σ1 H s){n:Nat}{ds ds':List D}{xs xs':List V}{a a':Addr}(hs:SqL X.K H a xs)(hd:Dens X.K H ds xs)(hs':SqL X.K H a' xs')(hd':Dens X.K H ds' xs')(f:∀ d∈ds,flat n d=true)(f':∀ d∈ds',flat n d=true)(hu:A.units+n+1<cLine) :
  SeqAt.RcAt A s (.ref a) (.ref a') (eqDs ds ds'):=by
 have hu0:A.units<cLine:=by omega
 obtain⟨its,rv,pl,u0⟩:=I.list hs
 obtain⟨its',rv',pl',u0⟩:=I.list hs'
 have e:=zBK (ds:=ds) (ds':=ds') (n:=its.toArray.size) (n':=its'.toArray.size) (by simp[hd.length,rv.length]) (by simp[hd'.length,rv'.length])
 by_cases hl:its.toArray.size=its'.toArray.size
 ·have q:=SeqAt.RcAt.lists (A:=A) (s:=s) pl.isList pl'.isList hl hu0 (zD0 (A:=A.in1) I hd hd' rv rv' f f' (by rw[in1_units];omega))
  have e':eqDs ds ds'=(bE its.toArray.size).all (fun j=>eqD (ds.getD j .non) (ds'.getD j .non)):=by
   rw[e,← hl];simp
  rw[e'];exact q
 ·have e':eqDs ds ds'=false:=by
   rw[e]
   have:(its.toArray.size==its'.toArray.size)=false:=by simpa using hl
   rw[this,Bool.and_false]
  rw[e']
  exact SeqAt.RcAt.lists_lengths pl.isList pl'.isList (by simpa using hl) hu0
noncomputable def zO0(K:PySem.W.Frag)(ng:Bool):R2:=fun x y H Q=>(∃ d d',zQ K H d x∧zQ K H d' y∧flat 8 d=true∧flat 8 d'=true∧Q (.bl (if ng then !eqD d d' else eqD d d')) H) ∨
 (∃ a a' xs xs' ds ds',x=.ref a∧y=.ref a'∧SqL K H a xs∧SqL K H a' xs'∧Dens K H ds xs∧Dens K H ds' xs'∧(∀ d∈ds,flat 8 d=true)∧(∀ d∈ds',flat 8 d=true)∧Q (.bl (if ng then !eqDs ds ds' else eqDs ds ds')) H)
theorem zK8(hu:X.A.units+10<cLine):OpR X (compareOp .Eq) (zO0 X.K false):=by
 intro pins s σ H x y v u Q I rx ry h
 rcases h with ⟨d,d',h1,h2,f1,f2,q⟩ | ⟨a,a',xs,xs',ds,ds',rfl,rfl,h1,h2,h3,h4,f1,f2,q⟩
 ·exact zOy (A:=X.A) I h1 h2 rx ry f1 f2 (by omega) X.prog X.w X.xe _ ⟨.bl _,H,I,rfl,q⟩
 ·cases rx;cases ry
  exact zOz (A:=X.A) I h1 h3 h2 h4 f1 f2 (by omega) X.prog X.w X.xe _ ⟨.bl _,H,I,rfl,q⟩
theorem zO1(I:zW X pins σ1 H s){n:Nat}{d d':D}{v v':V}{u u':Value}(h:zQ X.K H d v)(h':zQ X.K H d' v')(r:RelV v u)(r':RelV v' u')(f:flat n d=true)(f':flat n d'=true)(hu:A.units+n+1<cLine) :
  SeqAt.RcNeAt A s u u' (!eqD d d'):=by
 have hu0:A.units<cLine:=by omega
 have tupI:∀ {d:D} {v:V} {u:Value} {ds:List D},d=.tup ds→zQ X.K H d v→RelV v u→∃ a xs its,u=.ref a∧Dens X.K H ds xs∧zY xs its∧s.heap.IsTuple a its.toArray:=fun {d v u ds} e h r=>by
  subst e
  unfold zQ at h
  obtain⟨a,xs,rfl,hs,hd⟩:=h
  cases r
  obtain⟨its,rv,tp,u0⟩:=I.tuple hs
  exact⟨a,xs,its,rfl,hd,rv,tp⟩
 cases d with
 | tup ds =>
  obtain⟨a,xs,its,rfl,hd,rv,tp⟩:=tupI rfl h r
  cases d' with
  | tup ds' =>
   obtain⟨a',xs',its',rfl,hd',rv',tp'⟩:=tupI rfl h' r'
   cases n with
   | zero=>simp[flat] at f
   | succ n =>
    have q:=SeqAt.RcNeAt.tuples (A:=A) (s:=s) tp tp' hu0 (zD0 (A:=A.in1) I hd hd' rv rv' (by simpa[flat] using f) (by simpa[flat] using f') (by rw[in1_units];omega))
    have e:eqD (.tup ds) (.tup ds')=((bE (min its.toArray.size its'.toArray.size)).all (fun j=>eqD (ds.getD j .non) (ds'.getD j .non))&&its.toArray.size==its'.toArray.size) :=
     zBK (by simp[hd.length,rv.length]) (by simp[hd'.length,rv'.length])
    rw[e];exact q
  | adr _=>cases n<;>simp[flat] at f'
  | dic _=>cases n<;>simp[flat] at f'
  | non=>unfold zQ at h';subst h';cases r';exact SeqAt.RcNeAt.tuple_none tp hu0
  | bl _=>unfold zQ at h';subst h';cases r';exact SeqAt.RcNeAt.tuple_bool _ tp hu0
  | int _=>unfold zQ at h';subst h';obtain⟨t,rfl⟩:=r';exact SeqAt.RcNeAt.tuple_int _ _ tp hu0
  | str _=>unfold zQ at h';subst h';obtain⟨t,rfl⟩:=r';exact SeqAt.RcNeAt.tuple_str _ _ tp hu0
 | adr _=>cases n<;>simp[flat] at f
 | dic _=>cases n<;>simp[flat] at f
 | non =>
  unfold zQ at h;subst h;cases r
  cases d' with
  | tup ds'=>obtain⟨a',xs',its',rfl,hd',rv',tp'⟩:=tupI rfl h' r';exact SeqAt.RcNeAt.none_tuple tp' hu0
  | adr _=>cases n<;>simp[flat] at f'
  | dic _=>cases n<;>simp[flat] at f'
  | non=>unfold zQ at h';subst h';cases r';exact SeqAt.RcNeAt.none_none
  | bl _=>unfold zQ at h';subst h';cases r';exact SeqAt.RcNeAt.none_bool _
  | int _=>unfold zQ at h';subst h';obtain⟨t,rfl⟩:=r';exact SeqAt.RcNeAt.none_int _ _
  | str _=>unfold zQ at h';subst h';obtain⟨t,rfl⟩:=r';exact SeqAt.RcNeAt.none_str _ _
 | bl _ =>
  unfold zQ at h;subst h;cases r
  cases d' with
  | tup ds'=>obtain⟨a',xs',its',rfl,hd',rv',tp'⟩:=tupI rfl h' r';exact SeqAt.RcNeAt.bool_tuple _ tp' hu0
  | adr _=>cases n<;>simp[flat] at f'
  | dic _=>cases n<;>simp[flat] at f'
  | non=>unfold zQ at h';subst h';cases r';exact SeqAt.RcNeAt.bool_none _
  | bl _=>unfold zQ at h';subst h';cases r';exact SeqAt.RcNeAt.bool_bool _ _
  | int _=>unfold zQ at h';subst h';obtain⟨t,rfl⟩:=r';exact SeqAt.RcNeAt.bool_int _ _ _
  | str _=>unfold zQ at h';subst h';obtain⟨t,rfl⟩:=r';exact SeqAt.RcNeAt.bool_str _ _ _
 | int _ =>
  unfold zQ at h;subst h;obtain⟨t,rfl⟩:=r
  cases d' with
  | tup ds'=>obtain⟨a',xs',its',rfl,hd',rv',tp'⟩:=tupI rfl h' r';exact SeqAt.RcNeAt.int_tuple _ _ tp' hu0
  | adr _=>cases n<;>simp[flat] at f'
  | dic _=>cases n<;>simp[flat] at f'
  | non=>unfold zQ at h';subst h';cases r';exact SeqAt.RcNeAt.int_none _ _
  | bl _=>unfold zQ at h';subst h';cases r';exact SeqAt.RcNeAt.int_bool _ _ _
  | int _=>unfold zQ at h';subst h';obtain⟨t,rfl⟩:=r';exact SeqAt.RcNeAt.int_int _ _ _ _
  | str _=>unfold zQ at h';subst h';obtain⟨t,rfl⟩:=r';exact SeqAt.RcNeAt.int_str _ _ _ _
 | str _ =>
  unfold zQ at h;subst h;obtain⟨t,rfl⟩:=r
  cases d' with
  | tup ds'=>obtain⟨a',xs',its',rfl,hd',rv',tp'⟩:=tupI rfl h' r';exact SeqAt.RcNeAt.str_tuple _ _ tp' hu0
  | adr _=>cases n<;>simp[flat] at f'
  | dic _=>cases n<;>simp[flat] at f'
  | non=>unfold zQ at h';subst h';cases r';exact SeqAt.RcNeAt.str_none _ _
  | bl _=>unfold zQ at h';subst h';cases r';exact SeqAt.RcNeAt.str_bool _ _ _
  | int _=>unfold zQ at h';subst h';obtain⟨t,rfl⟩:=r';exact SeqAt.RcNeAt.str_int _ _ _ _
  | str _=>unfold zQ at h';subst h';obtain⟨t,rfl⟩:=r';exact SeqAt.RcNeAt.str_str _ _ _ _
theorem zO2(I:zW X pins σ1 H s){n:Nat}{ds ds':List D}{xs xs':List V}{a a':Addr}(hs:SqL X.K H a xs)(hd:Dens X.K H ds xs)(hs':SqL X.K H a' xs')(hd':Dens X.K H ds' xs')(f:∀ d∈ds,flat n d=true)(f':∀ d∈ds',flat n d=true)(hu:A.units+n+1<cLine) :
  SeqAt.RcNeAt A s (.ref a) (.ref a') (!eqDs ds ds'):=by
 have hu0:A.units<cLine:=by omega
 obtain⟨its,rv,pl,u0⟩:=I.list hs
 obtain⟨its',rv',pl',u0⟩:=I.list hs'
 have e:=zBK (ds:=ds) (ds':=ds') (n:=its.toArray.size) (n':=its'.toArray.size) (by simp[hd.length,rv.length]) (by simp[hd'.length,rv'.length])
 by_cases hl:its.toArray.size=its'.toArray.size
 ·have q:=SeqAt.RcNeAt.lists (A:=A) (s:=s) pl.isList pl'.isList hl hu0 (zD0 (A:=A.in1) I hd hd' rv rv' f f' (by rw[in1_units];omega))
  have e':eqDs ds ds'=(bE its.toArray.size).all (fun j=>eqD (ds.getD j .non) (ds'.getD j .non)):=by
   rw[e,← hl];simp
  rw[e'];exact q
 ·have e':eqDs ds ds'=false:=by
   rw[e]
   have:(its.toArray.size==its'.toArray.size)=false:=by simpa using hl
   rw[this,Bool.and_false]
  rw[e']
  exact SeqAt.RcNeAt.lists_lengths pl.isList pl'.isList (by simpa using hl) hu0
theorem zO3(hu:X.A.units+10<cLine):OpR X (compareOp .NotEq) (zO0 X.K true):=by
 intro pins s σ H x y v u Q I rx ry h
 rcases h with ⟨d,d',h1,h2,f1,f2,q⟩ | ⟨a,a',xs,xs',ds,ds',rfl,rfl,h1,h2,h3,h4,f1,f2,q⟩
 ·exact zO1 (A:=X.A) I h1 h2 rx ry f1 f2 (by omega) X.prog X.w X.xe _ ⟨.bl _,H,I,rfl,q⟩
 ·cases rx;cases ry
  exact zO2 (A:=X.A) I h1 h3 h2 h4 f1 f2 (by omega) X.prog X.w X.xe _ ⟨.bl _,H,I,rfl,q⟩
noncomputable def zO4(K:PySem.W.Frag)(ng:Bool):R2:=fun x y H Q=>∃ d ds a xs,zQ K H d x∧y=.ref a∧(SqL K H a xs∨SqT K H a xs)∧Dens K H ds xs∧flat 8 d=true∧(∀ z∈ds,flat 8 z=true)∧Q (.bl (if ng then !ds.any fun z=>eqD z d else ds.any fun z=>eqD z d)) H
theorem zJs{its:List Value}{ds:List D}(g:D→Bool)(hl:its.length=ds.length)(hinj:∀(i j:Nat) (u:Value) (z z':D),its[i]?=some u→its[j]?=some u→ds[i]?=some z→ds[j]?=some z'→z=z') :
  ∃ e:Value→Bool,(∀(j:Nat) (u:Value) (z:D),its[j]?=some u→ds[j]?=some z→e u=g z)∧its.any e=ds.any g:=by
 classical
 have key:∀(j:Nat) (u:Value) (z:D),its[j]?=some u→ds[j]?=some z→decide (∃(j:Nat) (z:D),its[j]?=some u∧ds[j]?=some z∧g z=true)=g z:=by
  intro j u z h1 h2
  cases hg:g z with
  | true=>exact decide_eq_true ⟨j,z,h1,h2,hg⟩
  | false =>
   refine decide_eq_false ?_
   rintro⟨j',z',h3,h4,h5⟩
   rw[hinj j j' u z z' h1 h3 h2 h4,h5] at hg
   cases hg
 refine⟨fun u=>decide (∃(j:Nat) (z:D),its[j]?=some u∧ds[j]?=some z∧g z=true),key,?_⟩
 rw[bS,List.any_eq_true,List.any_eq_true]
 constructor
 ·rintro⟨u,hu,he⟩
  obtain⟨j,z,h1,h2,h3⟩:=of_decide_eq_true he
  exact⟨z,cf h2,h3⟩
 ·rintro⟨z,hz,hg⟩
  obtain⟨j,hj⟩:=List.getElem?_of_mem hz
  have hj':j<ds.length:=(bN.mp hj).1
  refine⟨its[j]'(by omega),di _,decide_eq_true ⟨j,z,by simp,hj,hg⟩⟩
theorem zD1(I:zW X pins σ1 H s){n:Nat}{ds:List D}{xs:List V}{its:List Value}{d:D}{v:V}{u:Value}(hd:Dens X.K H ds xs)(rv:zY xs its)(h:zQ X.K H d v)(r:RelV v u)(f:∀ z∈ds,flat n z=true)(f':flat n d=true)(hu:A.units+n<cLine) :
  ∃ e:Value→Bool,(∀ y,y∈its.toArray→SeqAt.EqAt A s y u (e y))∧its.toArray.any e=ds.any fun z=>eqD z d:=by
 have l1:=hd.length
 have l2:=rv.length
 obtain⟨e,h1,h2⟩:=zJs (its:=its) (ds:=ds) (fun z=>eqD z d) (by omega) (by
  intro i j w z z' a1 a2 a3 a4
  obtain⟨x,b1,b2⟩:=hd.get a3
  obtain⟨x',b3,b4⟩:=hd.get a4
  obtain⟨w1,c1,c2⟩:=rv.get b1
  obtain⟨w2,c3,c4⟩:=rv.get b3
  rw[a1] at c1;cases c1
  rw[a2] at c3;cases c3
  have:=c2.inj c4
  subst this
  exact zQ.inj I b2 b4 (f z (cf a3)) (f z' (cf a4)))
 refine⟨e,fun y hy=>?_,by simpa using h2⟩
 have hy':y∈its:=by simpa using hy
 obtain⟨j,hj⟩:=List.getElem?_of_mem hy'
 have hjl:j<its.length:=(bN.mp hj).1
 obtain⟨x,b1,b2⟩:=hd.get (i:=j) (d:=ds[j]'(by omega)) (by simp)
 obtain⟨w1,c1,c2⟩:=rv.get b1
 rw[hj] at c1;cases c1
 rw[h1 j _ (ds[j]'(by omega)) hj (by simp)]
 exact zK7 I n _ _ x v _ u A b2 h c2 r (f _ (di _)) f' hu
theorem zK9(hu:X.A.units+10<cLine):OpR X (compareOp .In) (zO4 X.K false):=by
 intro pins s σ H x y v u Q I rx ry h
 obtain⟨d,ds,a,xs,h1,rfl,h2,h3,f1,f2,q⟩:=h
 cases ry
 rcases h2 with h2 | h2
 ·obtain⟨its,rv,pl,u0⟩:=I.list h2
  obtain⟨e,e1,e2⟩:=zD1 (A:=X.A.in1) I h3 rv h1 rx f2 f1 (by rw[in1_units];omega)
  exact SeqAt.in_listAt e pl.isList e1 ⟨.bl _,H,I,rfl,by rw[e2];exact q⟩
 ·obtain⟨its,rv,tp,u0⟩:=I.tuple h2
  obtain⟨e,e1,e2⟩:=zD1 (A:=X.A.in1) I h3 rv h1 rx f2 f1 (by rw[in1_units];omega)
  exact SeqAt.in_tupleAt e (show s.heap.IsTuple a its.toArray from tp) e1 ⟨.bl _,H,I,rfl,by rw[e2];exact q⟩
theorem zJt(hu:X.A.units+10<cLine):OpR X (compareOp .NotIn) (zO4 X.K true):=by
 intro pins s σ H x y v u Q I rx ry h
 obtain⟨d,ds,a,xs,h1,rfl,h2,h3,f1,f2,q⟩:=h
 cases ry
 rcases h2 with h2 | h2
 ·obtain⟨its,rv,pl,u0⟩:=I.list h2
  obtain⟨e,e1,e2⟩:=zD1 (A:=X.A.in1) I h3 rv h1 rx f2 f1 (by rw[in1_units];omega)
  exact SeqAt.notIn_listAt e pl.isList e1 ⟨.bl _,H,I,rfl,by rw[e2];exact q⟩
 ·obtain⟨its,rv,tp,u0⟩:=I.tuple h2
  obtain⟨e,e1,e2⟩:=zD1 (A:=X.A.in1) I h3 rv h1 rx f2 f1 (by rw[in1_units];omega)
  exact SeqAt.notIn_tupleAt e (show s.heap.IsTuple a its.toArray from tp) e1 ⟨.bl _,H,I,rfl,by rw[e2];exact q⟩
end
section
variable {X:Cx} {a b c e o:Expr} {es:List Expr} {pos p:Pos} {ta tb te:ze}
noncomputable def fEq(ng:Bool):D→D→Gp→Q2→Prop:=fun x y G R=>match x,y with
 | .adr l,.adr l'=>∃ ds ds',Ls G l ds∧Ls G l' ds'∧(∀ d∈ds,flat 8 d=true)∧(∀ d∈ds',flat 8 d=true)∧R (.bl (if ng then !eqDs ds ds' else eqDs ds ds')) G
 | x,y=>flat 8 x=true∧flat 8 y=true∧R (.bl (if ng then !eqD x y else eqD x y)) G
theorem zH0{K:PySem.W.Frag}{ng:Bool}:Fit K (zO0 K ng) (fEq ng):=by
 intro dx dy G R x y H Q h r d1 d2 k
 unfold fEq at h
 split at h
 ·rename_i l l'
  obtain⟨ds,ds',e1,e2,f1,f2,h⟩:=h
  obtain⟨xs,s1,t1⟩:=r.sq e1
  obtain⟨xs',s2,t2⟩:=r.sq e2
  unfold zQ at d1 d2
  exact .inr ⟨l,l',xs,xs',ds,ds',d1,d2,s1,s2,t1,t2,f1,f2,k _ G h _ H (.refl H) r (by unfold zQ;rfl)⟩
 ·obtain⟨f1,f2,h⟩:=h
  exact .inl ⟨_,_,d1,d2,f1,f2,k _ G h _ H (.refl H) r (by unfold zQ;rfl)⟩
noncomputable def fIn(ng:Bool):D→D→Gp→Q2→Prop:=fun x y G R=>match y with
 | .adr l=>∃ ds,Ls G l ds∧flat 8 x=true∧(∀ d∈ds,flat 8 d=true)∧R (.bl (if ng then !ds.any fun z=>eqD z x else ds.any fun z=>eqD z x)) G
 | .tup ds=>flat 8 x=true∧(∀ d∈ds,flat 8 d=true)∧R (.bl (if ng then !ds.any fun z=>eqD z x else ds.any fun z=>eqD z x)) G
 | _=>False
theorem zH1{K:PySem.W.Frag}{ng:Bool}:Fit K (zO4 K ng) (fIn ng):=by
 intro dx dy G R x y H Q h r d1 d2 k
 unfold fIn at h
 split at h
 ·rename_i l
  obtain⟨ds,e1,f1,f2,h⟩:=h
  obtain⟨xs,s1,t1⟩:=r.sq e1
  unfold zQ at d2
  exact⟨dx,ds,l,xs,d1,d2,.inl s1,t1,f1,f2,k _ G h _ H (.refl H) r (by unfold zQ;rfl)⟩
 ·rename_i ds
  obtain⟨f1,f2,h⟩:=h
  unfold zQ at d2
  obtain⟨l,xs,e,s1,t1⟩:=d2
  exact⟨dx,ds,l,xs,d1,e,.inr s1,t1,f1,f2,k _ G h _ H (.refl H) r (by unfold zQ;rfl)⟩
 ·exact h.elim
theorem zO5{k:Nat}(hr:wt k X.A)(ha:E2 X a ta)(hb:E2 X b tb):E2 X (.Compare a [.Eq] [b] pos) (zP (fEq false) ta tb):=zNs (zK8 (by have:=hr.units;omega)) zH0 ha hb (zBd _)
theorem zQp{k:Nat}(hr:wt k X.A)(ha:E2 X a ta)(hb:E2 X b tb)(hm:behindInMarks .In b=false:=by rfl):E2 X (.Compare a [.In] [b] pos) (zP (fIn false) ta tb):=zNs (zK9 (by have:=hr.units;omega)) zH1 ha hb hm
theorem zEN{k:Nat}(hr:wt k X.A)(ha:E2 X a ta)(hb:E2 X b tb):T2 X (.Compare a [.Eq] [b] pos) (xB (zP (fEq false) ta tb)):=zCo (zK8 (by have:=hr.units;omega)) zH0 ha hb (zBd _)
theorem zH2{k:Nat}(hr:wt k X.A)(ha:E2 X a ta)(hb:E2 X b tb):T2 X (.Compare a [.NotEq] [b] pos) (xB (zP (fEq true) ta tb)):=zCo (zO3 (by have:=hr.units;omega)) zH0 ha hb (zBd _)
theorem zJu{k:Nat}(hr:wt k X.A)(ha:E2 X a ta)(hb:E2 X b tb)(hm:behindInMarks .In b=false:=by rfl):T2 X (.Compare a [.In] [b] pos) (xB (zP (fIn false) ta tb)):=zCo (zK9 (by have:=hr.units;omega)) zH1 ha hb hm
theorem zI1{k:Nat}(hr:wt k X.A)(ha:E2 X a ta)(hb:E2 X b tb)(hm:behindInMarks .NotIn b=false:=by rfl):T2 X (.Compare a [.NotIn] [b] pos) (xB (zP (fIn true) ta tb)):=zCo (zJt (by have:=hr.units;omega)) zH1 ha hb hm
noncomputable def yh:D→D→Gp→Q2→Prop:=fun x y G R=>match x,y with
 | .adr l,.int k=>∃ ds d,Ls G l ds∧atI ds k=some d∧R d G
 | .tup ds,.int k=>match atI ds k with | some d=>R d G | none=>False
 | _,_=>False
theorem zGu{K:PySem.W.Frag}{H:Hp}{ds:List D}{xs:List V}{k:Int}{d:D}(h:Dens K H ds xs)(e:atI ds k=some d):∃ x,atI xs k=some x∧zQ K H d x:=by
 unfold atI at e ⊢
 rw[h.length] at e
 cases q:ixN xs.length k with
 | none=>rw[q] at e;cases e
 | some j =>
  rw[q] at e
  exact h.get e
theorem zO6{K:PySem.W.Frag}:Fit K (fun x y H Q=>zPx K x y H Q∨zPy K x y H Q) yh:=by
 intro dx dy G R x y H Q h r d1 d2 k
 unfold yh at h
 split at h
 ·rename_i l i
  obtain⟨ds,d,e1,e2,h⟩:=h
  obtain⟨xs,s1,t1⟩:=r.sq e1
  obtain⟨z,e3,t2⟩:=zGu t1 e2
  unfold zQ at d1 d2
  exact .inl ⟨l,xs,i,z,d1,d2,s1,e3,k _ G h _ H (.refl H) r t2⟩
 ·rename_i ds i
  split at h
  ·rename_i d e2
   unfold zQ at d1 d2
   obtain⟨l,xs,e,s1,t1⟩:=d1
   obtain⟨z,e3,t2⟩:=zGu t1 e2
   exact .inr ⟨l,xs,i,z,e,d2,s1,e3,k _ G h _ H (.refl H) r t2⟩
  ·exact h.elim
 ·exact h.elim
theorem yY(ha:E2 X a ta)(hb:E2 X b tb)(hs:zF2 b:=by intro u0 u0;rfl):E2 X (.Subscript a b pos) (zP yh ta tb) :=
 PE.mono (zNq (zMm.or zOo) ha hb hs) fun σ1 H Q h=>zGr zO6 h
noncomputable def zGv(K:PySem.W.Frag)(r:List V→Hp→VK→Prop)(f:Sp2):Prop :=
 ∀ ds G R vs H Q,f ds G R→yX K G H→Dens K H ds vs→(∀ d G',R d G'→∀ v H',yF H H'→yX K G' H'→zQ K H' d v→Q v H')→r vs H Q
theorem zFY{K:PySem.W.Frag}{r:List V→Hp→VK→Prop}{f:Sp2}{t:wW}(hf:zGv K r f){σ1:L2.St}{H:Hp}{Q:VK}(h:lE K (zL f t) σ1 H Q):tCB r (lA K t) σ1 H Q:=by
 obtain⟨σ,G,R,rl,q,k⟩:=h
 exact⟨σ,G,_,rl,q,fun ds G1 q1 vs H1 g1 r1 d1=>hf ds G1 R vs H1 Q q1 r1 d1 fun d G' q' v H' g'=>k d G' q' v H' (g1.trans g')⟩
theorem zF6{id:String}{x:Str}{r:List V→Hp→VK→Prop}{f:Sp2}{t:wW}(hc:wE X (.builtin id) r)(hf:zGv X.K r f)(hg:Gl X x)(hm:X.mg x=none)(hv:bootBuiltins x=some (.builtin id))(ha:A2 X (e::es) t)(hn:x≠"__name__":=by decide)(hdb:(x==("__debug__":Str))=false:=by decide)
  (he:starEach (e::es) X.env=(false,eval e X.env)::starEach es X.env:=by rfl) (hpl:(backTo pos (starEach es X.env)).any (·.1)=false:=by rfl):E2 X (.Call (.Name x p) (e::es) [] pos) (zL f t) :=
 PE.mono (zA6 hc hg hm hv ha hn hdb he hpl) fun σ1 H Q h=>zFY hf h
theorem zEO{T:String}{x:Str}{r:List V→Hp→VK→Prop}{f:Sp2}{t:wW}(hc:wE X (.type T) r)(hf:zGv X.K r f)(hg:Gl X x)(hm:X.mg x=none)(hv:bootBuiltins x=some (.type T))(ha:A2 X (e::es) t)(hn:x≠"__name__":=by decide)(hdb:(x==("__debug__":Str))=false:=by decide)
  (he:starEach (e::es) X.env=(false,eval e X.env)::starEach es X.env:=by rfl) (hpl:(backTo pos (starEach es X.env)).any (·.1)=false:=by rfl):E2 X (.Call (.Name x p) (e::es) [] pos) (zL f t) :=
 PE.mono (zDG hc hg hm hv ha hn hdb he hpl) fun σ1 H Q h=>zFY hf h
noncomputable def zBh(G:Gp):D→List D→Prop
 | .tup es,ds=>es=ds
 | .adr l,ds=>Ls G l ds
 | _,_=>False
theorem zD2{K:PySem.W.Frag}{G:Gp}{H:Hp}{d:D}{v:V}{ds:List D}(r:yX K G H)(h:zQ K H d v)(e:zBh G d ds):∃ l xs,v=.ref l∧(SqL K H l xs∨SqT K H l xs)∧Dens K H ds xs:=by
 cases d with
 | tup _ =>
  have e:_=ds:=e
  subst e
  unfold zQ at h
  obtain⟨l,xs,e,s1,t1⟩:=h
  exact⟨l,xs,e,.inr s1,t1⟩
 | adr l =>
  unfold zQ at h
  obtain⟨xs,s1,t1⟩:=r.sq (show Ls G l ds from e)
  exact⟨l,xs,h,.inl s1,t1⟩
 | _=>exact e.elim
theorem zBY{K:PySem.W.Frag}{H:Hp}{d:D}{vs:List V}(h:Dens K H [d] vs):∃ v,vs=[v]∧zQ K H d v:=by
 unfold Dens at h
 obtain⟨v,r,e,h1,h2⟩:=h
 unfold Dens at h2
 subst h2
 exact⟨v,e,h1⟩
theorem zP8{K:PySem.W.Frag}{H:Hp}{d d':D}{vs:List V}(h:Dens K H [d,d'] vs):∃ v v',vs=[v,v']∧zQ K H d v∧zQ K H d' v':=by
 unfold Dens at h
 obtain⟨v,r,e,h1,h2⟩:=h
 obtain⟨v',e2,h3⟩:=zBY h2
 subst e2
 exact⟨v,v',e,h1,h3⟩
noncomputable def zk:Sp2:=fun ds G R=>match ds with | [d]=>∃ l,zBh G d l∧R (.int l.length) G | _=>False
theorem zMx:zGv X.K (fun xs H Q=>∃ p ys,xs=[.ref p]∧(SqL X.K H p ys∨SqT X.K H p ys)∧Q (.int ys.length) H) zk:=by
 intro ds G R vs H Q h r d k
 unfold zk at h
 split at h
 ·rename_i d0
  obtain⟨v,rfl,d1⟩:=zBY d
  obtain⟨l,e,h⟩:=h
  obtain⟨a,xs,rfl,s1,t1⟩:=zD2 r d1 e
  exact⟨a,xs,rfl,s1,k _ G h _ H (.refl H) r (by rw[← t1.length];unfold zQ;rfl)⟩
 ·exact h.elim
theorem zAA{t:wW}(hg:Gl X "len")(hm:X.mg "len"=none)(ha:A2 X [e] t)(he:starEach [e] X.env=(false,eval e X.env)::starEach [] X.env:=by rfl)(hpl:(backTo pos (starEach [] X.env)).any (·.1)=false:=by rfl):E2 X (.Call (.Name "len" p) [e] [] pos) (zL zk t):=zF6 zF4 zMx hg hm PySem.boot_len ha (by decide) (by decide) he hpl
noncomputable def zAs:Sp2:=fun ds G R=>match ds with | [.int i,.int j]=>R (.int (if j<i then j else i)) G | _=>False
noncomputable def zBA:Sp2:=fun ds G R=>match ds with | [.int i,.int j]=>R (.int (if j>i then j else i)) G | _=>False
theorem zLA{f:Int→Int→Int}{sp:Sp2}(hs:∀ ds G R,sp ds G R→∃ i j,ds=[.int i,.int j]∧R (.int (f i j)) G):zGv X.K (fun xs H Q=>∃ i j,xs=[.int i,.int j]∧Q (.int (f i j)) H) sp:=by
 intro ds G R vs H Q h r d k
 obtain⟨i,j,rfl,h'⟩:=hs ds G R h
 obtain⟨v,v',rfl,d1,d2⟩:=zP8 d
 unfold zQ at d1 d2
 subst d1 d2
 exact⟨i,j,rfl,k _ G h' _ H (.refl H) r (by unfold zQ;rfl)⟩
theorem zNx{t:wW}{e':Expr}(hc:X.calm=true)(hg:Gl X "min")(hm:X.mg "min"=none)(ha:A2 X [e,e'] t)(he:starEach [e,e'] X.env=(false,eval e X.env)::starEach [e'] X.env:=by rfl)(hpl:(backTo pos (starEach [e'] X.env)).any (·.1)=false:=by rfl):E2 X (.Call (.Name "min" p) [e,e'] [] pos) (zL zAs t):=zF6 (zJj hc) (zLA fun ds G R h=>by unfold zAs at h;split at h;exact⟨_,_,rfl,h⟩;exact h.elim) hg hm (by decide +kernel) ha (by decide) (by decide) he hpl
theorem zNy{t:wW}{e':Expr}(hc:X.calm=true)(hg:Gl X "max")(hm:X.mg "max"=none)(ha:A2 X [e,e'] t)(he:starEach [e,e'] X.env=(false,eval e X.env)::starEach [e'] X.env:=by rfl)(hpl:(backTo pos (starEach [e'] X.env)).any (·.1)=false:=by rfl):E2 X (.Call (.Name "max" p) [e,e'] [] pos) (zL zBA t):=zF6 (zJi hc) (zLA fun ds G R h=>by unfold zBA at h;split at h;exact⟨_,_,rfl,h⟩;exact h.elim) hg hm (by decide +kernel) ha (by decide) (by decide) he hpl
end
section
variable {X:Cx} {a b c e o:Expr} {es:List Expr} {pos p p2:Pos} {ta tb te to:ze} {tl:TL2}
noncomputable def zMy(K:PySem.W.Frag)(r:List V→Hp→VK→Prop)(g:Sp2):Prop :=
 ∀ ds G R l xs H Q,g ds G R→yX K G H→H l=some (.lst xs)→Dens K H ds xs→(∀ d G',R d G'→∀ v H',yF H H'→yX K G' H'→zQ K H' d v→Q v H')→r [.ref l] H Q
noncomputable def yG(g:Sp2)(t:TL2):ze:=fun σ G R=>t σ G fun ds G1=>g ds G1 R
theorem zEP{K:PySem.W.Frag}{r:List V→Hp→VK→Prop}{g:Sp2}(hf:zMy K r g){σ1:L2.St}{H:Hp}{Q:VK}(h:lE K (yG g tl) σ1 H Q):tCB r (zNo (lL K tl) zPt) σ1 H Q:=by
 obtain⟨σ,G,R,rl,q,k⟩:=h
 exact⟨σ,G,_,rl,q,fun ds G1 q1 l xs H1 g1 r1 n e d1=>hf ds G1 R l xs H1 Q q1 r1 e d1 fun d G' q' v H' g'=>k d G' q' v H' (g1.trans g')⟩
theorem zJv{T:String}{x:Str}{r:List V→Hp→VK→Prop}{g:Sp2}(hc:wE X (.type T) r)(hf:zMy X.K r g)(hg:Gl X x)(hm:X.mg x=none)(hv:bootBuiltins x=some (.type T))(ha:F2 X e tl)(hn:x≠"__name__":=by decide)(hdb:(x==("__debug__":Str))=false:=by decide)
  (he:starEach [e] X.env=(false,eval e X.env)::starEach [] X.env:=by rfl) (hpl:(backTo pos (starEach [] X.env)).any (·.1)=false:=by rfl):E2 X (.Call (.Name x p) [e] [] pos) (yG g tl) :=
 PE.mono (zDG hc hg hm hv (zAq ha zCW he) hn hdb he hpl) fun σ1 H Q h=>zEP hf h
theorem zGw{id:String}{x:Str}{r:List V→Hp→VK→Prop}{g:Sp2}(hc:wE X (.builtin id) r)(hf:zMy X.K r g)(hg:Gl X x)(hm:X.mg x=none)(hv:bootBuiltins x=some (.builtin id))(ha:F2 X e tl)(hn:x≠"__name__":=by decide)(hdb:(x==("__debug__":Str))=false:=by decide)
  (he:starEach [e] X.env=(false,eval e X.env)::starEach [] X.env:=by rfl) (hpl:(backTo pos (starEach [] X.env)).any (·.1)=false:=by rfl):E2 X (.Call (.Name x p) [e] [] pos) (yG g tl) :=
 PE.mono (zA6 hc hg hm hv (zAq ha zCW he) hn hdb he hpl) fun σ1 H Q h=>zEP hf h
noncomputable def wG:Sp2:=fun ds G R=>R (.tup ds) G
theorem zH3{K:PySem.W.Frag}:zMy K (fun xs H Q=>∃ p ys,xs=[.ref p]∧((SqL K H p ys∧∀ l,H l=none→Q (.ref l) (wd H l (.tup ys)))∨(SqT K H p ys∧Q (.ref p) H))) wG:=by
 intro ds G R l xs H Q h r e d k
 refine⟨l,xs,rfl,.inl ⟨.of e,fun l' n=>k _ G h _ _ (.fresh n) (r.fresh n) ?_⟩⟩
 unfold zQ
 exact⟨l',xs,rfl,.of zo,d.grow (.fresh n)⟩
theorem zF7(hg:Gl X "tuple")(hm:X.mg "tuple"=none)(ha:F2 X e tl)(he:starEach [e] X.env=(false,eval e X.env)::starEach [] X.env:=by rfl)(hpl:(backTo pos (starEach [] X.env)).any (·.1)=false:=by rfl) :
  E2 X (.Call (.Name "tuple" p) [e] [] pos) (yG wG tl):=zJv zCL zH3 hg hm (by decide +kernel) ha (by decide) (by decide) he hpl
noncomputable def zD3:Sp2:=fun ds G R=>match ds with | [d]=>∃ l,zBh G d l∧R (.tup l) G | _=>False
theorem zJw{K:PySem.W.Frag}:zGv K (fun xs H Q=>∃ p ys,xs=[.ref p]∧((SqL K H p ys∧∀ l,H l=none→Q (.ref l) (wd H l (.tup ys)))∨(SqT K H p ys∧Q (.ref p) H))) zD3:=by
 intro ds G R vs H Q h r d k
 unfold zD3 at h
 split at h
 ·rename_i d0
  obtain⟨v,rfl,d1⟩:=zBY d
  obtain⟨l,e,h⟩:=h
  obtain⟨a,xs,rfl,s1,t1⟩:=zD2 r d1 e
  rcases s1 with s1 | s1
  ·refine⟨a,xs,rfl,.inl ⟨s1,fun l' n=>k _ G h _ _ (.fresh n) (r.fresh n) ?_⟩⟩
   unfold zQ
   exact⟨l',xs,rfl,.of zo,t1.grow (.fresh n)⟩
  ·refine⟨a,xs,rfl,.inr ⟨s1,k _ G h _ H (.refl H) r ?_⟩⟩
   unfold zQ
   exact⟨a,xs,rfl,s1,t1⟩
 ·exact h.elim
theorem zMz{t:wW}(hg:Gl X "tuple")(hm:X.mg "tuple"=none)(ha:A2 X [e] t)(he:starEach [e] X.env=(false,eval e X.env)::starEach [] X.env:=by rfl)(hpl:(backTo pos (starEach [] X.env)).any (·.1)=false:=by rfl) :
  E2 X (.Call (.Name "tuple" p) [e] [] pos) (zL zD3 t):=zEO zCL zJw hg hm (by decide +kernel) ha (by decide) (by decide) he hpl
theorem zDc:∀ {xs:List V} {us:List Value},xs.length=us.length→(∀(i:Nat) (x:V) (u:Value),xs[i]?=some x→us[i]?=some u→RelV x u)→zY xs us
 | [],[],_,_=>.nil
 | [],_::_,h,_=>by cases h
 | _::_,[],h,_=>by cases h
 | x::xs,u::us,h,g=>.cons (g 0 x u rfl rfl) (zDc (by simpa using h) fun i y w e1 e2=>g (i+1) y w (by simpa using e1) (by simpa using e2))
theorem zF8:wE X (.builtin "sorted") (fun xs H Q=>∃(p:Addr) (ns:List Int),xs=[.ref p]∧SqL X.K H p (ns.map V.int)∧ns.length<64∧∀(l:Addr) (ns':List Int),H l=none→ns'.Perm ns→ns'.Pairwise (·≤·)→Q (.ref l) (wd H l (.lst (ns'.map V.int)))):=by
 intro pins s σ H xs us Q I r h
 obtain⟨p,ns,rfl,hq,hz,q⟩:=h
 obtain⟨u,rfl,rx⟩:=vals1 r
 cases rx
 obtain⟨its,rv,pl,u0⟩:=I.list hq
 have hl:=rv.length
 rw[bx] at hl
 refine sorted_ints (vs:=its) (ns:=ns) pl.isList (intsAre_of rv) (by omega) fun out ns' i1 i2 i3=>?_
 obtain⟨e,he⟩:=sortedAll_at s.heap its out
 have hn:H (s.heap.objs.size+1)=none:=I.hok.fresh (dh _)
 refine⟨.ref (s.heap.objs.size+1),_,I.laid (t':=s.toks) (o:=.lst (ns'.map V.int)) (fun b u q=>sortedAll_old q) (dh _) ?_,rfl,q _ ns' hn i2 i3⟩
 have hp:=i2.length_eq
 refine⟨?_,out.toList,e,zA8 i1,?_⟩
 ·rw[bx,hp,sizeLine_eq];omega
 ·rw[he]<;>rfl
noncomputable def intsOf:List D→Option (List Int)
 | []=>some []
 | .int i::r=>(intsOf r).map (i::·)
 | _::_=>none
theorem zCY:∀ ns:List Int,intsOf (ns.map D.int)=some ns
 | []=>rfl
 | n::r=>by simp[intsOf,zCY r]
theorem zFZ:∀ {ds:List D} {ns:List Int},intsOf ds=some ns→ds=ns.map D.int
 | [],ns,h=>by simp[intsOf] at h;subst h;rfl
 | d::r,ns,h=>by
  cases d with
  | int i =>
   unfold intsOf at h
   cases q:intsOf r with
   | none=>rw[q] at h;cases h
   | some ms =>
    rw[q] at h
    cases h
    rw[zFZ q];rfl
  | _=>simp[intsOf] at h
theorem Dens.ints_inv{K:PySem.W.Frag}{H:Hp}:∀ {ns:List Int} {xs:List V},Dens K H (ns.map D.int) xs→xs=ns.map V.int
 | [],xs,h=>by unfold Dens at h;exact h
 | n::r,xs,h=>by
  rw[cD] at h
  unfold Dens at h
  obtain⟨x,y,rfl,h1,h2⟩:=h
  unfold zQ at h1
  rw[h1,Dens.ints_inv h2];rfl
noncomputable def zAJ(t:TL2):TL2:=fun σ G R=>t σ G fun ds G1=>match intsOf ds with | some ns=>ns.length<64∧∀(ns':List Int),ns'.Perm ns→ns'.Pairwise (·≤·)→R (ns'.map D.int) G1 | none=>False
theorem zFa(hg:Gl X "sorted")(hm:X.mg "sorted"=none)(ha:F2 X e tl)(he:starEach [e] X.env=(false,eval e X.env)::starEach [] X.env:=by rfl)(hpl:(backTo pos (starEach [] X.env)).any (·.1)=false:=by rfl) :
  F2 X (.Call (.Name "sorted" p) [e] [] pos) (zAJ tl):=by
 refine PE.mono (zA6 zF8 hg hm boot_sorted (zAq ha zCW he) (by decide) (by decide) he hpl) ?_
 rintro σ1 H Q ⟨σ,G,R,rl,q,k⟩
 refine⟨σ,G,_,rl,q,fun ds G1 q1 l xs H1 g1 r1 n e1 d1=>?_⟩
 cases q2:intsOf ds with
 | none=>rw[q2] at q1;exact q1.elim
 | some ns =>
  rw[q2] at q1
  have hds:=zFZ q2
  subst hds
  have hxs:=d1.ints_inv
  subst hxs
  refine⟨l,ns,rfl,.of e1,q1.1,fun l' ns' n' h1 h2=>?_⟩
  exact k _ G1 (q1.2 ns' h1 h2) l' _ _ (g1.trans (.fresh n')) (r1.fresh n') (r1.free n') zo (Dens.ints ns')
theorem zJx{t:TA}(hg:Gl X "range")(hm:X.mg "range"=none)(ha:PA X [a] t)(hs:starEach [a] X.env=[(false,eval a X.env)]:=by rfl) :
  PE X (.Call (.Name "range" p) [a] [] pos) (fun σ H Q=>t σ H fun vs H1=>∃ j:Int,vs=[.int j]∧∀ l,H1 l=none→Q (.ref l) (wd H1 l (.rng 0 j))):=by
 intro pins s σ H Q I h
 refine Call_ (zBc I hg hm boot_range (PyProof.Rows.callWith_type1 (wM (ha pos pins s σ H _ I h) fun us s1 ⟨vs,H1,I1,r1,q1⟩=>?_) hs rfl))
 obtain⟨j,e,q⟩:=q1
 subst e
 cases r1 with
 | cons r rr =>
  cases rr
  obtain⟨t,rfl⟩:=r
  refine call_range_1 ?_
  have hn:H1 s1.heap.objs.size=none:=I1.hok.fresh (bF _)
  exact⟨.ref s1.heap.objs.size,_,I1.laid (o:=.rng 0 j) (fun b u e=>bz _ e) (bF _) ⟨_,_,_,bM _ rfl⟩,rfl,q _ hn⟩
theorem zH4(hc:X.calm=true):wE X (.type "list") (fun xs H Q=>∃ p j,xs=[.ref p]∧H p=some (.rng 0 j)∧(0≤j∧j≤1000000)∧∀ l,H l=none→Q (.ref l) (wd H l (.lst ((bE j.toNat).map fun(k:Nat)=>V.int k)))):=by
 intro pins s σ H xs us Q I r h
 obtain⟨p,j,rfl,hp,⟨h0,h1⟩,q⟩:=h
 obtain⟨u,rfl,rx⟩:=vals1 r
 cases rx
 obtain⟨t1,t2,t3,ho⟩:∃ t u v,s.heap.get? p=some { cls:=.type "range",data:=.fields #[.int 0 t,.int j u,.int 1 v] }:=I.hok p _ hp
 have hsz:Builtin.Range.rangeSize 0 j 1=((j.toNat:Nat):Int):=by rw[rangeSize_one];split<;>omega
 refine call_list_range (I.ok.hd hc) (show IsRange s.heap p 0 j 1 t1 t2 t3 from ho) (small_one (by omega) (by omega) (by omega) (by omega)) hsz (by omega) fun h' tk acc' c' kp e hacc=>?_
 have hn:H s.heap.objs.size=none:=I.hok.fresh (bF _)
 refine⟨.ref s.heap.objs.size,_,I.laid (o:=.lst ((bE j.toNat).map fun(k:Nat)=>V.int k)) kp (bF _) ?_,rfl,q _ hn⟩
 refine⟨?_,acc'.toList,c',?_,by rw[e]⟩
 ·rw[bx,bT,sizeLine_eq];omega
 ·refine zDc (by simp[hacc.1]) fun i x v e1 e2=>?_
  have e2':acc'[i]?=some v:=by simpa using e2
  obtain⟨t,rfl⟩:=hacc.2 i v e2'
  rw[bY] at e1
  cases q':(bE j.toNat)[i]? with
  | none=>rw[q'] at e1;cases e1
  | some k =>
   rw[q'] at e1
   cases e1
   have hk:k=i:=by
    have:=(bN.mp q').2
    simpa using this.symm
   subst hk
   refine⟨t,?_⟩
   congr 1
   omega
noncomputable def zBi(t:wW):TL2:=fun σ G R=>t σ G fun ds G1=>match ds with | [.int j]=>(0≤j∧j≤1000000)∧R (zy 0 j.toNat) G1 | _=>False
theorem zF9{t:wW}{pos':Pos}(hc:X.calm=true)(hg:Gl X "list")(hm:X.mg "list"=none)(hg2:Gl X "range")(hm2:X.mg "range"=none)(ha:A2 X [a] t)(hs:starEach [a] X.env=[(false,eval a X.env)]:=by rfl)
  (he:starEach [.Call (.Name "range" p2) [a] [] pos] X.env=(false,eval (.Call (.Name "range" p2) [a] [] pos) X.env)::starEach [] X.env:=by rfl) (hpl:(backTo pos' (starEach [] X.env)).any (·.1)=false:=by rfl) :
  F2 X (.Call (.Name "list" p) [.Call (.Name "range" p2) [a] [] pos] [] pos') (zBi t):=by
 refine PE.mono (zDG (zH4 hc) hg hm (by decide +kernel) (zAq (zJx hg2 hm2 ha hs) zCW he) (by decide) (by decide) he hpl) ?_
 rintro σ1 H Q ⟨σ,G,R,rl,q,k⟩
 refine⟨σ,G,_,rl,q,fun ds G1 q1 vs H1 g1 r1 d1=>?_⟩
 split at q1
 ·rename_i j
  obtain⟨v,rfl,d2⟩:=zBY d1
  unfold zQ at d2
  subst d2
  refine⟨j,rfl,fun l n=>⟨l,j,rfl,zo,q1.1,fun l' n'=>?_⟩⟩
  have g2:yF H1 (wd H1 l (.rng 0 j)):=.fresh n
  have r2:=r1.fresh (o:=.rng 0 j) n
  refine k _ G1 q1.2 l' _ _ ((g1.trans g2).trans (.fresh n')) (r2.fresh n') (r2.free n') zo ?_
  have:(bE j.toNat).map (fun(k:Nat)=>V.int k)=((bE j.toNat).map fun(k:Nat)=>(k:Int)).map V.int:=by simp
  rw[this]
  have e2:zy 0 j.toNat=((bE j.toNat).map fun(k:Nat)=>(k:Int)).map D.int:=by simp[zy]
  rw[e2]
  exact Dens.ints _
 ·exact q1.elim
noncomputable def zJy(ta tb:ze):TL2:=fun σ G R=>ta σ G fun x G1=>tb σ G1 fun y G2=>match x,y with
 | .adr l,.int k=>match G2.m l with
  | some ds=>(0≤k∧k≤1000)∧ds.length≤1000∧R ((bL k.toNat ds).flatten) G2
  | none=>False
 | _,_=>False
theorem Dens.rep{K:PySem.W.Frag}{H:Hp}{ds:List D}{xs:List V}(h:Dens K H ds xs):∀ n:Nat,Dens K H (bL n ds).flatten (bL n xs).flatten
 | 0=>.nil
 | n+1=>by
  rw[br,dq,br,dq]
  exact h.append (Dens.rep h n)
theorem zNz(ha:E2 X a ta)(hb:E2 X b tb):F2 X (.BinOp a .Mult b pos) (zJy ta tb):=by
 refine PE.mono (zKr zOu ha hb) ?_
 rintro σ1 H Q ⟨σ,G,R,rl,q,k⟩
 refine⟨σ,G,_,rl,q,fun dx G1 q1 x H1 g1 r1 d1=>⟨σ,G1,_,rl.to g1 r1,q1,fun dy G2 q2 y H2 g2 r2 d2=>?_⟩⟩
 split at q2
 ·rename_i l i
  split at q2
  ·rename_i ds e
   obtain⟨⟨h0,h1⟩,hz,q3⟩:=q2
   have d1':=d1.grow g2
   unfold zQ at d1' d2
   subst d1' d2
   obtain⟨xs,e1,e2⟩:=r2.m l ds e
   have hlen:=e2.length
   refine⟨l,i,xs,rfl,rfl,e1,by omega,by omega,?_,fun l' n'=>?_⟩
   ·have h3:i.toNat≤1000:=by omega
    have h4:xs.length≤1000:=by omega
    have:=Nat.mul_le_mul h4 h3
    rw[sizeLine_eq];omega
   ·exact k _ G2 q3 l' _ _ ((g1.trans g2).trans (.fresh n')) (r2.fresh n') (r2.free n') zo ((e2.rep i.toNat).grow (.fresh n'))
  ·exact q2.elim
 ·exact q2.elim
noncomputable def zDt(to:ze)(t:wW):ze:=fun σ G R=>to σ G fun x G1=>match x with
 | .adr l=>match G1.m l with
  | some _=>t σ G1 fun ds G2=>match ds with
   | [d]=>(match G2.m l with | some xs=>xs.length≤1000000∧R .non (zN G2 l (xs++[d])) | none=>False)
   | _=>False
  | none=>False
 | _=>False
theorem zBB{t:wW}{apos:Pos}(ho:E2 X o to)(ha:A2 X [e] t)
  (hbase:attributeBase o "append" X.env (eval o X.env)=eval o X.env:=by rfl)
  (hfew:((backTo pos (starEach [e] X.env)).all (fun x=>!x.1)&&(backToKw pos (keywordEach [] X.env)).all (fun x=>x.1.isSome)
   && decide ([e].length+([]:List Keyword).length+(if ([]:List Keyword).isEmpty then 0 else 1)<30))=true:=by rfl)
  (hline:(apos.endLine==pos.line)=true:=by rfl) (hs:starEach [e] X.env=(false,eval e X.env)::starEach [] X.env:=by rfl) (hplain:(backTo pos (starEach [] X.env)).any (·.1)=false:=by rfl) :
  E2 X (.Call (.Attribute o "append" apos) [e] [] pos) (zDt to t):=by
 refine PE.mono (zIv PySem.F.plainAttrs_list PySem.F.slot_list_append PySem.F.type_list_append zFT ho ha hbase hfew hline hs hplain) ?_
 rintro σ1 H Q ⟨σ,G,R,rl,q,k⟩
 refine⟨σ,G,_,rl,q,fun dx G1 q1 x H1 g1 r1 d1=>?_⟩
 split at q1
 ·rename_i l
  split at q1
  ·rename_i ds0 e0
   unfold zQ at d1
   subst d1
   obtain⟨xs0,a1,a2⟩:=r1.m l ds0 e0
   refine⟨.inl ⟨rfl,xs0,.of a1⟩,σ,G1,_,rl.to g1 r1,q1,fun ds G2 q2 vs H2 g2 r2 d2=>?_⟩
   split at q2
   ·rename_i d
    split at q2
    ·rename_i xs e1
     obtain⟨v,rfl,d3⟩:=zBY d2
     obtain⟨ys,b1,b2⟩:=r2.m l xs e1
     have hlen:=b2.length
     refine⟨l,ys,v,rfl,rfl,b1,by rw[sizeLine_eq];omega,?_⟩
     exact k _ _ q2.2 _ _ ((g1.trans g2).trans (.lst b1)) (r2.put b1 (b2.append (.cons d3 .nil))) (by unfold zQ;rfl)
    ·exact q2.elim
   ·exact q2.elim
  ·exact q1.elim
 ·exact q1.elim
noncomputable def zJz(to:ze)(t:TL2):ze:=fun σ G R=>to σ G fun x G1=>match x with
 | .adr l=>match G1.m l with
  | some _=>t σ G1 fun zs G2=>match G2.m l with | some xs=>xs.length+zs.length≤1000000∧R .non (zN G2 l (xs++zs)) | none=>False
  | none=>False
 | _=>False
theorem zGx{apos:Pos}(ho:E2 X o to)(ha:F2 X e tl)
  (hbase:attributeBase o "extend" X.env (eval o X.env)=eval o X.env:=by rfl)
  (hfew:((backTo pos (starEach [e] X.env)).all (fun x=>!x.1)&&(backToKw pos (keywordEach [] X.env)).all (fun x=>x.1.isSome)
   && decide ([e].length+([]:List Keyword).length+(if ([]:List Keyword).isEmpty then 0 else 1)<30))=true:=by rfl)
  (hline:(apos.endLine==pos.line)=true:=by rfl) (hs:starEach [e] X.env=(false,eval e X.env)::starEach [] X.env:=by rfl) (hplain:(backTo pos (starEach [] X.env)).any (·.1)=false:=by rfl) :
  E2 X (.Call (.Attribute o "extend" apos) [e] [] pos) (zJz to tl):=by
 refine PE.mono (zIv PySem.F.plainAttrs_list PySem.F.slot_list_extend PySem.F.type_list_extend zJm ho (zAq ha zCW hs) hbase hfew hline hs hplain) ?_
 rintro σ1 H Q ⟨σ,G,R,rl,q,k⟩
 refine⟨σ,G,_,rl,q,fun dx G1 q1 x H1 g1 r1 d1=>?_⟩
 split at q1
 ·rename_i l
  split at q1
  ·rename_i ds0 e0
   unfold zQ at d1
   subst d1
   obtain⟨xs0,a1,a2⟩:=r1.m l ds0 e0
   refine⟨.inl ⟨rfl,xs0,.of a1⟩,σ,G1,_,rl.to g1 r1,q1,fun zs G2 q2 l2 ys H2 g2 r2 n2 e2 d2=>?_⟩
   split at q2
   ·rename_i xs e1
    obtain⟨ws,b1,b2⟩:=r2.m l xs e1
    have hl1:=b2.length
    have hl2:=d2.length
    refine⟨l,l2,ws,ys,rfl,rfl,b1,e2,by rw[sizeLine_eq];omega,?_⟩
    exact k _ _ q2.2 _ _ ((g1.trans g2).trans (.lst b1)) (r2.put b1 (b2.append d2)) (by unfold zQ;rfl)
   ·exact q2.elim
  ·exact q1.elim
 ·exact q1.elim
noncomputable def zGy(to:ze)(t:wW):ze:=fun σ G R=>to σ G fun x G1=>match x with
 | .adr l=>match G1.m l with
  | some _=>t σ G1 fun ds G2=>match ds with
   | [.int i]=>(match G2.m l with
    | some xs=>(0≤i∧i<xs.length∧i≤1000000)∧(match xs[i.toNat]? with | some d=>R d (zN G2 l (xs.eraseIdx i.toNat)) | none=>False)
    | none=>False)
   | _=>False
  | none=>False
 | _=>False
theorem zLB{t:wW}{apos:Pos}(ho:E2 X o to)(ha:A2 X [e] t)
  (hbase:attributeBase o "pop" X.env (eval o X.env)=eval o X.env:=by rfl)
  (hfew:((backTo pos (starEach [e] X.env)).all (fun x=>!x.1)&&(backToKw pos (keywordEach [] X.env)).all (fun x=>x.1.isSome)
   && decide ([e].length+([]:List Keyword).length+(if ([]:List Keyword).isEmpty then 0 else 1)<30))=true:=by rfl)
  (hline:(apos.endLine==pos.line)=true:=by rfl) (hs:starEach [e] X.env=(false,eval e X.env)::starEach [] X.env:=by rfl) (hplain:(backTo pos (starEach [] X.env)).any (·.1)=false:=by rfl) :
  E2 X (.Call (.Attribute o "pop" apos) [e] [] pos) (zGy to t):=by
 refine PE.mono (zIv PySem.F.plainAttrs_list PySem.F.slot_list_pop PySem.F.type_list_pop zKx ho ha hbase hfew hline hs hplain) ?_
 rintro σ1 H Q ⟨σ,G,R,rl,q,k⟩
 refine⟨σ,G,_,rl,q,fun dx G1 q1 x H1 g1 r1 d1=>?_⟩
 split at q1
 ·rename_i l
  split at q1
  ·rename_i ds0 e0
   unfold zQ at d1
   subst d1
   obtain⟨xs0,a1,a2⟩:=r1.m l ds0 e0
   refine⟨.inl ⟨rfl,xs0,.of a1⟩,σ,G1,_,rl.to g1 r1,q1,fun ds G2 q2 vs H2 g2 r2 d2=>?_⟩
   split at q2
   ·rename_i i
    split at q2
    ·rename_i xs e1
     obtain⟨⟨h0,h1,h9⟩,q2⟩:=q2
     split at q2
     ·rename_i d e2
      obtain⟨v,rfl,d3⟩:=zBY d2
      unfold zQ at d3
      subst d3
      obtain⟨ys,b1,b2⟩:=r2.m l xs e1
      have hlen:=b2.length
      obtain⟨z,c1,c2⟩:=b2.get e2
      refine⟨l,ys,i,i.toNat,z,rfl,rfl,b1,by omega,by omega,?_,c1,?_⟩
      ·have hi:¬ i<0:=by omega
       unfold seqIndex?
       simp only[if_neg hi]
       rw[if_pos (by rw[dk];exact⟨decide_eq_true h0,decide_eq_true (by omega)⟩)]
      ·exact k _ _ q2 _ _ ((g1.trans g2).trans (.lst b1)) (r2.put b1 (b2.eraseIdx i.toNat)) (c2.grow (.lst b1))
     ·exact q2.elim
    ·exact q2.elim
   ·exact q2.elim
  ·exact q1.elim
 ·exact q1.elim
noncomputable def zLC:D→String→Bool
 | .tup _,T=>decide (T="tuple")
 | .bl _,T=>decide (T="bool"∨T="int")
 | .int _,T=>decide (T="int")
 | .str _,T=>decide (T="str")
 | .non,_=>false
 | .adr _,_=>false
 | .dic _,T=>decide (T="dict")
noncomputable def tys:List String:=["tuple","bool","int","str","list","dict"]
theorem zGz{T:String}(hT:T∈tys):wE X (.builtin "isinstance") (fun xs H Q=>∃ x d,xs=[x,.ty T]∧zQ X.K H d x∧((∀ l,d≠.adr l)∧Q (.bl (zLC d T)) H∨∃ l ys,d=.adr l∧SqL X.K H l ys∧Q (.bl (decide (T="list"))) H)):=by
 intro pins s σ H xs us Q I r h
 obtain⟨x,d,rfl,hd,q⟩:=h
 obtain⟨u,u',rfl,rx,ry⟩:=vals2 r
 obtain rfl:u'=Value.type T:=ry
 simp only[tys,ce,db,or_false] at hT
 rcases q with ⟨hna,q⟩ | ⟨l,ys,rfl,hs,q⟩
 ·cases d with
  | tup _ =>
   unfold zQ at hd
   obtain⟨a,ys,rfl,hs,u0⟩:=hd
   cases (show u=Value.ref a from rx)
   obtain⟨u0,u0,⟨o,h1,h2,u0⟩,u0⟩:=I.tuple hs
   rcases hT with rfl | rfl | rfl | rfl | rfl | rfl<;>exact PySem.W.kia_one PySem.W.kitx_tuple I.kIn ⟨o,h1,h2⟩ (by rfl) (fun z=>nomatch z) fun tk=>⟨.bl _,H,I.tok _,rfl,q⟩
  | bl _ =>
   unfold zQ at hd
   subst hd
   rcases hT with rfl | rfl | rfl | rfl | rfl | rfl<;>exact zB3 I rx (.bl _) (by rfl) fun tk=>⟨.bl _,H,I.tok _,rfl,q⟩
  | int _ =>
   unfold zQ at hd
   subst hd
   rcases hT with rfl | rfl | rfl | rfl | rfl | rfl<;>exact zB3 I rx (.int _) (by rfl) fun tk=>⟨.bl _,H,I.tok _,rfl,q⟩
  | str _ =>
   unfold zQ at hd
   subst hd
   rcases hT with rfl | rfl | rfl | rfl | rfl | rfl<;>exact zB3 I rx (.str _) (by rfl) fun tk=>⟨.bl _,H,I.tok _,rfl,q⟩
  | non =>
   unfold zQ at hd
   subst hd
   rcases hT with rfl | rfl | rfl | rfl | rfl | rfl<;>exact zB3 I rx .non (by rfl) fun tk=>⟨.bl _,H,I.tok _,rfl,q⟩
  | dic a =>
   unfold zQ at hd
   obtain⟨rfl,o,y,hs,hc⟩:=hd
   cases (show u=Value.ref a from rx)
   have h1:=(I.hok a _ hs).1
   rcases hT with rfl | rfl | rfl | rfl | rfl | rfl<;>exact PySem.W.kia_one PySem.W.kitx_dict I.kIn ⟨o,h1,hc⟩ (by rfl) (fun z=>nomatch z) fun tk=>⟨.bl _,H,I.tok _,rfl,q⟩
  | adr l=>exact absurd rfl (hna l)
 ·unfold zQ at hd
  subst hd
  cases (show u=Value.ref l from rx)
  obtain⟨u0,u0,pl,u0⟩:=I.list hs
  obtain⟨o,h1,h2,u0⟩:=pl.isList
  rcases hT with rfl | rfl | rfl | rfl | rfl | rfl<;>exact PySem.W.kia_one PySem.W.kitx_list I.kIn ⟨o,h1,h2⟩ (by rfl) (fun z=>nomatch z) fun tk=>⟨.bl _,H,I.tok _,rfl,q⟩
noncomputable def zLD(T:String)(te:ze):ze:=fun σ G R=>te σ G fun d G1=>match d with
 | .adr l=>(∃ ds,Ls G1 l ds)∧R (.bl (decide (T="list"))) G1
 | d=>R (.bl (zLC d T)) G1
theorem zLE{T:String}{x:Str}(hg:Gl X "isinstance")(hm:X.mg "isinstance"=none)(hg2:Gl X x)(hm2:X.mg x=none)(hv:bootBuiltins x=some (.type T))(ha:E2 X e te)(hT:T∈tys:=by decide)
  (he:starEach [e,.Name x p2] X.env=(false,eval e X.env)::starEach [.Name x p2] X.env:=by rfl) (he2:starEach [.Name x p2] X.env=(false,eval (.Name x p2) X.env)::starEach [] X.env:=by rfl) (hpl:(backTo pos (starEach [.Name x p2] X.env)).any (·.1)=false:=by rfl)
  (hn:x≠"__name__":=by decide) (hdb:(x==("__debug__":Str))=false:=by decide) :
  E2 X (.Call (.Name "isinstance" p) [e,.Name x p2] [] pos) (zLD T te):=by
 refine PE.mono (zA6 (zGz (T:=T) hT) hg hm (by decide +kernel) (zAq ha (zAq (zMW (v:=.ty T) hg2 hm2 hv rfl hn hdb) zCW he2) he) (by decide) (by decide) he hpl) ?_
 rintro σ1 H Q ⟨σ,G,R,rl,q,k⟩
 refine⟨σ,G,_,rl,q,fun d G1 q1 v H1 g1 r1 d1=>?_⟩
 refine⟨v,d,rfl,d1,?_⟩
 cases d with
 | adr l =>
  obtain⟨⟨ds,hl⟩,q1⟩:=q1
  obtain⟨xs,hs,u0⟩:=r1.sq hl
  exact .inr ⟨l,xs,rfl,hs,k _ G1 q1 _ H1 g1 r1 (by unfold zQ;rfl)⟩
 | _=>exact .inl ⟨fun l z=>(by cases z),k _ G1 q1 _ H1 g1 r1 (by unfold zQ;rfl)⟩
noncomputable def zH5(i:Nat)(te:ze)(f:Int→Int→Int):wD:=fun E σ G=>match look σ i with
 | some (.int a)=>te σ G fun y G1=>match y with | .int b=>E.nx (σ.set i (some (.int (f a b)))) G1 | _=>False
 | _=>False
noncomputable def zLF(tc:TT2)(tb:wD):wD:=fun E σ G=>∃ Pv:Nat→S2→Gp→Prop,(∃ m,Pv m σ G)∧∀ m σ G,Pv m σ G→tc σ G fun b G1=>if b=true then tb { E with nx:=Fg fun σ' G'=>∃ m',m'<m∧Pv m' σ' G',ct:=Fg fun σ' G'=>∃ m',m'<m∧Pv m' σ' G',bk:=E.nx } σ G1 else E.nx σ G1
theorem zM0{tc:TT2}{tb:wD}{body:List Stmt}(hp:PassesOwn (model X.prog X.w) X.A X.env X.xe)(hc:T2 X c tc)(hb:Ps2 X body tb):P2 X (.While c body [] pos) (zLF tc tb):=by
 refine PS.mono (L2.zKp hp hc hb) ?_
 rintro E σ1 H ⟨σ,G,D2,r,⟨Pv,⟨m0,p0⟩,pt⟩,k⟩
 refine⟨fun m σ1' H'=>yF H H'∧∃ σ' G',Rel X.K σ' G' σ1' H'∧Pv m σ' G',⟨m0,.refl H,σ,G,r,p0⟩,?_⟩
 rintro m σ1' H' ⟨g',σ',G',r',p'⟩
 refine⟨σ',G',_,r',pt m σ' G' p',fun b G1 q1 H1 g1 r1=>?_⟩
 cases b with
 | false=>exact k.nx _ G1 q1 _ H1 (g'.trans g1) (r'.to g1 r1)
 | true =>
  refine⟨fun σ1'' H''=>∃ m',m'<m∧(yF H H''∧∃ σ'' G'',Rel X.K σ'' G'' σ1'' H''∧Pv m' σ'' G''),fun σ1'' H'' h=>h,σ',G1,_,r'.to g1 r1,q1,?_⟩
  have back:∀ σ3 G3,Fg (fun σ' G'=>∃ m',m'<m∧Pv m' σ' G') σ3 G3→∀ σ13 H3,yF H1 H3→Rel X.K σ3 G3 σ13 H3→∃ m',m'<m∧(yF H H3∧∃ σ'' G'',Rel X.K σ'' G'' σ13 H3∧Pv m' σ'' G''):=by
   rintro σ3 G3 ⟨σ4,G4,a1,a2,m',hm,a3⟩ σ13 H3 g3 r3
   exact⟨m',hm,(g'.trans g1).trans g3,σ4,G4,r3.sub a1 a2,a3⟩
  exact⟨back,fun σ3 G3 q3 σ13 H3 g3 r3=>k.nx σ3 G3 q3 σ13 H3 ((g'.trans g1).trans g3) r3,back,fun d3 G3 q3 v3 H3 g3 r3 dv=>k.rt d3 G3 q3 v3 H3 ((g'.trans g1).trans g3) r3 dv⟩
end
section
variable {P:Program} {w:World} {K:PySem.W.Frag} {mg:Str→Option Value} {base:Heap}
noncomputable def FgR(R:Q2):Q2:=fun d G=>∃ G',Sub G' G∧R d G'
theorem FgR.of{R:Q2}{d:D}{G:Gp}(h:R d G):FgR R d G:=⟨G,.refl G,h⟩
noncomputable def zV(N:List Str)(ds:List D):S2:=ds.map some++bL (N.length-ds.length) none
theorem zFb{N:List Str}{ds:List D}{vs:List V}{G:Gp}{H:Hp}(r:yX K G H)(d:Dens K H ds vs):Rel K (zV N ds) G (L2.start N vs) H :=
 ⟨r,by simp[zV,L2.start,d.length],fun i x e=>by
  unfold zV at e
  unfold L2.start
  by_cases hi:i<ds.length
  ·rw[cj (by simpa using hi),bY] at e
   cases q:ds[i]? with
   | none=>rw[q] at e;cases e
   | some y =>
    rw[q] at e;cases e
    obtain⟨v,e1,e2⟩:=d.get q
    refine⟨v,?_,e2⟩
    rw[cj (by rw[bx,← d.length];exact hi),bY,e1];rfl
  ·rw[cn (by simpa using hi),eB] at e
   split at e<;>cases e⟩
theorem zP9{x qual:Str}{st:Stmt}{f:Addr}{fd:FuncData}{N ps:List Str}{k:Nat}{sp:Sp2}(F:Fun K x qual st f fd)(S:zd N ps (zH st))(hm:mg x=some (.ref f))(hb:Binds K fd ps [])(len:∀ ds G R,sp ds G R→ds.length=ps.length)
  (hbody:∀(cdv:Value) (A:Around) (outer:List Env) (s:Shared) (H:Hp) (E:XK),wt k (A.deeper (envOfC qual (zH st) s.heap.objs.size f cdv)) →
   ∃ t,Ps2 (zF0 CX0 P w K mg base N qual (zH st) f cdv A outer s H E).nox (zb st) t∧∀ ds G R,sp ds G R→t { nx:=fun u0 G'=>FgR R .non G',rt:=FgR R } (zV N ds) G):Df P w K mg base (k+1) x ps sp:=by
 refine⟨f,fd,F.ok S ?_ ?_,hm,F.kp,hb⟩
 ·rintro vs H Q E ⟨ds,G,R,d,r,h,u0⟩
  rw[← d.length]
  exact len ds G R h
 ·intro cdv A outer s H vs Q E hr h
  obtain⟨ds,G,R,d,r,h,kk⟩:=h
  obtain⟨t,ht,q⟩:=hbody cdv A outer s H E hr
  refine⟨_,ht,zV N ds,G,_,zFb r d,q ds G R h,⟨?_,?_,?_,?_⟩⟩
  ·rintro σ G' ⟨G'',s',q'⟩ σ1 H' g' r'
   exact kk _ G'' q' _ H' g' (r'.g.sub s') (by unfold zQ;rfl)
  ·intro σ G' h;exact h.elim
  ·intro σ G' h;exact h.elim
  ·rintro d' G' ⟨G'',s',q'⟩ v H' g' r' dv
   exact kk _ G'' q' _ H' g' (r'.sub s') dv
noncomputable abbrev zj(R:Q2):yH:={ nx:=fun u0 G'=>FgR R .non G',rt:=FgR R }
theorem yR{x qual:Str}{st:Stmt}{f:Addr}{fd:FuncData}{N ps:List Str}{k:Nat}{sp:Sp2}(t:wD)(F:Fun K x qual st f fd)(S:zd N ps (zH st))(hm:mg x=some (.ref f))(hb:Binds K fd ps [])
  (ht:∀(cdv:Value) (A:Around) (outer:List Env) (s:Shared) (H:Hp) (E:XK),wt k (A.deeper (envOfC qual (zH st) s.heap.objs.size f cdv))→Ps2 (zF0 CX0 P w K mg base N qual (zH st) f cdv A outer s H E).nox (zb st) t)
  (hs:∀ ds G R,sp ds G R→ds.length=ps.length∧t (zj R) (zV N ds) G):Df P w K mg base (k+1) x ps sp :=
 zP9 F S hm hb (fun ds G R h=>(hs ds G R h).1) fun cdv A outer s H E hr=>⟨t,ht cdv A outer s H E hr,fun ds G R h=>(hs ds G R h).2⟩
theorem zO7{x qual:Str}{st:Stmt}{f:Addr}{fd:FuncData}{N ps:List Str}{k:Nat}{sp:Sp2}(t:wD)(F:Fun K x qual st f fd)(S:zd N ps (zH st))
  (ht:∀(cdv:Value) (A:Around) (outer:List Env) (s:Shared) (H:Hp) (E:XK),wt k (A.deeper (envOfC qual (zH st) s.heap.objs.size f cdv))→Ps2 (zF0 CX0 P w K mg base N qual (zH st) f cdv A outer s H E).nox (zb st) t)
  (hs:∀ ds G R,sp ds G R→ds.length=ps.length∧t (zj R) (zV N ds) G):zBe P w K mg base CX0 (k+1) f fd ps (lSp K sp):=by
 refine F.ok S ?_ ?_
 ·rintro vs H Q E ⟨ds,G,R,d,r,h,u0⟩
  rw[← d.length]
  exact(hs ds G R h).1
 ·intro cdv A outer s H vs Q E hr h
  obtain⟨ds,G,R,d,r,h,kk⟩:=h
  refine⟨_,ht cdv A outer s H E hr,zV N ds,G,_,zFb r d,(hs ds G R h).2,⟨?_,?_,?_,?_⟩⟩
  ·rintro σ G' ⟨G'',s',q'⟩ σ1 H' g' r'
   exact kk _ G'' q' _ H' g' (r'.g.sub s') (by unfold zQ;rfl)
  ·intro σ G' h;exact h.elim
  ·intro σ G' h;exact h.elim
  ·rintro d' G' ⟨G'',s',q'⟩ v H' g' r' dv
   exact kk _ G'' q' _ H' g' (r'.sub s') dv
end
noncomputable def zFc(osc sc:Scope):List (Str×NameKind):=sc.names.map fun(n,k)=>if (k==NameKind.free&&osc.kind==.function&&osc.names.lookup n==some .cell) then (n,NameKind.cell) else (n,k)
noncomputable def zO8(ns:List (Str×NameKind))(x:Str):Bool:=match ns.lookup x with | some .local=>true | some .cell=>true | some .free=>true | _=>false
noncomputable def zLG(osc sc:Scope)(N N0 own:List Str):Bool :=
 decide (sc.kind=.function)&&sc.names.all (fun y=>decide (y.2≠.cell))&&sc.names.all (fun y=>decide (y.2=.local→sc.names.lookup y.1=some .local))
 && sc.names.all (fun y=>decide (y.2=.free→osc.names.lookup y.1=some .cell∨osc.names.lookup y.1=some .free))
 && decide (N0.length=N.length)&&(bE N0.length).all (fun i=>match N0[i]? with | some x=>!zO8 (zFc osc sc) x||decide (N[i]?=some x∧sc.names.lookup x=some .free) | none=>true)
 && decide ((N0++own).Nodup)&&own.all (fun x=>decide ((zFc osc sc).lookup x=some .local))
structure zG0 (X:Cx) (sc:Scope) (N0 own:List Str):Prop where
 ok:zCX X sc N0
 nd:(N0++own).Nodup
 loc:∀ x∈own,(relabel sc X.env).names.lookup x=some .local
theorem zz{X:Cx}{osc sc:Scope}{N N0 own:List Str}(h:zLG osc sc N N0 own=true)(e1:X.env.scope=osc:=by rfl)(e2:X.N=N:=by rfl):zG0 X sc N0 own:=by
 subst e1 e2
 unfold zLG at h
 simp only[dk,decide_eq_true_eq,eJ] at h
 obtain⟨⟨⟨⟨⟨⟨⟨h1,h2⟩,h3⟩,h4⟩,h5⟩,h6⟩,h7⟩,h8⟩:=h
 refine⟨⟨h1,h2,h3,h4,h5,fun i x e v=>?_⟩,h7,h8⟩
 have hi:i<N0.length:=(bN.mp e).1
 have q:=h6 i (cb.mpr hi)
 rw[e] at q
 dsimp only at q
 have hv:zO8 (zFc X.env.scope sc) x=true:=by
  have v':(zFc X.env.scope sc).lookup x=some .local∨(zFc X.env.scope sc).lookup x=some .cell∨(zFc X.env.scope sc).lookup x=some .free:=v
  unfold zO8
  rcases v' with v' | v' | v'<;>rw[v']
 rw[hv] at q
 simpa using q
section
variable {X:Cx} {elt iter:Expr} {pos:Pos} {te:ze} {ifs:List Expr} {sc:Scope} {N0:List Str} {wi:TI2} {tc:TT2}
theorem zFD(x:Str){px:Pos}(hc:X.calm=true)(T:zG0 X sc N0 [x])(hi:I2 X (.Name x px) iter wi)
  (ht:∀ C s H fp pins,Ts2 (X.comp (N0++[x]) sc C s H fp pins) ifs tc) (he:∀ C s H fp pins,E2 (X.comp (N0++[x]) sc C s H fp pins) elt te)
  (hs:∀ x,foldedSetIterable iter X.env x=pure x:=by intro u0;rfl):F2 X (.ListComp elt [⟨.Name x px,iter,ifs,0⟩] sc pos) (yE wi bd1 tc te) :=
 zMu x hc T.ok hi T.nd (T.loc x (by simp)) ht he hs
theorem zQq(x y:Str){px py pt:Pos}{kk:Nat}(hc:X.calm=true)(T:zG0 X sc N0 [x,y])(hi:I2 X (.Tuple [.Name x px,.Name y py] kk pt) iter wi)
  (ht:∀ C s H fp pins,Ts2 (X.comp (N0++[x,y]) sc C s H fp pins) ifs tc) (he:∀ C s H fp pins,E2 (X.comp (N0++[x,y]) sc C s H fp pins) elt te)
  (hs:∀ x,foldedSetIterable iter X.env x=pure x:=by intro u0;rfl):F2 X (.ListComp elt [⟨.Tuple [.Name x px,.Name y py] kk pt,iter,ifs,0⟩] sc pos) (yE wi bd2 tc te) :=
 zMv x y hc T.ok hi T.nd (T.loc x (by simp)) (T.loc y (by simp)) ht he hs
theorem zB5(i:Nat)(x:Str){y:Str}{px py spos:Pos}(hc:X.calm=true)(T:zG0 X sc N0 [x])(hi:I2 X (.Name x px) iter wi)
  (ht:∀ C s H fp pins,Ts2 (X.comp (N0++[x]) sc C s H fp pins) ifs tc) (he:∀ C s H fp pins,E2 (X.comp (N0++[x]) sc C s H fp pins) elt te)
  (hN:X.N.Nodup) (hy:X.N[i]?=some y:=by rfl) (hl:X.env.scope.names.lookup y=some .local:=by rfl)
  (hsw:swapsWith (.ListComp elt [⟨.Name x px,iter,ifs,0⟩] sc pos) (some (.Name y py)) spos.line X.env=pure true:=by rfl)
  (hs:∀ x,foldedSetIterable iter X.env x=pure x:=by intro u0;rfl):P2 X (.Assign [.Name y py] (.ListComp elt [⟨.Name x px,iter,ifs,0⟩] sc pos) spos) (zAm i (yE wi bd1 tc te)) :=
 zHz i x hc T.ok hi T.nd (T.loc x (by simp)) ht he hN hy hl hsw hs
end
structure Ext (G G':Gp):Prop where
 sub:Sub G G'
 ro:G'.ro=G.ro
theorem Ext.refl(G:Gp):Ext G G:=⟨.refl G,rfl⟩
theorem Ext.trans{G G1 G2:Gp}(h:Ext G G1)(h':Ext G1 G2):Ext G G2:=⟨h.sub.trans h'.sub,h'.ro.trans h.ro⟩
theorem Ext.new{G:Gp}{l:Addr}{o:List D}(h:G.m l=none):Ext G (zN G l o):=⟨.new h,rfl⟩
theorem Ext.ls{G G':Gp}(h:Ext G G'){a:Addr}{ds:List D}(e:Ls G a ds):Ls G' a ds:=e.sub h.sub
theorem Ext.own{G G':Gp}(h:Ext G G'){A:Addr}(n:G'.m A=none):G.m A=none:=by
 cases q:G.m A with
 | none=>rfl
 | some u=>rw[h.sub.m A u q] at n;cases n
noncomputable def zi(t:ze)(σ:S2)(G:Gp)(d:D):Prop:=∀ G2,Ext G G2→∀ R:D→Gp→Prop,R d G2→t σ G2 R
noncomputable def PuT(t:TT2)(σ:S2)(G:Gp)(b:Bool):Prop:=∀ G2,Ext G G2→∀ R:Bool→Gp→Prop,R b G2→t σ G2 R
noncomputable def PuL(t:TL2)(σ:S2)(G:Gp)(ds:List D):Prop:=∀ G2,Ext G G2→∀ R:List D→Gp→Prop,R ds G2→t σ G2 R
noncomputable def PuA(t:wW)(σ:S2)(G:Gp)(ds:List D):Prop:=∀ G2,Ext G G2→∀ R:List D→Gp→Prop,R ds G2→t σ G2 R
noncomputable def PuI(t:TI2)(σ:S2)(G:Gp)(ds:List D):Prop:=∀ G2,Ext G G2→∀ R:List D→(Gp→Prop)→Gp→Prop,(∀ gd G3,Ext G2 G3→(∀ G4,Ext G3 G4→gd G4)→R ds gd G3)→t σ G2 R
theorem zi.mono{t:ze}{σ:S2}{G G':Gp}{d:D}(h:zi t σ G d)(e:Ext G G'):zi t σ G' d:=fun G2 x=>h G2 (e.trans x)
section
variable {σ:S2} {G:Gp}
theorem zE{i:Nat}{d:D}(h:look σ i=some d):zi (zB i) σ G d:=fun G2 u0 R q=>by unfold zB;rw[h];exact q
theorem yD{d:D}:zi (xC d) σ G d:=fun u0 u0 u0 q=>q
theorem zT:PuA zG σ G []:=fun u0 u0 u0 q=>q
theorem zJ{ta:ze}{tr:wW}{d:D}{ds:List D}(h:zi ta σ G d)(h':PuA tr σ G ds):PuA (zA ta tr) σ G (d::ds):=fun G2 x R q=>h G2 x _ (h' G2 x _ q)
theorem zA1{t:wW}{ds:List D}(h:PuA t σ G ds)(hl:ds.length≤100000):zi (yK t) σ G (.tup ds):=fun G2 x R q=>h G2 x _ ⟨by rw[sizeLine_eq];omega,q⟩
theorem yi{f:D→D→Gp→Q2→Prop}{ta tb:ze}{x y d:D}(ha:zi ta σ G x)(hb:zi tb σ G y)(h:∀ G2,Ext G G2→∀ R:D→Gp→Prop,R d G2→f x y G2 R):zi (zP f ta tb) σ G d:=fun G2 e R q=>ha G2 e _ (hb G2 e _ (h G2 e R q))
theorem zDd{g:Int→Int→D}{ta tb:ze}{i j:Int}(ha:zi ta σ G (.int i))(hb:zi tb σ G (.int j)):zi (zP (fII g) ta tb) σ G (g i j):=yi ha hb fun u0 u0 u0 q=>q
theorem wN{sp:Sp2}{t:wW}{ds:List D}{d:D}(ha:PuA t σ G ds)(h:∀ G2,Ext G G2→∀ R:D→Gp→Prop,R d G2→sp ds G2 R):zi (zL sp t) σ G d:=fun G2 e R q=>ha G2 e _ (h G2 e R q)
theorem zAR{t:ze}{b:Bool}(h:zi t σ G (.bl b)):PuT (xB t) σ G b:=fun G2 e R q=>h G2 e _ q
theorem zO9:PuT zDJ σ G true:=fun u0 u0 u0 q=>q
theorem zPA{t u:TT2}{b c:Bool}(h:PuT t σ G b)(h':b=false→PuT u σ G c):PuT (zCr t u) σ G (b||c):=fun G2 e R q=>h G2 e _ (by
 cases b with
 | true=>simpa using q
 | false=>rw[if_neg (by simp)];exact h' rfl G2 e _ (by simpa using q))
theorem zGA{t:TT2}{b:Bool}(h:PuT t σ G b):PuT (zAn t) σ G (!b):=fun G2 e R q=>h G2 e _ q
theorem zBC{t:ze}{ds:List D}(h:zi t σ G (.tup ds)):PuI (iV t) σ G ds:=fun G2 e R q=>h G2 e _ (q _ G2 (.refl _) fun u0 u0=>trivial)
theorem zBD{t:ze}{a:Addr}{ds:List D}(h:zi t σ G (.adr a))(hr:Ls G a ds):PuI (iV t) σ G ds:=fun G2 e R q=>h G2 e _ ⟨ds,e.ls hr,q _ G2 (.refl _) fun G4 e4=>e4.ls (e.ls hr)⟩
end
end L3
namespace HT
section
variable {prog:Program} {w:World} {A:Around} {E:Value→Shared→Prop} {s:Shared}
theorem zLH{t b:Addr}{ws:List Value}{Q:Value→Shared→Prop}(ht:IsTup s.heap t #[])(hb:IsTup s.heap b ws.toArray)(h:Q (.ref b) s):wpAny (model prog w) A (binaryOp .Add (.ref t) (.ref b)) Q E s:=by
 obtain⟨⟨cls,dd,data,sl⟩,ho,hc,n,hd⟩:=id ht
 obtain⟨⟨cls2,dd2,data2,sl2⟩,ho2,hc2,n2,hd2⟩:=id hb
 simp only at hc hd hc2 hd2
 subst hc hd hc2 hd2
 exact concat_meets ⟨_,ho,rfl⟩ ⟨_,ho2,rfl⟩ noFill_tuple_add seq_tuple_add PySem.F.slot_tuple_add PySem.F.entry_tuple_add (PySem.F.args_tuple_add_2 _ _)
   (tuple_addW0 t b #[] ws.toArray n n2 dd dd2 sl sl2 rfl) ⟨ho,ho2,h⟩
theorem zDe{l:Addr}{vs:List Value}{Q:List Value→Shared→Prop}(hl:IsTup s.heap l vs.toArray)
  (h:Q vs { s with heap:=(s.heap.push (seqObj "list" #[] 0)).update s.heap.objs.size (Obj.mapSeq (·++vs.toArray)) }) (hsz:vs.length≤sizeLine:=by size_fits) :
  wpAny (model prog w) A (collect (.ref l)) Q E s:=by
 obtain⟨o,ho,hc,n,hd⟩:=id hl
 unfold collect
 refine bq (wpAny_runValue (cY entry_proto_collect' ?_))
 show wpAny _ _ (do again (.builtin "list.__iadd__" ⟨[← newList [],.ref l],[]⟩)) _ _ s
 refine bq (wpAny_newList (bC ⟨Code.quiet_builtin _ (by decide +kernel),cY entry_list_iadd' ?_⟩))
 show wpAny _ _ (Builtin.List.listExtendWith (.ref s.heap.objs.size) (.ref l) (.ref s.heap.objs.size)) _ _ { s with heap:=s.heap.push (seqObj "list" #[] 0) }
 unfold Builtin.List.listExtendWith
 have ho':(s.heap.push (seqObj "list" #[] 0)).get? l=some o:=bz _ ho
 refine bq (eG (T:="tuple") ⟨o,ho',hc⟩ ?_)
 have ht:(Value.type "tuple"==Value.type "tuple")=true:=by rfl
 rw[if_pos (by rw[ht];simp)]
 refine bq (listItems_at ho' hd ?_)
 refine bq (listItems_at (xs:=#[]) (n:=0) (bM _ rfl) rfl ?_)
 rw[if_neg (by simp)]
 refine bq (listUpdate_at (xs:=#[]) (n:=0) (bM _ rfl) rfl ?_ (dO _) (by show(#[]++vs.toArray).size≤sizeLine+1;simp only[Array.size_append,bO,bw];omega))
 refine bC ?_
 show wpAny (model prog w) A (do
   let o ← load s.heap.objs.size
   match o.data with
   | .seq xs _=>pure xs.toList
   | _=>unsupported "internal:collect") Q E { s with heap:=(s.heap.push (seqObj "list" #[] 0)).update s.heap.objs.size (Obj.mapSeq (·++vs.toArray)) }
 refine bq (wpAny_load (get?_update_seq (bM _ rfl) _) ?_)
 show wpAny _ _ (pure ((#[]:Array Value)++vs.toArray).toList) Q E _
 rw[show((#[]:Array Value)++vs.toArray).toList=vs by simp]
 exact bC h
theorem zH6{l:Addr}{vs:List Value}{ns:List Int}{Q:Value→Shared→Prop}(hl:IsTup s.heap l vs.toArray)(hI:IntsAre vs ns)(h64:vs.length<64)
  (h:∀(out:Array Value) (ns':List Int),IntsAre out.toList ns'→ns'.Perm ns→ns'.Pairwise (·≤·)→Q (.ref (s.heap.objs.size+1)) { s with heap:=sortedAll s.heap vs out }) :
  wpAny (model prog w) A (call (.builtin "sorted") [.ref l]) Q E s:=by
 refine Calls.call_function_entry kind_sorted plain_sorted entry_sorted (args_sorted1 _) ?_
 unfold Builtin.«sorted»
 refine bq (m:=checkCount "sorted" 1 1 _) (bC ?_)
 refine bq (zDe hl ?_)
 refine bq (wpAny_newList ?_)
 have hsz:((s.heap.push (seqObj "list" #[] 0)).update s.heap.objs.size (Obj.mapSeq (·++vs.toArray))).objs.size=s.heap.objs.size+1:=by
  rw[Heap.size_update,size_push']
 have hoL:(((s.heap.push (seqObj "list" #[] 0)).update s.heap.objs.size (Obj.mapSeq (·++vs.toArray))).push (seqObj "list" vs.toArray 0)).get? (s.heap.objs.size+1)=some (seqObj "list" vs.toArray 0):=by
  rw[← hsz];exact bM _ rfl
 show wpAny _ _ _ _ _ { s with heap:=((s.heap.push (seqObj "list" #[] 0)).update s.heap.objs.size (Obj.mapSeq (·++vs.toArray))).push (seqObj "list" vs.toArray 0) }
 rw[hsz]
 refine bq (cP (cT slot_list_sort ⟨_,hoL,rfl⟩ entry_list_sort (list_sort_tree hoL hI h64 fun out ns' a1 a2 a3=>⟨_,rfl,?_⟩) (args_list_sort _)))
 exact bC ⟨_,rfl,h out ns' a1 a2 a3⟩
theorem zCI{t sl:Addr}{items:Array Value}{vl vu:Value}{lo hi:Option Int}{Q:Value→Shared→Prop}(ht:IsTup s.heap t items)(hs:s.heap.IsSliceOf sl vl vu .none)(pl:IsPart vl lo)(pu:IsPart vu hi)
  (hw:wO items.size 0 lo=0∧wO items.size items.size hi=items.size)
  (h:Q (.ref t) s):wpAny (model prog w) A (getItem (.ref t) (.ref sl)) Q E s:=by
 obtain⟨os,hos,hcs,hds⟩:=id hs
 have hTs:s.TypeIs (.ref sl) "slice":=⟨os,hos,hcs⟩
 unfold getItem
 try with_reducible refine cP ?_
 first | refine bq (bC ?_) | skip
 refine bq (wpAny_sequenceKey ht.typeIs (by decide) ?_)
 refine bq (wpAny_callSpecial?_slot (name:=Str.ofString "__getitem__") ht.typeIs PyProof.Rows.slot_tuple_getitem
  (cT PyProof.Rows.slot_tuple_getitem ht.typeIs entry_tuple_getitem ?_ (args_tuple_getitem _ _)))
 show wpAny _ _ (Builtin.Tuple.tupleItemsOf (.ref t)>>=_) _ _ s
 refine bq (tupleItemsOf_ ht ?_)
 refine bq (eG hTs ?_)
 rw[if_pos (by decide)]
 refine bq (zA7 hs pl pu ?_)
 have hyes:((((wO items.size 0 lo:Nat):Int)==0&&(1:Int)==1&&(wO items.size items.size hi-wO items.size 0 lo)==items.size)=true):=by
  rw[hw.1,hw.2];simp
 show wpAny _ _ (if (((wO items.size 0 lo:Nat):Int)==0&&(1:Int)==1&&(wO items.size items.size hi-wO items.size 0 lo)==items.size)=true then _ else _) _ _ s
 rw[if_pos hyes]
 unfold Builtin.Tuple.tupleIsExact
 refine bq (bq (eG ht.typeIs (bC ?_)))
 rw[if_pos (by rfl)]
 refine bq (dz ?_)
 first
  | exact bC ⟨_,rfl,bC h⟩
  | exact bq (bC (bC ⟨_,rfl,bC h⟩))
end
end HT
namespace L3
open L2
section
variable {X:Cx} {a b c e o:Expr} {es:List Expr} {pos p:Pos} {ta tb te:ze}
noncomputable def yN:D→D→Gp→Q2→Prop:=fun x y G R=>match x,y with
 | .int i,.int j=>R (.int (i+j)) G
 | .tup xs,.tup ys=>xs.length+ys.length≤1000000∧R (.tup (xs++ys)) G
 | _,_=>False
theorem OpR.or{f:Value→Value→Sem Value}{r r':R2}(h:OpR X f r)(h':OpR X f r'):OpR X f (fun x y H Q=>r x y H Q∨r' x y H Q):=by
 intro pins s σ H x y v u Q I rx ry q
 rcases q with q | q
 ·exact h pins s σ H x y v u Q I rx ry q
 ·exact h' pins s σ H x y v u Q I rx ry q
noncomputable def zN0(K:PySem.W.Frag):R2:=fun x y H Q=>∃ a b ys,x=.ref a∧y=.ref b∧SqT K H a []∧SqT K H b ys∧Q (.ref b) H
theorem zM1:OpR X (binaryOp .Add) (zN0 X.K):=by
 intro pins s σ H x y v u Q I rx ry h
 obtain⟨a,b,ys,rfl,rfl,ha,hb,q⟩:=h
 cases rx
 cases ry
 obtain⟨its,r1,p1,u0⟩:=I.tuple ha
 obtain⟨its2,r2,p2,u0⟩:=I.tuple hb
 have:its=[]:=r1.nil_iff.mpr rfl
 subst this
 exact HT.zLH p1 p2 ⟨.ref b,H,I,rfl,q⟩
theorem zM2{K:PySem.W.Frag}:Fit K (fun x y H Q=>rI0 (fun i j=>.int (i+j)) x y H Q∨zNp K x y H Q∨zN0 K x y H Q) yN:=by
 intro dx dy G R x y H Q h r d1 d2 k
 unfold yN at h
 split at h
 ·rename_i i j
  unfold zQ at d1 d2
  subst d1 d2
  exact .inl ⟨i,j,rfl,rfl,k _ G h _ H (.refl H) r (by unfold zQ;rfl)⟩
 ·rename_i xs ys
  obtain⟨hz,h⟩:=h
  unfold zQ at d1 d2
  obtain⟨a,us,rfl,s1,t1⟩:=d1
  obtain⟨b,ws,rfl,s2,t2⟩:=d2
  have l1:=t1.length
  have l2:=t2.length
  by_cases hx:xs=[]
  ·subst hx
   have hu:us=[]:=dl.mp (by rw[← l1];rfl)
   subst hu
   exact .inr (.inr ⟨a,b,ws,rfl,rfl,s1,s2,k _ G h _ H (.refl H) r (by unfold zQ;exact⟨b,ws,rfl,s2,by simpa using t2⟩)⟩)
  ·refine .inr (.inl ⟨a,b,us,ws,rfl,rfl,s1,s2,fun z=>hx (dl.mp (by rw[l1,z];rfl)),by rw[sizeLine_eq];omega,fun z=>?_,fun u0 p hp=>?_⟩)
   ·have hy:ys=[]:=dl.mp (by rw[l2,z];rfl)
    subst hy
    exact k _ G h _ H (.refl H) r (by unfold zQ;exact⟨a,us,rfl,s1,by simpa using t1⟩)
   ·exact k _ G h _ _ (.fresh hp) (r.fresh hp) (by unfold zQ;exact⟨p,us++ws,rfl,.of zo,(t1.append t2).grow (.fresh hp)⟩)
 ·exact h.elim
theorem wH(ha:E2 X a ta)(hb:E2 X b tb):E2 X (.BinOp a .Add b pos) (zP yN ta tb):=zGs (zOa.or (zMl.or zM1)) zM2 ha hb
noncomputable def zG1(ta tb:ze):TL2:=fun σ G R=>ta σ G fun x G1=>tb σ G1 fun y G2=>match x,y with
 | .adr l,.adr m=>∃ xs ys,G2.m l=some xs∧G2.m m=some ys∧xs.length+ys.length≤1000000∧R (xs++ys) G2
 | _,_=>False
theorem zN1(ha:E2 X a ta)(hb:E2 X b tb):F2 X (.BinOp a .Add b pos) (zG1 ta tb):=by
 refine PE.mono (zKr zOt ha hb) ?_
 rintro σ1 H Q ⟨σ,G,R,rl,q,k⟩
 refine⟨σ,G,_,rl,q,fun dx G1 q1 x H1 g1 r1 d1=>⟨σ,G1,_,rl.to g1 r1,q1,fun dy G2 q2 y H2 g2 r2 d2=>?_⟩⟩
 split at q2
 ·rename_i l m
  obtain⟨xs,ys,e1,e2,hz,q3⟩:=q2
  have d1':=d1.grow g2
  unfold zQ at d1' d2
  subst d1' d2
  obtain⟨us,a1,a2⟩:=r2.m l xs e1
  obtain⟨ws,b1,b2⟩:=r2.m m ys e2
  have l1:=a2.length
  have l2:=b2.length
  refine⟨l,m,us,ws,rfl,rfl,a1,b1,by rw[sizeLine_eq];omega,fun p hp=>?_⟩
  exact k _ G2 q3 p _ _ ((g1.trans g2).trans (.fresh hp)) (r2.fresh hp) (r2.free hp) zo ((a2.append b2).grow (.fresh hp))
 ·exact q2.elim
theorem zGB:wE X (.builtin "sorted") (fun xs H Q=>∃(p:Addr) (ns:List Int),xs=[.ref p]∧(SqL X.K H p (ns.map V.int)∨SqT X.K H p (ns.map V.int))∧ns.length<64∧∀(l:Addr) (ns':List Int),H l=none→ns'.Perm ns→ns'.Pairwise (·≤·)→Q (.ref l) (wd H l (.lst (ns'.map V.int)))):=by
 intro pins s σ H xs us Q I r h
 obtain⟨p,ns,rfl,hq,hz,q⟩:=h
 obtain⟨u,rfl,rx⟩:=vals1 r
 cases rx
 have fin:∀(its:List Value) (out:Array Value) (ns':List Int),its.length=ns.length→IntsAre out.toList ns'→ns'.Perm ns→ns'.Pairwise (·≤·)→EP X pins σ Q (.ref (s.heap.objs.size+1)) { s with heap:=sortedAll s.heap its out }:=by
  intro its out ns' hl i1 i2 i3
  obtain⟨e,he⟩:=sortedAll_at s.heap its out
  have hn:H (s.heap.objs.size+1)=none:=I.hok.fresh (dh _)
  refine⟨.ref (s.heap.objs.size+1),_,I.laid (t':=s.toks) (o:=.lst (ns'.map V.int)) (fun b u q=>sortedAll_old q) (dh _) ?_,rfl,q _ ns' hn i2 i3⟩
  have hp:=i2.length_eq
  refine⟨?_,out.toList,e,zA8 i1,?_⟩
  ·rw[bx,hp,sizeLine_eq];omega
  ·rw[he]<;>rfl
 rcases hq with hq | hq
 ·obtain⟨its,rv,pl,u0⟩:=I.list hq
  have hl:=rv.length
  rw[bx] at hl
  exact sorted_ints (vs:=its) (ns:=ns) pl.isList (intsAre_of rv) (by omega) fun out ns' i1 i2 i3=>fin its out ns' (by omega) i1 i2 i3
 ·obtain⟨its,rv,pl,u0⟩:=I.tuple hq
  have hl:=rv.length
  rw[bx] at hl
  exact HT.zH6 (vs:=its) (ns:=ns) pl (intsAre_of rv) (by omega) fun out ns' i1 i2 i3=>fin its out ns' (by omega) i1 i2 i3
noncomputable def zAW(t:wW):TL2:=fun σ G R=>t σ G fun ds G1=>match ds with
 | [d]=>∃ ns:List Int,zBh G1 d (ns.map D.int)∧ns.length<64∧∀(ns':List Int),ns'.Perm ns→ns'.Pairwise (·≤·)→R (ns'.map D.int) G1
 | _=>False
theorem zG2{t:wW}(hg:Gl X "sorted")(hm:X.mg "sorted"=none)(ha:A2 X [e] t)(he:starEach [e] X.env=(false,eval e X.env)::starEach [] X.env:=by rfl)(hpl:(backTo pos (starEach [] X.env)).any (·.1)=false:=by rfl) :
  F2 X (.Call (.Name "sorted" p) [e] [] pos) (zAW t):=by
 refine PE.mono (zA6 zGB hg hm boot_sorted ha (by decide) (by decide) he hpl) ?_
 rintro σ1 H Q ⟨σ,G,R,rl,q,k⟩
 refine⟨σ,G,_,rl,q,fun ds G1 q1 vs H1 g1 r1 d1=>?_⟩
 split at q1
 ·rename_i d
  obtain⟨ns,e1,hl,q1⟩:=q1
  obtain⟨v,rfl,d2⟩:=zBY d1
  obtain⟨a,xs,rfl,s1,t1⟩:=zD2 r1 d2 e1
  have hxs:=t1.ints_inv
  subst hxs
  refine⟨a,ns,rfl,s1,hl,fun l' ns' n' h1 h2=>?_⟩
  exact k _ G1 (q1 ns' h1 h2) l' _ _ (g1.trans (.fresh n')) (r1.fresh n') (r1.free n') zo (Dens.ints ns')
 ·exact q1.elim
noncomputable def zQr(K:PySem.W.Frag):V→Option Int→Option Int→Hp→VK→Prop:=fun x lo hi H Q=>∃ a xs,x=.ref a∧SqT K H a xs∧(HT.wO xs.length 0 lo=0∧HT.wO xs.length xs.length hi=xs.length)∧Q (.ref a) H
theorem zM3:SlR X (zQr X.K):=by
 intro pins s σ H x v vl vu lo hi sl Q I rx hs pl pu h
 obtain⟨a,xs,rfl,hx,hw,q⟩:=h
 cases rx
 obtain⟨its,r,ht,hz⟩:=I.tuple hx
 have hlen:its.toArray.size=xs.length:=by rw[bO];exact r.length.symm
 refine⟨"tuple",_,PyProof.Rows.slot_tuple_getitem.lookup,ht.typeIs,?_⟩
 exact HT.zCI ht hs pl pu (by rw[hlen];exact hw) ⟨.ref a,H,I,rfl,q⟩
noncomputable abbrev TO2:=S2→Gp→(Option Int→Gp→Prop)→Prop
noncomputable def lO(K:PySem.W.Frag)(t:TO2):TO:=fun σ1 H Q=>∃ σ G R,Rel K σ G σ1 H∧t σ G R∧∀ o G',R o G'→∀ H',yF H H'→yX K G' H'→Q o H'
noncomputable def O2(X:Cx)(e:Option Expr)(t:TO2):Prop:=PO X e (lO X.K t)
noncomputable def yo:TO2:=fun u0 G R=>R none G
noncomputable def yO(t:ze):TO2:=fun σ G R=>t σ G fun d G1=>match d with | .int i=>R (some i) G1 | _=>False
theorem zDL:O2 X none yo:=by
 intro pins s σ1 H Q I h
 refine zMj pins s σ1 H Q I ?_
 obtain⟨σ,G,R,r,q,k⟩:=h
 exact k none G q H (.refl H) r.g
theorem zAS(h:E2 X e te):O2 X (some e) (yO te):=by
 intro pins s σ1 H Q I q
 refine zMk h pins s σ1 H Q I ?_
 obtain⟨σ,G,R,r,q,k⟩:=q
 refine⟨σ,G,_,r,q,fun d G1 q1 v H1 g1 r1 d1=>?_⟩
 cases d with
 | int i =>
  unfold zQ at d1
  exact⟨i,d1,k _ G1 q1 H1 g1 r1⟩
 | _=>exact q1.elim
noncomputable def cutD(xs:List D)(lo hi:Option Int):List D:=(xs.drop (HT.wO xs.length 0 lo)).take (HT.wO xs.length xs.length hi-HT.wO xs.length 0 lo)
noncomputable def wQ(t:ze)(tl th:TO2):ze:=fun σ G R=>t σ G fun d G1=>tl σ G1 fun lo G2=>th σ G2 fun hi G3=>match d with | .tup xs=>R (.tup (cutD xs lo hi)) G3 | _=>False
theorem zB6{lo hi:Option Expr}{tl th:TO2}{p2:Pos}(he:E2 X e te)(hl:O2 X lo tl)(hu:O2 X hi th):E2 X (.Subscript e (.Slice lo hi none p2) pos) (wQ te tl th):=by
 refine PE.mono (zGm (zOn.or zM3) he hl hu) ?_
 rintro σ1 H Q ⟨σ,G,R,r,q,k⟩
 refine⟨σ,G,_,r,q,fun d G1 q1 v H1 g1 r1 d1=>⟨σ,G1,_,r.to g1 r1,q1,fun o1 G2 q2 H2 g2 r2=>⟨σ,G2,_,r.to (g1.trans g2) r2,q2,fun o2 G3 q3 H3 g3 r3=>?_⟩⟩⟩
 cases d with
 | tup xs =>
  have d1':=(d1.grow g2).grow g3
  unfold zQ at d1'
  obtain⟨a,us,rfl,s1,t1⟩:=d1'
  have hl:=t1.length
  by_cases hw:HT.wO us.length 0 o1=0∧HT.wO us.length us.length o2=us.length
  ·refine .inr ⟨a,us,rfl,s1,hw,k _ G3 q3 _ H3 ((g1.trans g2).trans g3) r3 ?_⟩
   have e:cutD xs o1 o2=xs:=by
    unfold cutD
    rw[hl,hw.1,hw.2]
    simp[← hl]
   rw[e]
   unfold zQ
   exact⟨a,us,rfl,s1,t1⟩
  ·refine .inl ⟨a,us,rfl,s1,hw,fun p hp=>k _ G3 q3 _ _ (((g1.trans g2).trans g3).trans (.fresh hp)) (r3.fresh hp) ?_⟩
   unfold zQ
   refine⟨p,_,rfl,.of zo,?_⟩
   unfold cutD zGn
   rw[hl]
   exact((t1.drop).take).grow (.fresh hp)
 | _=>exact q3.elim
theorem zY.reverse:∀ {xs:List V} {us:List Value},zY xs us→zY xs.reverse us.reverse
 | _,_,.nil=>.nil
 | _,_,.cons r rr=>by
  rw[dE,dE]
  exact(zY.reverse rr).append (.cons r .nil)
end
section
variable {σ:S2} {G:Gp}
theorem yS{α:Type}{ds:List α}{i:Nat}{x:α}(h:ds[i]?=some x):ds.take (i+1)=ds.take i++[x]:=by
 rw[List.take_add_one,h];rfl
theorem zAt{wi:TI2}{bd:D→Option (List D)}{tc:TT2}{te:ze}{ds:List D}(p:D→Bool)(f:D→D)(us:D→List D)(hw:PuI wi σ G ds)
  (hx:∀ x∈ds,bd x=some (us x)∧PuT tc (σ++(us x).map some) G (p x)∧(p x=true→zi te (σ++(us x).map some) G (f x))):PuL (yE wi bd tc te) σ G ((ds.filter p).map f):=by
 intro G2 e R q
 refine hw G2 e _ fun gd G3 e3 hgd A nA=>?_
 refine⟨fun i acc G'=>G'=zN G3 A acc∧acc=((ds.take i).filter p).map f,⟨rfl,by simp⟩,?_,?_,?_⟩
 ·rintro i acc G' hi ⟨rfl,rfl⟩
  refine⟨hgd _ (.new nA),zF,?_⟩
  rw[bx]
  exact cC (cN _ _) (by rw[bW];omega)
 ·rintro i x acc G' hi ⟨rfl,rfl⟩
  obtain⟨hb,ht,he⟩:=hx x (cf hi)
  rw[hb]
  dsimp only
  have ex:Ext G (zN G3 A (((ds.take i).filter p).map f)):=(e.trans e3).trans (.new nA)
  refine ht _ ex _ ?_
  cases hp:p x with
  | false =>
   rw[if_neg (by simp)]
   exact .of ⟨rfl,by rw[yS hi];simp[hp]⟩
  | true =>
   rw[if_pos rfl]
   refine he hp _ ex _ ⟨zF,.of ⟨zDI,by rw[yS hi];simp[hp]⟩⟩
 ·rintro acc G' ⟨rfl,rfl⟩
  exact⟨G2,e3.own nA,e3.sub.trans (.new nA),by rw[cU];exact q⟩
theorem zLI{wi:TI2}{bd:D→Option (List D)}{te:ze}{ds:List D}(f:D→D)(us:D→List D)(hw:PuI wi σ G ds)
  (hx:∀ x∈ds,bd x=some (us x)∧zi te (σ++(us x).map some) G (f x)):PuL (yE wi bd zDJ te) σ G (ds.map f):=by
 have:=zAt (tc:=zDJ) (fun u0=>true) f us hw fun x h=>⟨(hx x h).1,zO9,fun u0=>(hx x h).2⟩
 rwa [List.filter_eq_self.mpr (fun u0 u0=>rfl)] at this
theorem zDM{t:wW}{j:Int}(h:PuA t σ G [.int j])(hj:-1000000≤j∧j≤1000000):PuI (iR1 t) σ G (zy 0 j.toNat):=fun G2 e R q=>h G2 e _ ⟨hj,q _ G2 (.refl _) fun u0 u0=>trivial⟩
theorem zJ0{t:wW}{i j:Int}(h:PuA t σ G [.int i,.int j])(hj:(-1000000≤i∧i≤1000000)∧-1000000≤j∧j≤1000000):PuI (iR2 t) σ G (zy i (j-i).toNat):=fun G2 e R q=>h G2 e _ ⟨hj,q _ G2 (.refl _) fun u0 u0=>trivial⟩
theorem zAI.nil:zAI [] []:=.refl _
theorem zAI.keep{o:Option D}{r r':S2}(h:zAI r r'):zAI (o::r) (o::r'):=⟨by simp[h.len],fun i d e=>by
 cases i with
 | zero=>simpa using e
 | succ i=>simpa using h.val i d (by simpa using e)⟩
theorem zAI.skip{o:Option D}{r r':S2}(h:zAI r r'):zAI (none::r) (o::r'):=⟨by simp[h.len],fun i d e=>by
 cases i with
 | zero=>simp at e
 | succ i=>simpa using h.val i d (by simpa using e)⟩
theorem zAI.trans{a b c:S2}(h:zAI a b)(h':zAI b c):zAI a c:=⟨h.len.trans h'.len,fun i d e=>h'.val i d (h.val i d e)⟩
theorem zI2{σ:S2}{G:Gp}:Fg (fun σ' G'=>σ'=σ∧G'=G)=fun σ' G'=>zAI σ σ'∧Sub G G':=by
 funext σ' G'
 apply propext
 constructor
 ·rintro⟨u0,u0,h1,h2,rfl,rfl⟩
  exact⟨h1,h2⟩
 ·rintro⟨h1,h2⟩
  exact⟨σ,G,h1,h2,rfl,rfl⟩
noncomputable def wV(wi:TI2)(g:TG2)(tb:wD):wD:=fun E σ G=>Fg (fun σ' G'=>zP3 wi g tb E σ' G') σ G
theorem zAC{X:Cx}{tg iter:Expr}{pos:Pos}{wi:TI2}{g:TG2}{tb:wD}{body:List Stmt}(hp:PassesOwn (model X.prog X.w) X.A X.env X.xe)(hc:X.calm=true)(hi:I2 X tg iter wi)(hg:G2 X tg g)(hb:Ps2 X body tb)
  (hs:∀ x,foldedSetIterable iter X.env x=pure x:=by intro u0;rfl):P2 X (.For tg iter body [] pos) (wV wi g tb):=by
 refine PS.mono (zP4 hp hc hi hg hb hs) ?_
 rintro E σ1 H ⟨σ,G,D2,r,⟨σ',G',s1,s2,q⟩,k⟩
 exact⟨σ',G',D2,r.sub s1 s2,q,k⟩
noncomputable def zGC(tc:TT2)(tb:wD):wD:=fun E σ G=>Fg (fun σ' G'=>zLF tc tb E σ' G') σ G
theorem zG3{X:Cx}{c:Expr}{pos:Pos}{tc:TT2}{tb:wD}{body:List Stmt}(hp:PassesOwn (model X.prog X.w) X.A X.env X.xe)(hc:T2 X c tc)(hb:Ps2 X body tb):P2 X (.While c body [] pos) (zGC tc tb):=by
 refine PS.mono (zM0 hp hc hb) ?_
 rintro E σ1 H ⟨σ,G,D2,r,⟨σ',G',s1,s2,q⟩,k⟩
 exact⟨σ',G',D2,r.sub s1 s2,q,k⟩
theorem zG4{wi:TI2}{g:TG2}{tb:wD}{E:yH}{ds:List D}(hw:PuI wi σ G ds)
  (hb:∀ x∈ds,∀ G1,Ext G G1→g x σ G1 fun σ2 G2=>tb { E with nx:=fun σ' G'=>zAI σ σ'∧Sub G1 G',ct:=fun σ' G'=>zAI σ σ'∧Sub G1 G',bk:=E.nx } σ2 G2) (h:∀ G1,Ext G G1→E.nx σ G1) {σ0:S2} (hf:zAI σ σ0:=by exact .refl _):wV wi g tb E σ0 G:=by
 refine⟨σ,G,hf,.refl G,?_⟩
 refine hw G (.refl G) _ fun gd G3 e3 hgd=>⟨fun i σ' G'=>σ'=σ∧G'=G3,⟨rfl,rfl⟩,?_,?_,?_⟩
 ·rintro i σ' G' u0 ⟨rfl,rfl⟩
  exact hgd _ (.refl _)
 ·rintro i x σ' G' hi ⟨rfl,rfl⟩
  rw[zI2]
  exact hb x (cf hi) _ e3
 ·rintro σ' G' ⟨rfl,rfl⟩
  exact h _ e3
end
noncomputable def zLJ(ds:List D)(gd:Gp→Prop)(G1:Gp)(g:TG2)(tb:wD)(E:yH)(σ:S2):Prop:=∃ Pv:Nat→S2→Gp→Prop,Pv 0 σ G1∧(∀ i σ G,i≤ds.length→Pv i σ G→gd G) ∧
 (∀ i x σ G,ds[i]?=some x→Pv i σ G→g x σ G fun σ2 G2=>tb { E with nx:=Fg (Pv (i+1)),ct:=Fg (Pv (i+1)),bk:=E.nx } σ2 G2)∧∀ σ G,Pv ds.length σ G→E.nx σ G
theorem zPB{σ:S2}{I:Gp→Prop}:Fg (fun σ' G'=>σ'=σ∧I G')=fun σ' G'=>zAI σ σ'∧∃ G'',Sub G'' G'∧I G'':=by
 funext σ' G'
 apply propext
 constructor
 ·rintro⟨u0,G'',h1,h2,rfl,h3⟩
  exact⟨h1,G'',h2,h3⟩
 ·rintro⟨h1,G'',h2,h3⟩
  exact⟨σ,G'',h1,h2,rfl,h3⟩
theorem zBL{ds:List D}{gd:Gp→Prop}{G1:Gp}{g:TG2}{tb:wD}{E:yH}{σ:S2}(I:Nat→Gp→Prop)(h0:I 0 G1)(hg:∀ i G',I i G'→gd G')
  (hb:∀ i x,ds[i]?=some x→∀ G2,I i G2→g x σ G2 fun σ2 G3=>tb { E with nx:=fun σ' G'=>zAI σ σ'∧∃ G'',Sub G'' G'∧I (i+1) G'',ct:=fun σ' G'=>zAI σ σ'∧∃ G'',Sub G'' G'∧I (i+1) G'',bk:=E.nx } σ2 G3)
  (h:∀ G2,I ds.length G2→E.nx σ G2):zLJ ds gd G1 g tb E σ:=by
 refine⟨fun i σ' G'=>σ'=σ∧I i G',⟨rfl,h0⟩,?_,?_,?_⟩
 ·rintro i σ' G' u0 ⟨u0,h⟩
  exact hg i G' h
 ·rintro i x σ' G' hi ⟨rfl,hI⟩
  rw[zPB]
  exact hb i x hi G' hI
 ·rintro σ' G' ⟨rfl,hI⟩
  exact h G' hI
noncomputable def zN2(ds:List D)(gd:Gp→Prop)(G1:Gp)(A:Addr)(bd:D→Option (List D))(tc:TT2)(te:ze)(σ:S2)(R:List D→Gp→Prop):Prop:=∃ Pv:Nat→List D→Gp→Prop,Pv 0 [] (zN G1 A [])∧(∀ i acc G,i≤ds.length→Pv i acc G→gd G∧G.m A=some acc∧acc.length≤i) ∧
 (∀ i x acc G,ds[i]?=some x→Pv i acc G→match bd x with
  | some us=>tc (σ++us.map some) G fun b G3=>if b=true then te (σ++us.map some) G3 fun d G4=>G4.m A=some acc∧FgG (Pv (i+1) (acc++[d])) (zN G4 A (acc++[d])) else FgG (Pv (i+1) acc) G3
  | none=>False)∧∀ acc G,Pv ds.length acc G→∃ G',G'.m A=none∧Sub G' G∧R acc G'
theorem zI3{wi:TI2}{bd:D→Option (List D)}{tc:TT2}{te:ze}{σ:S2}{G:Gp}{R:List D→Gp→Prop}(h:wi σ G fun ds gd G1=>∀ A,G1.m A=none→zN2 ds gd G1 A bd tc te σ R):yE wi bd tc te σ G R:=h
theorem zG5{ds:List D}{gd:Gp→Prop}{G1:Gp}{bd:D→Option (List D)}{tc:TT2}{te:ze}{σ:S2}{R:List D→Gp→Prop}{A:Addr}(I:Nat→List D→Gp→Prop)(h0:I 0 [] (zN G1 A []))(hg:∀ i acc G',I i acc G'→gd G'∧G'.m A=some acc∧acc.length≤i)
  (hb:∀ i x acc G',ds[i]?=some x→I i acc G'→∃ us,bd x=some us∧tc (σ++us.map some) G' fun b G3=>if b=true then te (σ++us.map some) G3 fun d G4=>G4.m A=some acc∧FgG (I (i+1) (acc++[d])) (zN G4 A (acc++[d])) else FgG (I (i+1) acc) G3)
  (h:∀ acc G',I ds.length acc G'→∃ G'',G''.m A=none∧Sub G'' G'∧R acc G''):zN2 ds gd G1 A bd tc te σ R:=by
 refine⟨I,h0,fun i acc G' u0 q=>hg i acc G' q,fun i x acc G' hi q=>?_,h⟩
 obtain⟨us,e,q⟩:=hb i x acc G' hi q
 rw[e]
 exact q
noncomputable def zFd:Sp2:=fun ds G R=>∃(a:Addr) (ns:List Int),ds=[.adr a]∧G.ro a=some (ns.map D.int)∧ns.length≤63∧(∀ l,G.m l=none)∧R (.bl true) G
theorem zPC{K:PySem.W.Frag}{H:Hp}{a:Addr}{ns:List Int}(hl:ns.length≤63)(hO:zMq H)(hS:SqL K H a (ns.map V.int)):lSp K zFd [.ref a] H (fun v u0=>v=.bl true) fun u0 u0 u0=>False:=by
 refine⟨[.adr a],⟨fun u0=>none,fun b=>if b=a then some (ns.map D.int) else none⟩,fun d u0=>d=.bl true,.cons (by unfold zQ;rfl) .nil,⟨fun b ds e=>(by cases e),fun b ds e=>?_⟩,⟨a,ns,rfl,by simp,hl,fun u0=>rfl,rfl⟩,fun d G' q v H' g r dv=>?_⟩
 ·by_cases hb:b=a
  ·subst hb
   simp at e
   subst e
   refine⟨_,?_,Dens.ints ns⟩
   rcases hS with h | h
   ·rcases hO b with h' | ⟨o,xs,h'⟩ | ⟨ps,h'⟩
    ·rcases h with h | ⟨o,h⟩<;>(rw[h'] at h;cases h)
    ·rcases h with h | ⟨o',h⟩
     ·rw[h'] at h;cases h
     ·exact .inl ⟨o',h⟩
    ·rcases h with h | ⟨o',h⟩<;>(rw[h'] at h;cases h)
   ·exact .inr h
  ·simp[hb] at e
 ·subst q
  unfold zQ at dv
  exact dv
theorem zLK{l:PySem.W.OpenLaw}{k:Nat}{q:Program}{loose:List Str}{XP:(Str→Option Value)→Heap→Prop}{YP:World→Heap→Prop}{d:DefRec}{K:Params→PySem.W.Frag}(hn:l.most=some 63)(hdf:d.params.defaults=[])(hr:wt k callerA)
  (hY:∀(w:World) (h:Heap),YP w h→(K w.params).In h∧∃ ts qn,TabsAt (K w.params) h ts qn)
  (F:∀(w:World) (mg:Str→Option Value) (fa:Addr) (h:Heap),(K w.params).In h→h.Ns mainGlobals mg→mg d.name=some (.ref fa) →
   ∃ fd:FuncData,(∀(s:Shared) (u:Value),BindsTo s fd ⟨[u],[]⟩ [("script",u)])∧∀ base:Heap,(K w.params).In base→base.Ns mainGlobals mg→zBe l.prog w (K w.params) mg base CX0 k fa fd ["script"] (lSp (K w.params) zFd)) :
  PySem.W.WalkO q loose XP YP l.row.toRowW d [] (fun f vs=>PySem.call f vs) :=
 L2.zMr (n:=63) (k:=k) (x:="script") (CX:=fun u0=>CX0) (sp:=fun w=>lSp (K w.params) zFd) hn (by decide) hdf hr hY F (fun u0 H a ns hl hO hS=>zPC hl hO hS) fun u0 u0 u0 u0 u0 z=>z
noncomputable def OkS(s:Int)(b:Bool):Prop:=b=false→0≤s∧s<2147483647
noncomputable def zAX(G:Gp)(l:Addr):Prop:=∃ s b,G.m l=some [.int s,.bl b]∧OkS s b
noncomputable def Dr(l:Addr)(G G':Gp):Prop:=∃ s b,G'=zN G l [.int s,.bl b]∧OkS s b
theorem Dr.st{l:Addr}{G G':Gp}(h:Dr l G G'):zAX G' l:=by
 obtain⟨s,b,rfl,h⟩:=h
 exact⟨s,b,zF,h⟩
theorem Dr.trans{l:Addr}{G G1 G2:Gp}(h:Dr l G G1)(h':Dr l G1 G2):Dr l G G2:=by
 obtain⟨s,b,rfl,h⟩:=h
 obtain⟨s',b',rfl,h'⟩:=h'
 exact⟨s',b',zDI,h'⟩
theorem zM4{G:Gp}{l:Addr}{o:List D}(h:G.m l=some o):zN G l o=G:=by
 cases G with
 | mk m ro =>
  unfold zN
  congr 1
  funext b
  by_cases hb:b=l
  ·subst hb;rw[if_pos rfl];exact h.symm
  ·rw[if_neg hb]
theorem Dr.refl{l:Addr}{G:Gp}(h:zAX G l):Dr l G G:=by
 obtain⟨s,b,h1,h2⟩:=h
 exact⟨s,b,(zM4 h1).symm,h2⟩
theorem Dr.ro{l:Addr}{G G':Gp}(h:Dr l G G'):G'.ro=G.ro:=by
 obtain⟨s,b,rfl,h⟩:=h;rfl
theorem Dr.ne{l a:Addr}{G G':Gp}(h:Dr l G G')(ha:a≠l):G'.m a=G.m a:=by
 obtain⟨s,b,rfl,h⟩:=h;exact zO ha
theorem Dr.none{l a:Addr}{G G':Gp}(h:Dr l G G')(s:zAX G l)(ha:G.m a=none):G'.m a=none:=by
 obtain⟨u0,u0,h1,u0⟩:=s
 rw[h.ne (fun e=>by subst e;rw[h1] at ha;cases ha)];exact ha
theorem zAX.ne{l a:Addr}{G:Gp}(s:zAX G l)(ha:G.m a=none):a≠l:=fun e=>by
 obtain⟨u0,u0,h1,u0⟩:=s
 subst e;rw[h1] at ha;cases ha
theorem zAX.ext{l:Addr}{G G':Gp}(s:zAX G l)(h:Sub G G'):zAX G' l:=by
 obtain⟨x,b,h1,h2⟩:=s
 exact⟨x,b,h.m l _ h1,h2⟩
theorem Dr.sub{l:Addr}{G G1 G2:Gp}(h:Dr l G1 G2)(e:Sub G G1):∃ G',Dr l G G'∧Sub G' G2:=by
 obtain⟨s,b,rfl,h⟩:=h
 refine⟨zN G l [.int s,.bl b],⟨s,b,rfl,h⟩,⟨fun a o q=>?_,fun a o q=>e.ro a o q⟩⟩
 by_cases ha:a=l
 ·subst ha;rw[zF] at q ⊢;exact q
 ·rw[zO ha] at q ⊢;exact e.m a o q
theorem zCt{α:Type}(x:α)(r:List α):atI (x::r) 0=some x:=wB (j:=0) rfl
theorem zG6{α:Type}(x y:α)(r:List α):atI (x::y::r) 1=some y:=wB (j:=1) rfl
theorem zLL{α:Type}(x y z:α)(r:List α):atI (x::y::z::r) 2=some z:=wB (j:=2) rfl
theorem zDf{x:D}{r:List D}{G:Gp}{R:Q2}:yh (.tup (x::r)) (.int 0) G R=R x G:=by simp only[yh,zCt]
theorem zDg{x y:D}{r:List D}{G:Gp}{R:Q2}:yh (.tup (x::y::r)) (.int 1) G R=R y G:=by simp only[yh,zG6]
theorem zEQ{x y z:D}{r:List D}{G:Gp}{R:Q2}:yh (.tup (x::y::z::r)) (.int 2) G R=R z G:=by simp only[yh,zLL]
theorem zBM{x:D}{ng:Bool}{ds:List D}{G:Gp}{R:Q2}:fIn ng x (.tup ds) G R=(flat 8 x=true∧(∀ d∈ds,flat 8 d=true)∧R (.bl (if ng then !ds.any fun z=>eqD z x else ds.any fun z=>eqD z x)) G):=rfl
theorem zH7:(0≤sizeLine)=True:=by rw[sizeLine_eq];simp
theorem zH8:(1≤sizeLine)=True:=by rw[sizeLine_eq];simp
theorem zH9:(2≤sizeLine)=True:=by rw[sizeLine_eq];simp
theorem zIA:(3≤sizeLine)=True:=by rw[sizeLine_eq];simp
theorem zAD(p:Prop):(True∧p)=p:=by simp
theorem zBN{p q:Prop}:(if true=true then p else q)=p:=if_pos rfl
theorem zBO{p q:Prop}:(if false=true then p else q)=q:=if_neg (by simp)
section
variable {X:Cx} {pins:List (Addr×Obj)} {σ1:L2.St} {H:Hp} {s:Shared} {A:Around}
end
section
variable {X:Cx} {e o:Expr} {es:List Expr} {to:ze} {t:wW} {name:Str} {apos cpos:Pos}
end
end L3
namespace HT
section
variable {prog:Program} {w:World} {A:Around} {R:Result→Shared→Prop} {I:Addr} {fp wr:List Addr} {n:Nat} {P:Nat→Value→Prop} {St:Nat→Heap→Prop}
end
section
variable {prog:Program} {w:World} {A:Around} {E:Value→Shared→Prop} {s:Shared}
noncomputable def zBP(h:Heap)(as:List Addr)(nss:List (List Int)):Prop:=as.length=nss.length∧∀(i:Nat) a ns,as[i]?=some a→nss[i]?=some ns→∃ its:List Value,IsTup h a its.toArray∧IntsAre its ns
theorem IsTup.at'{h h':Heap}{a:Addr}{its:Array Value}(x:IsTup h a its)(k:∀ o,h.get? a=some o→h'.get? a=some o):IsTup h' a its:=let ⟨o,h1,h2,h3⟩:=x;⟨o,k o h1,h2,h3⟩
theorem zBP.keep{h h':Heap}{as:List Addr}{nss:List (List Int)}(x:zBP h as nss)(k:∀ a∈as,∀ o,h.get? a=some o→h'.get? a=some o):zBP h' as nss :=
 ⟨x.1,fun i a ns h1 h2=>by obtain⟨its,t,q⟩:=x.2 i a ns h1 h2;exact⟨its,IsTup.at' t (k a (cf h1)),q⟩⟩
theorem zBP.lt{h:Heap}{as:List Addr}{nss:List (List Int)}(x:zBP h as nss):∀ a∈as,a<h.objs.size:=fun a ha=>by
 obtain⟨i,hi⟩:=List.getElem?_of_mem ha
 have hl:i<as.length:=(bN.mp hi).1
 obtain⟨its,⟨o,e,u0⟩,u0⟩:=x.2 i a (nss[i]'(by rw[← x.1];exact hl)) hi (by simp)
 exact bP e
end
end HT
namespace L3
open L2
section
variable {X:Cx} {a b c d e o:Expr} {es:List Expr} {pos p:Pos} {ta tb tc td te:ze} {tl:TL2}
theorem zM5{x:Str}{n:Int}{t:Tok}(hg:Gl X x)(hm:X.mg x=some (.int n t))(hd:(x==("__debug__":Str))=false:=by decide):E2 X (.Name x pos) (xC (.int n)):=by
 refine PE.mono (zMV (v:=.int n) hg hm ⟨t,rfl⟩ hd) ?_
 rintro σ1 H Q ⟨σ,G,R,r,q,k⟩
 exact k _ G q _ H (.refl H) r.g (by unfold zQ;rfl)
section
variable {op op' op'':CmpOp} {r r' r'':R2} {f g h:D→D→Gp→Q2→Prop}
end
end
end L3
namespace K
open L2 L3
noncomputable abbrev nD(n:Nat):D:=.int (n:Int)
noncomputable def prs(n:Nat):List (Nat×Nat):=(bE n).flatMap fun i=>(bE (n-(i+1))).map fun k=>(i,i+1+k)
noncomputable def prD(p:Nat×Nat):D:=.tup [nD p.1,nD p.2]
noncomputable def zS(n:Nat)(q:Nat×Nat→Bool):D:=.tup [nD n,.tup (((prs n).filter q).map prD)]
noncomputable def wz(q:Nat×Nat→Bool)(i j:Nat):Bool:=decide (i≠j)&&q (min i j,max i j)
theorem zB7{n:Nat}{p:Nat×Nat}:p∈prs n↔p.1<p.2∧p.2<n:=by
 obtain⟨i,j⟩:=p
 unfold prs
 simp only[List.mem_flatMap,bQ,cb,Prod.mk.injEq]
 constructor
 ·rintro⟨a,ha,k,hk,rfl,rfl⟩;omega
 ·rintro⟨h1,h2⟩;exact⟨i,by omega,j-(i+1),by omega,rfl,by omega⟩
theorem zCN{α β:Type}{f:α→List β}:∀ {l:List α},l.Nodup→(∀ x∈l,(f x).Nodup)→(∀ x∈l,∀ y∈l,x≠y→∀ z,z∈f x→z∉f y)→(l.flatMap f).Nodup
 | [],_,_,_=>by simp
 | a::r,h,h1,h2=>by
  rw[List.flatMap_cons]
  obtain⟨ha,hr⟩:=cR.mp h
  refine dm.mpr ⟨h1 a (by simp),zCN hr (fun x hx=>h1 x (by simp[hx])) (fun x hx y hy=>h2 x (by simp[hx]) y (by simp[hy])),fun x hx y hy e=>?_⟩
  subst e
  obtain⟨b,hb,hz⟩:=List.mem_flatMap.mp hy
  exact h2 a (by simp) b (by simp[hb]) (fun e=>ha (e▸hb)) x hx hz
theorem zCO{α β:Type}{f:α→β}(hf:∀ x y,f x=f y→x=y):∀ {l:List α},l.Nodup→(l.map f).Nodup
 | [],_=>by simp
 | a::r,h=>by
  obtain⟨ha,hr⟩:=cR.mp h
  rw[cD]
  refine cR.mpr ⟨fun hm=>?_,zCO hf hr⟩
  obtain⟨b,hb,e⟩:=bQ.mp hm
  exact ha (hf _ _ e▸hb)
theorem zFe(n:Nat):(prs n).Nodup:=by
 unfold prs
 refine zCN eI (fun i u0=>zCO (fun x y e=>by simpa using e) eI) fun i u0 j u0 hne z hz hz'=>?_
 obtain⟨k,u0,rfl⟩:=bQ.mp hz
 obtain⟨k',u0,e⟩:=bQ.mp hz'
 exact hne (by simpa using(congrArg Prod.fst e).symm)
theorem zER{n:Nat}(h:n≤100):(prs n).length≤10000:=by
 unfold prs
 rw[List.length_flatMap]
 have:∀ l:List Nat,(∀ x∈l,x≤100)→l.sum≤100*l.length:=by
  intro l
  induction l with
  | nil=>simp
  | cons a r ih =>
   intro h
   have h1:=h a (by simp)
   have h2:=ih fun x hx=>h x (by simp[hx])
   simp only[ez,bu];omega
 have q:=this ((bE n).map fun i=>((bE (n-(i+1))).map fun k=>(i,i+1+k)).length) (by simp;omega)
 simp only[bx,bT] at q ⊢
 omega
theorem zG7{n:Nat}(p:Nat×Nat):flat (n+1) (prD p)=true:=by simp[prD,flat]
theorem zB8{i j:Int}:eqD (.int i) (.int j)=decide (i=j):=by show(i==j)=decide (i=j);rw[bS];simp
theorem zM6(p q:Nat×Nat):eqD (prD p) (prD q)=decide (p=q):=by
 obtain⟨a,b⟩:=p
 obtain⟨c,d⟩:=q
 show(((a:Int)==(c:Int))&&(((b:Int)==(d:Int))&&true))=decide ((a,b)=(c,d))
 rw[bS];simp;omega
theorem zM7(l:List (Nat×Nat))(p:Nat×Nat):((l.map prD).any fun z=>eqD z (prD p))=decide (p∈l):=by
 rw[List.any_map,bS]
 simp only[List.any_eq_true,Function.comp,zM6,decide_eq_true_eq]
 constructor
 ·rintro⟨x,h,rfl⟩;exact h
 ·intro h;exact⟨p,h,rfl⟩
theorem zDu{a b:Nat}:((a:Int)=(b:Int))↔a=b:=by omega
theorem zBj{n:Nat}{q:Nat×Nat→Bool}{G:Gp}{R:Q2}:yh (zS n q) (.int 0) G R=R (nD n) G:=zDf
theorem zBk{n:Nat}{q:Nat×Nat→Bool}{G:Gp}{R:Q2}:yh (zS n q) (.int 1) G R=R (.tup (((prs n).filter q).map prD)) G:=zDg
noncomputable def zES:List D→Gp→(List D→Gp→Prop)→Prop:=fun ds G R=>∃ n:Nat,ds=[nD n]∧n≤100∧R ((prs n).map prD) G
theorem zIB:∀ ds G R R',(∀ ls G',R ls G'→R' ls G')→zES ds G R→zES ds G R':=by
 rintro ds G R R' h ⟨n,e,hn,q⟩
 exact⟨n,e,hn,h _ _ q⟩
noncomputable def yp:=zES
theorem zCu:∀ ds G R R',(∀ ls G',R ls G'→R' ls G')→yp ds G R→yp ds G R':=zIB
noncomputable def zB9:Sp2:=fun ds G R=>∃(n:Nat) (q:Nat×Nat→Bool) (i j:Nat),ds=[zS n q,nD i,nD j]∧i<n∧j<n∧R (.bl (wz q i j)) G
noncomputable def zGD:wD:=(zw (zP (fIn false) (yK (zA (zL zAs (zA (zB 1) (zA (zB 2) zG))) (zA (zL zBA (zA (zB 1) (zA (zB 2) zG))) zG))) (zP yh (zB 0) (xC (.int 1)))))
theorem zM8{n:Nat}{q:Nat×Nat→Bool}{i j:Nat}(hi:i<n)(hj:j<n):decide ((min i j,max i j)∈(prs n).filter q)=wz q i j:=by
 rw[bS,decide_eq_true_eq,bV,zB7]
 unfold wz
 simp only[dk,decide_eq_true_eq]
 constructor
 ·rintro⟨h1,h2⟩;exact⟨by omega,h2⟩
 ·rintro⟨h1,h2⟩;exact⟨by omega,h2⟩
theorem zLM{n:Nat}{q:Nat×Nat→Bool}:∀ d∈((prs n).filter q).map prD,flat 8 d=true:=by
 intro x hx
 obtain⟨p,u0,rfl⟩:=bQ.mp hx
 exact zG7 p
theorem zPD(ds:List D)(G:Gp)(R:Q2)(h:zB9 ds G R):ds.length=3∧zGD (zj R) (zV ["web","one","other"] ds) G:=by
 obtain⟨n,q,i,j,rfl,hi,hj,h⟩:=h
 refine⟨rfl,?_⟩
 have e1:(if (j:Int)<(i:Int) then (j:Int) else i)=((min i j:Nat):Int):=by split<;>omega
 have e2:(if (j:Int)>(i:Int) then (j:Int) else i)=((max i j:Nat):Int):=by split<;>omega
 unfold zGD
 ((try dsimp only [zw,zX,zn,xIf,wF,zr,gN,gNN,zP,yK,yw,za,zA,zG,zL,zq,yG,wG,zB,look,zV,zAs,zBA,zBM,zDf,zDg,zEQ,zBj,zBk,fII,yd,yN,fEq,xC,xB,zCr,zCq,zAn,zH5,bK,bA,bB,bn,bo,bu,bw,br,bv,Nat.reduceSub,Nat.reduceAdd,zH7,zH8,zH9,zIA,zAD,zBN,zBO,if_true,if_false,bp]) <;> (try simp only [zw,zX,zn,xIf,wF,zr,gN,gNN,zP,yK,yw,za,zA,zG,zL,zq,yG,wG,zB,look,zV,zAs,zBA,zBM,zDf,zDg,zEQ,zBj,zBk,fII,yd,yN,fEq,xC,xB,zCr,zCq,zAn,zH5,bK,bA,bB,bn,bo,bu,bw,br,bv,Nat.reduceSub,Nat.reduceAdd,zH7,zH8,zH9,zIA,zAD,zBN,zBO,if_true,if_false,bp]))
 rw[e1,e2]
 have e3:=zM7 ((prs n).filter q) (min i j,max i j)
 rw[zM8 hi hj] at e3
 refine⟨zG7 (min i j,max i j),zLM,?_⟩
 rw[← e3] at h
 exact .of h
theorem zAu(n:Nat):zy 0 ((n:Int)).toNat=(bE n).map nD:=by simp[zy,nD]
noncomputable def zBl(d:D):Nat×Nat:=match d with | .tup [.int i,.int j]=>(i.toNat,j.toNat) | _=>(0,0)
theorem zFf(p:Nat×Nat):zBl (prD p)=p:=rfl
theorem zDh{σ:S2}{G:Gp}{n:Nat}{q:Nat×Nat→Bool}{t:ze}(h:zi t σ G (zS n q)):zi (zP yh t (xC (.int 0))) σ G (nD n):=yi h yD fun u0 u0 u0 q=>by rw[zBj];exact q
theorem zQA{σ:S2}{G:Gp}{n:Nat}{q:Nat×Nat→Bool}{t:ze}(h:zi t σ G (zS n q)):zi (zP yh t (xC (.int 1))) σ G (.tup (((prs n).filter q).map prD)):=yi h yD fun u0 u0 u0 q=>by rw[zBk];exact q
theorem zAT{l:Addr}{x:D}{ds:List D}{k:Int}{G:Gp}{R:Q2}(h:G.m l=some ds)(e:atI ds k=some x)(q:R x G):yh (.adr l) (.int k) G R:=⟨ds,x,.inl h,e,q⟩
theorem zN3{i:Nat}{l:Addr}{x d:D}{r:List D}{σ:S2}{G:Gp}{R:S2→Gp→Prop}(ho:look σ i=some (.adr l))(h:G.m l=some (x::r))(q:R σ (zN G l (d::r))):gIx (zB i) (xC (.int 0)) d σ G R:=by
 unfold gIx zB
 rw[ho]
 show match G.m l with | some ds=>_ | none=>_
 rw[h]
 have e:ixN (x::r).length 0=some 0:=by simp[ixN]
 show match ixN (x::r).length 0 with | some j=>R σ (zN G l ((x::r).set j d)) | none=>False
 rw[e]
 exact q
noncomputable def wu:Sp2:=fun ds G R=>∃(a:Addr) (ns:List Int) (k:Nat),ds=[.adr a,nD k]∧Ls G a (ns.map D.int)∧∀ c:Int,R (.int c) G
noncomputable def zAv:wD:=(zX (xIf (xB (zP (fII fun i j=>.bl (decide (i<j))) (zB 1) (zL zk (zA (zB 0) zG)))) (zw (zP yh (zB 0) (zB 1))) zr) (zw (xC (.int 0))))
theorem zG8(ds:List D)(G:Gp)(R:Q2)(h:wu ds G R):ds.length=2∧zAv (zj R) (zV ["script","k"] ds) G:=by
 obtain⟨a,ns,k,rfl,ha,h⟩:=h
 refine⟨rfl,?_⟩
 unfold zAv
 ((try dsimp only [zw,zX,zn,xIf,wF,zr,gN,gNN,zP,yK,yw,za,zA,zG,zL,zq,yG,wG,zB,look,zV,zAs,zBA,zBM,zDf,zDg,zEQ,zBj,zBk,fII,yd,yN,fEq,xC,xB,zCr,zCq,zAn,zH5,bK,bA,bB,bn,bo,bu,bw,br,bv,Nat.reduceSub,Nat.reduceAdd,zH7,zH8,zH9,zIA,zAD,zBN,zBO,if_true,if_false,bp]) <;> (try simp only [zw,zX,zn,xIf,wF,zr,gN,gNN,zP,yK,yw,za,zA,zG,zL,zq,yG,wG,zB,look,zV,zAs,zBA,zBM,zDf,zDg,zEQ,zBj,zBk,fII,yd,yN,fEq,xC,xB,zCr,zCq,zAn,zH5,bK,bA,bB,bn,bo,bu,bw,br,bv,Nat.reduceSub,Nat.reduceAdd,zH7,zH8,zH9,zIA,zAD,zBN,zBO,if_true,if_false,bp]))
 refine⟨ns.map D.int,ha,?_⟩
 dsimp only
 by_cases hk:k<ns.length
 ·rw[decide_eq_true (by rw[bx];omega),if_pos rfl]
  exact⟨_,.int ns[k],ha,wB (by simp[hk]),FgR.of (h _)⟩
 ·rw[decide_eq_false (by rw[bx];omega),if_neg (by simp)]
  exact FgR.of (h 0)
noncomputable def yq:List D→Gp→(List D→Gp→Prop)→Prop:=fun ds G R=>∃(a:Addr) (ns:List Int) (k:Nat),ds=[.adr a,nD k]∧Ls G a (ns.map D.int)∧∀ s b,OkS s b→R [.int s,.bl b] G
theorem zGE:∀ ds G R R',(∀ ls G',R ls G'→R' ls G')→yq ds G R→yq ds G R':=by
 rintro ds G R R' h ⟨a,ns,k,e,ha,q⟩
 exact⟨a,ns,k,e,ha,fun s b o=>h _ _ (q s b o)⟩
noncomputable def zCA:wD:=(zX (zn (zL wu (zA (zB 0) (zA (zB 1) zG))) (gN 2)) (zX (xIf (xB (zP (fII fun i j=>.bl (decide (j≤i))) (zB 2) (zP (yd zDq fun i j=>.int (i ^ j.toNat)) (xC (.int 10)) (xC (.int 18))))) (zw (za (yw (zA (zP (fII fun i j=>.int (i-j)) (zB 2) (zP (yd zDq fun i j=>.int (i ^ j.toNat)) (xC (.int 10)) (xC (.int 18)))) (zA (xC (.bl true)) zG))))) zr) (zw (za (yw (zA (zP (yd (fun u0 j=>0<j) fun i j=>.int (i%j)) (zB 2) (xC (.int 2147483647))) (zA (xC (.bl false)) zG)))))))
theorem zLN:zDq 10 18:=by unfold zDq;decide
theorem zJ1(ds:List D)(G:Gp)(R:Q2)(h:spL yq ds G R):ds.length=2∧zCA (zj R) (zV ["script","k","cell"] ds) G:=by
 obtain⟨a,ns,k,rfl,ha,h⟩:=h
 refine⟨rfl,?_⟩
 unfold zCA
 ((try dsimp only [zw,zX,zn,xIf,wF,zr,gN,gNN,zP,yK,yw,za,zA,zG,zL,zq,yG,wG,zB,look,zV,zAs,zBA,zBM,zDf,zDg,zEQ,zBj,zBk,fII,yd,yN,fEq,xC,xB,zCr,zCq,zAn,zH5,bK,bA,bB,bn,bo,bu,bw,br,bv,Nat.reduceSub,Nat.reduceAdd,zH7,zH8,zH9,zIA,zAD,zBN,zBO,if_true,if_false,bp]) <;> (try simp only [zw,zX,zn,xIf,wF,zr,gN,gNN,zP,yK,yw,za,zA,zG,zL,zq,yG,wG,zB,look,zV,zAs,zBA,zBM,zDf,zDg,zEQ,zBj,zBk,fII,yd,yN,fEq,xC,xB,zCr,zCq,zAn,zH5,bK,bA,bB,bn,bo,bu,bw,br,bv,Nat.reduceSub,Nat.reduceAdd,zH7,zH8,zH9,zIA,zAD,zBN,zBO,if_true,if_false,bp]))
 refine⟨a,ns,k,rfl,ha,fun c=>?_⟩
 ((try dsimp only [zw,zX,zn,xIf,wF,zr,gN,gNN,zP,yK,yw,za,zA,zG,zL,zq,yG,wG,zB,look,zV,zAs,zBA,zBM,zDf,zDg,zEQ,zBj,zBk,fII,yd,yN,fEq,xC,xB,zCr,zCq,zAn,zH5,bK,bA,bB,bn,bo,bu,bw,br,bv,Nat.reduceSub,Nat.reduceAdd,zH7,zH8,zH9,zIA,zAD,zBN,zBO,if_true,if_false,bp]) <;> (try simp only [zw,zX,zn,xIf,wF,zr,gN,gNN,zP,yK,yw,za,zA,zG,zL,zq,yG,wG,zB,look,zV,zAs,zBA,zBM,zDf,zDg,zEQ,zBj,zBk,fII,yd,yN,fEq,xC,xB,zCr,zCq,zAn,zH5,bK,bA,bB,bn,bo,bu,bw,br,bv,Nat.reduceSub,Nat.reduceAdd,zH7,zH8,zH9,zIA,zAD,zBN,zBO,if_true,if_false,bp]))
 refine⟨zLN,?_⟩
 split
 ·refine⟨zLN,fun l hl=>?_⟩
  exact FgR.of (h _ true (fun z=>by cases z) l hl)
 ·refine⟨by decide,fun l hl=>?_⟩
  exact FgR.of (h _ false (fun u0=>⟨Int.emod_nonneg _ (by decide),Int.emod_lt_of_pos _ (by decide)⟩) l hl)
noncomputable def zc:Sp2:=fun ds G R=>∃(l:Addr) (m:Nat),ds=[.adr l,nD m]∧zAX G l∧0<m∧m<1000000∧∀(r:Nat) G',r<m→Dr l G G'→R (nD r) G'
noncomputable def zCv:wD:=(zX (xIf (xB (zP yh (zB 0) (xC (.int 1)))) (zX (zn (zP (yd (fun u0 j=>0<j) fun i j=>.int (i%j)) (zP yh (zB 0) (xC (.int 0))) (zB 1)) (gN 2)) (zX (zn (zP (yd zGj fun i j=>.int (i / j)) (zP yh (zB 0) (xC (.int 0))) (zB 1)) (gIx (zB 0) (xC (.int 0)))) (zw (zB 2)))) zr) (zX (zn (zP (yd (fun u0 j=>0<j) fun i j=>.int (i%j)) (zP yN (zP (yd zCV fun i j=>.int (i*j)) (zP yh (zB 0) (xC (.int 0))) (xC (.int 48271))) (xC (.int 29))) (xC (.int 2147483647))) (gIx (zB 0) (xC (.int 0)))) (zX (zn (zP (yd (fun u0 j=>0<j) fun i j=>.int (i%j)) (zP yN (zP yN (zP (yd zCV fun i j=>.int (i*j)) (zP yh (zB 0) (xC (.int 0))) (zP yh (zB 0) (xC (.int 0)))) (zP (yd zCV fun i j=>.int (i*j)) (xC (.int 39373)) (zP yh (zB 0) (xC (.int 0))))) (xC (.int 7))) (xC (.int 2147483629))) (gN 3)) (zX (zn (zP (yd (fun u0 j=>0<j) fun i j=>.int (i%j)) (zP yN (zP (yd zCV fun i j=>.int (i*j)) (zB 3) (zB 3)) (zP (yd zCV fun i j=>.int (i*j)) (xC (.int 16807)) (zB 3))) (xC (.int 2147483587))) (gN 3)) (zw (zP (yd (fun u0 j=>0<j) fun i j=>.int (i%j)) (zP (yd zGj fun i j=>.int (i / j)) (zB 3) (xC (.int 8))) (zB 1)))))))
theorem zET{x:Int}{m:Nat}(h:0<m):∃ r:Nat,r<m∧x%(m:Int)=r:=⟨(x%(m:Int)).toNat,by
 have h1:=Int.emod_nonneg x (b:=(m:Int)) (by omega)
 have h2:=Int.emod_lt_of_pos x (b:=(m:Int)) (by omega)
 omega,by
 have h1:=Int.emod_nonneg x (b:=(m:Int)) (by omega)
 omega⟩
theorem zLO(ds:List D)(G:Gp)(R:Q2)(h:zc ds G R):ds.length=2∧zCv (zj R) (zV ["state","many","found","mixed"] ds) G:=by
 obtain⟨l,m,rfl,⟨s,b,hG,ok⟩,hm,hm2,h⟩:=h
 refine⟨rfl,?_⟩
 unfold zCv
 ((try dsimp only [zw,zX,zn,xIf,wF,zr,gN,gNN,zP,yK,yw,za,zA,zG,zL,zq,yG,wG,zB,look,zV,zAs,zBA,zBM,zDf,zDg,zEQ,zBj,zBk,fII,yd,yN,fEq,xC,xB,zCr,zCq,zAn,zH5,bK,bA,bB,bn,bo,bu,bw,br,bv,Nat.reduceSub,Nat.reduceAdd,zH7,zH8,zH9,zIA,zAD,zBN,zBO,if_true,if_false,bp]) <;> (try simp only [zw,zX,zn,xIf,wF,zr,gN,gNN,zP,yK,yw,za,zA,zG,zL,zq,yG,wG,zB,look,zV,zAs,zBA,zBM,zDf,zDg,zEQ,zBj,zBk,fII,yd,yN,fEq,xC,xB,zCr,zCq,zAn,zH5,bK,bA,bB,bn,bo,bu,bw,br,bv,Nat.reduceSub,Nat.reduceAdd,zH7,zH8,zH9,zIA,zAD,zBN,zBO,if_true,if_false,bp]))
 refine zAT hG (zG6 _ _ _) ?_
 cases b with
 | true =>
  ((try dsimp only [zw,zX,zn,xIf,wF,zr,gN,gNN,zP,yK,yw,za,zA,zG,zL,zq,yG,wG,zB,look,zV,zAs,zBA,zBM,zDf,zDg,zEQ,zBj,zBk,fII,yd,yN,fEq,xC,xB,zCr,zCq,zAn,zH5,bK,bA,bB,bn,bo,bu,bw,br,bv,Nat.reduceSub,Nat.reduceAdd,zH7,zH8,zH9,zIA,zAD,zBN,zBO,if_true,if_false,bp]) <;> (try simp only [zw,zX,zn,xIf,wF,zr,gN,gNN,zP,yK,yw,za,zA,zG,zL,zq,yG,wG,zB,look,zV,zAs,zBA,zBM,zDf,zDg,zEQ,zBj,zBk,fII,yd,yN,fEq,xC,xB,zCr,zCq,zAn,zH5,bK,bA,bB,bn,bo,bu,bw,br,bv,Nat.reduceSub,Nat.reduceAdd,zH7,zH8,zH9,zIA,zAD,zBN,zBO,if_true,if_false,bp]))
  refine zAT hG (zCt _ _) ?_
  ((try dsimp only [zw,zX,zn,xIf,wF,zr,gN,gNN,zP,yK,yw,za,zA,zG,zL,zq,yG,wG,zB,look,zV,zAs,zBA,zBM,zDf,zDg,zEQ,zBj,zBk,fII,yd,yN,fEq,xC,xB,zCr,zCq,zAn,zH5,bK,bA,bB,bn,bo,bu,bw,br,bv,Nat.reduceSub,Nat.reduceAdd,zH7,zH8,zH9,zIA,zAD,zBN,zBO,if_true,if_false,bp]) <;> (try simp only [zw,zX,zn,xIf,wF,zr,gN,gNN,zP,yK,yw,za,zA,zG,zL,zq,yG,wG,zB,look,zV,zAs,zBA,zBM,zDf,zDg,zEQ,zBj,zBk,fII,yd,yN,fEq,xC,xB,zCr,zCq,zAn,zH5,bK,bA,bB,bn,bo,bu,bw,br,bv,Nat.reduceSub,Nat.reduceAdd,zH7,zH8,zH9,zIA,zAD,zBN,zBO,if_true,if_false,bp]))
  refine⟨by omega,zAT hG (zCt _ _) ?_⟩
  ((try dsimp only [zw,zX,zn,xIf,wF,zr,gN,gNN,zP,yK,yw,za,zA,zG,zL,zq,yG,wG,zB,look,zV,zAs,zBA,zBM,zDf,zDg,zEQ,zBj,zBk,fII,yd,yN,fEq,xC,xB,zCr,zCq,zAn,zH5,bK,bA,bB,bn,bo,bu,bw,br,bv,Nat.reduceSub,Nat.reduceAdd,zH7,zH8,zH9,zIA,zAD,zBN,zBO,if_true,if_false,bp]) <;> (try simp only [zw,zX,zn,xIf,wF,zr,gN,gNN,zP,yK,yw,za,zA,zG,zL,zq,yG,wG,zB,look,zV,zAs,zBA,zBM,zDf,zDg,zEQ,zBj,zBk,fII,yd,yN,fEq,xC,xB,zCr,zCq,zAn,zH5,bK,bA,bB,bn,bo,bu,bw,br,bv,Nat.reduceSub,Nat.reduceAdd,zH7,zH8,zH9,zIA,zAD,zBN,zBO,if_true,if_false,bp]))
  refine⟨⟨by omega,by omega⟩,zN3 rfl hG ?_⟩
  ((try dsimp only [zw,zX,zn,xIf,wF,zr,gN,gNN,zP,yK,yw,za,zA,zG,zL,zq,yG,wG,zB,look,zV,zAs,zBA,zBM,zDf,zDg,zEQ,zBj,zBk,fII,yd,yN,fEq,xC,xB,zCr,zCq,zAn,zH5,bK,bA,bB,bn,bo,bu,bw,br,bv,Nat.reduceSub,Nat.reduceAdd,zH7,zH8,zH9,zIA,zAD,zBN,zBO,if_true,if_false,bp]) <;> (try simp only [zw,zX,zn,xIf,wF,zr,gN,gNN,zP,yK,yw,za,zA,zG,zL,zq,yG,wG,zB,look,zV,zAs,zBA,zBM,zDf,zDg,zEQ,zBj,zBk,fII,yd,yN,fEq,xC,xB,zCr,zCq,zAn,zH5,bK,bA,bB,bn,bo,bu,bw,br,bv,Nat.reduceSub,Nat.reduceAdd,zH7,zH8,zH9,zIA,zAD,zBN,zBO,if_true,if_false,bp]))
  obtain⟨r,hr,e⟩:=zET (x:=s) hm
  rw[e]
  exact FgR.of (h r _ hr ⟨_,true,rfl,fun z=>by cases z⟩)
 | false =>
  obtain⟨h0,h1⟩:=ok rfl
  ((try dsimp only [zw,zX,zn,xIf,wF,zr,gN,gNN,zP,yK,yw,za,zA,zG,zL,zq,yG,wG,zB,look,zV,zAs,zBA,zBM,zDf,zDg,zEQ,zBj,zBk,fII,yd,yN,fEq,xC,xB,zCr,zCq,zAn,zH5,bK,bA,bB,bn,bo,bu,bw,br,bv,Nat.reduceSub,Nat.reduceAdd,zH7,zH8,zH9,zIA,zAD,zBN,zBO,if_true,if_false,bp]) <;> (try simp only [zw,zX,zn,xIf,wF,zr,gN,gNN,zP,yK,yw,za,zA,zG,zL,zq,yG,wG,zB,look,zV,zAs,zBA,zBM,zDf,zDg,zEQ,zBj,zBk,fII,yd,yN,fEq,xC,xB,zCr,zCq,zAn,zH5,bK,bA,bB,bn,bo,bu,bw,br,bv,Nat.reduceSub,Nat.reduceAdd,zH7,zH8,zH9,zIA,zAD,zBN,zBO,if_true,if_false,bp]))
  refine zAT hG (zCt _ _) ?_
  ((try dsimp only [zw,zX,zn,xIf,wF,zr,gN,gNN,zP,yK,yw,za,zA,zG,zL,zq,yG,wG,zB,look,zV,zAs,zBA,zBM,zDf,zDg,zEQ,zBj,zBk,fII,yd,yN,fEq,xC,xB,zCr,zCq,zAn,zH5,bK,bA,bB,bn,bo,bu,bw,br,bv,Nat.reduceSub,Nat.reduceAdd,zH7,zH8,zH9,zIA,zAD,zBN,zBO,if_true,if_false,bp]) <;> (try simp only [zw,zX,zn,xIf,wF,zr,gN,gNN,zP,yK,yw,za,zA,zG,zL,zq,yG,wG,zB,look,zV,zAs,zBA,zBM,zDf,zDg,zEQ,zBj,zBk,fII,yd,yN,fEq,xC,xB,zCr,zCq,zAn,zH5,bK,bA,bB,bn,bo,bu,bw,br,bv,Nat.reduceSub,Nat.reduceAdd,zH7,zH8,zH9,zIA,zAD,zBN,zBO,if_true,if_false,bp]))
  refine⟨.inl ⟨by omega,by omega⟩,by decide,zN3 rfl hG ?_⟩
  have p0:=Int.emod_nonneg (s*48271+29) (b:=2147483647) (by decide)
  have p1:=Int.emod_lt_of_pos (s*48271+29) (b:=2147483647) (by decide)
  generalize (s*48271+29)%2147483647=s1 at p0 p1 ⊢
  have hG1:(zN G l [D.int s1,D.bl false]).m l=some [D.int s1,D.bl false]:=zF
  ((try dsimp only [zw,zX,zn,xIf,wF,zr,gN,gNN,zP,yK,yw,za,zA,zG,zL,zq,yG,wG,zB,look,zV,zAs,zBA,zBM,zDf,zDg,zEQ,zBj,zBk,fII,yd,yN,fEq,xC,xB,zCr,zCq,zAn,zH5,bK,bA,bB,bn,bo,bu,bw,br,bv,Nat.reduceSub,Nat.reduceAdd,zH7,zH8,zH9,zIA,zAD,zBN,zBO,if_true,if_false,bp]) <;> (try simp only [zw,zX,zn,xIf,wF,zr,gN,gNN,zP,yK,yw,za,zA,zG,zL,zq,yG,wG,zB,look,zV,zAs,zBA,zBM,zDf,zDg,zEQ,zBj,zBk,fII,yd,yN,fEq,xC,xB,zCr,zCq,zAn,zH5,bK,bA,bB,bn,bo,bu,bw,br,bv,Nat.reduceSub,Nat.reduceAdd,zH7,zH8,zH9,zIA,zAD,zBN,zBO,if_true,if_false,bp]))
  refine zAT hG1 (zCt _ _) (zAT hG1 (zCt _ _) ?_)
  ((try dsimp only [zw,zX,zn,xIf,wF,zr,gN,gNN,zP,yK,yw,za,zA,zG,zL,zq,yG,wG,zB,look,zV,zAs,zBA,zBM,zDf,zDg,zEQ,zBj,zBk,fII,yd,yN,fEq,xC,xB,zCr,zCq,zAn,zH5,bK,bA,bB,bn,bo,bu,bw,br,bv,Nat.reduceSub,Nat.reduceAdd,zH7,zH8,zH9,zIA,zAD,zBN,zBO,if_true,if_false,bp]) <;> (try simp only [zw,zX,zn,xIf,wF,zr,gN,gNN,zP,yK,yw,za,zA,zG,zL,zq,yG,wG,zB,look,zV,zAs,zBA,zBM,zDf,zDg,zEQ,zBj,zBk,fII,yd,yN,fEq,xC,xB,zCr,zCq,zAn,zH5,bK,bA,bB,bn,bo,bu,bw,br,bv,Nat.reduceSub,Nat.reduceAdd,zH7,zH8,zH9,zIA,zAD,zBN,zBO,if_true,if_false,bp]))
  refine⟨.inl ⟨by omega,by omega⟩,zAT hG1 (zCt _ _) ?_⟩
  ((try dsimp only [zw,zX,zn,xIf,wF,zr,gN,gNN,zP,yK,yw,za,zA,zG,zL,zq,yG,wG,zB,look,zV,zAs,zBA,zBM,zDf,zDg,zEQ,zBj,zBk,fII,yd,yN,fEq,xC,xB,zCr,zCq,zAn,zH5,bK,bA,bB,bn,bo,bu,bw,br,bv,Nat.reduceSub,Nat.reduceAdd,zH7,zH8,zH9,zIA,zAD,zBN,zBO,if_true,if_false,bp]) <;> (try simp only [zw,zX,zn,xIf,wF,zr,gN,gNN,zP,yK,yw,za,zA,zG,zL,zq,yG,wG,zB,look,zV,zAs,zBA,zBM,zDf,zDg,zEQ,zBj,zBk,fII,yd,yN,fEq,xC,xB,zCr,zCq,zAn,zH5,bK,bA,bB,bn,bo,bu,bw,br,bv,Nat.reduceSub,Nat.reduceAdd,zH7,zH8,zH9,zIA,zAD,zBN,zBO,if_true,if_false,bp]))
  refine⟨.inl ⟨by omega,by omega⟩,by decide,?_⟩
  have p2:=Int.emod_nonneg (s1*s1+39373*s1+7) (b:=2147483629) (by decide)
  have p3:=Int.emod_lt_of_pos (s1*s1+39373*s1+7) (b:=2147483629) (by decide)
  generalize (s1*s1+39373*s1+7)%2147483629=s2 at p2 p3 ⊢
  refine⟨.inl ⟨by omega,by omega⟩,.inl ⟨by omega,by omega⟩,by decide,⟨by decide,by decide⟩,by omega,?_⟩
  obtain⟨r,hr,e⟩:=zET (x:=(s2*s2+16807*s2)%2147483587 / 8) hm
  rw[e]
  exact FgR.of (h r _ hr ⟨_,false,rfl,fun u0=>⟨p0,p1⟩⟩)
noncomputable def zBm(n i:Nat):List (Nat×Nat):=(bE i).flatMap fun i=>(bE (n-(i+1))).map fun k=>(i,i+1+k)
theorem zFg(n:Nat):zBm n n=prs n:=rfl
theorem zEU(n i:Nat):zBm n (i+1)=zBm n i++(bE (n-(i+1))).map fun k=>(i,i+1+k):=by
 unfold zBm
 rw[List.range_succ,List.flatMap_append]
 simp
theorem zJ2{n i:Nat}(hi:i≤n)(h:n≤100):(zBm n i).length≤10000:=by
 have:(zBm n i).length≤(prs n).length:=by
  obtain⟨k,rfl⟩:=Nat.exists_eq_add_of_le hi
  rw[← zFg]
  have:∀ k,(zBm (i+k) i).length≤(zBm (i+k) (i+k)).length:=fun k=>by
   unfold zBm
   rw[List.range_add,List.flatMap_append,bI];omega
  exact this k
 have:=zER h
 omega
theorem zIC{n i:Nat}{x:D}(h:((bE n).map nD)[i]?=some x):x=nD i∧i<n:=by
 rw[bY] at h
 cases q:(bE n)[i]? with
 | none=>rw[q] at h;cases h
 | some k =>
  rw[q] at h
  cases h
  obtain⟨h1,h2⟩:=bN.mp q
  simp at h1 h2
  subst h2
  exact⟨rfl,h1⟩
theorem zDN{wi:TI2}{g:TG2}{tb:wD}{E:yH}{σ:S2}{G:Gp}(h:wi σ G fun ds gd G1=>zLJ ds gd G1 g tb E σ):wV wi g tb E σ G:=.of h
theorem zLP{t:wW}{g:TG2}{tb:wD}{E:yH}{σ:S2}{G:Gp}{n:Nat}(ht:PuA t σ G [nD n])(hn:n≤1000)(h:zLJ ((bE n).map nD) (fun u0=>True) G g tb E σ):wV (iR1 t) g tb E σ G:=by
 refine zDN (ht G (.refl G) _ ⟨by omega,?_⟩)
 rw[zAu]
 exact h
theorem zEV{t:wW}{g:TG2}{tb:wD}{E:yH}{σ:S2}{G:Gp}{i j:Int}(ht:PuA t σ G [.int i,.int j])(hn:(-1000≤i∧i≤1000)∧-1000≤j∧j≤1000)(h:zLJ (zy i (j-i).toNat) (fun u0=>True) G g tb E σ):wV (iR2 t) g tb E σ G :=
 zDN (ht G (.refl G) _ ⟨by omega,h⟩)
theorem zM9{i:Nat}{l:Addr}{d:D}{xs:List D}{σ:S2}{G:Gp}{t:wW}{R:Q2}(ho:look σ i=some (.adr l))(h:G.m l=some xs)(ht:∀ Q:List D→Gp→Prop,Q [d] G→t σ G Q)(hz:xs.length≤1000000)(q:R .non (zN G l (xs++[d]))):zDt (zB i) t σ G R:=by
 unfold zDt zB
 rw[ho]
 show match G.m l with | some _=>_ | none=>_
 rw[h]
 refine ht _ ?_
 show match G.m l with | some xs=>_ | none=>_
 rw[h]
 exact⟨hz,q⟩
theorem zNA{i:Nat}{l:Addr}{zs xs:List D}{σ:S2}{G:Gp}{t:TL2}{R:Q2}(ho:look σ i=some (.adr l))(h:G.m l=some xs)(ht:∀ Q:List D→Gp→Prop,Q zs G→t σ G Q)(hz:xs.length+zs.length≤1000000)(q:R .non (zN G l (xs++zs))):zJz (zB i) t σ G R:=by
 unfold zJz zB
 rw[ho]
 show match G.m l with | some _=>_ | none=>_
 rw[h]
 refine ht _ ?_
 show match G.m l with | some xs=>_ | none=>_
 rw[h]
 exact⟨hz,q⟩
theorem zI4{σ:S2}{G:Gp}{t:ze}{ps:List Nat}(h:zi t σ G (.tup (ps.map nD))):zi (zL zk (zA t zG)) σ G (nD ps.length):=wN (zJ h zT) fun u0 u0 u0 q=>⟨ps.map nD,rfl,by rw[bx];exact q⟩
noncomputable def zCB:wD:=(zX (zn (za (yw zG)) (gN 1)) (zX (wV (iR1 (zA (zB 0) zG)) (gN 2) (wF (zJz (zB 1) (yE (iR2 (zA (zP yN (zB 2) (xC (.int 1))) (zA (zB 0) zG))) bd1 zDJ (yK (zA (zB 2) (zA (zB 3) zG))))))) (zw (zB 1))))
theorem zJ3(ds:List D)(G:Gp)(R:Q2)(h:spL yp ds G R):ds.length=1∧zCB (zj R) (zV ["many","found","one"] ds) G:=by
 obtain⟨n,rfl,hn,h⟩:=h
 refine⟨rfl,?_⟩
 unfold zCB
 ((try dsimp only [zw,zX,zn,xIf,wF,zr,gN,gNN,zP,yK,yw,za,zA,zG,zL,zq,yG,wG,zB,look,zV,zAs,zBA,zBM,zDf,zDg,zEQ,zBj,zBk,fII,yd,yN,fEq,xC,xB,zCr,zCq,zAn,zH5,bK,bA,bB,bn,bo,bu,bw,br,bv,Nat.reduceSub,Nat.reduceAdd,zH7,zH8,zH9,zIA,zAD,zBN,zBO,if_true,if_false,bp]) <;> (try simp only [zw,zX,zn,xIf,wF,zr,gN,gNN,zP,yK,yw,za,zA,zG,zL,zq,yG,wG,zB,look,zV,zAs,zBA,zBM,zDf,zDg,zEQ,zBj,zBk,fII,yd,yN,fEq,xC,xB,zCr,zCq,zAn,zH5,bK,bA,bB,bn,bo,bu,bw,br,bv,Nat.reduceSub,Nat.reduceAdd,zH7,zH8,zH9,zIA,zAD,zBN,zBO,if_true,if_false,bp]))
 intro l hl
 refine zLP (n:=n) (zJ (zE rfl) zT) (by omega) ?_
 refine zBL (fun i G'=>G'=zN G l ((zBm n i).map prD)) rfl (fun u0 u0 u0=>trivial) ?_ ?_
 ·rintro i x hx G2 rfl
  obtain⟨rfl,hi⟩:=zIC hx
  have hlen:=zJ2 (n:=n) (i:=i+1) (by omega) hn
  rw[zEU,bI,bx,bT] at hlen
  have hw:PuI (iR2 (zA (zP yN (zB 2) (xC (.int 1))) (zA (zB 0) zG))) [some (nD n),some (.adr l),some (nD i)] (zN G l ((zBm n i).map prD)) (zy ((i:Int)+1) ((n:Int)-((i:Int)+1)).toNat) :=
   zJ0 (zJ (yi (zE rfl) yD fun u0 u0 u0 q=>q) (zJ (zE rfl) zT)) (by omega)
  have:=zLI (bd:=bd1) (te:=yK (zA (zB 2) (zA (zB 3) zG))) (fun d=>.tup [nD i,d]) (fun d=>[d]) hw fun x hx=>⟨rfl,zA1 (zJ (zE rfl) (zJ (zE rfl) zT)) (by simp)⟩
  ((try dsimp only [zw,zX,zn,xIf,wF,zr,gN,gNN,zP,yK,yw,za,zA,zG,zL,zq,yG,wG,zB,look,zV,zAs,zBA,zBM,zDf,zDg,zEQ,zBj,zBk,fII,yd,yN,fEq,xC,xB,zCr,zCq,zAn,zH5,bK,bA,bB,bn,bo,bu,bw,br,bv,Nat.reduceSub,Nat.reduceAdd,zH7,zH8,zH9,zIA,zAD,zBN,zBO,if_true,if_false,bp]) <;> (try simp only [zw,zX,zn,xIf,wF,zr,gN,gNN,zP,yK,yw,za,zA,zG,zL,zq,yG,wG,zB,look,zV,zAs,zBA,zBM,zDf,zDg,zEQ,zBj,zBk,fII,yd,yN,fEq,xC,xB,zCr,zCq,zAn,zH5,bK,bA,bB,bn,bo,bu,bw,br,bv,Nat.reduceSub,Nat.reduceAdd,zH7,zH8,zH9,zIA,zAD,zBN,zBO,if_true,if_false,bp]))
  have e:((n:Int)-((i:Int)+1)).toNat=n-(i+1):=by omega
  have e2:bK (fun d=>D.tup [nD i,d]) (zy ((i:Int)+1) ((n:Int)-((i:Int)+1)).toNat)=((bE (n-(i+1))).map fun k=>(i,i+1+k)).map prD:=by
   rw[e]
   unfold zy
   rw[cH,cH]
   refine ee fun k u0=>?_
   simp[prD,nD]
  rw[e2] at this
  refine zNA rfl zF (fun Q q=>this _ (.refl _) Q q) (by simp only[bx,bT];omega) ⟨.keep (.keep (.skip .nil)),_,.refl _,?_⟩
  rw[zDI,zEU,cr]
 ·rintro G2 rfl
  rw[bx,bT,zFg]
  exact FgR.of (h l hl)
noncomputable def lar(n:Nat)(q:Nat×Nat→Bool)(i:Nat):List Nat:=(((prs n).filter q).filter fun p=>decide (p.1=i)||decide (p.2=i)).map fun p=>p.1+p.2-i
noncomputable def zl:List D→Gp→(List D→Gp→Prop)→Prop:=fun ds G R=>∃(n:Nat) (q:Nat×Nat→Bool) (i:Nat),ds=[zS n q,nD i]∧R ((lar n q i).map nD) G
theorem zA2:∀ ds G R R',(∀ ls G',R ls G'→R' ls G')→zl ds G R→zl ds G R':=by
 rintro ds G R R' h ⟨n,q,i,e,q'⟩
 exact⟨n,q,i,e,h _ _ q'⟩
noncomputable def zBQ:wD:=(zw (za (yE (iV (zP yh (zB 0) (xC (.int 1)))) bd2 (xB (zP (fIn false) (zB 1) (yK (zA (zB 2) (zA (zB 3) zG))))) (zP (fII fun i j=>.int (i-j)) (zP yN (zB 2) (zB 3)) (zB 1)))))
theorem zCZ(l:List Nat)(i:Nat):((l.map nD).any fun z=>eqD z (nD i))=decide (i∈l):=by
 rw[List.any_map,bS]
 simp only[List.any_eq_true,Function.comp,zB8,decide_eq_true_eq,zDu]
 constructor
 ·rintro⟨x,h,rfl⟩;exact h
 ·intro h;exact⟨i,h,rfl⟩
theorem yU(l:List Nat):∀ d∈l.map nD,flat 8 d=true:=by
 intro d hd
 obtain⟨k,u0,rfl⟩:=bQ.mp hd
 rfl
theorem zLQ{σ:S2}{G:Gp}{t u:ze}{ng:Bool}{x:D}{ds:List D}{b:Bool}(h:zi t σ G x)(h':zi u σ G (.tup ds))(f:flat 8 x=true)(fs:∀ d∈ds,flat 8 d=true)(e:(if ng then !ds.any fun z=>eqD z x else ds.any fun z=>eqD z x)=b):zi (zP (fIn ng) t u) σ G (.bl b) :=
 yi h h' fun u0 u0 u0 q=>⟨f,fs,by rw[e];exact q⟩
theorem zEW{σ:S2}{G:Gp}{t u:ze}{i j:Int}(h:zi t σ G (.int i))(h':zi u σ G (.int j)):zi (zP yN t u) σ G (.int (i+j)):=yi h h' fun u0 u0 u0 q=>q
theorem zID(ds:List D)(G:Gp)(R:Q2)(h:spL zl ds G R):ds.length=2∧zBQ (zj R) (zV ["web","place"] ds) G:=by
 obtain⟨n,q,i,rfl,h⟩:=h
 refine⟨rfl,?_⟩
 unfold zBQ zw za
 have:=zAt (bd:=bd2) (tc:=(xB (zP (fIn false) (zB 1) (yK (zA (zB 2) (zA (zB 3) zG)))))) (te:=(zP (fII fun i j=>.int (i-j)) (zP yN (zB 2) (zB 3)) (zB 1))) (fun d=>decide ((zBl d).1=i)||decide ((zBl d).2=i)) (fun d=>.int (((zBl d).1:Int)+(zBl d).2-i)) (fun d=>[nD (zBl d).1,nD (zBl d).2])
  (zBC (σ:=zV ["web","place"] [zS n q,nD i]) (G:=G) (zQA (zE (i:=0) rfl))) fun x hx=>by
   obtain⟨p,hp,rfl⟩:=bQ.mp hx
   rw[zFf]
   refine⟨rfl,zAR (zLQ (zE (d:=nD i) rfl) (zA1 (zJ (zE (d:=nD p.1) rfl) (zJ (zE (d:=nD p.2) rfl) zT)) (by simp)) rfl (yU [p.1,p.2]) ?_),fun u0=>zDd (zEW (zE rfl) (zE rfl)) (zE rfl)⟩
   have:=zCZ [p.1,p.2] i
   simp only[bK] at this
   simp only[bp,if_false,this]
   rw[bS]
   simp only[ce,db,or_false,decide_eq_true_eq,Bool.or_eq_true]
   constructor<;>(rintro(h | h)<;>simp[h])
 refine this G (.refl G) _ fun l hl=>?_
 have e:bK (fun d=>D.int (((zBl d).1:Int)+(zBl d).2-i)) (eh (fun d=>decide ((zBl d).1=i)||decide ((zBl d).2=i)) (((prs n).filter q).map prD))=(lar n q i).map nD:=by
  unfold lar
  rw[dt,cH,cH]
  refine ee fun p hp=>?_
  have hp:=(bV.mp hp).2
  simp only[Function.comp,zFf] at hp ⊢
  simp only[Bool.or_eq_true,decide_eq_true_eq] at hp
  show D.int _=D.int _
  congr 1
  rcases hp with hp | hp<;>first | omega | (have hp:=of_decide_eq_true hp;omega)
 rw[e]
 exact FgR.of (h l hl)
noncomputable def zA3(n:Nat)(r:List Nat):Prop:=r.Perm (bE n++bE n)
theorem zA3.len{n:Nat}{r:List Nat}(h:zA3 n r):r.length=2*n:=by
 have:=h.length_eq
 simp at this;omega
theorem zA3.mem{n:Nat}{r:List Nat}(h:zA3 n r){x:Nat}:x∈r↔x<n:=by
 rw[h.mem_iff];simp
theorem zDi{n i:Nat}:(bE n).count i=if i<n then 1 else 0:=by
 induction n with
 | zero=>simp
 | succ n ih =>
  rw[List.range_succ,ci,ih]
  by_cases h:i=n
  ·subst h;simp
  ·have:(n==i)=false:=by simpa using fun e=>h e.symm
   simp[cE,this]
   split<;>split<;>omega
theorem zA3.count{n:Nat}{r:List Nat}(h:zA3 n r){i:Nat}(hi:i<n):r.count i=2:=by
 rw[h.count_eq,ci,zDi,if_pos hi]
noncomputable def both(r:List Nat)(p:Nat×Nat):List Nat:=r.filter fun x=>decide (x=p.1)||decide (x=p.2)
noncomputable def yA(r:List Nat)(p:Nat×Nat):Bool:=match both r p with | a::b::c::_=>decide (a≠b)&&decide (b≠c) | _=>false
theorem zLR{n:Nat}{r:List Nat}(h:zA3 n r){p:Nat×Nat}(hp:p∈prs n):(both r p).length=4:=by
 obtain⟨i,j⟩:=p
 obtain⟨h1,h2⟩:=zB7.mp hp
 have:∀ l:List Nat,(l.filter fun x=>decide (x=i)||decide (x=j)).length=l.count i+l.count j:=by
  intro l
  induction l with
  | nil=>rfl
  | cons a r ih =>
   simp only[dA,cE]
   by_cases ha:a=i
   ·subst ha
    have:¬ a=j:=by dsimp only at h1;omega
    simp[this,ih];omega
   ·by_cases hb:a=j
    ·subst hb;simp[ha,ih];omega
    ·simp[ha,hb,ih]
 unfold both
 rw[this,h.count (by dsimp only at h1 h2;omega),h.count h2]
theorem _root_.L3.Sub.put{G G':Gp}{f:Addr}{x:List D}(h:Sub G G')(n:G.m f=none):Sub G (zN G' f x) :=
 ⟨fun a o e=>by rw[zO (gne e n)];exact h.m a o e,fun a o e=>h.ro a o e⟩
noncomputable def yj:Sp2:=fun ds G R=>∃(n:Nat) (r:List Nat),ds=[.tup (r.map nD)]∧zA3 n r∧n≤100∧R (zS n (yA r)) G
noncomputable def zBR:wD:=(zX (zn (zP (yd zGj fun i j=>.int (i / j)) (zL zk (zA (zB 0) zG)) (xC (.int 2))) (gN 1)) (zX (zn (za (yw zG)) (gN 2)) (zX (wV (iF (zq yp (zA (zB 1) zG))) (gNN 3 4) (zX (zAm 5 (yE (iV (zB 0)) bd1 (xB (zP (fIn false) (zB 6) (yK (zA (zB 3) (zA (zB 4) zG))))) (zB 6))) (xIf (zCq (xB (zP (fEq true) (zP yh (zB 5) (xC (.int 0))) (zP yh (zB 5) (xC (.int 1))))) (xB (zP (fEq true) (zP yh (zB 5) (xC (.int 1))) (zP yh (zB 5) (xC (.int 2)))))) (wF (zDt (zB 2) (zA (yK (zA (zB 3) (zA (zB 4) zG))) zG))) zr))) (zw (yK (zA (zB 1) (zA (zL zD3 (zA (zB 2) zG)) zG)))))))
theorem zNB{σ:S2}{G:Gp}{r:List Nat}{p:Nat×Nat}{x1 x2 x5:Option D}(h:σ=[some (.tup (r.map nD)),x1,x2,some (nD p.1),some (nD p.2),x5]) :
  PuL (yE (iV (zB 0)) bd1 (xB (zP (fIn false) (zB 6) (yK (zA (zB 3) (zA (zB 4) zG))))) (zB 6)) σ G ((both r p).map nD):=by
 subst h
 have:=zAt (bd:=bd1) (tc:=(xB (zP (fIn false) (zB 6) (yK (zA (zB 3) (zA (zB 4) zG)))))) (te:=zB 6) (fun d=>match d with | .int x=>decide (x.toNat=p.1)||decide (x.toNat=p.2) | _=>false) (fun d=>d) (fun d=>[d])
  (zBC (σ:=[some (.tup (r.map nD)),x1,x2,some (nD p.1),some (nD p.2),x5]) (G:=G) (zE (i:=0) rfl)) fun x hx=>by
   obtain⟨k,hk,rfl⟩:=bQ.mp hx
   refine⟨rfl,zAR (zLQ (zE (d:=nD k) rfl) (zA1 (zJ (zE (d:=nD p.1) rfl) (zJ (zE (d:=nD p.2) rfl) zT)) (by simp)) rfl (yU [p.1,p.2]) ?_),fun u0=>zE rfl⟩
   have:=zCZ [p.1,p.2] k
   simp only[bK] at this
   simp only[bp,if_false,this]
   rw[bS]
   simp
 have e:bK (fun d=>d) (eh (fun d=>match d with | .int x=>decide (x.toNat=p.1)||decide (x.toNat=p.2) | _=>false) (r.map nD))=(both r p).map nD:=by
  rw[eu,dt]
  rfl
 rw[e] at this
 exact this
theorem zDz{α:Type}{f:α→D}{l:List α}{i:Nat}{x:D}(h:(l.map f)[i]?=some x):∃ a,l[i]?=some a∧x=f a:=by
 rw[bY] at h
 cases q:l[i]? with
 | none=>rw[q] at h;cases h
 | some a=>rw[q] at h;cases h;exact⟨a,rfl,rfl⟩
theorem zIE(ds:List D)(G:Gp)(R:Q2)(h:yj ds G R):ds.length=1∧zBR (zj R) (zV ["ring","many","found","one","other","some"] ds) G:=by
 obtain⟨n,r,rfl,hr,hn,h⟩:=h
 refine⟨rfl,?_⟩
 unfold zBR
 ((try dsimp only [zw,zX,zn,xIf,wF,zr,gN,gNN,zP,yK,yw,za,zA,zG,zL,zq,yG,wG,zB,look,zV,zAs,zBA,zBM,zDf,zDg,zEQ,zBj,zBk,fII,yd,yN,fEq,xC,xB,zCr,zCq,zAn,zH5,zAm,bK,bA,bB,bn,bo,bu,bw,br,bv,Nat.reduceSub,Nat.reduceAdd,zH7,zH8,zH9,zIA,zAD,zBN,zBO,if_true,if_false,bp]) <;> (try simp only [zw,zX,zn,xIf,wF,zr,gN,gNN,zP,yK,yw,za,zA,zG,zL,zq,yG,wG,zB,look,zV,zAs,zBA,zBM,zDf,zDg,zEQ,zBj,zBk,fII,yd,yN,fEq,xC,xB,zCr,zCq,zAn,zH5,zAm,bK,bA,bB,bn,bo,bu,bw,br,bv,Nat.reduceSub,Nat.reduceAdd,zH7,zH8,zH9,zIA,zAD,zBN,zBO,if_true,if_false,bp]))
 refine⟨r.map nD,rfl,?_⟩
 ((try dsimp only [zw,zX,zn,xIf,wF,zr,gN,gNN,zP,yK,yw,za,zA,zG,zL,zq,yG,wG,zB,look,zV,zAs,zBA,zBM,zDf,zDg,zEQ,zBj,zBk,fII,yd,yN,fEq,xC,xB,zCr,zCq,zAn,zH5,zAm,bK,bA,bB,bn,bo,bu,bw,br,bv,Nat.reduceSub,Nat.reduceAdd,zH7,zH8,zH9,zIA,zAD,zBN,zBO,if_true,if_false,bp]) <;> (try simp only [zw,zX,zn,xIf,wF,zr,gN,gNN,zP,yK,yw,za,zA,zG,zL,zq,yG,wG,zB,look,zV,zAs,zBA,zBM,zDf,zDg,zEQ,zBj,zBk,fII,yd,yN,fEq,xC,xB,zCr,zCq,zAn,zH5,zAm,bK,bA,bB,bn,bo,bu,bw,br,bv,Nat.reduceSub,Nat.reduceAdd,zH7,zH8,zH9,zIA,zAD,zBN,zBO,if_true,if_false,bp]))
 refine⟨⟨by decide,by decide⟩,fun f hf=>?_⟩
 have e:(((r.map nD).length:Int) / 2)=(n:Int):=by rw[bx,hr.len];omega
 rw[e]
 refine zDN ⟨n,rfl,hn,fun a ha=>?_⟩
 have fa:a≠f:=fun e=>by rw[e,zF] at ha;cases ha
 have ga:G.m a=none:=by rw[zO fa] at ha;exact ha
 refine zBL (fun k G'=>G'.m f=some ((((prs n).take k).filter (yA r)).map prD)∧G'.m a=some ((prs n).map prD)∧Sub G G') ⟨?_,zF,?_⟩ (fun u0 u0 h=>.inl h.2.1) ?_ ?_
 ·rw[zO (Ne.symm fa)];exact zF
 ·exact((Sub.refl G).put hf).put ga
 ·rintro k x hx G2 ⟨h1,h2,h3⟩
  obtain⟨p,hp,rfl⟩:=zDz hx
  have hp':=cf hp
  have hc:(((prs n).take (k+1)).filter (yA r))=(((prs n).take k).filter (yA r))++(if yA r p=true then [p] else []):=by
   rw[yS hp,cZ]
   congr 1
   simp[dA]
  show gNN 3 4 (.tup [nD p.1,nD p.2]) _ _ _
  ((try dsimp only [zw,zX,zn,xIf,wF,zr,gN,gNN,zP,yK,yw,za,zA,zG,zL,zq,yG,wG,zB,look,zV,zAs,zBA,zBM,zDf,zDg,zEQ,zBj,zBk,fII,yd,yN,fEq,xC,xB,zCr,zCq,zAn,zH5,zAm,bK,bA,bB,bn,bo,bu,bw,br,bv,Nat.reduceSub,Nat.reduceAdd,zH7,zH8,zH9,zIA,zAD,zBN,zBO,if_true,if_false,bp]) <;> (try simp only [zw,zX,zn,xIf,wF,zr,gN,gNN,zP,yK,yw,za,zA,zG,zL,zq,yG,wG,zB,look,zV,zAs,zBA,zBM,zDf,zDg,zEQ,zBj,zBk,fII,yd,yN,fEq,xC,xB,zCr,zCq,zAn,zH5,zAm,bK,bA,bB,bn,bo,bu,bw,br,bv,Nat.reduceSub,Nat.reduceAdd,zH7,zH8,zH9,zIA,zAD,zBN,zBO,if_true,if_false,bp]))
  refine zNB rfl G2 (.refl G2) _ fun s hs=>?_
  have hl:=zLR hr hp'
  have hz:((((prs n).take k).filter (yA r)).map prD).length≤1000000:=by
   rw[bx]
   have:=cN (yA r) ((prs n).take k)
   rw[bW] at this
   have:=zER hn
   omega
  have sf:s≠f:=fun e=>by rw[e,h1] at hs;cases hs
  have sa:s≠a:=fun e=>by rw[e,h2] at hs;cases hs
  have gs:G.m s=none:=by
   cases q:G.m s with
   | none=>rfl
   | some o=>rw[h3.m s o q] at hs;cases hs
  match hb:both r p,hl with
  | [x,y,z,w],_ =>
   have hcr:yA r p=(decide (x≠y)&&decide (y≠z)):=by unfold yA;rw[hb]
   rw[hcr] at hc
   ((try dsimp only [zw,zX,zn,xIf,wF,zr,gN,gNN,zP,yK,yw,za,zA,zG,zL,zq,yG,wG,zB,look,zV,zAs,zBA,zBM,zDf,zDg,zEQ,zBj,zBk,fII,yd,yN,fEq,xC,xB,zCr,zCq,zAn,zH5,zAm,bK,bA,bB,bn,bo,bu,bw,br,bv,Nat.reduceSub,Nat.reduceAdd,zH7,zH8,zH9,zIA,zAD,zBN,zBO,if_true,if_false,bp]) <;> (try simp only [zw,zX,zn,xIf,wF,zr,gN,gNN,zP,yK,yw,za,zA,zG,zL,zq,yG,wG,zB,look,zV,zAs,zBA,zBM,zDf,zDg,zEQ,zBj,zBk,fII,yd,yN,fEq,xC,xB,zCr,zCq,zAn,zH5,zAm,bK,bA,bB,bn,bo,bu,bw,br,bv,Nat.reduceSub,Nat.reduceAdd,zH7,zH8,zH9,zIA,zAD,zBN,zBO,if_true,if_false,bp]))
   refine zAT zF (zCt _ _) (zAT zF (zG6 _ _ _) ?_)
   ((try dsimp only [zw,zX,zn,xIf,wF,zr,gN,gNN,zP,yK,yw,za,zA,zG,zL,zq,yG,wG,zB,look,zV,zAs,zBA,zBM,zDf,zDg,zEQ,zBj,zBk,fII,yd,yN,fEq,xC,xB,zCr,zCq,zAn,zH5,zAm,bK,bA,bB,bn,bo,bu,bw,br,bv,Nat.reduceSub,Nat.reduceAdd,zH7,zH8,zH9,zIA,zAD,zBN,zBO,if_true,if_false,bp]) <;> (try simp only [zw,zX,zn,xIf,wF,zr,gN,gNN,zP,yK,yw,za,zA,zG,zL,zq,yG,wG,zB,look,zV,zAs,zBA,zBM,zDf,zDg,zEQ,zBj,zBk,fII,yd,yN,fEq,xC,xB,zCr,zCq,zAn,zH5,zAm,bK,bA,bB,bn,bo,bu,bw,br,bv,Nat.reduceSub,Nat.reduceAdd,zH7,zH8,zH9,zIA,zAD,zBN,zBO,if_true,if_false,bp]))
   refine⟨rfl,rfl,?_⟩
   have exy:(!eqD (nD x) (nD y))=decide (x≠y):=by rw[zB8];rw[bS];simp;omega
   have eyz:(!eqD (nD y) (nD z))=decide (y≠z):=by rw[zB8];rw[bS];simp;omega
   rw[exy]
   have no:(decide (x≠y)&&decide (y≠z))=false→zAI [some (.tup (r.map nD)),some (.int n),some (.adr f),none,none,none] [some (.tup (r.map nD)),some (.int n),some (.adr f),some (nD p.1),some (nD p.2),some (.adr s)]∧∃ G'',Sub G'' (zN G2 s ([x,y,z,w].map nD))∧(G''.m f=some ((((prs n).take (k+1)).filter (yA r)).map prD)∧G''.m a=some ((prs n).map prD)∧Sub G G''):=fun hf=>by
    refine⟨.keep (.keep (.keep (.skip (.skip (.skip .nil))))),G2,.new hs,?_,h2,h3⟩
    rw[hc,hf];simpa using h1
   by_cases c1:x≠y
   ·rw[decide_eq_true c1]
    ((try dsimp only [zw,zX,zn,xIf,wF,zr,gN,gNN,zP,yK,yw,za,zA,zG,zL,zq,yG,wG,zB,look,zV,zAs,zBA,zBM,zDf,zDg,zEQ,zBj,zBk,fII,yd,yN,fEq,xC,xB,zCr,zCq,zAn,zH5,zAm,bK,bA,bB,bn,bo,bu,bw,br,bv,Nat.reduceSub,Nat.reduceAdd,zH7,zH8,zH9,zIA,zAD,zBN,zBO,if_true,if_false,bp]) <;> (try simp only [zw,zX,zn,xIf,wF,zr,gN,gNN,zP,yK,yw,za,zA,zG,zL,zq,yG,wG,zB,look,zV,zAs,zBA,zBM,zDf,zDg,zEQ,zBj,zBk,fII,yd,yN,fEq,xC,xB,zCr,zCq,zAn,zH5,zAm,bK,bA,bB,bn,bo,bu,bw,br,bv,Nat.reduceSub,Nat.reduceAdd,zH7,zH8,zH9,zIA,zAD,zBN,zBO,if_true,if_false,bp]))
    refine zAT zF (zG6 _ _ _) (zAT zF (zLL _ _ _ _) ?_)
    ((try dsimp only [zw,zX,zn,xIf,wF,zr,gN,gNN,zP,yK,yw,za,zA,zG,zL,zq,yG,wG,zB,look,zV,zAs,zBA,zBM,zDf,zDg,zEQ,zBj,zBk,fII,yd,yN,fEq,xC,xB,zCr,zCq,zAn,zH5,zAm,bK,bA,bB,bn,bo,bu,bw,br,bv,Nat.reduceSub,Nat.reduceAdd,zH7,zH8,zH9,zIA,zAD,zBN,zBO,if_true,if_false,bp]) <;> (try simp only [zw,zX,zn,xIf,wF,zr,gN,gNN,zP,yK,yw,za,zA,zG,zL,zq,yG,wG,zB,look,zV,zAs,zBA,zBM,zDf,zDg,zEQ,zBj,zBk,fII,yd,yN,fEq,xC,xB,zCr,zCq,zAn,zH5,zAm,bK,bA,bB,bn,bo,bu,bw,br,bv,Nat.reduceSub,Nat.reduceAdd,zH7,zH8,zH9,zIA,zAD,zBN,zBO,if_true,if_false,bp]))
    refine⟨rfl,rfl,?_⟩
    rw[eyz]
    by_cases c2:y≠z
    ·rw[decide_eq_true c2]
     ((try dsimp only [zw,zX,zn,xIf,wF,zr,gN,gNN,zP,yK,yw,za,zA,zG,zL,zq,yG,wG,zB,look,zV,zAs,zBA,zBM,zDf,zDg,zEQ,zBj,zBk,fII,yd,yN,fEq,xC,xB,zCr,zCq,zAn,zH5,zAm,bK,bA,bB,bn,bo,bu,bw,br,bv,Nat.reduceSub,Nat.reduceAdd,zH7,zH8,zH9,zIA,zAD,zBN,zBO,if_true,if_false,bp]) <;> (try simp only [zw,zX,zn,xIf,wF,zr,gN,gNN,zP,yK,yw,za,zA,zG,zL,zq,yG,wG,zB,look,zV,zAs,zBA,zBM,zDf,zDg,zEQ,zBj,zBk,fII,yd,yN,fEq,xC,xB,zCr,zCq,zAn,zH5,zAm,bK,bA,bB,bn,bo,bu,bw,br,bv,Nat.reduceSub,Nat.reduceAdd,zH7,zH8,zH9,zIA,zAD,zBN,zBO,if_true,if_false,bp]))
     refine zM9 (d:=prD p) rfl (by rw[zO (Ne.symm sf)];exact h1) (fun Q q=>by ((try dsimp only [zw,zX,zn,xIf,wF,zr,gN,gNN,zP,yK,yw,za,zA,zG,zL,zq,yG,wG,zB,look,zV,zAs,zBA,zBM,zDf,zDg,zEQ,zBj,zBk,fII,yd,yN,fEq,xC,xB,zCr,zCq,zAn,zH5,zAm,bK,bA,bB,bn,bo,bu,bw,br,bv,Nat.reduceSub,Nat.reduceAdd,zH7,zH8,zH9,zIA,zAD,zBN,zBO,if_true,if_false,bp]) <;> (try simp only [zw,zX,zn,xIf,wF,zr,gN,gNN,zP,yK,yw,za,zA,zG,zL,zq,yG,wG,zB,look,zV,zAs,zBA,zBM,zDf,zDg,zEQ,zBj,zBk,fII,yd,yN,fEq,xC,xB,zCr,zCq,zAn,zH5,zAm,bK,bA,bB,bn,bo,bu,bw,br,bv,Nat.reduceSub,Nat.reduceAdd,zH7,zH8,zH9,zIA,zAD,zBN,zBO,if_true,if_false,bp]));exact q) hz ⟨.keep (.keep (.keep (.skip (.skip (.skip .nil))))),_,.refl _,?_,?_,?_⟩
     ·rw[zF,hc,decide_eq_true c1,decide_eq_true c2]
      simp
     ·rw[zO fa,zO (Ne.symm sa)];exact h2
     ·exact(h3.put gs).put hf
    ·rw[decide_eq_false c2]
     ((try dsimp only [zw,zX,zn,xIf,wF,zr,gN,gNN,zP,yK,yw,za,zA,zG,zL,zq,yG,wG,zB,look,zV,zAs,zBA,zBM,zDf,zDg,zEQ,zBj,zBk,fII,yd,yN,fEq,xC,xB,zCr,zCq,zAn,zH5,zAm,bK,bA,bB,bn,bo,bu,bw,br,bv,Nat.reduceSub,Nat.reduceAdd,zH7,zH8,zH9,zIA,zAD,zBN,zBO,if_true,if_false,bp]) <;> (try simp only [zw,zX,zn,xIf,wF,zr,gN,gNN,zP,yK,yw,za,zA,zG,zL,zq,yG,wG,zB,look,zV,zAs,zBA,zBM,zDf,zDg,zEQ,zBj,zBk,fII,yd,yN,fEq,xC,xB,zCr,zCq,zAn,zH5,zAm,bK,bA,bB,bn,bo,bu,bw,br,bv,Nat.reduceSub,Nat.reduceAdd,zH7,zH8,zH9,zIA,zAD,zBN,zBO,if_true,if_false,bp]))
     exact no (by simp[c2])
   ·rw[decide_eq_false c1]
    ((try dsimp only [zw,zX,zn,xIf,wF,zr,gN,gNN,zP,yK,yw,za,zA,zG,zL,zq,yG,wG,zB,look,zV,zAs,zBA,zBM,zDf,zDg,zEQ,zBj,zBk,fII,yd,yN,fEq,xC,xB,zCr,zCq,zAn,zH5,zAm,bK,bA,bB,bn,bo,bu,bw,br,bv,Nat.reduceSub,Nat.reduceAdd,zH7,zH8,zH9,zIA,zAD,zBN,zBO,if_true,if_false,bp]) <;> (try simp only [zw,zX,zn,xIf,wF,zr,gN,gNN,zP,yK,yw,za,zA,zG,zL,zq,yG,wG,zB,look,zV,zAs,zBA,zBM,zDf,zDg,zEQ,zBj,zBk,fII,yd,yN,fEq,xC,xB,zCr,zCq,zAn,zH5,zAm,bK,bA,bB,bn,bo,bu,bw,br,bv,Nat.reduceSub,Nat.reduceAdd,zH7,zH8,zH9,zIA,zAD,zBN,zBO,if_true,if_false,bp]))
    exact no (by simp[c1])
 ·rintro G2 ⟨h1,h2,h3⟩
  rw[bx,cU] at h1
  ((try dsimp only [zw,zX,zn,xIf,wF,zr,gN,gNN,zP,yK,yw,za,zA,zG,zL,zq,yG,wG,zB,look,zV,zAs,zBA,zBM,zDf,zDg,zEQ,zBj,zBk,fII,yd,yN,fEq,xC,xB,zCr,zCq,zAn,zH5,zAm,bK,bA,bB,bn,bo,bu,bw,br,bv,Nat.reduceSub,Nat.reduceAdd,zH7,zH8,zH9,zIA,zAD,zBN,zBO,if_true,if_false,bp]) <;> (try simp only [zw,zX,zn,xIf,wF,zr,gN,gNN,zP,yK,yw,za,zA,zG,zL,zq,yG,wG,zB,look,zV,zAs,zBA,zBM,zDf,zDg,zEQ,zBj,zBk,fII,yd,yN,fEq,xC,xB,zCr,zCq,zAn,zH5,zAm,bK,bA,bB,bn,bo,bu,bw,br,bv,Nat.reduceSub,Nat.reduceAdd,zH7,zH8,zH9,zIA,zAD,zBN,zBO,if_true,if_false,bp]))
  refine⟨((prs n).filter (yA r)).map prD,.inl h1,?_⟩
  exact⟨G,h3,h⟩
theorem zEX{α:Type}:∀(l:List α) (i:Nat) (h:i<l.length),(l[i]::l.eraseIdx i).Perm l
 | a::r,0,_=>by simp
 | a::r,i+1,h=>by
  have hi:i<r.length:=by simpa using h
  simp only[List.getElem_cons_succ,List.eraseIdx_cons_succ]
  exact(dg.swap a (r[i]'hi) _).trans ((zEX r i (by simpa using h)).cons a)
theorem zCP{α β:Type}(f:α→β):∀(l:List α) (i:Nat),(l.map f).eraseIdx i=(l.eraseIdx i).map f
 | [],_=>by simp
 | a::r,0=>by simp
 | a::r,i+1=>by simp[zCP f r i]
noncomputable def DrS(l:Addr)(G G':Gp):Prop:=∃ G1,Dr l G G1∧Sub G1 G'
theorem DrS.dr{l:Addr}{G G1 G2:Gp}(h:DrS l G G1)(d:Dr l G1 G2):DrS l G G2:=by
 obtain⟨G0,d0,s0⟩:=h
 obtain⟨G3,d3,s3⟩:=d.sub s0
 exact⟨G3,d0.trans d3,s3⟩
theorem DrS.put{l f:Addr}{G G1:Gp}{x:List D}(h:DrS l G G1)(s:zAX G l)(n:G.m f=none):DrS l G (zN G1 f x):=by
 obtain⟨G0,d0,s0⟩:=h
 exact⟨G0,d0,s0.put (d0.none s n)⟩
theorem DrS.refl{l:Addr}{G:Gp}(s:zAX G l):DrS l G G:=⟨G,.refl s,.refl G⟩
theorem DrS.st{l:Addr}{G G':Gp}(h:DrS l G G'):zAX G' l:=by
 obtain⟨G0,d0,s0⟩:=h
 exact d0.st.ext s0
theorem DrS.own{l:Addr}{G G':Gp}(h:DrS l G G')(s:zAX G l){a:Addr}(n:G'.m a=none):G.m a=none:=by
 obtain⟨G0,d0,s0⟩:=h
 have n0:G0.m a=none:=by
  cases q:G0.m a with
  | none=>rfl
  | some o=>rw[s0.m a o q] at n;cases n
 by_cases ha:a=l
 ·subst ha
  obtain⟨u0,u0,e,u0⟩:=d0.st
  rw[e] at n0;cases n0
 ·rw[d0.ne ha] at n0;exact n0
theorem DrS.fin{l:Addr}{G G':Gp}{d:D}{R:Q2}(h:DrS l G G')(q:∀ G',Dr l G G'→R d G'):FgR R d G':=by
 obtain⟨G0,d0,s0⟩:=h
 exact⟨G0,s0,q G0 d0⟩
theorem drawn{σ:S2}{G G0:Gp}{st lf:Addr}{xs:List Nat}{i0 i2 k:Nat}{t:wW}{R:Q2}(h0:look σ i0=some (.adr st))(h2:look σ i2=some (.adr lf))(hk:σ.length=k)
  (ht:PuA t σ G [nD xs.length]) (hs:zAX G st) (hs0:zAX G0 st) (hne:lf≠st) (hx:G.m lf=some (xs.map nD)) (h0lf:G0.m lf=none) (hd:DrS st G0 G) (hlen:xs.length≤1000)
  (hR:∀(ys:List Nat) (G':Gp),ys.Perm xs→DrS st G0 G'→R (.tup (ys.map nD)) G') :
  yG wG (yE (iR1 t) bd1 zDJ (zGy (zB i2) (zA (zL zc (zA (zB i0) (zA (zL zk (zA (zB i2) zG)) zG))) zG))) σ G R:=by
 have lk:∀(j:Nat) (o:D) (d:D),look σ j=some o→look (σ++[some d]) j=some o:=fun j o d h=>by
  clear h0 h2 hk ht
  induction σ generalizing j with
  | nil=>cases h
  | cons a r ih =>
   cases j with
   | zero=>exact h
   | succ j=>exact ih j h
 refine zI3 (ht G (.refl G) _ ⟨by omega,fun A hA=>?_⟩)
 rw[zAu]
 have Alf:A≠lf:=fun e=>by rw[e,hx] at hA;cases hA
 have Ast:A≠st:=hs.ne hA
 refine zG5 (fun i acc G'=>∃ ys zs:List Nat,acc=ys.map nD∧ys.length=i∧(ys++zs).Perm xs∧G'.m A=some acc∧G'.m lf=some (zs.map nD)∧DrS st G0 G')
  ⟨[],xs,rfl,rfl,.refl _,zF,by rw[zO (Ne.symm Alf)];exact hx,hd.put hs0 (hd.own hs0 hA)⟩ (fun i acc G' ⟨ys,zs,h1,h2,h3,h4,h5,h6⟩=>⟨trivial,h4,by rw[h1,bx];omega⟩) ?_ ?_
 ·rintro i x acc G' hi ⟨ys,zs,rfl,h2',h3,h4,h5,h6⟩
  obtain⟨rfl,hi⟩:=zIC hi
  refine⟨[nD i],rfl,?_⟩
  have hz:ys.length+zs.length=xs.length:=by have:=h3.length_eq;rwa [bI] at this
  have st':=h6.st
  unfold zDJ
  dsimp only
  rw[if_pos rfl]
  unfold zGy
  rw[show zB i2=fun σ G R=>match look σ i2 with | some d=>R d G | none=>False from rfl]
  dsimp only
  rw[show bK some [nD i]=[some (nD i)] from rfl,lk i2 _ _ h2]
  dsimp only
  rw[h5]
  dsimp only
  simp only[zA,zL,zB,zG,lk i0 _ _ h0,lk i2 _ _ h2]
  refine⟨zs.map nD,.inl h5,?_⟩
  rw[bx]
  refine⟨st,zs.length,rfl,st',by omega,by omega,fun r G1 hr d1=>?_⟩
  have e1:G1.m lf=some (zs.map nD):=by rw[d1.ne hne];exact h5
  dsimp only
  rw[e1]
  dsimp only
  refine⟨⟨by omega,by rw[bx];omega,by omega⟩,?_⟩
  have e2:(bK nD zs)[(r:Int).toNat]?=some (nD zs[r]):=by simp[hr]
  rw[e2]
  dsimp only
  have Aa:(zN G1 lf ((bK nD zs).eraseIdx (r:Int).toNat)).m A=some (ys.map nD):=by rw[zO Alf,d1.ne Ast];exact h4
  refine⟨Aa,.of ⟨ys++[zs[r]],zs.eraseIdx r,by simp,by simp[h2'],?_,zF,?_,?_⟩⟩
  ·rw[bZ]
   exact((zEX zs r hr).append_left ys).trans h3
  ·rw[zO (Ne.symm Alf),zF]
   simp[zCP]
  ·have hA0:G0.m A=none:=hd.own hs0 hA
   exact(((h6.dr d1).put hs0 h0lf).put hs0 hA0)
 ·rintro acc G' ⟨ys,zs,rfl,h2',h3,h4,h5,h6⟩
  rw[bx,bT] at h2'
  have hz:ys.length+zs.length=xs.length:=by have:=h3.length_eq;rwa [bI] at this
  have:zs=[]:=dl.mp (by omega)
  subst this
  rw[cO] at h3
  -- forget the list itself
  obtain⟨G1,d1,s1⟩:=h6
  refine⟨G1,d1.none hs0 (hd.own hs0 hA),s1,?_⟩
  exact hR ys G1 h3 ⟨G1,d1,.refl _⟩
noncomputable def zBE:Sp2:=fun ds G R=>∃(l:Addr) (n:Nat),ds=[.adr l,nD n]∧zAX G l∧n≤100∧∀(r:List Nat) (G':Gp),zA3 n r→Dr l G G'→R (.tup (r.map nD)) G'
noncomputable def zCw:wD:=(zX (zn (za (zJy (za (zBi (zA (zB 1) zG))) (xC (.int 2)))) (gN 2)) (zw (yG wG (yE (iR1 (zA (zP (yd zCV fun i j=>.int (i*j)) (xC (.int 2)) (zB 1)) zG)) bd1 zDJ (zGy (zB 2) (zA (zL zc (zA (zB 0) (zA (zL zk (zA (zB 2) zG)) zG))) zG))))))
theorem zLS(ds:List D)(G:Gp)(R:Q2)(h:zBE ds G R):ds.length=2∧zCw (zj R) (zV ["state","many","left"] ds) G:=by
 obtain⟨l,n,rfl,hs,hn,h⟩:=h
 refine⟨rfl,?_⟩
 unfold zCw zX zn za zJy zBi
 ((try dsimp only [zw,zX,zn,xIf,wF,zr,gN,gNN,zP,yK,yw,za,zA,zG,zL,zq,yG,wG,zB,look,zV,zAs,zBA,zBM,zDf,zDg,zEQ,zBj,zBk,fII,yd,yN,fEq,xC,xB,zCr,zCq,zAn,zH5,zAm,bK,bA,bB,bn,bo,bu,bw,br,bv,Nat.reduceSub,Nat.reduceAdd,zH7,zH8,zH9,zIA,zAD,zBN,zBO,if_true,if_false,bp]) <;> (try simp only [zw,zX,zn,xIf,wF,zr,gN,gNN,zP,yK,yw,za,zA,zG,zL,zq,yG,wG,zB,look,zV,zAs,zBA,zBM,zDf,zDg,zEQ,zBj,zBk,fII,yd,yN,fEq,xC,xB,zCr,zCq,zAn,zH5,zAm,bK,bA,bB,bn,bo,bu,bw,br,bv,Nat.reduceSub,Nat.reduceAdd,zH7,zH8,zH9,zIA,zAD,zBN,zBO,if_true,if_false,bp]))
 refine⟨by omega,fun a ha=>?_⟩
 rw[zF]
 dsimp only
 rw[zAu]
 refine⟨by omega,by simp;omega,fun lf hlf=>?_⟩
 have e:(bL (2:Int).toNat (bK nD (bE n))).flatten=(bE n++bE n).map nD:=by
  show(bL 2 _).flatten=_
  simp[br]
 rw[e]
 have hlf0:G.m lf=none:=by
  have:lf≠a:=fun e=>by rw[e,zF] at hlf;cases hlf
  rw[zO this] at hlf;exact hlf
 have la:lf≠l:=hs.ne hlf0
 have hsG:zAX (zN (zN G a (bK nD (bE n))) lf ((bE n++bE n).map nD)) l:=(hs.ext (.new ha)).ext (.new hlf)
 have hdr:DrS l G (zN (zN G a (bK nD (bE n))) lf ((bE n++bE n).map nD)):=((DrS.refl hs).put hs ha).put hs hlf0
 have hlen:(bE n++bE n).length=2*n:=by simp;omega
 refine drawn (k:=3) (xs:=bE n++bE n) (i0:=0) (i2:=2) rfl rfl rfl (zJ ?_ zT) hsG hs la zF hlf0 hdr (by omega) fun ys G' hp hd=>hd.fin fun G1 d1=>h ys G1 hp d1
 have:nD (bE n++bE n).length=.int (2*(n:Int)):=by rw[hlen];unfold nD;congr 1
 rw[this]
 exact yi yD (zE rfl) fun u0 u0 u0 q=>⟨.inl ⟨by decide,by decide⟩,q⟩
theorem zEY{l s:List (Nat×Nat)}(h:s.Sublist l)(nd:l.Nodup):(l.filter fun x=>decide (x∈s))=s:=by
 induction h with
 | slnil=>rfl
 | @cons s l a h ih =>
  obtain⟨h1,h2⟩:=cR.mp nd
  have:a∉s:=fun m=>h1 (h.subset m)
  rw[dA,if_neg (by simpa using this)]
  exact ih h2
 | @cons_cons s l a h ih =>
  obtain⟨h1,h2⟩:=cR.mp nd
  rw[dA,if_pos (by simp)]
  congr 1
  refine Eq.trans (eE fun x hx=>?_) (ih h2)
  have:x≠a:=fun e=>h1 (e▸hx)
  simp[this]
theorem zNC{n:Nat}{s:List (Nat×Nat)}(h:s.Sublist (prs n)):zS n (fun p=>decide (p∈s))=.tup [nD n,.tup (s.map prD)]:=by
 unfold zS
 rw[zEY h (zFe n)]
theorem picked{σ:S2}{G G0:Gp}{st pl:Addr}{n i0 i4 k:Nat}{tc:TT2}{R:List D→Gp→Prop}(h0:look σ i0=some (.adr st))(h4:look σ i4=some (.adr pl))(hk:σ.length=k)
  (hs0:zAX G0 st) (hne:pl≠st) (hx:G.m pl=some ((prs n).map prD)) (hd:DrS st G0 G)
  (hc:∀(p:Nat×Nat) (G':Gp) (Q:Bool→Gp→Prop),p∈prs n→zAX G' st→(∀ b G1,Dr st G' G1→Q b G1)→tc (σ++[some (prD p)]) G' Q)
  (hR:∀(s:List (Nat×Nat)) (G':Gp),s.Sublist (prs n)→DrS st G0 G'→R (s.map prD) G') :
  yE (iV (zB i4)) bd1 tc (zB k) σ G R:=by
 have lk:∀ d,look (σ++[some d]) k=some d:=fun d=>by
  subst hk
  clear h0 h4 hc
  induction σ with
  | nil=>rfl
  | cons a r ih=>exact ih
 refine zI3 ?_
 unfold iV zB
 rw[h4]
 refine⟨(prs n).map prD,.inl hx,fun A hA=>?_⟩
 have Apl:A≠pl:=fun e=>by rw[e,hx] at hA;cases hA
 have Ast:A≠st:=hd.st.ne hA
 have hA0:=hd.own hs0 hA
 refine zG5 (fun i acc G'=>∃ s:List (Nat×Nat),acc=s.map prD∧s.Sublist ((prs n).take i)∧G'.m A=some acc∧G'.m pl=some ((prs n).map prD)∧DrS st G0 G')
  ⟨[],rfl,by simp,zF,by rw[zO (Ne.symm Apl)];exact hx,hd.put hs0 hA0⟩ (fun i acc G' ⟨s,h1,h2,h3,h4,h5⟩=>⟨.inl h4,h3,by rw[h1,bx];exact cC h2.length_le (by rw[bW];omega)⟩) ?_ ?_
 ·rintro i x acc G' hi ⟨s,rfl,h2,h3,h4',h5⟩
  obtain⟨p,hp,rfl⟩:=zDz hi
  refine⟨[prD p],rfl,hc p G' _ (cf hp) h5.st fun b G1 d1=>?_⟩
  have m1:G1.m A=some (s.map prD):=by rw[d1.ne Ast];exact h3
  have m2:G1.m pl=some ((prs n).map prD):=by rw[d1.ne hne];exact h4'
  cases b with
  | false =>
   rw[if_neg (by simp)]
   exact .of ⟨s,rfl,by rw[yS hp];exact h2.trans (List.sublist_append_left _ _),m1,m2,h5.dr d1⟩
  | true =>
   rw[if_pos rfl]
   show match look (σ++[some (prD p)]) k with | some d=>_ | none=>_
   rw[lk]
   refine⟨m1,.of ⟨s++[p],by simp,by rw[yS hp];exact h2.append (List.Sublist.refl _),zF,by rw[zO (Ne.symm Apl)];exact m2,(h5.dr d1).put hs0 hA0⟩⟩
 ·rintro acc G' ⟨s,rfl,h2,h3,h4',h5⟩
  rw[bx,cU] at h2
  obtain⟨G1,d1,s1⟩:=h5
  exact⟨G1,d1.none hs0 hA0,s1,hR s G1 h2 ⟨G1,d1,.refl _⟩⟩
noncomputable def zBn:Sp2:=fun ds G R=>∃(l:Addr) (m:Nat),ds=[.adr l,nD m]∧zAX G l∧1≤m∧m≤50∧∀(n:Nat) (q:Nat×Nat→Bool) (G':Gp),1≤n→n≤m→Dr l G G'→R (zS n q) G'
noncomputable def zD4:wD:=(zX (zn (zP yN (xC (.int 1)) (zL zc (zA (zB 0) (zA (zB 1) zG)))) (gN 2)) (zX (zn (zL zc (zA (zB 0) (zA (xC (.int 5)) zG))) (gN 3)) (zX (zn (za (zq yp (zA (zB 2) zG))) (gN 4)) (zX (xIf (xB (zP (fEq false) (zB 3) (xC (.int 0)))) (zw (zL yj (zA (zL zBE (zA (zB 0) (zA (zB 2) zG))) zG))) zr) (zX (xIf (xB (zP (fEq false) (zB 3) (xC (.int 1)))) (zw (yK (zA (zB 2) (zA (yG wG (yE (iV (zB 4)) bd1 (zCr (xB (zP (fEq false) (zP yh (zB 6) (xC (.int 1))) (zP yN (zP yh (zB 6) (xC (.int 0))) (xC (.int 1))))) (xB (zP (fEq false) (zL zc (zA (zB 0) (zA (xC (.int 6)) zG))) (xC (.int 0))))) (zB 6))) zG)))) zr) (zX (zn (zP yh (za (yw (zA (xC (.int 2)) (zA (xC (.int 3)) (zA (xC (.int 4)) zG))))) (zP (fII fun i j=>.int (i-j)) (zB 3) (xC (.int 2)))) (gN 5)) (zw (yK (zA (zB 2) (zA (yG wG (yE (iV (zB 4)) bd1 (xB (zP (fEq false) (zL zc (zA (zB 0) (zA (zB 5) zG))) (xC (.int 0)))) (zB 6))) zG))))))))))
theorem zND(ds:List D)(G:Gp)(R:Q2)(h:zBn ds G R):ds.length=2∧zD4 (zj R) (zV ["state","most","many","way","pairs_v","far"] ds) G:=by
 obtain⟨l,m,rfl,hs,hm1,hm,h⟩:=h
 refine⟨rfl,?_⟩
 unfold zD4
 ((try dsimp only [zw,zX,zn,xIf,wF,zr,gN,gNN,zP,yK,yw,za,zA,zG,zL,zq,yG,wG,zB,look,zV,zAs,zBA,zBM,zDf,zDg,zEQ,zBj,zBk,fII,yd,yN,fEq,xC,xB,zCr,zCq,zAn,zH5,zAm,bK,bA,bB,bn,bo,bu,bw,br,bv,Nat.reduceSub,Nat.reduceAdd,zH7,zH8,zH9,zIA,zAD,zBN,zBO,if_true,if_false,bp]) <;> (try simp only [zw,zX,zn,xIf,wF,zr,gN,gNN,zP,yK,yw,za,zA,zG,zL,zq,yG,wG,zB,look,zV,zAs,zBA,zBM,zDf,zDg,zEQ,zBj,zBk,fII,yd,yN,fEq,xC,xB,zCr,zCq,zAn,zH5,zAm,bK,bA,bB,bn,bo,bu,bw,br,bv,Nat.reduceSub,Nat.reduceAdd,zH7,zH8,zH9,zIA,zAD,zBN,zBO,if_true,if_false,bp]))
 refine⟨l,m,rfl,hs,by omega,by omega,fun r G1 hr d1=>?_⟩
 ((try dsimp only [zw,zX,zn,xIf,wF,zr,gN,gNN,zP,yK,yw,za,zA,zG,zL,zq,yG,wG,zB,look,zV,zAs,zBA,zBM,zDf,zDg,zEQ,zBj,zBk,fII,yd,yN,fEq,xC,xB,zCr,zCq,zAn,zH5,zAm,bK,bA,bB,bn,bo,bu,bw,br,bv,Nat.reduceSub,Nat.reduceAdd,zH7,zH8,zH9,zIA,zAD,zBN,zBO,if_true,if_false,bp]) <;> (try simp only [zw,zX,zn,xIf,wF,zr,gN,gNN,zP,yK,yw,za,zA,zG,zL,zq,yG,wG,zB,look,zV,zAs,zBA,zBM,zDf,zDg,zEQ,zBj,zBk,fII,yd,yN,fEq,xC,xB,zCr,zCq,zAn,zH5,zAm,bK,bA,bB,bn,bo,bu,bw,br,bv,Nat.reduceSub,Nat.reduceAdd,zH7,zH8,zH9,zIA,zAD,zBN,zBO,if_true,if_false,bp]))
 refine⟨l,5,rfl,d1.st,by omega,by omega,fun way G2 hway d2=>?_⟩
 have d12:=d1.trans d2
 have e1:(1:Int)+(r:Int)=((r+1:Nat):Int):=by omega
 ((try dsimp only [zw,zX,zn,xIf,wF,zr,gN,gNN,zP,yK,yw,za,zA,zG,zL,zq,yG,wG,zB,look,zV,zAs,zBA,zBM,zDf,zDg,zEQ,zBj,zBk,fII,yd,yN,fEq,xC,xB,zCr,zCq,zAn,zH5,zAm,bK,bA,bB,bn,bo,bu,bw,br,bv,Nat.reduceSub,Nat.reduceAdd,zH7,zH8,zH9,zIA,zAD,zBN,zBO,if_true,if_false,bp]) <;> (try simp only [zw,zX,zn,xIf,wF,zr,gN,gNN,zP,yK,yw,za,zA,zG,zL,zq,yG,wG,zB,look,zV,zAs,zBA,zBM,zDf,zDg,zEQ,zBj,zBk,fII,yd,yN,fEq,xC,xB,zCr,zCq,zAn,zH5,zAm,bK,bA,bB,bn,bo,bu,bw,br,bv,Nat.reduceSub,Nat.reduceAdd,zH7,zH8,zH9,zIA,zAD,zBN,zBO,if_true,if_false,bp]))
 rw[e1]
 refine⟨r+1,rfl,by omega,fun pl hpl=>?_⟩
 have hpl0:G.m pl=none:=by
  have:pl≠l:=d2.st.ne hpl
  rw[d12.ne this] at hpl;exact hpl
 have hne:pl≠l:=hs.ne hpl0
 have hdr:DrS l G (zN G2 pl ((prs (r+1)).map prD)):=(DrS.put (x:=(prs (r+1)).map prD) ⟨G2,d12,.refl _⟩ hs hpl0)
 have fin:∀(s:List (Nat×Nat)) (G':Gp),s.Sublist (prs (r+1))→DrS l G G'→FgR R (.tup [.int ((r+1:Nat):Int),.tup (s.map prD)]) G':=fun s G' hsub hd=>hd.fin fun G3 d3=>by
  have:=h (r+1) (fun p=>decide (p∈s)) G3 (by omega) (by omega) d3
  rw[zNC hsub] at this
  exact this
 have e0:eqD (nD way) (.int 0)=decide (way=0):=by rw[zB8];rw[bS];simp
 have e1':eqD (nD way) (.int 1)=decide (way=1):=by rw[zB8];rw[bS];simp;omega
 refine⟨rfl,rfl,?_⟩
 rw[e0]
 by_cases w0:way=0
 ·rw[decide_eq_true w0,if_pos rfl]
  refine⟨l,r+1,rfl,hdr.st,by omega,fun ring G3 hring d3=>?_⟩
  ((try dsimp only [zw,zX,zn,xIf,wF,zr,gN,gNN,zP,yK,yw,za,zA,zG,zL,zq,yG,wG,zB,look,zV,zAs,zBA,zBM,zDf,zDg,zEQ,zBj,zBk,fII,yd,yN,fEq,xC,xB,zCr,zCq,zAn,zH5,zAm,bK,bA,bB,bn,bo,bu,bw,br,bv,Nat.reduceSub,Nat.reduceAdd,zH7,zH8,zH9,zIA,zAD,zBN,zBO,if_true,if_false,bp]) <;> (try simp only [zw,zX,zn,xIf,wF,zr,gN,gNN,zP,yK,yw,za,zA,zG,zL,zq,yG,wG,zB,look,zV,zAs,zBA,zBM,zDf,zDg,zEQ,zBj,zBk,fII,yd,yN,fEq,xC,xB,zCr,zCq,zAn,zH5,zAm,bK,bA,bB,bn,bo,bu,bw,br,bv,Nat.reduceSub,Nat.reduceAdd,zH7,zH8,zH9,zIA,zAD,zBN,zBO,if_true,if_false,bp]))
  refine⟨r+1,ring,rfl,hring,by omega,?_⟩
  exact(hdr.dr d3).fin fun G4 d4=>h _ _ G4 (by omega) (by omega) d4
 ·rw[decide_eq_false w0,if_neg (by simp)]
  refine⟨rfl,rfl,?_⟩
  rw[e1']
  by_cases w1:way=1
  ·rw[decide_eq_true w1,if_pos rfl]
   refine picked (k:=6) (i0:=0) (n:=r+1) rfl rfl rfl hs hne zF hdr (fun p G' Q hp hst hQ=>?_) fun s G' hsub hd=>?_
   ·show zCr _ _ _ _ _
    unfold prD
    ((try dsimp only [zw,zX,zn,xIf,wF,zr,gN,gNN,zP,yK,yw,za,zA,zG,zL,zq,yG,wG,zB,look,zV,zAs,zBA,zBM,zDf,zDg,zEQ,zBj,zBk,fII,yd,yN,fEq,xC,xB,zCr,zCq,zAn,zH5,zAm,bK,bA,bB,bn,bo,bu,bw,br,bv,Nat.reduceSub,Nat.reduceAdd,zH7,zH8,zH9,zIA,zAD,zBN,zBO,if_true,if_false,bp]) <;> (try simp only [zw,zX,zn,xIf,wF,zr,gN,gNN,zP,yK,yw,za,zA,zG,zL,zq,yG,wG,zB,look,zV,zAs,zBA,zBM,zDf,zDg,zEQ,zBj,zBk,fII,yd,yN,fEq,xC,xB,zCr,zCq,zAn,zH5,zAm,bK,bA,bB,bn,bo,bu,bw,br,bv,Nat.reduceSub,Nat.reduceAdd,zH7,zH8,zH9,zIA,zAD,zBN,zBO,if_true,if_false,bp]))
    refine⟨rfl,rfl,?_⟩
    cases eqD (nD p.2) (.int ((p.1:Int)+1)) with
    | true=>rw[if_pos rfl];exact hQ true G' (.refl hst)
    | false =>
     rw[if_neg (by simp)]
     refine⟨l,6,rfl,hst,by omega,by omega,fun x G3 hx d3=>?_⟩
     exact⟨rfl,rfl,hQ _ G3 d3⟩
   ·exact fin s G' hsub hd
  ·rw[decide_eq_false w1,if_neg (by simp)]
   intro a ha
   have hat:∃ far:Nat,atI [D.int 2,D.int 3,D.int 4] ((way:Int)-2)=some (nD far)∧0<far∧far≤4:=by
    have:way=2∨way=3∨way=4:=by omega
    rcases this with rfl | rfl | rfl
    ·exact⟨2,zCt _ _,by omega,by omega⟩
    ·exact⟨3,zG6 _ _ _,by omega,by omega⟩
    ·exact⟨4,zLL _ _ _ _,by omega,by omega⟩
   obtain⟨far,hat,hf1,hf2⟩:=hat
   refine zAT zF hat ?_
   have apl:pl≠a:=fun e=>by rw[← e,zF] at ha;cases ha
   have ha0:=hdr.own hs ha
   refine picked (k:=6) (i0:=0) (n:=r+1) rfl rfl rfl hs hne (by rw[zO apl];exact zF) (hdr.put hs ha0) (fun p G' Q hp hst hQ=>?_) fun s G' hsub hd=>?_
   ·show xB _ _ _ _
    ((try dsimp only [zw,zX,zn,xIf,wF,zr,gN,gNN,zP,yK,yw,za,zA,zG,zL,zq,yG,wG,zB,look,zV,zAs,zBA,zBM,zDf,zDg,zEQ,zBj,zBk,fII,yd,yN,fEq,xC,xB,zCr,zCq,zAn,zH5,zAm,bK,bA,bB,bn,bo,bu,bw,br,bv,Nat.reduceSub,Nat.reduceAdd,zH7,zH8,zH9,zIA,zAD,zBN,zBO,if_true,if_false,bp]) <;> (try simp only [zw,zX,zn,xIf,wF,zr,gN,gNN,zP,yK,yw,za,zA,zG,zL,zq,yG,wG,zB,look,zV,zAs,zBA,zBM,zDf,zDg,zEQ,zBj,zBk,fII,yd,yN,fEq,xC,xB,zCr,zCq,zAn,zH5,zAm,bK,bA,bB,bn,bo,bu,bw,br,bv,Nat.reduceSub,Nat.reduceAdd,zH7,zH8,zH9,zIA,zAD,zBN,zBO,if_true,if_false,bp]))
    refine⟨l,far,rfl,hst,by omega,by omega,fun x G3 hx d3=>?_⟩
    exact⟨rfl,rfl,hQ _ G3 d3⟩
   ·exact fin s G' hsub hd
section
variable {σ:S2} {G:Gp}
theorem zLT{x y:D}{ng:Bool}{G:Gp}{R:Q2}(hx:flat 8 x=true)(hy:flat 8 y=true)(q:R (.bl (if ng then !eqD x y else eqD x y)) G):fEq ng x y G R:=by
 cases x with
 | adr _=>simp[flat] at hx
 | _=>exact⟨hx,hy,q⟩
theorem zDj{ta tb:ze}{x y:D}{ng b:Bool}(ha:zi ta σ G x)(hb:zi tb σ G y)(hx:flat 8 x=true)(hy:flat 8 y=true)(e:(if ng then !eqD x y else eqD x y)=b):zi (zP (fEq ng) ta tb) σ G (.bl b) :=
 yi ha hb fun u0 u0 u0 q=>zLT hx hy (by rw[e];exact q)
theorem zIF{T:String}{t:ze}{d:D}{b:Bool}(h:zi t σ G d)(hd:∀ l,d≠.adr l)(hi:zLC d T=b):zi (zLD T t) σ G (.bl b):=fun G2 e R q=>h G2 e _ (by
 subst hi
 cases d with
 | adr l=>exact absurd rfl (hd l)
 | _=>exact q)
theorem zLU{t u:TT2}(h:PuT t σ G false)(h':PuT u σ G false):PuT (zCr t u) σ G false:=zPA h fun u0=>h'
theorem zI5{tc:TT2}{t u:wD}{E:yH}(h:PuT tc σ G false)(h':u E σ G):xIf tc t u E σ G:=h G (.refl G) _ (by rw[if_neg (by simp)];exact h')
theorem zPE{tc:TT2}{t u:wD}{E:yH}(h:PuT tc σ G true)(h':t E σ G):xIf tc t u E σ G:=h G (.refl G) _ (by rw[if_pos rfl];exact h')
theorem zDO{tc:TT2}{t u:wD}{E:yH}(h:PuT tc σ G false)(h':u E σ G):zX (xIf tc t zr) u E σ G:=h G (.refl G) _ (by rw[if_neg (by simp)];exact h')
theorem zDk{te:ze}{E:yH}{d:D}(h:zi te σ G d)(h':E.rt d G):zw te E σ G:=h G (.refl G) _ h'
theorem yB{te:ze}{g:TG2}{u:wD}{E:yH}(h:te σ G fun d G1=>g d σ G1 fun σ' G'=>u E σ' G'):zX (zn te g) u E σ G:=h
theorem zBS{sp:Sp2}{t:wW}{ds:List D}{R:Q2}(h:PuA t σ G ds)(h':sp ds G R):zL sp t σ G R:=h G (.refl G) _ h'
theorem zu{ta:ze}{tr:wW}{d:D}{R:List D→Gp→Prop}(h:zi ta σ G d)(h':tr σ G fun xs G2=>R (d::xs) G2):zA ta tr σ G R:=h G (.refl G) _ h'
theorem zAo{ta:ze}{tr:wW}{R:List D→Gp→Prop}(h:ta σ G fun d G1=>tr σ G1 fun xs G2=>R (d::xs) G2):zA ta tr σ G R:=h
theorem zIG{sp:Sp2}{t:wW}{R:Q2}(h:t σ G fun ds G1=>sp ds G1 R):zL sp t σ G R:=h
theorem zAB{tl:TL2}{ds:List D}{R:Q2}(h:PuL tl σ G ds)(h':∀ l,G.m l=none→R (.adr l) (zN G l ds)):za tl σ G R:=h G (.refl G) _ h'
theorem zBT{te:ze}{g:TG2}{u:wD}{E:yH}{d:D}(h:zi te σ G d)(h':g d σ G fun σ' G'=>u E σ' G'):zX (zn te g) u E σ G:=h G (.refl G) _ h'
theorem zJ4{tl:TL2}{l s:List Nat}(h:PuL tl σ G (l.map nD))(hl:l.length<64)(hp:s.Perm l)(hs:s.Pairwise (·≤·)):PuL (zAJ tl) σ G (s.map nD):=fun G2 e R q=>h G2 e _ (by
 have e1:l.map nD=(l.map fun(k:Nat)=>(k:Int)).map D.int:=by simp[nD]
 rw[e1,zCY]
 refine⟨by simpa using hl,fun ns' p1 p2=>?_⟩
 have:ns'=s.map fun(k:Nat)=>(k:Int):=by
  refine dg.eq_of_pairwise (fun a b u0 u0 h1 h2=>Int.le_antisymm h1 h2) p2 ?_ (p1.trans (hp.map _).symm)
  exact dF.map _ (fun a b h=>by omega) hs
 subst this
 rw[cH]
 exact q)
end
theorem zGF{n:Nat}{q:Nat×Nat→Bool}{i x:Nat}(hi:i<n):x∈lar n q i↔x<n∧wz q i x=true:=by
 unfold lar wz
 simp only[bQ,bV,zB7,dk,decide_eq_true_eq,Bool.or_eq_true]
 constructor
 ·rintro⟨⟨a,b⟩,⟨⟨⟨h1,h2⟩,h3⟩,h4⟩,rfl⟩
  dsimp only at h1 h2 h3 h4 ⊢
  rcases h4 with rfl | rfl
  ·have e:a+b-a=b:=by omega
   rw[e,df (by omega),Nat.max_eq_right (by omega)]
   exact⟨h2,by omega,h3⟩
  ·have e:a+b-b=a:=by omega
   rw[e,Nat.min_eq_right (by omega),Nat.max_eq_left (by omega)]
   exact⟨by omega,by omega,h3⟩
 ·rintro⟨h1,h2,h3⟩
  refine⟨(min i x,max i x),⟨⟨⟨by dsimp only;omega,by dsimp only;omega⟩,h3⟩,by dsimp only;omega⟩,by dsimp only;omega⟩
theorem zJ5{σ:S2}{G:Gp}{a:Addr}{ns:List Int}{c:Int}(hc:1≤c∧c≤100)(h:look σ 0=some (.adr a))(ha:Ls G a (ns.map D.int)) :
  ∃ m:Nat,PuI (iR1 (zA (zL zBA (zA (xC (.int 1)) (zA (zL zAs (zA (zL zk (zA (zB 0) zG)) (zA (xC (.int c)) zG))) zG))) zG)) σ G ((bE m).map nD):=by
 have h1:zi (zL zk (zA (zB 0) zG)) σ G (.int (ns.length:Int)):=wN (zJ (zE h) zT) fun G2 e R q=>⟨ns.map D.int,e.ls ha,by rw[bx];exact q⟩
 have h2:zi (zL zAs (zA (zL zk (zA (zB 0) zG)) (zA (xC (.int c)) zG))) σ G (.int (if c<(ns.length:Int) then c else ns.length)):=wN (zJ h1 (zJ yD zT)) fun u0 u0 u0 q=>q
 have h3:zi (zL zBA (zA (xC (.int 1)) (zA (zL zAs (zA (zL zk (zA (zB 0) zG)) (zA (xC (.int c)) zG))) zG))) σ G (.int (if (if c<(ns.length:Int) then c else ns.length)>1 then (if c<(ns.length:Int) then c else ns.length) else 1)):=wN (zJ yD (zJ h2 zT)) fun u0 u0 u0 q=>q
 have hb:(if (if c<(ns.length:Int) then c else ns.length)>1 then (if c<(ns.length:Int) then c else (ns.length:Int)) else 1)≤100∧1≤(if (if c<(ns.length:Int) then c else ns.length)>1 then (if c<(ns.length:Int) then c else (ns.length:Int)) else 1):=by
  split<;>split<;>omega
 generalize (if (if c<(ns.length:Int) then c else ns.length)>1 then (if c<(ns.length:Int) then c else (ns.length:Int)) else 1)=m at h3 hb
 refine⟨m.toNat,?_⟩
 have:(m.toNat:Int)=m:=by omega
 have q:=zDM (zJ h3 zT) (by omega)
 rw[← this,zAu] at q
 exact q
theorem zJ6{a:Addr}{G:Gp}{σ:S2}{k:Nat}{ns:List Int}{i j:Nat}(hs:look σ i=some (.adr a))(hk:look σ j=some (nD k))(ha:Ls G a (ns.map D.int)){R:Q2}(h:∀ l s b,G.m l=none→OkS s b→R (.adr l) (zN G l [.int s,.bl b])):za (zq yq (zA (zB i) (zA (zB j) zG))) σ G R:=by
 unfold za zq zA zG zB
 simp only[hs,hk]
 exact⟨a,ns,k,rfl,ha,fun s b o l hl=>h l s b hl o⟩
theorem zJ7{a:Addr}{G:Gp}{σ:S2}{k x:Nat}{ns:List Int}{i j:Nat}{u:wD}{E:yH}(hs:look σ i=some (.adr a))(hk:look σ j=some (nD k))(ha:Ls G a (ns.map D.int))(h:∀ l s b,G.m l=none→OkS s b→u E (σ.set x (some (.adr l))) (zN G l [.int s,.bl b])) :
  zX (zn (za (zq yq (zA (zB i) (zA (zB j) zG)))) (gN x)) u E σ G:=by
 have:=zJ6 (σ:=σ) (G:=G) (R:=fun d G1=>gN x d σ G1 (u E)) hs hk ha fun l s b hl ok=>h l s b hl ok
 exact this
theorem zIH{n:Nat}{q q':Nat×Nat→Bool}(h:∀ p∈prs n,q p=q' p):zS n q=zS n q':=by
 unfold zS
 rw[eE h]
theorem getD_mem{ps:List Nat}{i:Nat}(h:i<ps.length):ps.getD i 0∈ps:=by
 simp[cJ,h]
theorem zII{ps:List Nat}{i:Nat}(h:i<ps.length):atI (ps.map nD) (i:Int)=some (nD (ps.getD i 0)):=wB (by simp[cJ,h])
theorem zLV{σ:S2}{G:Gp}{t u:ze}{ps:List Nat}{i:Nat}(h:zi t σ G (.tup (ps.map nD)))(h':zi u σ G (nD i))(hi:i<ps.length):zi (zP yh t u) σ G (nD (ps.getD i 0)):=yi h h' fun u0 u0 u0 q=>by
 simp only[yh,zII hi];exact q
theorem zIJ{σ:S2}{G:Gp}{t:ze}{ds:List D}(h:zi t σ G (.tup ds)):zi (zL zk (zA t zG)) σ G (nD ds.length):=wN (zJ h zT) fun u0 u0 u0 q=>⟨ds,rfl,q⟩
theorem zJ8{G G':Gp}{d:D}{ds:List D}(h:zBh G d ds)(s:Sub G G'):zBh G' d ds:=by
 cases d with
 | tup _=>exact h
 | adr l=>exact Ls.sub h s
 | _=>exact h
noncomputable def zBo(l:List Nat):List Nat:=l.mergeSort fun a b=>decide (a≤b)
theorem wX(l:List Nat):(zBo l).Perm l:=List.mergeSort_perm _ _
theorem zCx(l:List Nat):(zBo l).Pairwise (·≤·):=by
 have:=List.pairwise_mergeSort (le:=fun a b:Nat=>decide (a≤b)) (fun a b c h1 h2=>by simp at *;omega) (fun a b=>by simp;omega) l
 exact this.imp fun h=>by simpa using h
theorem zIK{σ:S2}{G:Gp}{t:wW}{d:D}{l s:List Nat}(h:PuA t σ G [d])(hq:zBh G d (l.map nD))(hl:l.length<64)(hp:s.Perm l)(hs:s.Pairwise (·≤·)):PuL (zAW t) σ G (s.map nD):=fun G2 e R q=>h G2 e _ (by
 have e1:l.map nD=(l.map fun(k:Nat)=>(k:Int)).map D.int:=by simp[nD]
 refine⟨l.map fun(k:Nat)=>(k:Int),by rw[← e1];exact zJ8 hq e.sub,by simpa using hl,fun ns' p1 p2=>?_⟩
 have:ns'=s.map fun(k:Nat)=>(k:Int):=by
  refine dg.eq_of_pairwise (fun a b u0 u0 h1 h2=>Int.le_antisymm h1 h2) p2 ?_ (p1.trans (hp.map _).symm)
  exact dF.map _ (fun a b h=>by omega) hs
 subst this
 rw[cH]
 exact q)
theorem zEZ{σ:S2}{G:Gp}{t:wW}{d:D}{l:List Nat}(h:PuA t σ G [d])(hq:zBh G d (l.map nD))(hl:l.length<64):PuL (zAW t) σ G ((zBo l).map nD):=zIK h hq hl (wX l) (zCx l)
theorem zPF{r:List Nat}{i:Nat}(h:r.count i=2):∃ A B C,r=A++i::(B++i::C)∧i∉A∧i∉B∧i∉C:=by
 have h1:i∈r:=List.count_pos_iff.mp (by omega)
 obtain⟨A,r',rfl,hA⟩:=List.eq_append_cons_of_mem h1
 have cA:A.count i=0:=dB.mpr hA
 rw[ci,cA,List.count_cons_self] at h
 have h2:i∈r':=List.count_pos_iff.mp (by omega)
 obtain⟨B,C,rfl,hB⟩:=List.eq_append_cons_of_mem h2
 have cB:B.count i=0:=dB.mpr hB
 rw[ci,cB,List.count_cons_self] at h
 exact⟨A,B,C,rfl,hA,hB,dB.mp (by omega)⟩
theorem zBF{X:List Nat}{i j:Nat}(hX:i∉X):both X (i,j)=bL (X.count j) j:=by
 unfold both
 induction X with
 | nil=>rfl
 | cons a r ih =>
  have h1:a≠i:=fun e=>hX (by simp[e])
  have h2:=ih fun m=>hX (by simp[m])
  rw[dA,cE]
  by_cases hj:a=j
  ·subst hj
   simp only[decide_eq_false h1,decide_true,Bool.false_or,if_true,h2,beq_self_eq_true]
   rw[br]
  ·have:(a==j)=false:=by simpa using hj
   simp only[decide_eq_false h1,decide_eq_false hj,Bool.or_self,bp,if_false,this,Nat.add_zero]
   exact h2
theorem zG9{A B C:List Nat}{i j:Nat}(hij:i≠j)(hA:i∉A)(hB:i∉B)(hC:i∉C)(h:(A++i::(B++i::C)).count j=2):yA (A++i::(B++i::C)) (i,j)=decide ((i::B).count j=1):=by
 have hji:(i==j)=false:=by simpa using hij
 rw[ci,cE,ci,cE,hji] at h
 rw[cE,hji]
 simp only[bp,if_false,Nat.add_zero] at h ⊢
 have e:both (A++i::(B++i::C)) (i,j)=bL (A.count j) j++i::(bL (B.count j) j++i::bL (C.count j) j):=by
  have b1:∀ X Y:List Nat,both (X++Y) (i,j)=both X (i,j)++both Y (i,j):=fun X Y=>cZ _ _
  have b2:∀ Y:List Nat,both (i::Y) (i,j)=i::both Y (i,j):=fun Y=>by unfold both;simp
  rw[b1,b2,b1,b2,zBF hA,zBF hB,zBF hC]
 unfold yA
 rw[e]
 generalize A.count j=x at h ⊢
 generalize B.count j=y at h ⊢
 generalize C.count j=z at h ⊢
 have:(x=0∧y=0∧z=2)∨(x=0∧y=1∧z=1)∨(x=0∧y=2∧z=0)∨(x=1∧y=0∧z=1)∨(x=1∧y=1∧z=0)∨(x=2∧y=0∧z=0):=by omega
 have hji':j≠i:=Ne.symm hij
 rcases this with ⟨rfl,rfl,rfl⟩ | ⟨rfl,rfl,rfl⟩ | ⟨rfl,rfl,rfl⟩ | ⟨rfl,rfl,rfl⟩ | ⟨rfl,rfl,rfl⟩ | ⟨rfl,rfl,rfl⟩<;>simp[br,hij,hji']
theorem zDP(i j:Nat):eqD (nD i) (nD j)=decide (i=j):=by rw[zB8,bS];simp;omega
theorem zNE{l:List D}{a b:Nat}(h:a≤b)(hb:b≤l.length):L3.cutD l (some (a:Int)) (some (b:Int))=(l.drop a).take (b-a):=by
 unfold L3.cutD
 rw[HT.zB4,HT.zB4,df (show a≤l.length by omega),df hb]
theorem zLW{σ:S2}{G:Gp}{t u v:ze}{xs:List D}{i j:Int}(h:zi t σ G (.tup xs))(h1:zi u σ G (.int i))(h2:zi v σ G (.int j)):zi (wQ t (yO u) (yO v)) σ G (.tup (L3.cutD xs (some i) (some j))):=fun G2 e R q=>h G2 e _ (h1 G2 e _ (h2 G2 e _ q))
theorem zNF{σ:S2}{G:Gp}{t:TL2}{R:List D→(Gp→Prop)→Gp→Prop}(h:t σ G fun ds G1=>∀ a,G1.m a=none→R ds (fun G=>Ls G a ds) (zN G1 a ds)):iF t σ G R:=h
theorem zAU{σ:S2}{G:Gp}{t:wW}{R:List D→Gp→Prop}(h:t σ G fun ds G1=>ds.length≤sizeLine∧R ds G1):yw t σ G R:=h
theorem yI{σ:S2}{G:Gp}{R:List D→Gp→Prop}(h:R [] G):zG σ G R:=h
theorem zJ9{ds:List D}{gd:Gp→Prop}{G1:Gp}{g:TG2}{tb:wD}{E:yH}{σ:S2}(hgd:gd G1)
  (hb:∀ x∈ds,g x σ G1 fun σ2 G2=>tb { E with nx:=fun σ' G'=>zAI σ σ'∧Sub G1 G',ct:=fun σ' G'=>zAI σ σ'∧Sub G1 G',bk:=E.nx } σ2 G2) (h:E.nx σ G1):zLJ ds gd G1 g tb E σ:=by
 refine⟨fun i σ' G'=>σ'=σ∧G'=G1,⟨rfl,rfl⟩,?_,?_,?_⟩
 ·rintro i σ' G' u0 ⟨rfl,rfl⟩
  exact hgd
 ·rintro i x σ' G' hi ⟨rfl,rfl⟩
  rw[zI2]
  exact hb x (cf hi)
 ·rintro σ' G' ⟨rfl,rfl⟩
  exact h
theorem zGG{σ:S2}{G:Gp}{t u:ze}{xs ys:List D}(h:zi t σ G (.tup xs))(h':zi u σ G (.tup ys))(hl:xs.length+ys.length≤1000000):zi (zP yN t u) σ G (.tup (xs++ys)):=yi h h' fun u0 u0 u0 q=>⟨hl,q⟩
noncomputable def ltP(a b:Nat×Nat):Prop:=a.1<b.1∨a.1=b.1∧a.2<b.2
theorem zLX(n:Nat):(prs n).Pairwise ltP:=by
 unfold prs
 rw[List.pairwise_flatMap]
 refine⟨fun i u0=>?_,?_⟩
 ·rw[List.pairwise_map]
  exact eD.imp fun {a b} h=>.inr ⟨rfl,by dsimp only;omega⟩
 ·refine eD.imp fun {a b} h x hx y hy=>?_
  obtain⟨u0,u0,rfl⟩:=bQ.mp hx
  obtain⟨u0,u0,rfl⟩:=bQ.mp hy
  exact .inl h
end K
namespace HT
section
variable {prog:Program} {w:World} {A:Around} {E:Value→Shared→Prop} {s:Shared}
end
end HT
namespace L3
open L2
section
variable {X:Cx} {a b c e o:Expr} {es:List Expr} {pos p:Pos} {ta tb te:ze}
end
section
variable {X:Cx} {a b c e o:Expr} {es:List Expr} {pos p:Pos} {ta tb te:ze} {tl:TL2}
theorem zCa(bt:Nat→Nat→Bool):∀ n,argBest bt n≤n
 | 0=>bF _
 | n+1=>by
  unfold argBest
  have:=zCa bt n
  split<;>omega
noncomputable def zFh(K:PySem.W.Frag)(H:Hp)(as:List Addr)(nss:List (List Int)):Prop:=as.length=nss.length∧∀(i:Nat) a ns,as[i]?=some a→nss[i]?=some ns→SqT K H a (ns.map V.int)
theorem zFh.at{pins:List (Addr×Obj)}{s:Shared}{σ:L2.St}{H:Hp}{as:List Addr}{nss:List (List Int)}(I:zW X pins σ H s)(h:zFh X.K H as nss):HT.zBP s.heap as nss:=by
 refine⟨h.1,fun i a ns h1 h2=>?_⟩
 obtain⟨its,rv,ht,u0⟩:=I.tuple (h.2 i a ns h1 h2)
 exact⟨its,ht,intsAre_of rv⟩
noncomputable def tupI(ns:List Int):D:=.tup (ns.map D.int)
theorem zLY{K:PySem.W.Frag}{H:Hp}{ns:List Int}{v:V}(h:zQ K H (tupI ns) v):∃ a,v=.ref a∧SqT K H a (ns.map V.int):=by
 unfold tupI zQ at h
 obtain⟨a,us,rfl,s1,t1⟩:=h
 have:=t1.ints_inv
 subst this
 exact⟨a,rfl,s1⟩
theorem zHA{K:PySem.W.Frag}{H:Hp}{ns:List Int}{a:Addr}(h:SqT K H a (ns.map V.int)):zQ K H (tupI ns) (.ref a):=by
 unfold tupI zQ
 exact⟨a,_,rfl,h,Dens.ints ns⟩
theorem zFi{K:PySem.W.Frag}{H:Hp}:∀ {nss:List (List Int)} {vs:List V},Dens K H (nss.map tupI) vs→∃ as,vs=as.map V.ref∧zFh K H as nss
 | [],vs,h=>by unfold Dens at h;exact⟨[],h,rfl,fun i a ns h1 h2=>by simp at h1⟩
 | ns::r,vs,h=>by
  rw[cD] at h
  unfold Dens at h
  obtain⟨x,y,rfl,h1,h2⟩:=h
  obtain⟨a,rfl,s1⟩:=zLY h1
  obtain⟨as,rfl,ha⟩:=zFi h2
  refine⟨a::as,rfl,by simp[ha.1],fun i a' ns' h1 h2=>?_⟩
  cases i with
  | zero=>simp at h1 h2;subst h1 h2;exact s1
  | succ i=>exact ha.2 i a' ns' (by simpa using h1) (by simpa using h2)
end
end L3
namespace HT
open PySem PyProof.Rows
theorem zLZ(A:Around)(s:Shared)(a:Int)(t:Tok)(c:Int)(u:Tok)(prog:Program)(w:World)(E:Value→Shared→Prop)(Q:Value→Shared→Prop)(h:Q (.bool (decide (c<a))) s) :
  wpAny (model prog w) A (richCompare .Gt (.int a t) (.int c u)) Q E s :=
 (PyProof.Rows.gt_int h:wpAny (model prog w) A (compareOp .Gt (.int a t) (.int c u)) Q E s)
section
open PySem.SeqAt
open PySem.MeetsSeq PySem.MeetsSeq2 PySem.MeetsSeq3
theorem zFE(l b:Addr)(items items2:Array Value)(n n2:Nat)(dd dd2:Option Addr)(sl sl2:Array (Option Value))(ns ms:List Int)(hi:IntsAre items.toList ns)(hj:IntsAre items2.toList ms) :
  Meets (Builtin.«tuple.__gt__» ⟨[.ref l,.ref b],[]⟩)
   (fun u0 R s=>s.heap.get? l=some { cls:=.type "tuple",dict:=dd,data:=.seq items n,slots:=sl }∧s.heap.get? b=some { cls:=.type "tuple",dict:=dd2,data:=.seq items2 n2,slots:=sl2 } ∧
    R (.ok (.ret (.bool (lexLt ms ns)))) s) :=
 .of_wp fun prog w A R s h=>by
  obtain⟨hp,g,d,tk,os⟩:=s;obtain⟨hl,hb,h⟩:=h
  have f2:=AutoSeq1.sub_tuple_tuple
  have z1:items.size=ns.length:=by rw[← hi.length];simp
  have z2:items2.size=ms.length:=by rw[← hj.length];simp
  wp_walk using wpAny_loadPart' hl,wpAny_loadPart' hb,wpAny_forIn_list _ (fun rest b s'=>b.1=none∧s'=⟨hp,g,d,tk,os⟩∧∃(vs ws:List Value) (ns' ms':List Int),rest=vs.zip ws ∧
   IntsAre vs ns'∧IntsAre ws ms'∧ns'.length+items2.size=ms'.length+items.size∧R (.ok (.ret (.bool (lexLt ms' ns')))) ⟨hp,g,d,tk,os⟩) _
  case turn =>
   rintro⟨y,x⟩ rest b s' ⟨hb',rfl,vs,ws,ns',ms',hz,hvi,hwi,hlen,hR⟩
   cases hvi with
   | nil=>rw[List.zip_nil_left] at hz;cases hz
   | cons a t hvi' =>
    cases hwi with
    | nil=>rw[List.zip_nil_right] at hz;cases hz
    | cons c u hwi' =>
     rw[List.zip_cons_cons] at hz
     injection hz with hyx hrest
     injection hyx with hy hx
     subst hy hx
     rw[zHr] at hR
     simp only[bu] at hlen
     obtain⟨e,he,hiff⟩:=zKt A.in1 ⟨hp,g,d,tk,os⟩ a t c u
     refine bq (he prog w _ _ ?_)
     cases e with
     | true =>
      rw[if_pos (hiff.mp rfl).symm] at hR
      wp_walk
      exact⟨rfl,rfl,_,_,_,_,hrest,hvi',hwi',by omega,hR⟩
     | false =>
      rw[if_neg (fun q=>absurd (hiff.mpr q.symm) cK)] at hR
      have hri:=zLZ A.in1 ⟨hp,g,d,tk,os⟩ a t c u prog w
      wp_walk using hri
      exact⟨_,rfl,by simpa using hR⟩
  case fin =>
   rintro⟨b1,b2⟩ s' ⟨hb',rfl,vs,ws,ns',ms',hz,hvi,hwi,hlen,hR⟩
   simp only at hb'
   subst hb'
   have hv:lexLt ms' ns'=decide (items2.size<items.size):=by
    cases hvi with
    | nil =>
     cases hwi with
     | nil =>
      simp only[bw] at hlen
      rw[zE9]
      exact(decide_eq_false (by omega)).symm
     | cons c u hw =>
      simp only[bw,bu] at hlen
      rw[zEE]
      exact(decide_eq_false (by omega)).symm
    | cons a t hv =>
     cases hwi with
     | nil =>
      simp only[bw,bu] at hlen
      rw[zED]
      exact(decide_eq_true (by omega)).symm
     | cons c u hw =>
      rw[List.zip_cons_cons] at hz
      cases hz
   rw[hv] at hR
   wp_walk
   exact⟨_,rfl,by simpa[Builtin.Tuple.tupleCompareSizes] using hR⟩
  case h =>
   exact⟨rfl,rfl,items.toList,items2.toList,ns,ms,rfl,hi,hj,by omega,h⟩
end
section
variable {prog:Program} {w:World} {A:Around} {E:Value→Shared→Prop} {s:Shared}
theorem zIL{l b:Addr}{items items2:Array Value}{ns ms:List Int}{Q:Value→Shared→Prop}(hl:IsTup s.heap l items)(hb:IsTup s.heap b items2)(hi:IntsAre items.toList ns)(hj:IntsAre items2.toList ms)
  (hu:A.units<cLine) (h:Q (.bool (lexLt ms ns)) s):wpAny (model prog w) A (compareOp .Gt (.ref l) (.ref b)) Q E s:=by
 obtain⟨⟨cls,dd,data,sl⟩,ho,hc,n,hd⟩:=id hl
 obtain⟨⟨cls2,dd2,data2,sl2⟩,ho2,hc2,n2,hd2⟩:=id hb
 simp only at hc hd hc2 hd2
 subst hc hd hc2 hd2
 exact richCompare_meets_room (op:=.Gt) ⟨_,ho,rfl⟩ ⟨_,ho2,rfl⟩ PySem.F.slot_tuple_gt PySem.F.entry_tuple_gt (PySem.F.args_tuple_gt_2 _ _) (zFE l b items items2 n n2 dd dd2 sl sl2 ns ms hi hj)
  ⟨ho,ho2,show Value.bool (lexLt ms ns)≠Value.notImplemented∧Q (.bool (lexLt ms ns)) s from⟨(fun x=>nomatch x),h⟩⟩ hu
end
end HT
namespace L3
open L2
section
variable {X:Cx} {a b c e o:Expr} {es:List Expr} {pos p:Pos} {ta tb te:ze}
noncomputable def zKA(t:ze):ze:=fun σ G R=>t σ G fun d G1=>match d with | .int i=>R (.int (-i)) G1 | _=>False
theorem zQB(ha:E2 X a ta):E2 X (.UnaryOp .USub a pos) (zKA ta):=by
 refine PE.mono (zPo zOh ha) ?_
 rintro σ1 H Q ⟨σ,G,R,r,q,k⟩
 refine⟨σ,G,_,r,q,fun d G1 q1 v H1 g1 r1 d1=>?_⟩
 cases d with
 | int i =>
  unfold zQ at d1
  subst d1
  exact⟨i,rfl,k _ G1 q1 _ H1 g1 r1 (by unfold zQ;rfl)⟩
 | _=>exact q1.elim
noncomputable def zAw(t:ze)(tl th:TO2):TL2:=fun σ G R=>t σ G fun d G1=>tl σ G1 fun lo G2=>th σ G2 fun hi G3=>match d with | .adr l=>∃ ds,Ls G3 l ds∧R (cutD ds lo hi) G3 | _=>False
theorem zGH{lo hi:Option Expr}{tl th:TO2}{p2:Pos}(he:E2 X e te)(hl:O2 X lo tl)(hu:O2 X hi th):F2 X (.Subscript e (.Slice lo hi none p2) pos) (zAw te tl th):=by
 refine PE.mono (zGm zMn he hl hu) ?_
 rintro σ1 H Q ⟨σ,G,R,r,q,k⟩
 refine⟨σ,G,_,r,q,fun d G1 q1 v H1 g1 r1 d1=>⟨σ,G1,_,r.to g1 r1,q1,fun o1 G2 q2 H2 g2 r2=>⟨σ,G2,_,r.to (g1.trans g2) r2,q2,fun o2 G3 q3 H3 g3 r3=>?_⟩⟩⟩
 cases d with
 | adr l =>
  obtain⟨ds,ls,q3⟩:=q3
  obtain⟨xs,s1,t1⟩:=r3.sq ls
  unfold zQ at d1
  subst d1
  have hl:=t1.length
  refine⟨l,xs,rfl,s1,fun p hp=>k _ G3 q3 p _ _ (((g1.trans g2).trans g3).trans (.fresh hp)) (r3.fresh hp) (r3.free hp) zo ?_⟩
  unfold cutD zGn
  rw[hl]
  exact((t1.drop).take).grow (.fresh hp)
 | _=>exact q3.elim
end
end L3
namespace HT
section
variable {prog:Program} {w:World} {A:Around} {E:Value→Shared→Prop} {s:Shared}
end
end HT
namespace L3
open L2
section
variable {X:Cx} {a b c e o:Expr} {es:List Expr} {pos p:Pos} {ta tb te:ze}
theorem zY.rep{xs:List V}{us:List Value}(r:zY xs us):∀ n:Nat,zY (bL n xs).flatten (bL n us).flatten
 | 0=>.nil
 | n+1=>by
  rw[br,br,dq,dq]
  exact r.append (zY.rep r n)
end
end L3
namespace HT
section
variable {prog:Program} {w:World} {A:Around} {E:Value→Shared→Prop} {s:Shared}
end
end HT
namespace L3
open L2
section
variable {X:Cx} {a b c e o:Expr} {es:List Expr} {pos p:Pos} {ta tb te:ze}
end
end L3
namespace HZ
structure Zs (prog:Program) (w:World) (i l:Addr) (xs:Array Value) where
 It:Nat→Heap→Prop
 Sq:Heap→Prop
 item:∀(A:Around) (E:Value→Shared→Prop) (s:Shared) (k:Nat) (x:Value) (Q:Value→Shared→Prop),It k s.heap→Sq s.heap→xs[k]?=some x→(∀ h',It (k+1) h'→dP i s.heap h'→Q x { s with heap:=h' })→wpAny (model prog w) A (Builtin.SmallTypes.nextOf (.ref i)) Q E s
 fin:∀(A:Around) (E:Value→Shared→Prop) (s:Shared) (k:Nat) (Q:Value→Shared→Prop),A.handled=none→It k s.heap→Sq s.heap→xs[k]?=none→(∀ h' e,Heap.ExtBut i s.heap h'→(∃ o,h'.get? e=some o∧o.cls=.type "StopIteration")→E (.ref e) { s with heap:=h' })→wpAny (model prog w) A (Builtin.SmallTypes.nextOf (.ref i)) Q E s
 itAt:∀ {k:Nat} {h h':Heap},It k h→(∀ o,h.get? i=some o→h'.get? i=some o)→It k h'
 sqAt:∀ {h h':Heap},Sq h→(∀ o,h.get? l=some o→h'.get? l=some o)→Sq h'
 itHas:∀ {k:Nat} {h:Heap},It k h→∃ o,h.get? i=some o∧∀ v,o.data≠.cell v
theorem Zs.lt{prog:Program}{w:World}{i l:Addr}{xs:Array Value}(Z:Zs prog w i l xs){k:Nat}{h:Heap}(x:Z.It k h):i<h.objs.size:=let ⟨_,e,_⟩:=Z.itHas x;bP e
section
variable {prog:Program} {w:World} {A:Around} {E:Value→Shared→Prop} {s:Shared}
end
section
variable {prog:Program} {w:World} {A:Around} {E:Value→Shared→Prop} {s:Shared} {z a b i j l m:Addr} {xs ys:Array Value} (Z1:Zs prog w i l xs) (Z2:Zs prog w j m ys)
end
end HZ
namespace L2
open HZ
end L2
namespace L3
open L2
end L3
namespace HZ
section
variable {prog:Program} {w:World} {A:Around} {E:Value→Shared→Prop}
end
end HZ
namespace L2
open HZ
variable {X:Cx} {pos:Pos}
end L2
namespace L3
open L2
section
variable {X:Cx} {e:Expr} {te:ze} {pos p p2 p3 p4:Pos}
theorem zQC{body:List Stmt}:Ps2 X body (fun u0 u0 u0=>False):=by
 rintro pins s σ H E I ⟨σ',G,D2,r,q,k⟩
 exact q.elim
end
end L3
namespace HS
structure SB (a0:Array Keyed) (kd:SortKind) (z:SortSt):Prop where
 pm:(arrOf z).Perm a0
 kd:kindOf z=kd
 fl:failedOf z=none
 pe:pendingOf z=#[]
theorem SB.sz{a0:Array Keyed}{kd:SortKind}{z:SortSt}(b:SB a0 kd z):(arrOf z).size=a0.size:=b.pm.size_eq
section
variable {prog:Program} {w:World} {A:Around} {E:Value→Shared→Prop} {s:Shared} {a0:Array Keyed} {kd:SortKind} {κ:KeyKind}
noncomputable abbrev Ky(κ:KeyKind)(z:SortSt)(i:Nat):κ.α:=KK κ (arrOf z) i
variable (L:∀(z:SortSt) (i j:Nat) (Q:Option Bool→SortSt→Prop),SB a0 kd z→i<a0.size→j<a0.size→Q (some (κ.blt (Ky κ z i) (Ky κ z j))) z→wpS (model prog w) A E s (ltAt' i j) Q z)
include L
omit L in
end
end HS
namespace HM
open HS
noncomputable abbrev SM:=StateT SortSt Sem
noncomputable def zAY:Bool→Keyed→Array Keyed→Nat→Nat→Nat→SM (Option Nat):=sortPriv% PySem.Builtin.gallop
noncomputable def zHB:Array Keyed→Array Keyed→SM (Array Keyed):=sortPriv% PySem.Builtin.mergeLo
noncomputable def zHC:Array Keyed→Array Keyed→SM (Array Keyed):=sortPriv% PySem.Builtin.mergeHi
noncomputable def zHD:Nat→SM Unit:=sortPriv% PySem.Builtin.setMinGallop
noncomputable def ky(κ:KeyKind)(p:Keyed):κ.α:=(κ.keyOf p.1).getD κ.dflt
noncomputable def byd(left:Bool)(key:Keyed)(arr:Array Keyed)(base i:Nat):SM (Option Bool):=do
 let x ← elem' arr (base+i)
 if left=true then lt' x key
 else do
  let r ← lt' key x
  pure (r.map fun c=>!c)
section
variable {prog:Program} {w:World} {A:Around} {E:Value→Shared→Prop} {s:Shared} {kd:SortKind} {κ:KeyKind} {P:Keyed→Prop}
theorem zZ{arr:Array Keyed}{i:Nat}{p:Keyed}{Q:Keyed→SortSt→Prop}{z:SortSt}(h:arr[i]?=some p)(q:Q p z):wpS (model prog w) A E s (elem' arr i) Q z:=by
 rw[elem'_eq,h]
 exact bG q
variable (L:∀(z:SortSt) (x y:Keyed) (Q:Option Bool→SortSt→Prop),kindOf z=kd→P x→P y→Q (some (κ.blt (ky κ x) (ky κ y))) z→wpS (model prog w) A E s (lt' x y) Q z)
include L
theorem zPG{left:Bool}{key:Keyed}{arr:Array Keyed}{base i:Nat}{z:SortSt}{Q:Option Bool→SortSt→Prop}(hz:kindOf z=kd)(hk:P key)(ha:∀ p∈arr,P p)(hi:base+i<arr.size)
  (h:Q (some (if left=true then κ.blt (ky κ arr[base+i]) (ky κ key) else !κ.blt (ky κ key) (ky κ arr[base+i]))) z):wpS (model prog w) A E s (byd left key arr base i) Q z:=by
 unfold byd
 refine bD (zZ (getElem?_pos arr _ hi) ?_)
 cases left with
 | true =>
  simp only[if_true] at h ⊢
  exact L _ _ _ _ hz (ha _ (ck hi)) hk h
 | false =>
  simp only[bp,if_false] at h ⊢
  exact bD (L _ _ _ _ hz hk (ha _ (ck hi)) (bG h))
structure Turn (B:Nat→Bool) (n r:Nat):Prop where
 le:r≤n
 yes:∀ i,i<r→B i=true
 no:∀ i,r≤i→i<n→B i=false
theorem wg{left:Bool}{key:Keyed}{arr:Array Keyed}{base n hint:Nat}{z:SortSt}{Q:Option Nat→SortSt→Prop}{B:Nat→Bool}(hz:kindOf z=kd)(hk:P key)(ha:∀ p∈arr,P p)(hb:base+n≤arr.size)(hh:hint<n)
  (hB:∀ i,(hi:base+i<arr.size)→i<n→(if left=true then κ.blt (ky κ arr[base+i]) (ky κ key) else !κ.blt (ky κ key) (ky κ arr[base+i]))=B i)
  (mo:∀ i j,i≤j→j<n→B j=true→B i=true) (h:∀ r,Turn B n r→Q (some r) z):wpS (model prog w) A E s (zAY left key arr base n hint) Q z:=by
 have bd:∀ {i:Nat} {Q:Option Bool→SortSt→Prop},i<n→Q (some (B i)) z→wpS (model prog w) A E s (byd left key arr base i) Q z:=fun {i Q} hi q=>zPG L hz hk ha (by omega) (by rw[hB i (by omega) hi];exact q)
 refine bD (m:=byd left key arr base hint) (bd hh ?_)
 dsimp only
 cases hr:B hint with
 | true =>
  rw[if_pos rfl]
  refine bD (dc (cu (β:=Option (Option Nat)×Nat×Nat) (I:=fun x c z'=>z'=z∧c.1=none∧c.2.1<c.2.2∧x+1≤c.2.2∧hint+c.2.1<n∧B (hint+c.2.1)=true) (Q:=fun c z'=>z'=z∧c.1=none∧c.2.1<c.2.2∧hint+c.2.1<n∧B (hint+c.2.1)=true∧(c.2.2≥n-hint∨B (hint+c.2.2)=false)) (fun x c z' x1 x2 ⟨e1,e2,q1,q2,q3,q4⟩=>?stp) (fun c z' ⟨e1,e2,q1,q2,q3,q4⟩=>⟨e1,e2,q1,q3,q4,.inl (by omega)⟩) ⟨rfl,rfl,Nat.zero_lt_one,bF _,hh,hr⟩) fun c z' ⟨e1,e2,q1,q3,q4,q5⟩=>?pst)
  case stp =>
   obtain⟨c0,la,of⟩:=c
   subst e1
   dsimp only at e2 q1 q2 q3 q4 ⊢
   by_cases g:of≥n-hint
   ·rw[if_pos g]
    exact bG ⟨rfl,rfl,q1,q3,q4,.inl g⟩
   ·rw[if_neg g]
    refine bD (m:=byd left key arr base (hint+of)) (bd (by omega) ?_)
    dsimp only
    cases e:B (hint+of) with
    | true=>exact bG ⟨rfl,rfl,by dsimp only;omega,by dsimp only;omega,by dsimp only;omega,e⟩
    | false=>exact bG ⟨rfl,rfl,q1,q3,q4,.inr e⟩
  case pst =>
   obtain⟨c0,la,of⟩:=c
   subst e1
   dsimp only at e2 q1 q3 q4 q5 ⊢
   rw[e2]
   dsimp only
   have y1:∀ i,i<hint+la+1→B i=true:=fun i hi=>by
    exact mo i (hint+la) (by omega) q3 q4
   have y2:∀ i,hint+min of (n-hint)≤i→i<n→B i=false:=fun i i1 i2=>by
    rcases q5 with q5 | q5
    ·omega
    ·cases e':B i with
     | false=>rfl
     | true=>rw[mo _ i (by omega) i2 e'] at q5;cases q5
   have l1:hint+la+1≤hint+min of (n-hint):=by omega
   have l2:hint+min of (n-hint)≤n:=by omega
   refine bD (dc (cu (β:=Option (Option Nat)×Nat×Nat) (I:=fun x c z''=>z''=z'∧c.1=none∧c.2.1≤c.2.2∧c.2.2≤n∧c.2.2-c.2.1≤n-x∧(∀ i,i<c.2.1→B i=true)∧∀ i,c.2.2≤i→i<n→B i=false) (Q:=fun c z''=>z''=z'∧c.1=none∧Turn B n c.2.2) (fun x c z'' x1 x2 ⟨e1,e2,q1,q2,q3,q4,q5⟩=>?st2) (fun c z'' ⟨e1,e2,q1,q2,q3,q4,q5⟩=>⟨e1,e2,q2,fun i hi'=>q4 i (by omega),q5⟩) ⟨rfl,rfl,l1,l2,by dsimp only;omega,y1,y2⟩) fun c z'' ⟨e1,e2,e3⟩=>?ps2)
   case st2 =>
    clear y1 y2 l1 l2
    obtain⟨c0,lo,hi⟩:=c
    subst e1
    dsimp only at e2 q1 q2 q3 q4 q5 ⊢
    by_cases g:lo≥hi
    ·rw[if_pos g]
     exact bG ⟨rfl,rfl,q2,fun i hi'=>q4 i (by dsimp only at hi';omega),q5⟩
    ·rw[if_neg g]
     refine bD (m:=byd left key arr base (lo+(hi-lo) / 2)) (bd (by omega) ?_)
     dsimp only
     cases e:B (lo+(hi-lo) / 2) with
     | true=>exact bG ⟨rfl,rfl,by dsimp only;omega,q2,by dsimp only;omega,fun i hi'=>mo i (lo+(hi-lo) / 2) (by dsimp only at hi';omega) (by omega) e,q5⟩
     | false =>
      refine bG ⟨rfl,rfl,by dsimp only;omega,by dsimp only;omega,by dsimp only;omega,q4,fun i i1 i2=>?_⟩
      dsimp only at i1
      cases e':B i with
      | false=>rfl
      | true=>rw[mo _ i i1 i2 e'] at e;cases e
   case ps2 =>
    obtain⟨c0,lo,hi⟩:=c
    dsimp only at e2 e3 ⊢
    subst e1
    rw[e2]
    exact bG (h _ e3)
 | false =>
  rw[if_neg (by simp)]
  refine bD (dc (cu (β:=Option (Option Nat)×Nat×Nat) (I:=fun x c z'=>z'=z∧c.1=none∧c.2.1<c.2.2∧x+1≤c.2.2∧c.2.1≤hint∧B (hint-c.2.1)=false) (Q:=fun c z'=>z'=z∧c.1=none∧c.2.1<c.2.2∧c.2.1≤hint∧B (hint-c.2.1)=false∧(c.2.2≥hint+1∨(c.2.2≤hint∧B (hint-c.2.2)=true))) (fun x c z' x1 x2 ⟨e1,e2,q1,q2,q3,q4⟩=>?stp) (fun c z' ⟨e1,e2,q1,q2,q3,q4⟩=>⟨e1,e2,q1,q3,q4,.inl (by omega)⟩) ⟨rfl,rfl,Nat.zero_lt_one,bF _,dO _,hr⟩) fun c z' ⟨e1,e2,q1,q3,q4,q5⟩=>?pst)
  case stp =>
   obtain⟨c0,la,of⟩:=c
   subst e1
   dsimp only at e2 q1 q2 q3 q4 ⊢
   by_cases g:of≥hint+1
   ·rw[if_pos g]
    exact bG ⟨rfl,rfl,q1,q3,q4,.inl g⟩
   ·rw[if_neg g]
    refine bD (m:=byd left key arr base (hint-of)) (bd (by omega) ?_)
    dsimp only
    cases e:B (hint-of) with
    | true=>exact bG ⟨rfl,rfl,q1,q3,q4,.inr ⟨by dsimp only;omega,e⟩⟩
    | false=>exact bG ⟨rfl,rfl,by dsimp only;omega,by dsimp only;omega,by dsimp only;omega,e⟩
  case pst =>
   obtain⟨c0,la,of⟩:=c
   subst e1
   dsimp only at e2 q1 q3 q4 q5 ⊢
   rw[e2]
   dsimp only
   have y1:∀ i,i<hint+1-min of (hint+1)→B i=true:=fun i hi=>by
    rcases q5 with q5 | ⟨q5,q6⟩
    ·omega
    ·exact mo i (hint-of) (by omega) (by omega) q6
   have y2:∀ i,hint-la≤i→i<n→B i=false:=fun i i1 i2=>by
    cases e':B i with
    | false=>rfl
    | true=>rw[mo _ i i1 i2 e'] at q4;cases q4
   have l1:hint+1-min of (hint+1)≤hint-la:=by omega
   have l2:hint-la≤n:=by omega
   refine bD (dc (cu (β:=Option (Option Nat)×Nat×Nat) (I:=fun x c z''=>z''=z'∧c.1=none∧c.2.1≤c.2.2∧c.2.2≤n∧c.2.2-c.2.1≤n-x∧(∀ i,i<c.2.1→B i=true)∧∀ i,c.2.2≤i→i<n→B i=false) (Q:=fun c z''=>z''=z'∧c.1=none∧Turn B n c.2.2) (fun x c z'' x1 x2 ⟨e1,e2,q1,q2,q3,q4,q5⟩=>?st2) (fun c z'' ⟨e1,e2,q1,q2,q3,q4,q5⟩=>⟨e1,e2,q2,fun i hi'=>q4 i (by omega),q5⟩) ⟨rfl,rfl,l1,l2,by dsimp only;omega,y1,y2⟩) fun c z'' ⟨e1,e2,e3⟩=>?ps2)
   case st2 =>
    clear y1 y2 l1 l2
    obtain⟨c0,lo,hi⟩:=c
    subst e1
    dsimp only at e2 q1 q2 q3 q4 q5 ⊢
    by_cases g:lo≥hi
    ·rw[if_pos g]
     exact bG ⟨rfl,rfl,q2,fun i hi'=>q4 i (by dsimp only at hi';omega),q5⟩
    ·rw[if_neg g]
     refine bD (m:=byd left key arr base (lo+(hi-lo) / 2)) (bd (by omega) ?_)
     dsimp only
     cases e:B (lo+(hi-lo) / 2) with
     | true=>exact bG ⟨rfl,rfl,by dsimp only;omega,q2,by dsimp only;omega,fun i hi'=>mo i (lo+(hi-lo) / 2) (by dsimp only at hi';omega) (by omega) e,q5⟩
     | false =>
      refine bG ⟨rfl,rfl,by dsimp only;omega,by dsimp only;omega,by dsimp only;omega,q4,fun i i1 i2=>?_⟩
      dsimp only at i1
      cases e':B i with
      | false=>rfl
      | true=>rw[mo _ i i1 i2 e'] at e;cases e
   case ps2 =>
    obtain⟨c0,lo,hi⟩:=c
    dsimp only at e2 e3 ⊢
    subst e1
    rw[e2]
    exact bG (h _ e3)
end
section
variable {κ:KeyKind}
theorem zf{xs:Array Keyed}{i:Nat}(h:i<xs.size):KK κ xs i=ky κ xs[i]:=by
 unfold KK ky
 rw[getElem?_pos xs i h]
noncomputable def Srt(κ:KeyKind)(l:List Keyed):Prop:=l.Pairwise fun x y=>κ.kle (ky κ x) (ky κ y)
structure MO (κ:KeyKind) (a b r:Array Keyed):Prop where
 sr:Srt κ r.toList
 pm:r.toList.Perm (a.toList++b.toList)
structure MI (κ:KeyKind) (a b out:Array Keyed) (ia ib:Nat):Prop where
 sr:Srt κ out.toList
 pm:(out.toList++(a.toList.drop ia++b.toList.drop ib)).Perm (a.toList++b.toList)
 la:∀ x∈out.toList,∀ j,ia≤j→j<a.size→κ.kle (ky κ x) (KK κ a j)
 lb:∀ x∈out.toList,∀ j,ib≤j→j<b.size→κ.kle (ky κ x) (KK κ b j)
 sz:out.size=ia+ib
theorem zBp{a:Array Keyed}{i:Nat}(h:SortedToK κ a a.size):Srt κ (a.toList.drop i):=by
 unfold Srt
 rw[dZ]
 intro j k hj hk jk
 rw[cV,bJ] at hj hk
 have:=h (i+j) (i+k) (by omega) (by omega)
 rw[zf (by omega),zf (by omega)] at this
 simpa using this
theorem wj{a:Array Keyed}{i:Nat}{y:Keyed}(h:y∈a.toList.drop i):∃ j,i≤j∧j<a.size∧ky κ y=KK κ a j:=by
 obtain⟨j,hj,rfl⟩:=d9.mp h
 rw[cV,bJ] at hj
 refine⟨i+j,by omega,by omega,?_⟩
 rw[zf (by omega)]
 simp
theorem zCC{a:Array Keyed}{i:Nat}:(a.extract i a.size).toList=a.toList.drop i:=by
 rw[cQ,cy]
 rw[du (by simp)]
theorem wv{l m:List Keyed}(h1:Srt κ l)(h2:Srt κ m)(h:∀ x∈l,∀ y∈m,κ.kle (ky κ x) (ky κ y)):Srt κ (l++m):=List.pairwise_append.mpr ⟨h1,h2,h⟩
variable {a b out:Array Keyed} {ia ib:Nat}
theorem MI.doneA(m:MI κ a b out ia ib)(sa:SortedToK κ a a.size)(e:ib=b.size):MO κ a b (out++a.extract ia a.size++b.extract ib b.size):=by
 have e1:(out++a.extract ia a.size++b.extract ib b.size).toList=out.toList++(a.toList.drop ia++b.toList.drop ib):=by
  rw[cz,cz,zCC,zCC,bZ]
 have e2:b.toList.drop ib=[]:=by rw[e,← bJ,List.drop_length]
 refine⟨?_,by rw[e1];exact m.pm⟩
 rw[e1,e2,cO]
 refine wv m.sr (zBp sa) fun x hx y hy=>?_
 obtain⟨j,j1,j2,j3⟩:=wj (κ:=κ) hy
 rw[j3]
 exact m.la x hx j j1 j2
theorem MI.doneB(m:MI κ a b out ia ib)(sb:SortedToK κ b b.size)(e:ia=a.size):MO κ a b (out++a.extract ia a.size++b.extract ib b.size):=by
 have e1:(out++a.extract ia a.size++b.extract ib b.size).toList=out.toList++(a.toList.drop ia++b.toList.drop ib):=by
  rw[cz,cz,zCC,zCC,bZ]
 have e2:a.toList.drop ia=[]:=by rw[e,← bJ,List.drop_length]
 refine⟨?_,by rw[e1];exact m.pm⟩
 rw[e1,e2,bB]
 refine wv m.sr (zBp sb) fun x hx y hy=>?_
 obtain⟨j,j1,j2,j3⟩:=wj (κ:=κ) hy
 rw[j3]
 exact m.lb x hx j j1 j2
theorem MI.lastA(m:MI κ a b out ia ib)(sa:SortedToK κ a a.size)(sb:SortedToK κ b b.size)(la:∀ j,j<b.size→κ.kle (KK κ b j) (KK κ a (a.size-1)))(e:ia+1=a.size):MO κ a b (out++b.extract ib b.size++a.extract ia a.size):=by
 have e1:(out++b.extract ib b.size++a.extract ia a.size).toList=out.toList++(b.toList.drop ib++a.toList.drop ia):=by
  rw[cz,cz,zCC,zCC,bZ]
 refine⟨?_,by rw[e1];exact(dg.append_left _ List.perm_append_comm).trans m.pm⟩
 rw[e1]
 refine wv m.sr (wv (zBp sb) (zBp sa) fun x hx y hy=>?_) fun x hx y hy=>?_
 ·obtain⟨j,j1,j2,j3⟩:=wj (κ:=κ) hx
  obtain⟨k,k1,k2,k3⟩:=wj (κ:=κ) hy
  rw[j3,k3,show k=a.size-1 by omega]
  exact la j j2
 ·rcases bR.mp hy with hy | hy
  ·obtain⟨j,j1,j2,j3⟩:=wj (κ:=κ) hy
   rw[j3]
   exact m.lb x hx j j1 j2
  ·obtain⟨j,j1,j2,j3⟩:=wj (κ:=κ) hy
   rw[j3]
   exact m.la x hx j j1 j2
theorem zFj{a:Array Keyed}{i:Nat}(h:i<a.size):a.toList.drop i=a[i]::a.toList.drop (i+1):=by
 rw[List.drop_eq_getElem_cons (by simpa using h)]
 simp
theorem MI.pushA(m:MI κ a b out ia ib)(sa:SortedToK κ a a.size)(h:ia<a.size)(hb:∀ j,ib≤j→j<b.size→κ.kle (KK κ a ia) (KK κ b j)):MI κ a b (out.push a[ia]) (ia+1) ib:=by
 refine⟨?_,?_,fun x hx j j1 j2=>?_,fun x hx j j1 j2=>?_,by rw[cS,m.sz];omega⟩
 ·rw[bU]
  refine wv m.sr (eA _ _) fun x hx y hy=>?_
  rw[bH.mp hy,← zf h]
  exact m.la x hx ia (bF _) h
 ·rw[bU,bZ]
  have:=m.pm
  rw[zFj h] at this
  exact this
 ·rw[bU] at hx
  rcases bR.mp hx with hx | hx
  ·exact m.la x hx j (by omega) j2
  ·rw[bH.mp hx,← zf h]
   exact sa ia j (by omega) j2
 ·rw[bU] at hx
  rcases bR.mp hx with hx | hx
  ·exact m.lb x hx j j1 j2
  ·rw[bH.mp hx,← zf h]
   exact hb j j1 j2
theorem MI.pushB(m:MI κ a b out ia ib)(sb:SortedToK κ b b.size)(h:ib<b.size)(ha:∀ j,ia≤j→j<a.size→κ.kle (KK κ b ib) (KK κ a j)):MI κ a b (out.push b[ib]) ia (ib+1):=by
 refine⟨?_,?_,fun x hx j j1 j2=>?_,fun x hx j j1 j2=>?_,by rw[cS,m.sz];omega⟩
 ·rw[bU]
  refine wv m.sr (eA _ _) fun x hx y hy=>?_
  rw[bH.mp hy,← zf h]
  exact m.lb x hx ib (bF _) h
 ·rw[bU,bZ]
  refine dg.trans ?_ m.pm
  rw[zFj h]
  refine dg.append_left _ ?_
  show(b[ib]::(List.drop ia a.toList++List.drop (ib+1) b.toList)).Perm _
  exact List.perm_middle.symm
 ·rw[bU] at hx
  rcases bR.mp hx with hx | hx
  ·exact m.la x hx j j1 j2
  ·rw[bH.mp hx,← zf h]
   exact ha j j1 j2
 ·rw[bU] at hx
  rcases bR.mp hx with hx | hx
  ·exact m.lb x hx j (by omega) j2
  ·rw[bH.mp hx,← zf h]
   exact sb ib j (by omega) j2
theorem zEa{a:Array Keyed}{i k:Nat}(h:i+k<a.size):a.extract i (i+(k+1))=(a.extract i (i+k)).push a[i+k]:=by
 apply Array.ext'
 rw[bU,cQ,cQ,cy,cy,show i+(k+1)-i=k+1 by omega,show i+k-i=k by omega,List.take_add_one]
 congr 1
 rw[eC,cL (by simpa using h)]
 simp
theorem zCy{a:Array Keyed}{i:Nat}:a.extract i (i+0)=#[]:=by
 apply Array.ext'
 rw[cQ,cy]
 simp
theorem MI.manyA(sa:SortedToK κ a a.size)(m:MI κ a b out ia ib):∀ k,ia+k≤a.size→(∀ i,ia≤i→i<ia+k→∀ j,ib≤j→j<b.size→κ.kle (KK κ a i) (KK κ b j))→MI κ a b (out++a.extract ia (ia+k)) (ia+k) ib
 | 0,_,_=>by rw[zCy,Array.append_empty];exact m
 | k+1,hk,h=>by
  have:=(MI.manyA sa m k (by omega) fun i i1 i2=>h i i1 (by omega)).pushA sa (by omega) (h (ia+k) (by omega) (by omega))
  rw[zEa (by omega),Array.append_push]
  exact this
theorem MI.manyB(sb:SortedToK κ b b.size)(m:MI κ a b out ia ib):∀ k,ib+k≤b.size→(∀ i,ib≤i→i<ib+k→∀ j,ia≤j→j<a.size→κ.kle (KK κ b i) (KK κ a j))→MI κ a b (out++b.extract ib (ib+k)) ia (ib+k)
 | 0,_,_=>by rw[zCy,Array.append_empty];exact m
 | k+1,hk,h=>by
  have:=(MI.manyB sb m k (by omega) fun i i1 i2=>h i i1 (by omega)).pushB sb (by omega) (h (ib+k) (by omega) (by omega))
  rw[zEa (by omega),Array.append_push]
  exact this
end
structure Kp (z z':SortSt):Prop where
 kd:kindOf z'=kindOf z
 ar:arrOf z'=arrOf z
 pe:pendingOf z'=pendingOf z
 fl:failedOf z'=failedOf z
theorem Kp.refl(z:SortSt):Kp z z:=⟨rfl,rfl,rfl,rfl⟩
theorem Kp.trans{z z' z'':SortSt}(h:Kp z z')(h':Kp z' z''):Kp z z'':=⟨h'.kd.trans h.kd,h'.ar.trans h.ar,h'.pe.trans h.pe,h'.fl.trans h.fl⟩
section
variable {prog:Program} {w:World} {A:Around} {E:Value→Shared→Prop} {s:Shared} {kd:SortKind} {κ:KeyKind} {P:Keyed→Prop}
theorem zCz{g:Nat}{z:SortSt}{Q:Unit→SortSt→Prop}(h:∀ z',Kp z z'→Q () z'):wpS (model prog w) A E s (zHD g) Q z:=ei (h _ ⟨rfl,rfl,rfl,rfl⟩)
variable (L:∀(z:SortSt) (x y:Keyed) (Q:Option Bool→SortSt→Prop),kindOf z=kd→P x→P y→Q (some (κ.blt (ky κ x) (ky κ y))) z→wpS (model prog w) A E s (lt' x y) Q z)
include L
theorem zIM{a b:Array Keyed}{z:SortSt}{Q:Array Keyed→SortSt→Prop}(hz:kindOf z=kd)(pa:∀ p∈a,P p)(pb:∀ p∈b,P p)(ha:1≤a.size)(hb:1≤b.size)(sa:SortedToK κ a a.size)(sb:SortedToK κ b b.size)
  (fst:∀ j,j<a.size→κ.kle (KK κ b 0) (KK κ a j)) (lst:∀ j,j<b.size→κ.kle (KK κ b j) (KK κ a (a.size-1))) (h:∀ r z',MO κ a b r→Kp z z'→Q r z'):wpS (model prog w) A E s (zHB a b) Q z:=by
 refine bD (wpS_lift (dz ⟨rfl,?_⟩))
 refine bD (m:=elem' b 0) (zZ (getElem?_pos b 0 (by omega)) ?_)
 dsimp only
 have m0:MI κ a b #[b[0]] 0 1:=by
  have:MI κ a b #[] 0 0:=⟨dF.nil,by simp,fun x hx=>by simp at hx,fun x hx=>by simp at hx,rfl⟩
  exact this.pushB sb (by omega) fun j u0 j2=>fst j j2
 by_cases c1:1=b.size
 ·rw[if_pos (by simpa using c1)]
  exact bG (h _ _ (m0.doneA sa c1) (.refl z))
 rw[if_neg (by simpa using c1)]
 by_cases c2:0+1=a.size
 ·rw[if_pos (by simpa using c2)]
  exact bG (h _ _ (m0.lastA sa sb lst c2) (.refl z))
 rw[if_neg (by simpa using c2)]
 refine bD (wpS_get ?_)
 skip
 refine bD (dc (cu (β:=Option (Array Keyed)×Array Keyed×Nat×Nat×Nat) (I:=fun x c z'=>Kp z z'∧c.1=none∧MI κ a b c.2.1 c.2.2.1 c.2.2.2.1∧c.2.2.1+1<a.size∧c.2.2.2.1<b.size∧x≤c.2.1.size) (Q:=fun c z'=>Kp z z'∧∃ r,c.1=some r∧MO κ a b r) (fun x c z1 x1 x2 ⟨k1,e2,m1,q1,q2,q3⟩=>?stp) (fun c z1 ⟨k1,e2,m1,q1,q2,q3⟩=>?fin) ⟨.refl z,rfl,m0,by dsimp only;omega,by dsimp only;omega,dO _⟩) fun c z1 ⟨k1,r,e2,mo⟩=>?pst)
 case pst =>
  rw[e2]
  exact bG (h _ _ mo k1)
 case fin =>
  have:=m1.sz
  omega
 case stp =>
  clear m0
  obtain⟨c0,out,ia,ib,mg⟩:=c
  dsimp only at e2 m1 q1 q2 q3 ⊢
  refine bD (dc (cu (β:=Option (Array Keyed)×Array Keyed×Nat×Nat×Nat×Nat) (I:=fun y c z'=>Kp z z'∧c.1=none∧MI κ a b c.2.1 c.2.2.1 c.2.2.2.1∧c.2.2.1+1<a.size∧c.2.2.2.1<b.size∧out.size+y≤c.2.1.size) (Q:=fun c z'=>Kp z z'∧((∃ r,c.1=some r∧MO κ a b r)∨(c.1=none∧MI κ a b c.2.1 c.2.2.1 c.2.2.2.1∧c.2.2.1+1<a.size∧c.2.2.2.1<b.size∧out.size+1≤c.2.1.size))) (fun y c z2 y1 y2 ⟨k2,e3,m2,p1,p2,p3⟩=>?stp1) (fun c z2 ⟨k2,e3,m2,p1,p2,p3⟩=>⟨k2,.inr ⟨e3,m2,p1,p2,by omega⟩⟩) ⟨k1,rfl,m1,q1,q2,by dsimp only;omega⟩) fun c z2 ⟨k2,o⟩=>?pst1)
  case stp1 =>
   obtain⟨c0',out',ia',ib',ac,bc⟩:=c
   dsimp only at e3 m2 p1 p2 p3 ⊢
   refine bD (m:=elem' b ib') (zZ (getElem?_pos b ib' p2) ?_)
   refine bD (m:=elem' a ia') (zZ (getElem?_pos a ia' (by omega)) ?_)
   refine bD (m:=lt' b[ib'] a[ia']) (L _ _ _ _ (k2.kd.trans hz) (pb _ (ck p2)) (pa _ (ck _)) ?_)
   dsimp only
   cases e:κ.blt (ky κ b[ib']) (ky κ a[ia']) with
   | true =>
    rw[if_pos rfl]
    refine bD (m:=elem' b ib') (zZ (getElem?_pos b ib' p2) ?_)
    have m3:=m2.pushB sb p2 fun j j1 j2=>KeyOrd.kle_trans (KeyOrd.kle_of_klt (by rw[zf p2,zf (by omega)];exact e)) (sa ia' j j1 j2)
    by_cases c3:ib'+1=b.size
    ·rw[if_pos (by simpa using c3)]
     exact bG ⟨k2,.inl ⟨_,rfl,m3.doneA sa c3⟩⟩
    rw[if_neg (by simpa using c3)]
    split
    ·exact bG ⟨k2,.inr ⟨rfl,m3,p1,by dsimp only;omega,by dsimp only;rw[cS];omega⟩⟩
    ·exact bG ⟨k2,rfl,m3,p1,by dsimp only;omega,by dsimp only;rw[cS];omega⟩
   | false =>
    rw[if_neg (by simp)]
    refine bD (m:=elem' a ia') (zZ (getElem?_pos a ia' (by omega)) ?_)
    have m3:=m2.pushA sa (by omega) fun j j1 j2=>KeyOrd.kle_trans (show κ.kle (KK κ a ia') (KK κ b ib') by rw[zf p2,zf (by omega)];exact e) (sb ib' j j1 j2)
    by_cases c3:ia'+1+1=a.size
    ·rw[if_pos (by simpa using c3)]
     exact bG ⟨k2,.inl ⟨_,rfl,m3.lastA sa sb lst c3⟩⟩
    rw[if_neg (by simpa using c3)]
    split
    ·exact bG ⟨k2,.inr ⟨rfl,m3,by dsimp only;omega,p2,by dsimp only;rw[cS];omega⟩⟩
    ·exact bG ⟨k2,rfl,m3,by dsimp only;omega,p2,by dsimp only;rw[cS];omega⟩
  case pst1 =>
   obtain⟨c0',out',ia',ib',ac,bc⟩:=c
   dsimp only at o ⊢
   rcases o with ⟨r,e3,mo⟩ | ⟨e3,m2,p1,p2,p3⟩
   ·rw[e3]
    exact bG ⟨k2,r,rfl,mo⟩
   rw[e3]
   dsimp only
   refine bD (wpS_lift (dz ⟨rfl,?_⟩))
   refine bD (dc (cu (β:=Option (Array Keyed)×Array Keyed×Nat×Nat×Nat×Nat×Nat) (I:=fun y c z'=>Kp z z'∧c.1=none∧MI κ a b c.2.1 c.2.2.1 c.2.2.2.1∧c.2.2.1+1<a.size∧c.2.2.2.1<b.size∧out.size+1≤c.2.1.size) (Q:=fun c z'=>Kp z z'∧((∃ r,c.1=some r∧MO κ a b r)∨(c.1=none∧MI κ a b c.2.1 c.2.2.1 c.2.2.2.1∧c.2.2.1+1<a.size∧c.2.2.2.1<b.size∧out.size+1≤c.2.1.size))) (fun y c z3 y1 y2 ⟨k3,e4,m3,r1,r2,r3⟩=>?stp2) (fun c z3 ⟨k3,e4,m3,r1,r2,r3⟩=>⟨k3,.inr ⟨e4,m3,r1,r2,r3⟩⟩) ⟨k2,rfl,m2,p1,p2,p3⟩) fun c z3 ⟨k3,o⟩=>?pst2)
   case pst2 =>
    obtain⟨c0'',out'',ia'',ib'',mg',ac',bc'⟩:=c
    dsimp only at o ⊢
    rcases o with ⟨r,e4,mo⟩ | ⟨e4,m3,r1,r2,r3⟩
    ·rw[e4]
     exact bG ⟨k3,r,rfl,mo⟩
    rw[e4]
    dsimp only
    refine bD (m:=zHD (mg'+1)) (zCz fun z4 k4=>?_)
    exact bG ⟨k3.trans k4,rfl,m3,r1,r2,by dsimp only;omega⟩
   case stp2 =>
    clear m2 p1 p2 p3 m1 q1 q2 e3 e2 k1 k2
    obtain⟨c0'',out'',ia'',ib'',mg',ac',bc'⟩:=c
    dsimp only at e4 m3 r1 r2 r3 ⊢
    have s3:=m3.sz
    rcases Classical.em (mg'>1) with hm | hm
    rw[if_pos hm]
    rotate_left
    rw[if_neg hm]
    all_goals
     refine bD (m:=zHD _) (zCz fun z4 k4=>?_)
     have kz:=k3.trans k4
     refine bD (m:=elem' b ib'') (zZ (getElem?_pos b ib'' r2) ?_)
     refine bD (m:=zAY false b[ib''] a ia'' (a.size-ia'') 0) (wg L (B:=fun t=>!κ.blt (KK κ b ib'') (KK κ a (ia''+t))) (kz.kd.trans hz) (pb _ (ck r2)) pa (by omega) (by omega) (fun t h1 h2=>by rw[if_neg (by simp),zf h1,zf r2]) (fun t u tu un q=>?_) fun k tk=>?_)
     ·simp only[dS] at q ⊢
      exact KeyOrd.kle_trans (sa _ _ (by omega) (by omega)) q
     dsimp only
     have l4:=tk.le
     have ya:∀ t,ia''≤t→t<ia''+k→∀ j,ib''≤j→j<b.size→κ.kle (KK κ a t) (KK κ b j):=fun t t1 t2 j j1 j2=>by
      have q:=tk.yes (t-ia'') (by omega)
      rw[show ia''+(t-ia'')=t by omega,dS] at q
      exact KeyOrd.kle_trans q (sb _ _ j1 j2)
     have na:∀ t,ia''+k≤t→t<a.size→κ.kle (KK κ b ib'') (KK κ a t):=fun t t1 t2=>by
      have q:=tk.no (t-ia'') (by omega) (by omega)
      rw[show ia''+(t-ia'')=t by omega,Bool.not_eq_false'] at q
      exact KeyOrd.kle_of_klt q
     by_cases hk:k>0
     ·rw[if_pos hk]
      have m4:=MI.manyA sa m3 k (by omega) ya
      have s4:=m4.sz
      by_cases c3:ia''+k+1=a.size
      ·rw[if_pos (by simpa using c3)]
       exact bG ⟨kz,.inl ⟨_,rfl,m4.lastA sa sb lst c3⟩⟩
      rw[if_neg (by simpa using c3)]
      by_cases c4:ia''+k=a.size
      ·rw[if_pos (by simpa using c4)]
       exact bG ⟨kz,.inl ⟨_,rfl,m4.doneB sb c4⟩⟩
      rw[if_neg (by simpa using c4)]
      refine bD (m:=elem' b ib'') (zZ (getElem?_pos b ib'' r2) ?_)
      have m5:=MI.pushB m4 sb r2 na
      have s5:=m5.sz
      by_cases c5:ib''+1=b.size
      ·rw[if_pos (by simpa using c5)]
       exact bG ⟨kz,.inl ⟨_,rfl,m5.doneA sa c5⟩⟩
      rw[if_neg (by simpa using c5)]
      have i5:ia''+k<a.size:=by omega
      refine bD (m:=elem' a (ia''+k)) (zZ (getElem?_pos a (ia''+k) i5) ?_)
      refine bD (m:=zAY true a[ia''+k] b (ib''+1) (b.size-(ib''+1)) 0) (wg L (B:=fun t=>κ.blt (KK κ b (ib''+1+t)) (KK κ a (ia''+k))) (kz.kd.trans hz) (pa _ (ck i5)) pb (by omega) (by omega) (fun t h1 h2=>by rw[if_pos rfl,zf h1,zf i5]) (fun t u tu un q=>KeyOrd.klt_of_kle_of_klt (sb _ _ (by omega) (by omega)) q) fun k' tk'=>?_)
      dsimp only
      have l6:=tk'.le
      have ym:∀ t,ib''+1≤t→t<ib''+1+k'→∀ j,ia''+k≤j→j<a.size→κ.kle (KK κ b t) (KK κ a j):=fun t t1 t2 j j1 j2=>by
       have q:=tk'.yes (t-(ib''+1)) (by omega)
       rw[show ib''+1+(t-(ib''+1))=t by omega] at q
       exact KeyOrd.kle_trans (KeyOrd.kle_of_klt q) (sa _ _ j1 j2)
      have nm:∀ t,ib''+1+k'≤t→t<b.size→κ.kle (KK κ a (ia''+k)) (KK κ b t):=fun t t1 t2=>by
       have q:=tk'.no (t-(ib''+1)) (by omega) (by omega)
       rw[show ib''+1+(t-(ib''+1))=t by omega] at q
       exact q
      by_cases hk':k'>0
      ·rw[if_pos hk']
       have m6:=MI.manyB sb m5 k' (by omega) ym
       have s6:=m6.sz
       by_cases c6:ib''+1+k'=b.size
       ·rw[if_pos (by simpa using c6)]
        exact bG ⟨kz,.inl ⟨_,rfl,m6.doneA sa c6⟩⟩
       rw[if_neg (by simpa using c6)]
       have iu:ia''+k<a.size:=by omega
       refine bD (m:=elem' a (ia''+k)) (zZ (getElem?_pos a (ia''+k) iu) ?_)
       have m7:=MI.pushA m6 sa iu nm
       have s7:=m7.sz
       by_cases c7:ia''+k+1+1=a.size
       ·rw[if_pos (by simpa using c7)]
        exact bG ⟨kz,.inl ⟨_,rfl,m7.lastA sa sb lst c7⟩⟩
       rw[if_neg (by simpa using c7)]
       split
       ·exact bG ⟨kz,.inr ⟨rfl,m7,by dsimp only;omega,by dsimp only;omega,by dsimp only;rw[s7];omega⟩⟩
       ·exact bG ⟨kz,rfl,m7,by dsimp only;omega,by dsimp only;omega,by dsimp only;rw[s7];omega⟩
      ·rw[if_neg hk']
       have iu:ia''+k<a.size:=by omega
       refine bD (m:=elem' a (ia''+k)) (zZ (getElem?_pos a (ia''+k) iu) ?_)
       have m7:=MI.pushA m5 sa iu (fun t t1 t2=>nm t (by omega) t2)
       have s7:=m7.sz
       by_cases c7:ia''+k+1+1=a.size
       ·rw[if_pos (by simpa using c7)]
        exact bG ⟨kz,.inl ⟨_,rfl,m7.lastA sa sb lst c7⟩⟩
       rw[if_neg (by simpa using c7)]
       split
       ·exact bG ⟨kz,.inr ⟨rfl,m7,by dsimp only;omega,by dsimp only;omega,by dsimp only;rw[s7];omega⟩⟩
       ·exact bG ⟨kz,rfl,m7,by dsimp only;omega,by dsimp only;omega,by dsimp only;rw[s7];omega⟩
     ·rw[if_neg hk]
      refine bD (m:=elem' b ib'') (zZ (getElem?_pos b ib'' r2) ?_)
      have m5:=MI.pushB m3 sb r2 (fun t t1 t2=>na t (by omega) t2)
      have s5:=m5.sz
      by_cases c5:ib''+1=b.size
      ·rw[if_pos (by simpa using c5)]
       exact bG ⟨kz,.inl ⟨_,rfl,m5.doneA sa c5⟩⟩
      rw[if_neg (by simpa using c5)]
      have i5:ia''<a.size:=by omega
      refine bD (m:=elem' a (ia'')) (zZ (getElem?_pos a (ia'') i5) ?_)
      refine bD (m:=zAY true a[ia''] b (ib''+1) (b.size-(ib''+1)) 0) (wg L (B:=fun t=>κ.blt (KK κ b (ib''+1+t)) (KK κ a (ia''))) (kz.kd.trans hz) (pa _ (ck i5)) pb (by omega) (by omega) (fun t h1 h2=>by rw[if_pos rfl,zf h1,zf i5]) (fun t u tu un q=>KeyOrd.klt_of_kle_of_klt (sb _ _ (by omega) (by omega)) q) fun k' tk'=>?_)
      dsimp only
      have l6:=tk'.le
      have ym:∀ t,ib''+1≤t→t<ib''+1+k'→∀ j,ia''≤j→j<a.size→κ.kle (KK κ b t) (KK κ a j):=fun t t1 t2 j j1 j2=>by
       have q:=tk'.yes (t-(ib''+1)) (by omega)
       rw[show ib''+1+(t-(ib''+1))=t by omega] at q
       exact KeyOrd.kle_trans (KeyOrd.kle_of_klt q) (sa _ _ j1 j2)
      have nm:∀ t,ib''+1+k'≤t→t<b.size→κ.kle (KK κ a (ia'')) (KK κ b t):=fun t t1 t2=>by
       have q:=tk'.no (t-(ib''+1)) (by omega) (by omega)
       rw[show ib''+1+(t-(ib''+1))=t by omega] at q
       exact q
      by_cases hk':k'>0
      ·rw[if_pos hk']
       have m6:=MI.manyB sb m5 k' (by omega) ym
       have s6:=m6.sz
       by_cases c6:ib''+1+k'=b.size
       ·rw[if_pos (by simpa using c6)]
        exact bG ⟨kz,.inl ⟨_,rfl,m6.doneA sa c6⟩⟩
       rw[if_neg (by simpa using c6)]
       have iu:ia''<a.size:=by omega
       refine bD (m:=elem' a (ia'')) (zZ (getElem?_pos a (ia'') iu) ?_)
       have m7:=MI.pushA m6 sa iu nm
       have s7:=m7.sz
       by_cases c7:ia''+1+1=a.size
       ·rw[if_pos (by simpa using c7)]
        exact bG ⟨kz,.inl ⟨_,rfl,m7.lastA sa sb lst c7⟩⟩
       rw[if_neg (by simpa using c7)]
       split
       ·exact bG ⟨kz,.inr ⟨rfl,m7,by dsimp only;omega,by dsimp only;omega,by dsimp only;rw[s7];omega⟩⟩
       ·exact bG ⟨kz,rfl,m7,by dsimp only;omega,by dsimp only;omega,by dsimp only;rw[s7];omega⟩
      ·rw[if_neg hk']
       have iu:ia''<a.size:=by omega
       refine bD (m:=elem' a (ia'')) (zZ (getElem?_pos a (ia'') iu) ?_)
       have m7:=MI.pushA m5 sa iu (fun t t1 t2=>nm t (by omega) t2)
       have s7:=m7.sz
       by_cases c7:ia''+1+1=a.size
       ·rw[if_pos (by simpa using c7)]
        exact bG ⟨kz,.inl ⟨_,rfl,m7.lastA sa sb lst c7⟩⟩
       rw[if_neg (by simpa using c7)]
       split
       ·exact bG ⟨kz,.inr ⟨rfl,m7,by dsimp only;omega,by dsimp only;omega,by dsimp only;rw[s7];omega⟩⟩
       ·exact bG ⟨kz,rfl,m7,by dsimp only;omega,by dsimp only;omega,by dsimp only;rw[s7];omega⟩
end
section
variable {κ:KeyKind}
structure MJ (κ:KeyKind) (a b:Array Keyed) (na nb:Nat) (out:Array Keyed):Prop where
 sr:Srt κ out.toList.reverse
 pm:(a.toList.take na++b.toList.take nb++out.toList.reverse).Perm (a.toList++b.toList)
 la:∀ x∈out.toList,∀ j,j<na→κ.kle (KK κ a j) (ky κ x)
 lb:∀ x∈out.toList,∀ j,j<nb→κ.kle (KK κ b j) (ky κ x)
 sz:out.size+(na+nb)=a.size+b.size
 ha:na≤a.size
 hb:nb≤b.size
theorem zC0{a:Array Keyed}{i:Nat}(h:SortedToK κ a a.size):Srt κ (a.toList.take i):=(zBp (i:=0) h).sublist (cX _ _)
theorem wm{a:Array Keyed}{i:Nat}{y:Keyed}(h:y∈a.toList.take i):∃ j,j<i∧j<a.size∧ky κ y=KK κ a j:=by
 obtain⟨j,hj,rfl⟩:=d9.mp h
 rw[bW,bJ] at hj
 refine⟨j,by omega,by omega,?_⟩
 rw[zf (by omega)]
 simp
theorem zD5{a:Array Keyed}{i:Nat}:(a.extract 0 i).toList=a.toList.take i:=by
 rw[cQ,cy]
 simp
variable {a b out:Array Keyed} {na nb:Nat}
theorem MJ.fin(m:MJ κ a b na nb out)(s:Srt κ (a.toList.take na++b.toList.take nb)):MO κ a b (a.extract 0 na++b.extract 0 nb++out.reverse):=by
 have e1:(a.extract 0 na++b.extract 0 nb++out.reverse).toList=a.toList.take na++b.toList.take nb++out.toList.reverse:=by
  rw[cz,cz,zD5,zD5,Array.toList_reverse]
 refine⟨?_,by rw[e1];exact m.pm⟩
 rw[e1]
 refine wv s m.sr fun x hx y hy=>?_
 rw[List.mem_reverse] at hy
 rcases bR.mp hx with hx | hx
 ·obtain⟨j,j1,j2,j3⟩:=wm (κ:=κ) hx
  rw[j3];exact m.la y hy j j1
 ·obtain⟨j,j1,j2,j3⟩:=wm (κ:=κ) hx
  rw[j3];exact m.lb y hy j j1
theorem MJ.doneA(m:MJ κ a b na nb out)(sb:SortedToK κ b b.size)(e:na=0):MO κ a b (a.extract 0 na++b.extract 0 nb++out.reverse):=m.fin (by subst e;simpa using zC0 sb)
theorem MJ.doneB(m:MJ κ a b na nb out)(sa:SortedToK κ a a.size)(e:nb=0):MO κ a b (a.extract 0 na++b.extract 0 nb++out.reverse):=m.fin (by subst e;simpa using zC0 sa)
theorem MJ.fstB(m:MJ κ a b na nb out)(sa:SortedToK κ a a.size)(sb:SortedToK κ b b.size)(f:∀ j,j<a.size→κ.kle (KK κ b 0) (KK κ a j))(e:nb=1):MO κ a b (b.extract 0 nb++a.extract 0 na++out.reverse):=by
 have e1:(b.extract 0 nb++a.extract 0 na++out.reverse).toList=b.toList.take nb++a.toList.take na++out.toList.reverse:=by
  rw[cz,cz,zD5,zD5,Array.toList_reverse]
 refine⟨?_,by rw[e1];exact(dg.append_right _ List.perm_append_comm).trans m.pm⟩
 rw[e1]
 refine wv (wv (zC0 sb) (zC0 sa) fun x hx y hy=>?_) m.sr fun x hx y hy=>?_
 ·obtain⟨j,j1,j2,j3⟩:=wm (κ:=κ) hx
  obtain⟨k,k1,k2,k3⟩:=wm (κ:=κ) hy
  rw[j3,k3,show j=0 by omega]
  exact f k k2
 ·rw[List.mem_reverse] at hy
  rcases bR.mp hx with hx | hx
  ·obtain⟨j,j1,j2,j3⟩:=wm (κ:=κ) hx
   rw[j3];exact m.lb y hy j j1
  ·obtain⟨j,j1,j2,j3⟩:=wm (κ:=κ) hx
   rw[j3];exact m.la y hy j j1
theorem take_snoc{a:Array Keyed}{i:Nat}(h:i<a.size):a.toList.take (i+1)=a.toList.take i++[a[i]]:=by
 rw[List.take_add_one,cL (by simpa using h)]
 simp
theorem MJ.pushA(m:MJ κ a b (na+1) nb out)(sa:SortedToK κ a a.size)(h:na<a.size)(hb:∀ j,j<nb→κ.kle (KK κ b j) (KK κ a na)):MJ κ a b na nb (out.push a[na]):=by
 refine⟨?_,?_,fun x hx j j1=>?_,fun x hx j j1=>?_,by have:=m.sz;rw[cS];omega,by omega,m.hb⟩
 ·rw[bU,ec]
  refine wv (eA _ _) m.sr fun x hx y hy=>?_
  rw[List.mem_reverse] at hy
  rw[dH] at hx
  rw[bH.mp hx,← zf h]
  exact m.la y hy na (by omega)
 ·rw[bU,ec]
  refine dg.trans ?_ m.pm
  rw[take_snoc h]
  simp only[dH,bZ]
  refine dg.append_left _ ?_
  show(b.toList.take nb++(a[na]::out.toList.reverse)).Perm (a[na]::(b.toList.take nb++out.toList.reverse))
  exact List.perm_middle
 ·rw[bU] at hx
  rcases bR.mp hx with hx | hx
  ·exact m.la x hx j (by omega)
  ·rw[bH.mp hx,← zf h]
   exact sa j na (by omega) h
 ·rw[bU] at hx
  rcases bR.mp hx with hx | hx
  ·exact m.lb x hx j j1
  ·rw[bH.mp hx,← zf h]
   exact hb j j1
theorem MJ.pushB(m:MJ κ a b na (nb+1) out)(sb:SortedToK κ b b.size)(h:nb<b.size)(ha:∀ j,j<na→κ.kle (KK κ a j) (KK κ b nb)):MJ κ a b na nb (out.push b[nb]):=by
 refine⟨?_,?_,fun x hx j j1=>?_,fun x hx j j1=>?_,by have:=m.sz;rw[cS];omega,m.ha,by omega⟩
 ·rw[bU,ec]
  refine wv (eA _ _) m.sr fun x hx y hy=>?_
  rw[List.mem_reverse] at hy
  rw[dH] at hx
  rw[bH.mp hx,← zf h]
  exact m.lb y hy nb (by omega)
 ·rw[bU,ec]
  have:=m.pm
  rw[take_snoc h] at this
  simp only[dH,bZ] at this ⊢
  exact this
 ·rw[bU] at hx
  rcases bR.mp hx with hx | hx
  ·exact m.la x hx j j1
  ·rw[bH.mp hx,← zf h]
   exact ha j j1
 ·rw[bU] at hx
  rcases bR.mp hx with hx | hx
  ·exact m.lb x hx j (by omega)
  ·rw[bH.mp hx,← zf h]
   exact sb j nb (by omega) h
theorem zI6{a:Array Keyed}{i k:Nat}(h:i+k<a.size){out:Array Keyed}:out++(a.extract i (i+(k+1))).reverse=out.push a[i+k]++(a.extract i (i+k)).reverse:=by
 apply Array.ext'
 rw[zEa h,cz,cz,Array.toList_reverse,Array.toList_reverse,bU,bU,ec,dH,bZ]
theorem MJ.manyA(sa:SortedToK κ a a.size):∀ k na out,MJ κ a b (na+k) nb out→(∀ i,na≤i→i<na+k→∀ j,j<nb→κ.kle (KK κ b j) (KK κ a i))→MJ κ a b na nb (out++(a.extract na (na+k)).reverse)
 | 0,na,out,m,_=>by rw[zCy];simpa using m
 | k+1,na,out,m,h=>by
  have hk:na+k<a.size:=by have:=m.ha;omega
  rw[zI6 hk]
  exact MJ.manyA sa k na _ (MJ.pushA m sa hk (h (na+k) (by omega) (by omega))) fun i i1 i2=>h i i1 (by omega)
theorem MJ.manyB(sb:SortedToK κ b b.size):∀ k nb out,MJ κ a b na (nb+k) out→(∀ i,nb≤i→i<nb+k→∀ j,j<na→κ.kle (KK κ a j) (KK κ b i))→MJ κ a b na nb (out++(b.extract nb (nb+k)).reverse)
 | 0,nb,out,m,_=>by rw[zCy];simpa using m
 | k+1,nb,out,m,h=>by
  have hk:nb+k<b.size:=by have:=m.hb;omega
  rw[zI6 hk]
  exact MJ.manyB sb k nb _ (MJ.pushB m sb hk (h (nb+k) (by omega) (by omega))) fun i i1 i2=>h i i1 (by omega)
theorem MJ.pushA'(m:MJ κ a b na nb out)(sa:SortedToK κ a a.size)(h1:1≤na)(h:na-1<a.size)(hb:∀ j,j<nb→κ.kle (KK κ b j) (KK κ a (na-1))):MJ κ a b (na-1) nb (out.push a[na-1]):=MJ.pushA (by rwa [Nat.sub_add_cancel h1]) sa h hb
theorem MJ.pushB'(m:MJ κ a b na nb out)(sb:SortedToK κ b b.size)(h1:1≤nb)(h:nb-1<b.size)(ha:∀ j,j<na→κ.kle (KK κ a j) (KK κ b (nb-1))):MJ κ a b na (nb-1) (out.push b[nb-1]):=MJ.pushB (by rwa [Nat.sub_add_cancel h1]) sb h ha
theorem MJ.manyA'{at':Nat}(m:MJ κ a b na nb out)(sa:SortedToK κ a a.size)(h:at'≤na)(hb:∀ i,at'≤i→i<na→∀ j,j<nb→κ.kle (KK κ b j) (KK κ a i)):MJ κ a b at' nb (out++(a.extract at' na).reverse):=by
 have e:na=at'+(na-at'):=by omega
 have:=MJ.manyA sa (na-at') at' out (by rw[← e];exact m) fun i i1 i2=>hb i i1 (by omega)
 rwa [← e] at this
theorem MJ.manyB'{at':Nat}(m:MJ κ a b na nb out)(sb:SortedToK κ b b.size)(h:at'≤nb)(ha:∀ i,at'≤i→i<nb→∀ j,j<na→κ.kle (KK κ a j) (KK κ b i)):MJ κ a b na at' (out++(b.extract at' nb).reverse):=by
 have e:nb=at'+(nb-at'):=by omega
 have:=MJ.manyB sb (nb-at') at' out (by rw[← e];exact m) fun i i1 i2=>ha i i1 (by omega)
 rwa [← e] at this
end
section
variable {prog:Program} {w:World} {A:Around} {E:Value→Shared→Prop} {s:Shared} {kd:SortKind} {κ:KeyKind} {P:Keyed→Prop}
variable (L:∀(z:SortSt) (x y:Keyed) (Q:Option Bool→SortSt→Prop),kindOf z=kd→P x→P y→Q (some (κ.blt (ky κ x) (ky κ y))) z→wpS (model prog w) A E s (lt' x y) Q z)
include L
theorem zIN{a b:Array Keyed}{z:SortSt}{Q:Array Keyed→SortSt→Prop}(hz:kindOf z=kd)(pa:∀ p∈a,P p)(pb:∀ p∈b,P p)(ha:1≤a.size)(hb:1≤b.size)(sa:SortedToK κ a a.size)(sb:SortedToK κ b b.size)
  (fst:∀ j,j<a.size→κ.kle (KK κ b 0) (KK κ a j)) (lst:∀ j,j<b.size→κ.kle (KK κ b j) (KK κ a (a.size-1))) (h:∀ r z',MO κ a b r→Kp z z'→Q r z'):wpS (model prog w) A E s (zHC a b) Q z:=by
 refine bD (wpS_lift (dz ⟨rfl,?_⟩))
 have ia0:a.size-1<a.size:=by omega
 refine bD (m:=elem' a (a.size-1)) (zZ (getElem?_pos a (a.size-1) ia0) ?_)
 have m0:MJ κ a b (a.size-1) b.size #[a[a.size-1]]:=by
  have:MJ κ a b a.size b.size #[]:=⟨dF.nil,by
   rw[← bJ,← bJ,cU,cU];simp,fun x hx=>by simp at hx,fun x hx=>by simp at hx,by simp,bF _,bF _⟩
  exact this.pushA' sa ha ia0 fun j j1=>lst j j1
 by_cases c1:a.size-1=0
 ·rw[if_pos (by simpa using c1)]
  exact bG (h _ _ (m0.doneA sb c1) (.refl z))
 rw[if_neg (by simpa using c1)]
 by_cases c2:b.size=1
 ·rw[if_pos (by simpa using c2)]
  exact bG (h _ _ (m0.fstB sa sb fst c2) (.refl z))
 rw[if_neg (by simpa using c2)]
 refine bD (wpS_get ?_)
 dsimp only
 refine bD (dc (cu (β:=Option (Array Keyed)×Nat×Nat×Array Keyed×Nat) (I:=fun x c z'=>Kp z z'∧c.1=none∧MJ κ a b c.2.1 c.2.2.1 c.2.2.2.1∧1≤c.2.1∧2≤c.2.2.1∧x≤c.2.2.2.1.size) (Q:=fun c z'=>Kp z z'∧∃ r,c.1=some r∧MO κ a b r) (fun x c z1 x1 x2 ⟨k1,e2,m1,q1,q2,q3⟩=>?stp) (fun c z1 ⟨k1,e2,m1,q1,q2,q3⟩=>?fin) ⟨.refl z,rfl,m0,by dsimp only;omega,by dsimp only;omega,dO _⟩) fun c z1 ⟨k1,r,e2,mo⟩=>?pst)
 case pst =>
  rw[e2]
  exact bG (h _ _ mo k1)
 case fin =>
  have:=m1.sz
  omega
 case stp =>
  clear m0
  obtain⟨c0,na,nb,out,mg⟩:=c
  dsimp only at e2 m1 q1 q2 q3 ⊢
  refine bD (dc (cu (β:=Option (Array Keyed)×Nat×Nat×Array Keyed×Nat×Nat) (I:=fun y c z'=>Kp z z'∧c.1=none∧MJ κ a b c.2.1 c.2.2.1 c.2.2.2.1∧1≤c.2.1∧2≤c.2.2.1∧out.size+y≤c.2.2.2.1.size) (Q:=fun c z'=>Kp z z'∧((∃ r,c.1=some r∧MO κ a b r)∨(c.1=none∧MJ κ a b c.2.1 c.2.2.1 c.2.2.2.1∧1≤c.2.1∧2≤c.2.2.1∧out.size+1≤c.2.2.2.1.size))) (fun y c z2 y1 y2 ⟨k2,e3,m2,p1,p2,p3⟩=>?stp1) (fun c z2 ⟨k2,e3,m2,p1,p2,p3⟩=>⟨k2,.inr ⟨e3,m2,p1,p2,by omega⟩⟩) ⟨k1,rfl,m1,q1,q2,by dsimp only;omega⟩) fun c z2 ⟨k2,o⟩=>?pst1)
  case stp1 =>
   obtain⟨c0',na',nb',out',ac,bc⟩:=c
   dsimp only at e3 m2 p1 p2 p3 ⊢
   have ja:na'-1<a.size:=by have:=m2.ha;omega
   have jb:nb'-1<b.size:=by have:=m2.hb;omega
   refine bD (m:=elem' b (nb'-1)) (zZ (getElem?_pos b _ jb) ?_)
   refine bD (m:=elem' a (na'-1)) (zZ (getElem?_pos a _ ja) ?_)
   refine bD (m:=lt' b[nb'-1] a[na'-1]) (L _ _ _ _ (k2.kd.trans hz) (pb _ (ck jb)) (pa _ (ck ja)) ?_)
   dsimp only
   cases e:κ.blt (ky κ b[nb'-1]) (ky κ a[na'-1]) with
   | true =>
    rw[if_pos rfl]
    refine bD (m:=elem' a (na'-1)) (zZ (getElem?_pos a _ ja) ?_)
    have m3:=m2.pushA' sa p1 ja fun j j1=>KeyOrd.kle_trans (sb j (nb'-1) (by omega) jb) (KeyOrd.kle_of_klt (by rw[zf jb,zf ja];exact e))
    by_cases c3:na'-1=0
    ·rw[if_pos (by simpa using c3)]
     exact bG ⟨k2,.inl ⟨_,rfl,m3.doneA sb c3⟩⟩
    rw[if_neg (by simpa using c3)]
    split
    ·exact bG ⟨k2,.inr ⟨rfl,m3,by dsimp only;omega,p2,by dsimp only;rw[cS];omega⟩⟩
    ·exact bG ⟨k2,rfl,m3,by dsimp only;omega,p2,by dsimp only;rw[cS];omega⟩
   | false =>
    rw[if_neg (by simp)]
    refine bD (m:=elem' b (nb'-1)) (zZ (getElem?_pos b _ jb) ?_)
    have m3:=m2.pushB' sb (by omega) jb fun j j1=>KeyOrd.kle_trans (sa j (na'-1) (by omega) ja) (show κ.kle (KK κ a (na'-1)) (KK κ b (nb'-1)) by rw[zf jb,zf ja];exact e)
    by_cases c3:nb'-1=1
    ·rw[if_pos (by simpa using c3)]
     exact bG ⟨k2,.inl ⟨_,rfl,m3.fstB sa sb fst c3⟩⟩
    rw[if_neg (by simpa using c3)]
    split
    ·exact bG ⟨k2,.inr ⟨rfl,m3,p1,by dsimp only;omega,by dsimp only;rw[cS];omega⟩⟩
    ·exact bG ⟨k2,rfl,m3,p1,by dsimp only;omega,by dsimp only;rw[cS];omega⟩
  case pst1 =>
   obtain⟨c0',na',nb',out',ac,bc⟩:=c
   dsimp only at o ⊢
   rcases o with ⟨r,e3,mo⟩ | ⟨e3,m2,p1,p2,p3⟩
   ·rw[e3]
    exact bG ⟨k2,r,rfl,mo⟩
   rw[e3]
   dsimp only
   refine bD (wpS_lift (dz ⟨rfl,?_⟩))
   refine bD (dc (cu (β:=Option (Array Keyed)×Nat×Nat×Array Keyed×Nat×Nat×Nat) (I:=fun y c z'=>Kp z z'∧c.1=none∧MJ κ a b c.2.1 c.2.2.1 c.2.2.2.1∧1≤c.2.1∧2≤c.2.2.1∧out.size+1≤c.2.2.2.1.size) (Q:=fun c z'=>Kp z z'∧((∃ r,c.1=some r∧MO κ a b r)∨(c.1=none∧MJ κ a b c.2.1 c.2.2.1 c.2.2.2.1∧1≤c.2.1∧2≤c.2.2.1∧out.size+1≤c.2.2.2.1.size))) (fun y c z3 y1 y2 ⟨k3,e4,m3,r1,r2,r3⟩=>?stp2) (fun c z3 ⟨k3,e4,m3,r1,r2,r3⟩=>⟨k3,.inr ⟨e4,m3,r1,r2,r3⟩⟩) ⟨k2,rfl,m2,p1,p2,p3⟩) fun c z3 ⟨k3,o⟩=>?pst2)
   case pst2 =>
    obtain⟨c0'',na'',nb'',out'',mg',ac',bc'⟩:=c
    dsimp only at o ⊢
    rcases o with ⟨r,e4,mo⟩ | ⟨e4,m3,r1,r2,r3⟩
    ·rw[e4]
     exact bG ⟨k3,r,rfl,mo⟩
    rw[e4]
    dsimp only
    refine bD (m:=zHD (mg'+1)) (zCz fun z4 k4=>?_)
    exact bG ⟨k3.trans k4,rfl,m3,r1,r2,by dsimp only;omega⟩
   case stp2 =>
    clear m2 p1 p2 p3 m1 q1 q2 e3 e2 k1 k2
    obtain⟨c0'',na'',nb'',out'',mg',ac',bc'⟩:=c
    dsimp only at e4 m3 r1 r2 r3 ⊢
    have s3:=m3.sz
    have h3a:=m3.ha
    have h3b:=m3.hb
    have jb:nb''-1<b.size:=by omega
    rcases Classical.em (mg'>1) with hm | hm
    rw[if_pos hm]
    rotate_left
    rw[if_neg hm]
    all_goals
     refine bD (m:=zHD _) (zCz fun z4 k4=>?_)
     have kz:=k3.trans k4
     refine bD (m:=elem' b (nb''-1)) (zZ (getElem?_pos b _ jb) ?_)
     refine bD (m:=zAY false b[nb''-1] a 0 na'' (na''-1)) (wg L (B:=fun t=>!κ.blt (KK κ b (nb''-1)) (KK κ a t)) (kz.kd.trans hz) (pb _ (ck jb)) pa (by omega) (by omega) (fun t h1 h2=>by rw[if_neg (by simp),← zf h1,← zf jb,Nat.zero_add]) (fun t u tu un q=>?_) fun k tk=>?_)
     ·simp only[dS] at q ⊢
      exact KeyOrd.kle_trans (sa _ _ tu (by omega)) q
     dsimp only
     have l4:=tk.le
     have ya:∀ t,k≤t→t<na''→∀ j,j<nb''→κ.kle (KK κ b j) (KK κ a t):=fun t t1 t2 j j1=>by
      have q:=tk.no t t1 t2
      rw[Bool.not_eq_false'] at q
      exact KeyOrd.kle_trans (sb j (nb''-1) (by omega) jb) (KeyOrd.kle_of_klt q)
     have yn:∀ t,t<k→κ.kle (KK κ a t) (KK κ b (nb''-1)):=fun t t1=>by
      have q:=tk.yes t t1
      rw[dS] at q
      exact q
     by_cases hk:na''-k>0
     ·rw[if_pos hk]
      have m4:=MJ.manyA' m3 sa l4 ya
      have s4:=m4.sz
      by_cases c3:k=0
      ·rw[if_pos (by simpa using c3)]
       exact bG ⟨kz,.inl ⟨_,rfl,m4.doneA sb c3⟩⟩
      rw[if_neg (by simpa using c3)]
      refine bD (m:=elem' b (nb''-1)) (zZ (getElem?_pos b _ jb) ?_)
      have m5:=MJ.pushB' m4 sb (by omega) jb yn
      have s5:=m5.sz
      by_cases c5:nb''-1=1
      ·rw[if_pos (by simpa using c5)]
       exact bG ⟨kz,.inl ⟨_,rfl,m5.fstB sa sb fst c5⟩⟩
      rw[if_neg (by simpa using c5)]
      have i5:k-1<a.size:=by omega
      refine bD (m:=elem' a (k-1)) (zZ (getElem?_pos a (k-1) i5) ?_)
      refine bD (m:=zAY true a[k-1] b 0 (nb''-1) (nb''-1-1)) (wg L (B:=fun t=>κ.blt (KK κ b t) (KK κ a (k-1))) (kz.kd.trans hz) (pa _ (ck i5)) pb (by omega) (by omega) (fun t h1 h2=>by rw[if_pos rfl,← zf h1,← zf i5,Nat.zero_add]) (fun t u tu un q=>KeyOrd.klt_of_kle_of_klt (sb _ _ tu (by omega)) q) fun k' tk'=>?_)
      dsimp only
      have l6:=tk'.le
      have ym:∀ t,k'≤t→t<nb''-1→∀ j,j<k→κ.kle (KK κ a j) (KK κ b t):=fun t t1 t2 j j1=>by
       have q:=tk'.no t t1 t2
       exact KeyOrd.kle_trans (sa j (k-1) (by omega) i5) q
      have nm:∀ t,t<k'→κ.kle (KK κ b t) (KK κ a (k-1)):=fun t t1=>KeyOrd.kle_of_klt (tk'.yes t t1)
      by_cases hk':nb''-1-k'>0
      ·rw[if_pos hk']
       have m6:=MJ.manyB' m5 sb l6 ym
       have s6:=m6.sz
       by_cases c6:k'=1
       ·rw[if_pos (by simpa using c6)]
        exact bG ⟨kz,.inl ⟨_,rfl,m6.fstB sa sb fst c6⟩⟩
       rw[if_neg (by simpa using c6)]
       by_cases c8:k'=0
       ·rw[if_pos (by simpa using c8)]
        exact bG ⟨kz,.inl ⟨_,rfl,m6.doneB sa c8⟩⟩
       rw[if_neg (by simpa using c8)]
       have iu:k-1<a.size:=by omega
       refine bD (m:=elem' a (k-1)) (zZ (getElem?_pos a (k-1) iu) ?_)
       have m7:=MJ.pushA' m6 sa (by omega) iu nm
       have s7:=m7.sz
       by_cases c7:k-1=0
       ·rw[if_pos (by simpa using c7)]
        exact bG ⟨kz,.inl ⟨_,rfl,m7.doneA sb c7⟩⟩
       rw[if_neg (by simpa using c7)]
       split
       ·exact bG ⟨kz,.inr ⟨rfl,m7,by dsimp only;omega,by dsimp only;omega,by dsimp only;omega⟩⟩
       ·exact bG ⟨kz,rfl,m7,by dsimp only;omega,by dsimp only;omega,by dsimp only;omega⟩
      ·rw[if_neg hk']
       have iu:k-1<a.size:=by omega
       refine bD (m:=elem' a (k-1)) (zZ (getElem?_pos a (k-1) iu) ?_)
       have m7:=MJ.pushA' m5 sa (by omega) iu (fun t t1=>nm t (by omega))
       have s7:=m7.sz
       by_cases c7:k-1=0
       ·rw[if_pos (by simpa using c7)]
        exact bG ⟨kz,.inl ⟨_,rfl,m7.doneA sb c7⟩⟩
       rw[if_neg (by simpa using c7)]
       split
       ·exact bG ⟨kz,.inr ⟨rfl,m7,by dsimp only;omega,by dsimp only;omega,by dsimp only;omega⟩⟩
       ·exact bG ⟨kz,rfl,m7,by dsimp only;omega,by dsimp only;omega,by dsimp only;omega⟩
     ·rw[if_neg hk]
      refine bD (m:=elem' b (nb''-1)) (zZ (getElem?_pos b _ jb) ?_)
      have m5:=MJ.pushB' m3 sb (by omega) jb (fun t t1=>yn t (by omega))
      have s5:=m5.sz
      by_cases c5:nb''-1=1
      ·rw[if_pos (by simpa using c5)]
       exact bG ⟨kz,.inl ⟨_,rfl,m5.fstB sa sb fst c5⟩⟩
      rw[if_neg (by simpa using c5)]
      have i5:na''-1<a.size:=by omega
      refine bD (m:=elem' a (na''-1)) (zZ (getElem?_pos a (na''-1) i5) ?_)
      refine bD (m:=zAY true a[na''-1] b 0 (nb''-1) (nb''-1-1)) (wg L (B:=fun t=>κ.blt (KK κ b t) (KK κ a (na''-1))) (kz.kd.trans hz) (pa _ (ck i5)) pb (by omega) (by omega) (fun t h1 h2=>by rw[if_pos rfl,← zf h1,← zf i5,Nat.zero_add]) (fun t u tu un q=>KeyOrd.klt_of_kle_of_klt (sb _ _ tu (by omega)) q) fun k' tk'=>?_)
      dsimp only
      have l6:=tk'.le
      have ym:∀ t,k'≤t→t<nb''-1→∀ j,j<na''→κ.kle (KK κ a j) (KK κ b t):=fun t t1 t2 j j1=>by
       have q:=tk'.no t t1 t2
       exact KeyOrd.kle_trans (sa j (na''-1) (by omega) i5) q
      have nm:∀ t,t<k'→κ.kle (KK κ b t) (KK κ a (na''-1)):=fun t t1=>KeyOrd.kle_of_klt (tk'.yes t t1)
      by_cases hk':nb''-1-k'>0
      ·rw[if_pos hk']
       have m6:=MJ.manyB' m5 sb l6 ym
       have s6:=m6.sz
       by_cases c6:k'=1
       ·rw[if_pos (by simpa using c6)]
        exact bG ⟨kz,.inl ⟨_,rfl,m6.fstB sa sb fst c6⟩⟩
       rw[if_neg (by simpa using c6)]
       by_cases c8:k'=0
       ·rw[if_pos (by simpa using c8)]
        exact bG ⟨kz,.inl ⟨_,rfl,m6.doneB sa c8⟩⟩
       rw[if_neg (by simpa using c8)]
       have iu:na''-1<a.size:=by omega
       refine bD (m:=elem' a (na''-1)) (zZ (getElem?_pos a (na''-1) iu) ?_)
       have m7:=MJ.pushA' m6 sa (by omega) iu nm
       have s7:=m7.sz
       by_cases c7:na''-1=0
       ·rw[if_pos (by simpa using c7)]
        exact bG ⟨kz,.inl ⟨_,rfl,m7.doneA sb c7⟩⟩
       rw[if_neg (by simpa using c7)]
       split
       ·exact bG ⟨kz,.inr ⟨rfl,m7,by dsimp only;omega,by dsimp only;omega,by dsimp only;omega⟩⟩
       ·exact bG ⟨kz,rfl,m7,by dsimp only;omega,by dsimp only;omega,by dsimp only;omega⟩
      ·rw[if_neg hk']
       have iu:na''-1<a.size:=by omega
       refine bD (m:=elem' a (na''-1)) (zZ (getElem?_pos a (na''-1) iu) ?_)
       have m7:=MJ.pushA' m5 sa (by omega) iu (fun t t1=>nm t (by omega))
       have s7:=m7.sz
       by_cases c7:na''-1=0
       ·rw[if_pos (by simpa using c7)]
        exact bG ⟨kz,.inl ⟨_,rfl,m7.doneA sb c7⟩⟩
       rw[if_neg (by simpa using c7)]
       split
       ·exact bG ⟨kz,.inr ⟨rfl,m7,by dsimp only;omega,by dsimp only;omega,by dsimp only;omega⟩⟩
       ·exact bG ⟨kz,rfl,m7,by dsimp only;omega,by dsimp only;omega,by dsimp only;omega⟩
end
theorem zNG{σ:Type}{M:Model}{A:Around}{E:Value→Shared→Prop}{s:Shared}{Q:PUnit→σ→Prop}{st st':σ}(h:Q ⟨⟩ st'):wpS M A E s (set st':StateT σ Sem PUnit) Q st:=by
 unfold wpS
 rw[StateT.run_set]
 exact bC ⟨rfl,h⟩
section
variable {κ:KeyKind}
noncomputable def Seg(κ:KeyKind)(xs:Array Keyed)(lo hi:Nat):Prop:=∀ i j,lo≤i→i≤j→j<hi→κ.kle (KK κ xs i) (KK κ xs j)
noncomputable def zEb(xs:Array Keyed)(at':Nat)(l:List Keyed):Array Keyed:=l.zipIdx.foldl (fun a x=>match x with | (p,j)=>a.setIfInBounds (at'+j) p) xs
theorem zHE{at':Nat}:∀(l:List Keyed) (m:Nat) (xs:Array Keyed),at'+m+l.length≤xs.size→((l.zipIdx m).foldl (fun a x=>match x with | (p,j)=>a.setIfInBounds (at'+j) p) xs).toList=xs.toList.take (at'+m)++(l++xs.toList.drop (at'+m+l.length))
 | [],m,xs,h=>by simp
 | x::r,m,xs,h=>by
  rw[bu] at h
  rw[List.zipIdx_cons,List.foldl_cons]
  rw[zHE r (m+1) _ (by simp;omega)]
  simp only[Array.toList_setIfInBounds]
  have hl:at'+m<xs.toList.length:=by simp;omega
  rw[show at'+(m+1)=at'+m+1 by omega,List.take_set,List.take_add_one,cL hl,List.drop_set_of_lt (by omega),bu,show at'+m+1+r.length=at'+m+(r.length+1) by omega]
  rw[eH _ _ (by simp;omega)]
  have:at'+m-(xs.toList.take (at'+m)).length=0:=by rw[bW];omega
  rw[this]
  simp
theorem zEc{xs:Array Keyed}{at':Nat}{l:List Keyed}(h:at'+l.length≤xs.size):(zEb xs at' l).toList=xs.toList.take at'++(l++xs.toList.drop (at'+l.length)):=by
 have:=zHE (at':=at') l 0 xs (by omega)
 rw[Nat.add_zero] at this
 exact this
theorem zKB{xs:Array Keyed}{at':Nat}{l:List Keyed}(h:at'+l.length≤xs.size)(k:Nat):(zEb xs at' l)[k]?=if at'≤k∧k<at'+l.length then l[k-at']? else xs[k]?:=by
 rw[← cx,zEc h]
 have hl:(xs.toList.take at').length=at':=by rw[bW,bJ];omega
 by_cases h1:k<at'
 ·rw[if_neg (by omega),cj (by omega),List.getElem?_take,if_pos h1,cx]
 rw[cn (by omega),hl]
 by_cases h2:k<at'+l.length
 ·rw[if_pos ⟨by omega,h2⟩,cj (by omega)]
 ·rw[if_neg (by omega),cn (by omega),eC,show at'+l.length+(k-at'-l.length)=k by omega,cx]
theorem zDQ{xs:Array Keyed}{u v t:Nat}(h:u+t<v)(hv:v≤xs.size):KK κ (xs.extract u v) t=KK κ xs (u+t):=by
 refine KK_congr ?_
 rw[Array.getElem?_extract_of_lt (by omega),getElem?_pos xs _ (by omega)]
theorem zNH{r:Array Keyed}(h:Srt κ r.toList):SortedToK κ r r.size:=fun i j ij jr=>by
 rcases da i j with q | q
 ·have:=dZ.mp h i j (by simp;omega) (by simpa using jr) q
  rw[zf (by omega),zf jr]
  simpa using this
 ·obtain rfl:i=j:=by omega
  exact KeyOrd.kle_refl _
theorem zI7{xs:Array Keyed}{u v:Nat}(h:Seg κ xs u v)(hv:v≤xs.size):SortedToK κ (xs.extract u v) (xs.extract u v).size:=fun i j ij hj=>by
 rw[dJ] at hj
 rw[zDQ (by omega) hv,zDQ (by omega) hv]
 exact h (u+i) (u+j) (by omega) (by omega) (by omega)
theorem zQs{xs:Array Keyed}{u v c:Nat}(huv:u≤v)(hc:v+c≤xs.size):xs.toList=xs.toList.take u++(((xs.extract u v).toList++(xs.extract v (v+c)).toList)++xs.toList.drop (v+c)):=by
 rw[cQ,cQ,cy,cy,show v+c-v=c by omega]
 have e1:xs.toList.drop (v+c)=(xs.toList.drop v).drop c:=by rw[List.drop_drop]
 have e2:xs.toList.drop v=(xs.toList.drop u).drop (v-u):=by rw[List.drop_drop,show u+(v-u)=v by omega]
 rw[bZ,e1,cM,e2,cM,cM]
variable {prog:Program} {w:World} {A:Around} {E:Value→Shared→Prop} {s:Shared} {kd:SortKind} {P:Keyed→Prop}
structure Mg (κ:KeyKind) (xs ys:Array Keyed) (sa hi:Nat):Prop where
 pm:ys.Perm xs
 fr:∀ k,k<sa∨hi≤k→ys[k]?=xs[k]?
 sg:Seg κ ys sa hi
variable (L:∀(z:SortSt) (x y:Keyed) (Q:Option Bool→SortSt→Prop),kindOf z=kd→P x→P y→Q (some (κ.blt (ky κ x) (ky κ y))) z→wpS (model prog w) A E s (lt' x y) Q z)
theorem merged{xs:Array Keyed}{sa sb nb k c:Nat}{r:Array Keyed}(h1:sa+k<sb)(h2:0<c)(h3:c≤nb)(h4:sb+nb≤xs.size)(ga:Seg κ xs sa sb)(gb:Seg κ xs sb (sb+nb))(lo:∀ t,t<k→κ.kle (KK κ xs (sa+t)) (KK κ xs sb))(hi:∀ t,c≤t→t<nb→κ.kle (KK κ xs (sb-1)) (KK κ xs (sb+t)))(mo:MO κ (xs.extract (sa+k) sb) (xs.extract sb (sb+c)) r):Mg κ xs (zEb xs (sa+k) r.toList) sa (sb+nb):=by
 have hsz:r.toList.length=sb-(sa+k)+c:=by
  have:=mo.pm.length_eq
  rw[bI] at this
  simp only[bJ,dJ] at this ⊢
  omega
 have hb:(sa+k)+r.toList.length≤xs.size:=by omega
 have hb2:(sa+k)+r.toList.length=sb+c:=by omega
 have get:=zKB hb
 have src:∀ t,t<r.size→∃ u,sa+k≤u∧u<sb+c∧KK κ r t=KK κ xs u:=fun t ht=>by
  have hm:r[t]∈(xs.extract (sa+k) sb).toList++(xs.extract sb (sb+c)).toList:=mo.pm.mem_iff.mp (by simp)
  rw[zf ht]
  rcases bR.mp hm with hm | hm
  ·obtain⟨j,hj,e⟩:=d9.mp hm
   rw[bJ,dJ] at hj
   refine⟨sa+k+j,by omega,by omega,?_⟩
   rw[zf (by omega),← e]
   simp
  ·obtain⟨j,hj,e⟩:=d9.mp hm
   rw[bJ,dJ] at hj
   refine⟨sb+j,by omega,by omega,?_⟩
   rw[zf (by omega),← e]
   simp
 have rs:=zNH mo.sr
 rw[bJ] at hsz
 have kin:∀ i,sa+k≤i→i<sb+c→KK κ (zEb xs (sa+k) r.toList) i=KK κ r (i-(sa+k)):=fun i i1 i2=>by
  refine KK_congr ?_
  rw[get,if_pos ⟨i1,by omega⟩,cx]
 have kout:∀ i,(i<sa+k∨sb+c≤i)→KK κ (zEb xs (sa+k) r.toList) i=KK κ xs i:=fun i i1=>by
  refine KK_congr ?_
  rw[get,if_neg (by omega)]
 refine⟨?_,fun i hi'=>by rw[get,if_neg (by omega)],fun i j i1 ij j2=>?_⟩
 ·rw[Array.perm_iff_toList_perm,zEc hb,hb2]
  conv=>rhs;rw[zQs (xs:=xs) (u:=sa+k) (v:=sb) (c:=c) (by omega) (by omega)]
  exact dg.append_left _ (dg.append_right _ mo.pm)
 ·by_cases p1:i<sa+k
  ·rw[kout i (.inl p1)]
   have il:=lo (i-sa) (by omega)
   rw[show sa+(i-sa)=i by omega] at il
   by_cases p2:j<sa+k
   ·rw[kout j (.inl p2)]
    exact ga i j i1 ij (by omega)
   by_cases p3:j<sb+c
   ·rw[kin j (by omega) p3]
    obtain⟨u,u1,u2,u3⟩:=src (j-(sa+k)) (by omega)
    rw[u3]
    by_cases p4:u<sb
    ·exact ga i u i1 (by omega) p4
    ·exact KeyOrd.kle_trans il (gb sb u (by omega) (by omega) (by omega))
   ·rw[kout j (.inr (by omega))]
    exact KeyOrd.kle_trans il (gb sb j (by omega) (by omega) j2)
  by_cases p2:i<sb+c
  ·rw[kin i (by omega) p2]
   by_cases p3:j<sb+c
   ·rw[kin j (by omega) p3]
    exact rs _ _ (by omega) (by omega)
   ·rw[kout j (.inr (by omega))]
    obtain⟨u,u1,u2,u3⟩:=src (i-(sa+k)) (by omega)
    rw[u3]
    by_cases p4:u<sb
    ·have:=hi (j-sb) (by omega) (by omega)
     rw[show sb+(j-sb)=j by omega] at this
     exact KeyOrd.kle_trans (ga u (sb-1) (by omega) (by omega) (by omega)) this
    ·exact gb u j (by omega) (by omega) j2
  ·rw[kout i (.inr (by omega)),kout j (.inr (by omega))]
   exact gb i j (by omega) ij j2
include L
theorem zIO{i:Nat}{z:SortSt}{Q:Bool→SortSt→Prop}{sa na pw sb nb pw2:Nat}(hz:kindOf z=kd)(hf:failedOf z=none)(pa:∀ p∈arrOf z,P p)(e1:(pendingOf z)[i]?=some (sa,na,pw))(e2:(pendingOf z)[i+1]?=some (sb,nb,pw2))(hab:sb=sa+na)(h1:1≤na)(h2:1≤nb)(hs:sb+nb≤(arrOf z).size)(ga:Seg κ (arrOf z) sa sb)(gb:Seg κ (arrOf z) sb (sb+nb))
  (h:∀ z',kindOf z'=kd→failedOf z'=none→pendingOf z'=((pendingOf z).setIfInBounds i (sa,na+nb,pw)).eraseIdxIfInBounds (i+1)→Mg κ (arrOf z) (arrOf z') sa (sb+nb)→Q true z'):wpS (model prog w) A E s (mergeAt' i) Q z:=by
 refine bD (wpS_get ?_)
 rw[e1,e2]
 dsimp only
 refine bD (zNG ?_)
 have jb:sb<(arrOf z).size:=by omega
 refine bD (m:=elem' (arrOf z) sb) (zZ (getElem?_pos _ sb jb) ?_)
 refine bD (m:=zAY false (arrOf z)[sb] (arrOf z) sa na 0) (wg L (B:=fun t=>!κ.blt (KK κ (arrOf z) sb) (KK κ (arrOf z) (sa+t))) hz (pa _ (ck jb)) pa (by omega) (by omega) (fun t t1 t2=>by rw[if_neg (by simp),← zf t1,← zf jb]) (fun t u tu un q=>?_) fun k tk=>?_)
 ·simp only[dS] at q ⊢
  exact KeyOrd.kle_trans (ga _ _ (by omega) (by omega) (by omega)) q
 dsimp only
 have lo:∀ t,t<k→κ.kle (KK κ (arrOf z) (sa+t)) (KK κ (arrOf z) sb):=fun t t1=>by
  have q:=tk.yes t t1
  rw[dS] at q
  exact q
 have lk:=tk.le
 by_cases c1:na-k=0
 ·rw[if_pos (by simpa using c1)]
  refine bG (h _ hz hf rfl ⟨Array.Perm.refl _,fun u0 u0=>rfl,fun i j i1 ij j2=>?_⟩)
  show κ.kle (KK κ (arrOf z) i) (KK κ (arrOf z) j)
  by_cases p1:i<sb
  ·by_cases p2:j<sb
   ·exact ga i j i1 ij p2
   ·have:=lo (i-sa) (by omega)
    rw[show sa+(i-sa)=i by omega] at this
    exact KeyOrd.kle_trans this (gb sb j (by omega) (by omega) j2)
  ·exact gb i j (by omega) ij j2
 rw[if_neg (by simpa using c1)]
 have ja:sa+k+(na-k)-1<(arrOf z).size:=by omega
 refine bD (m:=elem' (arrOf z) (sa+k+(na-k)-1)) (zZ (getElem?_pos (arrOf z) _ ja) ?_)
 have ej:sa+k+(na-k)-1=sb-1:=by omega
 refine bD (m:=zAY true (arrOf z)[sa+k+(na-k)-1] (arrOf z) sb nb (nb-1)) (wg L (B:=fun t=>κ.blt (KK κ (arrOf z) (sb+t)) (KK κ (arrOf z) (sb-1))) hz (pa _ (ck ja)) pa (by omega) (by omega) (fun t t1 t2=>by rw[if_pos rfl,← zf t1,← zf ja,ej]) (fun t u tu un q=>KeyOrd.klt_of_kle_of_klt (gb _ _ (by omega) (by omega) (by omega)) q) fun c tc=>?_)
 dsimp only
 have lc:=tc.le
 have hi:∀ t,c≤t→t<nb→κ.kle (KK κ (arrOf z) (sb-1)) (KK κ (arrOf z) (sb+t)):=fun t t1 t2=>tc.no t t1 t2
 by_cases c2:c=0
 ·rw[if_pos (by simpa using c2)]
  refine bG (h _ hz hf rfl ⟨Array.Perm.refl _,fun u0 u0=>rfl,fun i j i1 ij j2=>?_⟩)
  show κ.kle (KK κ (arrOf z) i) (KK κ (arrOf z) j)
  by_cases p1:i<sb
  ·by_cases p2:j<sb
   ·exact ga i j i1 ij p2
   ·have:=hi (j-sb) (by omega) (by omega)
    rw[show sb+(j-sb)=j by omega] at this
    exact KeyOrd.kle_trans (ga i (sb-1) i1 (by omega) (by omega)) this
  ·exact gb i j (by omega) ij j2
 rw[if_neg (by simpa using c2)]
 have px:∀ p∈(arrOf z).extract (sa+k) sb,P p:=fun p hp=>pa p (by
  rw[← Array.mem_toList_iff] at hp ⊢
  rw[cQ,cy] at hp
  exact dD (cq hp))
 have py:∀ p∈(arrOf z).extract sb (sb+c),P p:=fun p hp=>pa p (by
  rw[← Array.mem_toList_iff] at hp ⊢
  rw[cQ,cy] at hp
  exact dD (cq hp))
 have xs:((arrOf z).extract (sa+k) sb).size=sb-(sa+k):=by rw[dJ];omega
 have ys:((arrOf z).extract sb (sb+c)).size=c:=by rw[dJ];omega
 have ax:=zI7 (κ:=κ) (xs:=arrOf z) (u:=sa+k) (v:=sb) (fun i j i1 ij j2=>ga i j (by omega) ij j2) (by omega)
 have ay:=zI7 (κ:=κ) (xs:=arrOf z) (u:=sb) (v:=sb+c) (fun i j i1 ij j2=>gb i j (by omega) ij (by omega)) (by omega)
 have fs:∀ j,j<((arrOf z).extract (sa+k) sb).size→κ.kle (KK κ ((arrOf z).extract sb (sb+c)) 0) (KK κ ((arrOf z).extract (sa+k) sb) j):=fun j hj=>by
  rw[xs] at hj
  rw[zDQ (by omega) (by omega),zDQ (by omega) (by omega)]
  have q:=tk.no (k+j) (by omega) (by omega)
  rw[Bool.not_eq_false'] at q
  rw[Nat.add_zero,Nat.add_assoc]
  exact KeyOrd.kle_of_klt q
 have ls:∀ j,j<((arrOf z).extract sb (sb+c)).size→κ.kle (KK κ ((arrOf z).extract sb (sb+c)) j) (KK κ ((arrOf z).extract (sa+k) sb) (((arrOf z).extract (sa+k) sb).size-1)):=fun j hj=>by
  rw[ys] at hj
  rw[xs,zDQ (by omega) (by omega),zDQ (by omega) (by omega),show sa+k+(sb-(sa+k)-1)=sb-1 by omega]
  exact KeyOrd.kle_of_klt (tc.yes j hj)
 have fin:∀(r:Array Keyed) (z':SortSt),MO κ ((arrOf z).extract (sa+k) sb) ((arrOf z).extract sb (sb+c)) r→Kp (SortSt.mk' (kindOf z) (arrOf z) (((pendingOf z).setIfInBounds i (sa,na+nb,pw)).eraseIdxIfInBounds (i+1)) (gallopOf z) (failedOf z)) z'→Q (failedOf z').isNone (setArr z' (zEb (arrOf z') (sa+k) r.toList)):=fun r z' mo kp=>by
  rw[show(failedOf z').isNone=true by rw[kp.fl];show(failedOf z).isNone=true;rw[hf];rfl]
  refine h _ (kp.kd.trans hz) (kp.fl.trans hf) kp.pe ?_
  show Mg κ (arrOf z) (zEb (arrOf z') (sa+k) r.toList) sa (sb+nb)
  rw[kp.ar]
  exact merged (by omega) (by omega) lc hs ga gb lo hi mo
 by_cases c3:na-k≤c
 ·rw[if_pos c3]
  refine bD (m:=zHB ((arrOf z).extract (sa+k) sb) ((arrOf z).extract sb (sb+c))) (zIM L hz px py (by omega) (by omega) ax ay fs ls fun r z' mo kp=>?_)
  exact bD (ei (bD (wpS_get (bG (fin r z' mo kp)))))
 ·rw[if_neg c3]
  refine bD (m:=zHC ((arrOf z).extract (sa+k) sb) ((arrOf z).extract sb (sb+c))) (zIN L hz px py (by omega) (by omega) ax ay fs ls fun r z' mo kp=>?_)
  exact bD (ei (bD (wpS_get (bG (fin r z' mo kp)))))
end
structure Ahd (lo:Nat) (z z':SortSt):Prop where
 pm:(arrOf z').Perm (arrOf z)
 kd:kindOf z'=kindOf z
 fl:failedOf z'=failedOf z
 pe:pendingOf z'=pendingOf z
 fr:∀ k,k<lo→(arrOf z')[k]?=(arrOf z)[k]?
theorem Ahd.refl(lo:Nat)(z:SortSt):Ahd lo z z:=⟨Array.Perm.refl _,rfl,rfl,rfl,fun u0 u0=>rfl⟩
theorem Ahd.sz{lo:Nat}{z z':SortSt}(h:Ahd lo z z'):(arrOf z').size=(arrOf z).size:=h.pm.size_eq
theorem Ahd.all{lo:Nat}{z z':SortSt}{P:Keyed→Prop}(h:Ahd lo z z')(p:∀ x∈arrOf z,P x):∀ x∈arrOf z',P x:=fun x hx=>p x (h.pm.mem_iff.mp hx)
theorem Ahd.rev{lo i j:Nat}{z z':SortSt}(h:Ahd lo z z')(hi:lo≤i)(hj:j≤(arrOf z').size):Ahd lo z (setArr z' (mirror (arrOf z') i j ((j-i) / 2))):=by
 refine⟨(mirror_perm _ _ _ _).trans h.pm,h.kd,h.fl,h.pe,fun k hk=>?_⟩
 show(mirror (arrOf z') i j ((j-i) / 2))[k]?=_
 rw[getElem?_mirror_all hj,if_neg (by omega)]
 exact h.fr k hk
theorem Ahd.down{lo i j:Nat}{z z':SortSt}(h:Ahd lo z z')(hi:lo≤i)(hij:i≤j)(hj:j<(arrOf z').size):Ahd lo z (setArr z' (bubble (arrOf z') j (j-i))):=by
 refine⟨(bubble_perm _ _ _).trans h.pm,h.kd,h.fl,h.pe,fun k hk=>?_⟩
 show(bubble (arrOf z') j (j-i))[k]?=_
 rw[getElem?_bubble hj (j-i) (by omega),if_neg (by omega),if_neg (by omega)]
 exact h.fr k hk
section
variable {κ:KeyKind}
noncomputable def Dsc(κ:KeyKind)(xs:Array Keyed)(lo hi:Nat):Prop:=∀ i j,lo≤i→i≤j→j<hi→κ.kle (KK κ xs j) (KK κ xs i)
theorem Seg.more{xs:Array Keyed}{lo hi:Nat}(u:Seg κ xs lo hi)(h:lo<hi→κ.kle (KK κ xs (hi-1)) (KK κ xs hi)):Seg κ xs lo (hi+1):=fun i j i1 ij jm=>by
 rcases da j hi with q | q
 ·exact u i j i1 ij q
 obtain rfl:j=hi:=by omega
 rcases da i j with p | p
 ·exact KeyOrd.kle_trans (u i (j-1) i1 (by omega) (by omega)) (h (by omega))
 ·obtain rfl:i=j:=by omega
  exact KeyOrd.kle_refl _
theorem Dsc.more{xs:Array Keyed}{lo hi:Nat}(u:Dsc κ xs lo hi)(h:lo<hi→κ.kle (KK κ xs hi) (KK κ xs (hi-1))):Dsc κ xs lo (hi+1):=fun i j i1 ij jm=>by
 rcases da j hi with q | q
 ·exact u i j i1 ij q
 obtain rfl:j=hi:=by omega
 rcases da i j with p | p
 ·exact KeyOrd.kle_trans (h (by omega)) (u i (j-1) i1 (by omega) (by omega))
 ·obtain rfl:i=j:=by omega
  exact KeyOrd.kle_refl _
theorem Dsc.congr{xs ys:Array Keyed}{lo hi:Nat}(e:∀ i,KK κ ys i=KK κ xs i)(u:Dsc κ xs lo hi):Dsc κ ys lo hi:=fun i j i1 ij jm=>by rw[e,e];exact u i j i1 ij jm
theorem Dsc.turn{xs:Array Keyed}{lo hi:Nat}(u:Dsc κ xs lo hi)(h:hi≤xs.size):Seg κ (mirror xs lo hi ((hi-lo) / 2)) lo hi:=fun i j i1 ij jm=>by
 rw[KK_mirror h,KK_mirror h,if_pos ⟨i1,by omega⟩,if_pos ⟨by omega,jm⟩]
 exact u (lo+hi-1-j) (lo+hi-1-i) (by omega) (by omega) (by omega)
structure Fal (κ:KeyKind) (xs:Array Keyed) (lo m c:Nat):Prop where
 dn:Dsc κ xs lo (lo+m)
 le:c+1≤m
 eq:∀ i,lo+m-(c+1)≤i→i<lo+m→KK κ xs i=KK κ xs (lo+m-1)
theorem Fal.one{xs:Array Keyed}{lo m:Nat}(d:Dsc κ xs lo (lo+m))(h:1≤m):Fal κ xs lo m 0:=⟨d,h,fun i h1 h2=>by rw[show i=lo+m-1 by omega]⟩
variable {prog:Program} {w:World} {A:Around} {E:Value→Shared→Prop} {s:Shared} {kd:SortKind} {P:Keyed→Prop}
variable (L:∀(z:SortSt) (x y:Keyed) (Q:Option Bool→SortSt→Prop),kindOf z=kd→P x→P y→Q (some (κ.blt (ky κ x) (ky κ y))) z→wpS (model prog w) A E s (lt' x y) Q z)
include L
theorem ww{i j:Nat}{z:SortSt}{Q:Option Bool→SortSt→Prop}(hz:kindOf z=kd)(pa:∀ p∈arrOf z,P p)(hi:i<(arrOf z).size)(hj:j<(arrOf z).size)(h:Q (some (κ.blt (KK κ (arrOf z) i) (KK κ (arrOf z) j))) z):wpS (model prog w) A E s (ltAt' i j) Q z:=by
 refine bD (wpS_get ?_)
 refine bD (m:=elem' (arrOf z) i) (zZ (getElem?_pos (arrOf z) i hi) ?_)
 refine bD (m:=elem' (arrOf z) j) (zZ (getElem?_pos (arrOf z) j hj) ?_)
 exact L _ _ _ _ hz (pa _ (ck hi)) (pa _ (ck hj)) (by rw[← zf hi,← zf hj];exact h)
theorem zHF{lo nrem:Nat}{z:SortSt}{Q:Option Nat→SortSt→Prop}(hz:kindOf z=kd)(pa:∀ p∈arrOf z,P p)(h1:1≤nrem)(hs:lo+nrem≤(arrOf z).size)
  (h:∀ n z',1≤n→n≤nrem→Ahd lo z z'→Seg κ (arrOf z') lo (lo+n)→Q (some n) z'):wpS (model prog w) A E s (countRun' lo nrem) Q z:=by
 refine bD (dc (cu (β:=Option (Option Nat)×Nat) (I:=fun x c z'=>z'=z∧c=(none,x)∧Seg κ (arrOf z) lo (lo+x)) (Q:=fun c z'=>z'=z∧∃ n,c=(none,n)∧1≤n∧n≤nrem∧Seg κ (arrOf z) lo (lo+n)∧(n=nrem∨κ.klt (KK κ (arrOf z) (lo+n)) (KK κ (arrOf z) (lo+n-1)))) (fun x c z' x1 x2 ⟨e1,e2,u⟩=>?stp) (fun c z' ⟨e1,e2,u⟩=>?fin) ⟨rfl,rfl,fun i j i1 ij j2=>by obtain rfl:i=j:=(by omega);exact KeyOrd.kle_refl _⟩) fun c z' ⟨e1,n,e2,n1,n2,u,o⟩=>?pst)
 case fin =>
  rw[show max 1 nrem=nrem by omega] at e2 u
  exact⟨e1,nrem,e2,h1,bF _,u,.inl rfl⟩
 case stp =>
  subst e1 e2
  refine bD (m:=ltAt' (lo+x) (lo+x-1)) (ww L hz pa (by omega) (by omega) ?_)
  dsimp only
  cases q:κ.blt (KK κ (arrOf z') (lo+x)) (KK κ (arrOf z') (lo+x-1)) with
  | true=>exact bG ⟨rfl,x,rfl,x1,by omega,u,.inr q⟩
  | false=>exact bG ⟨rfl,rfl,Seg.more u fun u0=>q⟩
 case pst =>
  subst e1 e2
  dsimp only
  by_cases e:n=nrem
  ·rw[if_pos (by simpa using e)]
   exact bG (h n z' n1 n2 (.refl _ _) u)
  rw[if_neg (by simpa using e)]
  have lt:=o.resolve_left e
  by_cases g:n>1
  ·rw[if_pos g]
   refine bD (m:=ltAt' lo (lo+n-1)) (ww L hz pa (by omega) (by omega) ?_)
   dsimp only
   cases q:κ.blt (KK κ (arrOf z') lo) (KK κ (arrOf z') (lo+n-1)) with
   | true=>exact bG (h n z' n1 n2 (.refl _ _) u)
   | false =>
    have sz:lo+n≤(arrOf z').size:=by omega
    have al:∀ k,lo≤k→k<lo+n→KK κ (arrOf z') k=KK κ (arrOf z') (lo+n-1):=fun k k1 k2=>KeyOrd.kle_antisymm (u k (lo+n-1) k1 (by omega) (by omega)) (KeyOrd.kle_trans q (u lo k (bF _) k1 k2))
    have d0:Dsc κ (arrOf z') lo (lo+n+1):=Dsc.more (fun i j i1 ij jn=>by rw[al i i1 (by omega),al j (by omega) jn];exact KeyOrd.kle_refl _) fun u0=>KeyOrd.kle_of_klt lt
    rw[if_neg (by simp)]
    refine bD (m:=reverseSlice' lo (lo+n)) (e8 ?_)
    have a1:=(Ahd.refl lo z').rev (i:=lo) (j:=lo+n) (bF _) sz
    have d1:Dsc κ (arrOf (setArr z' (mirror (arrOf z') lo (lo+n) ((lo+n-lo) / 2)))) lo (lo+(n+1)):=Dsc.congr (KK_mirror_equal sz al) d0
    generalize setArr z' (mirror (arrOf z') lo (lo+n) ((lo+n-lo) / 2))=z1 at a1 d1 ⊢
    refine bD (wpS_lift (dz ⟨rfl,?_⟩))
    refine bD (dc (cu (β:=Option (Option Nat)×Nat×Nat) (I:=fun x c z2=>∃ q,c=(none,x,q)∧Ahd lo z' z2∧Fal κ (arrOf z2) lo x q) (Q:=fun c z2=>∃ m q,c=(none,m,q)∧n+1≤m∧m≤nrem∧Ahd lo z' z2∧Fal κ (arrOf z2) lo m q) (fun m c z2 m1 m2 ⟨t,e3,a2,f2⟩=>?sp2) (fun c z2 ⟨t,e3,a2,f2⟩=>⟨nrem,t,by rw[e3,show max (n+1) nrem=nrem by omega],by omega,bF _,a2,by rwa [show max (n+1) nrem=nrem by omega] at f2⟩) ⟨0,rfl,a1,Fal.one d1 (by omega)⟩) fun c z2 ⟨m,t,e3,m1,m2,a2,f2⟩=>?ps2)
    case sp2 =>
     subst e3
     have s2:=a2.sz
     have fl2:=f2.le
     refine bD (m:=ltAt' (lo+m) (lo+m-1)) (ww L (a2.kd.trans hz) (a2.all pa) (by omega) (by omega) ?_)
     dsimp only
     cases q2:κ.blt (KK κ (arrOf z2) (lo+m)) (KK κ (arrOf z2) (lo+m-1)) with
     | true =>
      have d2:Dsc κ (arrOf z2) lo (lo+m+1):=Dsc.more f2.dn fun u0=>KeyOrd.kle_of_klt q2
      simp only[if_true]
      by_cases hc:t>0
      ·rw[if_pos hc]
       refine bD (m:=reverseSlice' (lo+m-(t+1)) (lo+m)) (e8 (bG ⟨0,rfl,a2.rev (by omega) (by omega),Fal.one ?_ (by omega)⟩))
       exact Dsc.congr (KK_mirror_equal (by omega) f2.eq) d2
      ·rw[if_neg hc]
       exact bG ⟨0,rfl,a2,Fal.one d2 (by omega)⟩
     | false =>
      simp only[bp,if_false]
      refine bD (m:=ltAt' (lo+m-1) (lo+m)) (ww L (a2.kd.trans hz) (a2.all pa) (by omega) (by omega) ?_)
      dsimp only
      cases q3:κ.blt (KK κ (arrOf z2) (lo+m-1)) (KK κ (arrOf z2) (lo+m)) with
      | true=>exact bG ⟨m,t,rfl,m1,by omega,a2,f2⟩
      | false =>
       have ek:KK κ (arrOf z2) (lo+m)=KK κ (arrOf z2) (lo+m-1):=KeyOrd.kle_antisymm q3 q2
       simp only[bp,if_false]
       refine bG ⟨t+1,rfl,a2,Dsc.more f2.dn fun u0=>q3,by omega,fun i i1 i2=>?_⟩
       rw[show lo+(m+1)-1=lo+m by omega]
       rcases da i (lo+m) with p | p
       ·rw[ek];exact f2.eq i (by omega) p
       ·rw[show i=lo+m by omega]
    case ps2 =>
     subst e3
     have s2:=a2.sz
     have fl2:=f2.le
     dsimp only
     by_cases hc:t>0
     ·rw[if_pos hc]
      refine bD (m:=reverseSlice' (lo+m-(t+1)) (lo+m)) (e8 ?_)
      have a4:=a2.rev (i:=lo+m-(t+1)) (j:=lo+m) (by omega) (by omega)
      have d4:Dsc κ (arrOf (setArr z2 (mirror (arrOf z2) (lo+m-(t+1)) (lo+m) ((lo+m-(lo+m-(t+1))) / 2)))) lo (lo+m):=Dsc.congr (KK_mirror_equal (by omega) f2.eq) f2.dn
      generalize setArr z2 (mirror (arrOf z2) (lo+m-(t+1)) (lo+m) ((lo+m-(lo+m-(t+1))) / 2))=z5 at a4 d4 ⊢
      have sw:=Ahd.sz a4
      refine bD (m:=reverseSlice' lo (lo+m)) (e8 ?_)
      have a3:=Ahd.rev (i:=lo) (j:=lo+m) a4 (bF _) (by omega)
      have u3:Seg κ (arrOf (setArr z5 (mirror (arrOf z5) lo (lo+m) ((lo+m-lo) / 2)))) lo (lo+m):=Dsc.turn d4 (by omega)
      generalize setArr z5 (mirror (arrOf z5) lo (lo+m) ((lo+m-lo) / 2))=z3 at a3 u3 ⊢
      have s3:=a3.sz
      refine bD (dc (cu (β:=Option (Option Nat)×Nat) (I:=fun x c z4=>z4=z3∧c=(none,x)∧Seg κ (arrOf z3) lo (lo+x)) (Q:=fun c z4=>z4=z3∧∃ y,c=(none,y)∧m≤y∧y≤nrem∧Seg κ (arrOf z3) lo (lo+y)) (fun x c z4 x1 x2 ⟨y1,y2,y3⟩=>?_) (fun c z4 ⟨y1,y2,y3⟩=>⟨y1,nrem,by rw[y2,show max m nrem=nrem by omega],m2,bF _,by rwa [show max m nrem=nrem by omega] at y3⟩) ⟨rfl,rfl,u3⟩) fun c z4 ⟨y1,y,y2,y3,y4,y5⟩=>?_)
      ·subst y1 y2
       refine bD (m:=ltAt' (lo+x) (lo+x-1)) (ww L (a3.kd.trans hz) (a3.all pa) (by omega) (by omega) ?_)
       dsimp only
       cases q2:κ.blt (KK κ (arrOf z4) (lo+x)) (KK κ (arrOf z4) (lo+x-1)) with
       | true=>exact bG ⟨rfl,x,rfl,x1,by omega,y3⟩
       | false=>exact bG ⟨rfl,rfl,Seg.more y3 fun u0=>q2⟩
      ·subst y1 y2
       exact bG (h y z4 (by omega) y4 a3 y5)
     ·rw[if_neg hc]
      have sw:=Ahd.sz a2
      refine bD (m:=reverseSlice' lo (lo+m)) (e8 ?_)
      have a3:=Ahd.rev (i:=lo) (j:=lo+m) a2 (bF _) (by omega)
      have u3:Seg κ (arrOf (setArr z2 (mirror (arrOf z2) lo (lo+m) ((lo+m-lo) / 2)))) lo (lo+m):=Dsc.turn f2.dn (by omega)
      generalize setArr z2 (mirror (arrOf z2) lo (lo+m) ((lo+m-lo) / 2))=z3 at a3 u3 ⊢
      have s3:=a3.sz
      refine bD (dc (cu (β:=Option (Option Nat)×Nat) (I:=fun x c z4=>z4=z3∧c=(none,x)∧Seg κ (arrOf z3) lo (lo+x)) (Q:=fun c z4=>z4=z3∧∃ y,c=(none,y)∧m≤y∧y≤nrem∧Seg κ (arrOf z3) lo (lo+y)) (fun x c z4 x1 x2 ⟨y1,y2,y3⟩=>?_) (fun c z4 ⟨y1,y2,y3⟩=>⟨y1,nrem,by rw[y2,show max m nrem=nrem by omega],m2,bF _,by rwa [show max m nrem=nrem by omega] at y3⟩) ⟨rfl,rfl,u3⟩) fun c z4 ⟨y1,y,y2,y3,y4,y5⟩=>?_)
      ·subst y1 y2
       refine bD (m:=ltAt' (lo+x) (lo+x-1)) (ww L (a3.kd.trans hz) (a3.all pa) (by omega) (by omega) ?_)
       dsimp only
       cases q2:κ.blt (KK κ (arrOf z4) (lo+x)) (KK κ (arrOf z4) (lo+x-1)) with
       | true=>exact bG ⟨rfl,x,rfl,x1,by omega,y3⟩
       | false=>exact bG ⟨rfl,rfl,Seg.more y3 fun u0=>q2⟩
      ·subst y1 y2
       exact bG (h y z4 (by omega) y4 a3 y5)
  ·rw[if_neg g]
   obtain rfl:n=1:=by omega
   have a1:=Ahd.refl lo z'
   have d1:Dsc κ (arrOf z') lo (lo+(1+1)):=Dsc.more (hi:=lo+1) (fun i j i1 ij j2=>by obtain rfl:i=j:=(by omega);exact KeyOrd.kle_refl _) fun u0=>KeyOrd.kle_of_klt lt
   refine bD (wpS_lift (dz ⟨rfl,?_⟩))
   refine bD (dc (cu (β:=Option (Option Nat)×Nat×Nat) (I:=fun x c z2=>∃ q,c=(none,x,q)∧Ahd lo z' z2∧Fal κ (arrOf z2) lo x q) (Q:=fun c z2=>∃ m q,c=(none,m,q)∧1+1≤m∧m≤nrem∧Ahd lo z' z2∧Fal κ (arrOf z2) lo m q) (fun m c z2 m1 m2 ⟨t,e3,a2,f2⟩=>?sp2) (fun c z2 ⟨t,e3,a2,f2⟩=>⟨nrem,t,by rw[e3,show max (1+1) nrem=nrem by omega],by omega,bF _,a2,by rwa [show max (1+1) nrem=nrem by omega] at f2⟩) ⟨0,rfl,a1,Fal.one d1 (by omega)⟩) fun c z2 ⟨m,t,e3,m1,m2,a2,f2⟩=>?ps2)
   case sp2 =>
    subst e3
    have s2:=a2.sz
    have fl2:=f2.le
    refine bD (m:=ltAt' (lo+m) (lo+m-1)) (ww L (a2.kd.trans hz) (a2.all pa) (by omega) (by omega) ?_)
    dsimp only
    cases q2:κ.blt (KK κ (arrOf z2) (lo+m)) (KK κ (arrOf z2) (lo+m-1)) with
    | true =>
     have d2:Dsc κ (arrOf z2) lo (lo+m+1):=Dsc.more f2.dn fun u0=>KeyOrd.kle_of_klt q2
     simp only[if_true]
     by_cases hc:t>0
     ·rw[if_pos hc]
      refine bD (m:=reverseSlice' (lo+m-(t+1)) (lo+m)) (e8 (bG ⟨0,rfl,a2.rev (by omega) (by omega),Fal.one ?_ (by omega)⟩))
      exact Dsc.congr (KK_mirror_equal (by omega) f2.eq) d2
     ·rw[if_neg hc]
      exact bG ⟨0,rfl,a2,Fal.one d2 (by omega)⟩
    | false =>
     simp only[bp,if_false]
     refine bD (m:=ltAt' (lo+m-1) (lo+m)) (ww L (a2.kd.trans hz) (a2.all pa) (by omega) (by omega) ?_)
     dsimp only
     cases q3:κ.blt (KK κ (arrOf z2) (lo+m-1)) (KK κ (arrOf z2) (lo+m)) with
     | true=>exact bG ⟨m,t,rfl,m1,by omega,a2,f2⟩
     | false =>
      have ek:KK κ (arrOf z2) (lo+m)=KK κ (arrOf z2) (lo+m-1):=KeyOrd.kle_antisymm q3 q2
      simp only[bp,if_false]
      refine bG ⟨t+1,rfl,a2,Dsc.more f2.dn fun u0=>q3,by omega,fun i i1 i2=>?_⟩
      rw[show lo+(m+1)-1=lo+m by omega]
      rcases da i (lo+m) with p | p
      ·rw[ek];exact f2.eq i (by omega) p
      ·rw[show i=lo+m by omega]
   case ps2 =>
    subst e3
    have s2:=a2.sz
    have fl2:=f2.le
    dsimp only
    by_cases hc:t>0
    ·rw[if_pos hc]
     refine bD (m:=reverseSlice' (lo+m-(t+1)) (lo+m)) (e8 ?_)
     have a4:=a2.rev (i:=lo+m-(t+1)) (j:=lo+m) (by omega) (by omega)
     have d4:Dsc κ (arrOf (setArr z2 (mirror (arrOf z2) (lo+m-(t+1)) (lo+m) ((lo+m-(lo+m-(t+1))) / 2)))) lo (lo+m):=Dsc.congr (KK_mirror_equal (by omega) f2.eq) f2.dn
     generalize setArr z2 (mirror (arrOf z2) (lo+m-(t+1)) (lo+m) ((lo+m-(lo+m-(t+1))) / 2))=z5 at a4 d4 ⊢
     have sw:=Ahd.sz a4
     refine bD (m:=reverseSlice' lo (lo+m)) (e8 ?_)
     have a3:=Ahd.rev (i:=lo) (j:=lo+m) a4 (bF _) (by omega)
     have u3:Seg κ (arrOf (setArr z5 (mirror (arrOf z5) lo (lo+m) ((lo+m-lo) / 2)))) lo (lo+m):=Dsc.turn d4 (by omega)
     generalize setArr z5 (mirror (arrOf z5) lo (lo+m) ((lo+m-lo) / 2))=z3 at a3 u3 ⊢
     have s3:=a3.sz
     refine bD (dc (cu (β:=Option (Option Nat)×Nat) (I:=fun x c z4=>z4=z3∧c=(none,x)∧Seg κ (arrOf z3) lo (lo+x)) (Q:=fun c z4=>z4=z3∧∃ y,c=(none,y)∧m≤y∧y≤nrem∧Seg κ (arrOf z3) lo (lo+y)) (fun x c z4 x1 x2 ⟨y1,y2,y3⟩=>?_) (fun c z4 ⟨y1,y2,y3⟩=>⟨y1,nrem,by rw[y2,show max m nrem=nrem by omega],m2,bF _,by rwa [show max m nrem=nrem by omega] at y3⟩) ⟨rfl,rfl,u3⟩) fun c z4 ⟨y1,y,y2,y3,y4,y5⟩=>?_)
     ·subst y1 y2
      refine bD (m:=ltAt' (lo+x) (lo+x-1)) (ww L (a3.kd.trans hz) (a3.all pa) (by omega) (by omega) ?_)
      dsimp only
      cases q2:κ.blt (KK κ (arrOf z4) (lo+x)) (KK κ (arrOf z4) (lo+x-1)) with
      | true=>exact bG ⟨rfl,x,rfl,x1,by omega,y3⟩
      | false=>exact bG ⟨rfl,rfl,Seg.more y3 fun u0=>q2⟩
     ·subst y1 y2
      exact bG (h y z4 (by omega) y4 a3 y5)
    ·rw[if_neg hc]
     have sw:=Ahd.sz a2
     refine bD (m:=reverseSlice' lo (lo+m)) (e8 ?_)
     have a3:=Ahd.rev (i:=lo) (j:=lo+m) a2 (bF _) (by omega)
     have u3:Seg κ (arrOf (setArr z2 (mirror (arrOf z2) lo (lo+m) ((lo+m-lo) / 2)))) lo (lo+m):=Dsc.turn f2.dn (by omega)
     generalize setArr z2 (mirror (arrOf z2) lo (lo+m) ((lo+m-lo) / 2))=z3 at a3 u3 ⊢
     have s3:=a3.sz
     refine bD (dc (cu (β:=Option (Option Nat)×Nat) (I:=fun x c z4=>z4=z3∧c=(none,x)∧Seg κ (arrOf z3) lo (lo+x)) (Q:=fun c z4=>z4=z3∧∃ y,c=(none,y)∧m≤y∧y≤nrem∧Seg κ (arrOf z3) lo (lo+y)) (fun x c z4 x1 x2 ⟨y1,y2,y3⟩=>?_) (fun c z4 ⟨y1,y2,y3⟩=>⟨y1,nrem,by rw[y2,show max m nrem=nrem by omega],m2,bF _,by rwa [show max m nrem=nrem by omega] at y3⟩) ⟨rfl,rfl,u3⟩) fun c z4 ⟨y1,y,y2,y3,y4,y5⟩=>?_)
     ·subst y1 y2
      refine bD (m:=ltAt' (lo+x) (lo+x-1)) (ww L (a3.kd.trans hz) (a3.all pa) (by omega) (by omega) ?_)
      dsimp only
      cases q2:κ.blt (KK κ (arrOf z4) (lo+x)) (KK κ (arrOf z4) (lo+x-1)) with
      | true=>exact bG ⟨rfl,x,rfl,x1,by omega,y3⟩
      | false=>exact bG ⟨rfl,rfl,Seg.more y3 fun u0=>q2⟩
     ·subst y1 y2
      exact bG (h y z4 (by omega) y4 a3 y5)
theorem zIP{lo m ok:Nat}{z:SortSt}{Q:Bool→SortSt→Prop}(hz:kindOf z=kd)(pa:∀ p∈arrOf z,P p)(h1:1≤ok)(hok:ok≤m)(hs:lo+m≤(arrOf z).size)(u:Seg κ (arrOf z) lo (lo+ok))
  (h:∀ z',Ahd lo z z'→Seg κ (arrOf z') lo (lo+m)→Q true z'):wpS (model prog w) A E s (binarySort' lo m ok) Q z:=by
 refine bD (dc (cu (β:=Option Bool×Unit) (I:=fun k c z'=>c=(none,())∧k≤m∧Ahd lo z z'∧Seg κ (arrOf z') lo (lo+k)) (Q:=fun c z'=>c=(none,())∧Ahd lo z z'∧Seg κ (arrOf z') lo (lo+m)) (fun k c z' k1 k2 ⟨e,km,a1,u'⟩=>?stp) (fun c z' ⟨e,km,a1,u'⟩=>?fin) ⟨rfl,by omega,.refl _ _,by rwa [show max ok 1=ok by omega]⟩) fun c z' ⟨e,a1,u'⟩=>?pst)
 case fin=>exact⟨e,a1,by rwa [show max (max ok 1) m=m by omega] at u'⟩
 case pst =>
  subst e
  exact bG (h z' a1 u')
 case stp =>
  subst e
  have s1:=a1.sz
  have hk:lo+k<(arrOf z').size:=by omega
  refine bD (dc (cu (β:=Option Bool×Nat×Nat) (I:=fun x c z''=>z''=z'∧∃ l r,c=(none,l,r)∧(l≤r∧r≤k∧r-l≤k-x)∧(∀ i,i<l→κ.kle (KK κ (arrOf z') (lo+i)) (KK κ (arrOf z') (lo+k)))∧∀ i,r≤i→i<k→κ.klt (KK κ (arrOf z') (lo+k)) (KK κ (arrOf z') (lo+i)))
   (Q:=fun c z''=>z''=z'∧∃ l,(∃ r,c=(none,l,r))∧l≤k∧(∀ i,i<l→κ.kle (KK κ (arrOf z') (lo+i)) (KK κ (arrOf z') (lo+k)))∧∀ i,l≤i→i<k→κ.klt (KK κ (arrOf z') (lo+k)) (KK κ (arrOf z') (lo+i))) (fun x c z'' x1 x2 ⟨e1,l,r,e2,⟨lr,rk,dx⟩,lw,hi⟩=>?is) (fun c z'' ⟨e1,l,r,e2,⟨lr,rk,dx⟩,lw,hi⟩=>?if_) ⟨rfl,0,k,rfl,⟨by omega,by omega,by omega⟩,fun i q=>by omega,fun i q1 q2=>by omega⟩) fun c z'' ⟨e1,l,⟨r,e2⟩,lk,lw,hi⟩=>?ip)
  case is =>
   subst e1 e2
   dsimp only
   by_cases g:l≥r
   ·rw[if_pos g]
    obtain rfl:l=r:=by omega
    exact bG ⟨rfl,l,⟨_,rfl⟩,rk,lw,hi⟩
   ·rw[if_neg g]
    refine bD (m:=ltAt' (lo+k) (lo+(l+r) / 2)) (ww L (a1.kd.trans hz) (a1.all pa) hk (by omega) ?_)
    dsimp only
    cases q:κ.blt (KK κ (arrOf z'') (lo+k)) (KK κ (arrOf z'') (lo+(l+r) / 2)) with
    | true=>exact bG ⟨rfl,l,(l+r) / 2,rfl,⟨by omega,by omega,by omega⟩,lw,fun i i1 i2=>KeyOrd.klt_of_klt_of_kle q (u' _ _ (by omega) (by omega) (by omega))⟩
    | false=>exact bG ⟨rfl,(l+r) / 2+1,r,rfl,⟨by omega,by omega,by omega⟩,fun i i1=>KeyOrd.kle_trans (u' (lo+i) (lo+(l+r) / 2) (by omega) (by omega) (by omega)) (show κ.kle _ _ from q),hi⟩
  case if_ =>
   subst e1 e2
   obtain rfl:l=r:=by omega
   exact⟨rfl,l,⟨_,rfl⟩,rk,lw,hi⟩
  case ip =>
   subst e1 e2
   refine bD (m:=moveDown' (lo+k) (lo+l)) ?_
   rw[moveDown'_eq]
   refine ei (bG ⟨rfl,by omega,a1.down (by omega) (by omega) hk,fun i j i1 ij jk=>?_⟩)
   show κ.kle (KK κ (bubble (arrOf z'') (lo+k) (lo+k-(lo+l))) i) (KK κ (bubble (arrOf z'') (lo+k) (lo+k-(lo+l))) j)
   rw[KK_bubble hk (by omega),KK_bubble hk (by omega),show lo+k-(lo+k-(lo+l))=lo+l by omega]
   have lw':∀ t,lo≤t→t<lo+l→κ.kle (KK κ (arrOf z'') t) (KK κ (arrOf z'') (lo+k)):=fun t t1 t2=>by
    have:=lw (t-lo) (by omega)
    rwa [show lo+(t-lo)=t by omega] at this
   have hi':∀ t,lo+l≤t→t<lo+k→κ.klt (KK κ (arrOf z'') (lo+k)) (KK κ (arrOf z'') t):=fun t t1 t2=>by
    have:=hi (t-lo) (by omega) (by omega)
    rwa [show lo+(t-lo)=t by omega] at this
   by_cases i2:i=lo+l
   ·rw[if_pos i2]
    by_cases j1:j=lo+l
    ·rw[if_pos j1];exact KeyOrd.kle_refl _
    ·rw[if_neg j1,if_pos ⟨by omega,by omega⟩]
     exact KeyOrd.kle_of_klt (hi' (j-1) (by omega) (by omega))
   ·rw[if_neg i2]
    by_cases i3:lo+l<i∧i≤lo+k
    ·rw[if_pos i3,if_neg (by omega),if_pos ⟨by omega,by omega⟩]
     exact u' (i-1) (j-1) (by omega) (by omega) (by omega)
    ·rw[if_neg i3]
     by_cases j1:j=lo+l
     ·rw[if_pos j1];exact lw' i i1 (by omega)
     ·rw[if_neg j1]
      by_cases j2:lo+l<j∧j≤lo+k
      ·rw[if_pos j2];exact u' i (j-1) i1 (by omega) (by omega)
      ·rw[if_neg j2];exact u' i j i1 ij (by omega)
end
section
variable {κ:KeyKind}
noncomputable def Runs(κ:KeyKind)(xs:Array Keyed):Nat→List (Nat×Nat×Nat)→Nat→Prop
 | lo,[],hi=>lo=hi
 | lo,t::r,hi=>t.1=lo∧1≤t.2.1∧Seg κ xs lo (lo+t.2.1)∧Runs κ xs (lo+t.2.1) r hi
theorem Runs.len{xs:Array Keyed}:∀ {p:List (Nat×Nat×Nat)} {lo hi:Nat},Runs κ xs lo p hi→p.length+lo≤hi
 | [],lo,hi,h=>by have:lo=hi:=h;simp;omega
 | t::r,lo,hi,⟨_,h1,_,h2⟩=>by have:=Runs.len h2;rw[bu];omega
theorem Runs.app{xs:Array Keyed}:∀ {p q:List (Nat×Nat×Nat)} {lo hi:Nat},Runs κ xs lo (p++q) hi↔∃ mid,Runs κ xs lo p mid∧Runs κ xs mid q hi
 | [],q,lo,hi=>⟨fun h=>⟨lo,rfl,h⟩,fun⟨mid,h1,h2⟩=>by have:lo=mid:=h1;subst this;exact h2⟩
 | t::r,q,lo,hi=>by
  constructor
  ·rintro⟨h1,h2,h3,h4⟩
   obtain⟨mid,h5,h6⟩:=Runs.app.mp h4
   exact⟨mid,⟨h1,h2,h3,h5⟩,h6⟩
  ·rintro⟨mid,⟨h1,h2,h3,h5⟩,h6⟩
   exact⟨h1,h2,h3,Runs.app.mpr ⟨mid,h5,h6⟩⟩
theorem Seg.congr{xs ys:Array Keyed}{lo hi:Nat}(e:∀ k,lo≤k→k<hi→ys[k]?=xs[k]?)(h:Seg κ xs lo hi):Seg κ ys lo hi:=fun i j i1 ij j2=>by
 rw[KK_congr (e i i1 (by omega)),KK_congr (e j (by omega) j2)]
 exact h i j i1 ij j2
theorem Runs.congr{xs ys:Array Keyed}:∀ {p:List (Nat×Nat×Nat)} {lo hi:Nat},(∀ k,lo≤k→k<hi→ys[k]?=xs[k]?)→Runs κ xs lo p hi→Runs κ ys lo p hi
 | [],lo,hi,_,h=>h
 | t::r,lo,hi,e,⟨h1,h2,h3,h4⟩=>by
  have:=h4.len
  exact⟨h1,h2,h3.congr fun k k1 k2=>e k k1 (by omega),Runs.congr (fun k k1 k2=>e k (by omega) k2) h4⟩
theorem Runs.power{xs:Array Keyed}{f:Nat×Nat×Nat→Nat×Nat×Nat}(hf:∀ t,(f t).1=t.1∧(f t).2.1=t.2.1):∀ {p:List (Nat×Nat×Nat)} {lo hi i:Nat},Runs κ xs lo p hi→Runs κ xs lo (p.modify i f) hi
 | [],lo,hi,i,h=>by simpa using h
 | t::r,lo,hi,0,⟨h1,h2,h3,h4⟩=>by
  rw[List.modify_zero_cons]
  obtain⟨f1,f2⟩:=hf t
  exact⟨by rw[f1];exact h1,by rw[f2];exact h2,by rw[f2];exact h3,by rw[f2];exact h4⟩
 | t::r,lo,hi,i+1,⟨h1,h2,h3,h4⟩=>by
  rw[List.modify_succ_cons]
  exact⟨h1,h2,h3,Runs.power hf h4⟩
structure RS (κ:KeyKind) (a0:Array Keyed) (kd:SortKind) (lo:Nat) (z:SortSt):Prop where
 pm:(arrOf z).Perm a0
 kd:kindOf z=kd
 fl:failedOf z=none
 rn:Runs κ (arrOf z) 0 (pendingOf z).toList lo
theorem RS.ahd{a0:Array Keyed}{kd:SortKind}{lo:Nat}{z z':SortSt}(r:RS κ a0 kd lo z)(a:Ahd lo z z'):RS κ a0 kd lo z':=⟨a.pm.trans r.pm,a.kd.trans r.kd,a.fl.trans r.fl,by rw[a.pe];exact r.rn.congr fun k u0 k2=>a.fr k k2⟩
theorem zKC{p:List (Nat×Nat×Nat)}{i:Nat}(h:i+1<p.length):∃ p1 x y p2,p=p1++x::y::p2∧p1.length=i:=by
 refine⟨p.take i,p[i],p[i+1],p.drop (i+2),?_,by rw[bW];omega⟩
 rw[List.getElem_cons_drop,List.getElem_cons_drop,cM]
theorem zI8{p:Array (Nat×Nat×Nat)}{p1 p2:List (Nat×Nat×Nat)}{x y v:Nat×Nat×Nat}{i:Nat}(e:p.toList=p1++x::y::p2)(hi:p1.length=i):((p.setIfInBounds i v).eraseIdxIfInBounds (i+1)).toList=p1++v::p2:=by
 subst hi
 have h2:p1.length+1<(p.setIfInBounds p1.length v).size:=by
  rw[Array.size_setIfInBounds,← bJ,e]
  simp
 rw[Array.eraseIdxIfInBounds,dif_pos h2,Array.toList_eraseIdx,Array.toList_setIfInBounds,e,eH _ _ (bF _),Nat.sub_self,bn,List.eraseIdx_append_of_length_le (by omega)]
 rw[show p1.length+1-p1.length=1 by omega]
 rfl
variable {prog:Program} {w:World} {A:Around} {E:Value→Shared→Prop} {s:Shared} {kd:SortKind} {P:Keyed→Prop} {a0:Array Keyed}
variable (L:∀(z:SortSt) (x y:Keyed) (Q:Option Bool→SortSt→Prop),kindOf z=kd→P x→P y→Q (some (κ.blt (ky κ x) (ky κ y))) z→wpS (model prog w) A E s (lt' x y) Q z)
include L
theorem zBU{i lo:Nat}{z:SortSt}{Q:Bool→SortSt→Prop}(pa:∀ p∈a0,P p)(r:RS κ a0 kd lo z)(hlo:lo≤a0.size)(hi:i+1<(pendingOf z).size)
  (h:∀ z',RS κ a0 kd lo z'→(pendingOf z').size+1=(pendingOf z).size→(∀ k,lo≤k→(arrOf z')[k]?=(arrOf z)[k]?)→Q true z'):wpS (model prog w) A E s (mergeAt' i) Q z:=by
 obtain⟨p1,x,y,p2,e,hl⟩:=zKC (p:=(pendingOf z).toList) (i:=i) (by simpa using hi)
 have rn:=r.rn
 rw[e] at rn
 obtain⟨mid,r1,q1,q2,q3,q4,q5,q6,q7⟩:=Runs.app.mp rn
 obtain⟨sa,na,pw⟩:=x
 obtain⟨sb,nb,pw2⟩:=y
 dsimp only at q1 q2 q3 q4 q5 q6 q7
 subst q1 q4
 have l7:=q7.len
 have sz:=r.pm.size_eq
 have e1:(pendingOf z)[i]?=some (sa,na,pw):=by
  rw[← cx,e,cn (by omega),hl,Nat.sub_self]
  rfl
 have e2:(pendingOf z)[i+1]?=some (sa+na,nb,pw2):=by
  rw[← cx,e,cn (by omega),hl,show i+1-i=1 by omega]
  rfl
 refine zIO L r.kd r.fl (fun p hp=>pa p (r.pm.mem_iff.mp hp)) e1 e2 rfl q2 q5 (by omega) q3 q6 fun z' k1 k2 k3 mg=>h z' ⟨mg.pm.trans r.pm,k1,k2,?_⟩ ?_ fun k hk=>mg.fr k (.inr (by omega))
 ·rw[k3,zI8 e hl]
  refine Runs.app.mpr ⟨sa,r1.congr fun k u0 k2=>mg.fr k (.inl k2),rfl,by show 1≤na+nb;omega,?_,?_⟩
  ·show Seg κ (arrOf z') sa (sa+(na+nb))
   rw[← Nat.add_assoc]
   exact mg.sg
  ·show Runs κ (arrOf z') (sa+(na+nb)) p2 lo
   rw[← Nat.add_assoc]
   exact q7.congr fun k k1 u0=>mg.fr k (.inr k1)
 ·have:=congrArg List.length (zI8 (v:=(sa,na+nb,pw)) e hl)
  rw[← k3,bJ] at this
  rw[this,← bJ (xs:=pendingOf z),e]
  simp
  omega
end
section
variable {κ:KeyKind} {prog:Program} {w:World} {A:Around} {E:Value→Shared→Prop} {s:Shared} {kd:SortKind} {P:Keyed→Prop} {a0:Array Keyed}
theorem zNI{c:Prop}[Decidable c]{a b m:Nat}(ha:a+1<m)(hb:b+1<m):(if c then a else b)+1<m:=by
 split
 ·exact ha
 ·exact hb
theorem RS.push{lo n pw:Nat}{z:SortSt}(r:RS κ a0 kd lo z)(u:Seg κ (arrOf z) lo (lo+n))(hn:1≤n):RS κ a0 kd (lo+n) (setPending z ((pendingOf z).push (lo,n,pw))):=by
 refine⟨r.pm,r.kd,r.fl,?_⟩
 show Runs κ (arrOf z) 0 ((pendingOf z).push (lo,n,pw)).toList (lo+n)
 rw[bU]
 exact Runs.app.mpr ⟨lo,r.rn,rfl,hn,u,rfl⟩
theorem RS.repow{lo i:Nat}{z:SortSt}{f:Nat×Nat×Nat→Nat×Nat×Nat}(r:RS κ a0 kd lo z)(hf:∀ t,(f t).1=t.1∧(f t).2.1=t.2.1):RS κ a0 kd lo (setPending z ((pendingOf z).modify i f)):=by
 refine⟨r.pm,r.kd,r.fl,?_⟩
 show Runs κ (arrOf z) 0 ((pendingOf z).modify i f).toList lo
 rw[Array.toList_modify]
 exact r.rn.power hf
variable (L:∀(z:SortSt) (x y:Keyed) (Q:Option Bool→SortSt→Prop),kindOf z=kd→P x→P y→Q (some (κ.blt (ky κ x) (ky κ y))) z→wpS (model prog w) A E s (lt' x y) Q z)
include L
theorem zLa{z:SortSt}{Q:Unit→SortSt→Prop}(pa:∀ p∈a0,P p)(pm:(arrOf z).Perm a0)(hk:kindOf z=kd)(hf:failedOf z=none)(hp:pendingOf z=#[])(h1:1≤a0.size)
  (h:∀ z',(arrOf z').Perm a0→failedOf z'=none→SortedToK κ (arrOf z') a0.size→Q () z'):wpS (model prog w) A E s sortRuns' Q z:=by
 have sz:=pm.size_eq
 rw[sortRuns'_eq]
 refine bD (wpS_get ?_)
 dsimp only
 rw[sz]
 generalize minRun' a0.size a0.size 0=mr
 refine bD (dc (cu (I:=fun x c z'=>∃ lo,c=(none,lo)∧lo≤a0.size∧(x≤lo∨lo=a0.size)∧RS κ a0 kd lo z') (Q:=fun c z'=>c=(none,a0.size)∧RS κ a0 kd a0.size z') (fun x c z1 x1 x2 ⟨lo,e1,l1,l2,r1⟩=>?stp) (fun c z1 ⟨lo,e1,l1,l2,r1⟩=>?fin) ⟨0,rfl,by omega,.inl (bF _),pm,hk,hf,by rw[hp];rfl⟩) fun c z1 ⟨e1,r1⟩=>?pst)
 case fin =>
  obtain rfl:lo=a0.size:=by omega
  exact⟨e1,r1⟩
 case stp =>
  subst e1
  dsimp only
  by_cases g:lo≥a0.size
  ·rw[if_pos g]
   obtain rfl:lo=a0.size:=by omega
   exact bG ⟨rfl,r1⟩
  rw[if_neg g]
  have s1:=r1.pm.size_eq
  refine bD (zHF L r1.kd (fun p q=>pa p (r1.pm.mem_iff.mp q)) (by omega) (by omega) fun n z2 n1 n2 a2 u2=>?_)
  have r2:=r1.ahd a2
  have s2:=r2.pm.size_eq
  dsimp only
  by_cases gn:n<mr
  ·rw[if_pos gn]
   refine bD (wpS_lift (dz ⟨rfl,?_⟩))
   have fn:n≤min (a0.size-lo) mr:=by omega
   have fs:lo+min (a0.size-lo) mr≤a0.size:=by omega
   generalize min (a0.size-lo) mr=fc at fn fs
   refine bD (zIP L r2.kd (fun p q=>pa p (r2.pm.mem_iff.mp q)) n1 fn (by omega) u2 fun z3 a3 u3=>?_)
   have r3:=r2.ahd a3
   rw[if_neg (by simp)]
   refine bD (wpS_get ?_)
   cases hb:(pendingOf z3).back? with
   | none=>exact bD (ei (bG ⟨lo+fc,rfl,by omega,by omega,r3.push u3 (by omega)⟩))
   | some t =>
    obtain⟨s1,n1,o1⟩:=t
    dsimp only
    refine bD (dc (cu (I:=fun u0 c z'=>c=(none,())∧RS κ a0 kd lo z'∧Seg κ (arrOf z') lo (lo+fc)) (Q:=fun c z'=>c=(none,())∧RS κ a0 kd lo z'∧Seg κ (arrOf z') lo (lo+fc)) (fun x c z4 x1 x2 ⟨e4,r4,u4⟩=>?ms) (fun c z4 q=>q) ⟨rfl,r3,u3⟩) fun c z4 ⟨e4,r4,u4⟩=>?mp)
    case ms =>
     subst e4
     refine bD (wpS_get ?_)
     by_cases g2:(pendingOf z4).size>1
     ·rw[if_pos g2]
      rw[getElem?_pos (pendingOf z4) ((pendingOf z4).size-2) (by omega)]
      dsimp only
      split
      ·exact bG ⟨rfl,r4,u4⟩
      ·refine bD (zBU L pa r4 (by omega) (by omega) fun z5 r5 u0 f5=>?_)
       rw[if_neg (by simp)]
       exact bG ⟨rfl,r5,u4.congr fun k k1 u0=>f5 k k1⟩
     ·rw[if_neg g2]
      exact bG ⟨rfl,r4,u4⟩
    case mp =>
     subst e4
     dsimp only
     refine bD (ei (bD (ei (bG ⟨lo+fc,rfl,by omega,by omega,?_⟩))))
     refine RS.push (RS.repow r4 ?_) u4 (by omega)
     exact fun t=>⟨rfl,rfl⟩
  ·rw[if_neg gn]
   refine bD (wpS_get ?_)
   cases hb:(pendingOf z2).back? with
   | none=>exact bD (ei (bG ⟨lo+n,rfl,by omega,by omega,r2.push u2 (by omega)⟩))
   | some t =>
    obtain⟨s1,n1,o1⟩:=t
    dsimp only
    refine bD (dc (cu (I:=fun u0 c z'=>c=(none,())∧RS κ a0 kd lo z'∧Seg κ (arrOf z') lo (lo+n)) (Q:=fun c z'=>c=(none,())∧RS κ a0 kd lo z'∧Seg κ (arrOf z') lo (lo+n)) (fun x c z4 x1 x2 ⟨e4,r4,u4⟩=>?ms) (fun c z4 q=>q) ⟨rfl,r2,u2⟩) fun c z4 ⟨e4,r4,u4⟩=>?mp)
    case ms =>
     subst e4
     refine bD (wpS_get ?_)
     by_cases g2:(pendingOf z4).size>1
     ·rw[if_pos g2]
      rw[getElem?_pos (pendingOf z4) ((pendingOf z4).size-2) (by omega)]
      dsimp only
      split
      ·exact bG ⟨rfl,r4,u4⟩
      ·refine bD (zBU L pa r4 (by omega) (by omega) fun z5 r5 u0 f5=>?_)
       rw[if_neg (by simp)]
       exact bG ⟨rfl,r5,u4.congr fun k k1 u0=>f5 k k1⟩
     ·rw[if_neg g2]
      exact bG ⟨rfl,r4,u4⟩
    case mp =>
     subst e4
     dsimp only
     refine bD (ei (bD (ei (bG ⟨lo+n,rfl,by omega,by omega,?_⟩))))
     refine RS.push (RS.repow r4 ?_) u4 (by omega)
     exact fun t=>⟨rfl,rfl⟩
 case pst =>
  subst e1
  dsimp only
  have ln:=r1.rn.len
  rw[bJ] at ln
  refine bD (dc (cu (I:=fun x c z'=>c=(none,())∧RS κ a0 kd a0.size z'∧((pendingOf z').size+x≤a0.size∨(pendingOf z').size≤1)) (Q:=fun c z'=>c=(none,())∧RS κ a0 kd a0.size z'∧(pendingOf z').size≤1) (fun x c z4 x1 x2 ⟨e4,r4,o4⟩=>?ls) (fun c z4 ⟨e4,r4,o4⟩=>⟨e4,r4,by omega⟩) ⟨rfl,r1,.inl (by omega)⟩) fun c z4 ⟨e4,r4,o4⟩=>?lp)
  case ls =>
   subst e4
   refine bD (wpS_get ?_)
   by_cases g2:(pendingOf z4).size≤1
   ·rw[if_pos g2]
    exact bG ⟨rfl,r4,g2⟩
   ·rw[if_neg g2]
    refine bD (zBU L pa r4 (bF _) (zNI (by omega) (by omega)) fun z5 r5 q5 f5=>?_)
    rw[if_neg (by simp)]
    exact bG ⟨rfl,r5,by omega⟩
  case lp =>
   subst e4
   refine bG (h z4 r4.pm r4.fl ?_)
   have rn:=r4.rn
   have lp:(pendingOf z4).toList.length≤1:=by simpa using o4
   match hpp:(pendingOf z4).toList,lp with
   | [],_ =>
    rw[hpp] at rn
    have:0=a0.size:=rn
    omega
   | [t],_ =>
    rw[hpp] at rn
    obtain⟨t1,t2,t3,t4⟩:=rn
    have:0+t.2.1=a0.size:=t4
    rw[this] at t3
    exact fun i j ij ja=>t3 i j (dO _) ij ja
end
end HM
namespace HS
noncomputable def ltI:List Int→List Int→Bool
 | [],[]=>false
 | [],_::_=>true
 | _::_,[]=>false
 | a::r,b::t=>if a=b then ltI r t else decide (a<b)
theorem zI9:∀ a,ltI a a=false
 | []=>rfl
 | x::r=>by show(if x=x then ltI r r else _)=false;rw[if_pos rfl];exact zI9 r
theorem zFk:∀ a b c,ltI a b=true→ltI b c=true→ltI a c=true
 | [],[],_,h,_=>by cases h
 | [],_::_,[],_,h=>by cases h
 | [],_::_,_::_,_,_=>rfl
 | _::_,[],_,h,_=>by cases h
 | _::_,_::_,[],_,h=>by cases h
 | x::a,y::b,z::c,h,h'=>by
  simp only[ltI] at h h' ⊢
  split at h<;>split at h'
  ·rename_i e1 e2;rw[if_pos (e1.trans e2)];exact zFk a b c h h'
  ·rename_i e1 e2;subst e1;rw[if_neg e2];exact h'
  ·rename_i e1 e2;subst e2;rw[if_neg e1];exact h
  ·simp only[decide_eq_true_eq] at h h'
   rw[if_neg (by omega)];simp;omega
theorem zJA:∀ a b c,ltI a c=true→ltI a b=true∨ltI b c=true
 | [],[],_,h=>.inr h
 | [],_::_,_,_=>.inl rfl
 | _::_,_,[],h=>by cases h
 | _::_,[],_::_,_=>.inr rfl
 | x::a,y::b,z::c,h=>by
  simp only[ltI] at h ⊢
  split at h
  ·rename_i e1;subst e1
   by_cases e2:x=y
   ·subst e2;rw[if_pos rfl,if_pos rfl];exact zJA a b c h
   ·rw[if_neg e2,if_neg (Ne.symm e2)];simp;omega
  ·rename_i e1
   simp only[decide_eq_true_eq] at h
   by_cases e2:x=y
   ·subst e2;right;rw[if_neg e1];simp;omega
   ·by_cases e3:y=z
    ·subst e3;left;rw[if_neg e2];simp;omega
    ·rw[if_neg e2,if_neg e3];simp;omega
theorem zGI:∀ a b,ltI a b=false→ltI b a=false→a=b
 | [],[],_,_=>rfl
 | [],_::_,h,_=>by cases h
 | _::_,[],_,h=>by cases h
 | x::a,y::b,h,h'=>by
  simp only[ltI] at h h'
  by_cases e:x=y
  ·subst e;rw[if_pos rfl] at h h';rw[zGI a b h h']
  ·rw[if_neg e] at h;rw[if_neg (Ne.symm e)] at h'
   simp only[decide_eq_false_iff_not] at h h';omega
noncomputable def tAt(h:Heap):Value→Option (List Int)
 | .ref a=>match h.get? a with
  | some o=>match o.data with
   | .seq its _=>some (its.toList.map numOf)
   | _=>none
  | none=>none
 | _=>none
noncomputable abbrev zAx(h:Heap):KeyKind where
 α:=List Int
 blt:=ltI
 irrefl:=zI9
 trans:=zFk
 negTrans:=zJA
 total:=zGI
 keyOf:=tAt h
 dflt:=[]
structure TI (h:Heap) (v:Value) (ns:List Int):Prop where
 ex:∃ a o its n,v=.ref a∧h.get? a=some o∧o.cls=.type "tuple"∧o.data=.seq its n∧IntsAre its.toList ns
 ne:ns≠[]
theorem TI.items{h:Heap}{v:Value}{ns:List Int}(t:TI h v ns):tAt h v=some ns:=by
 obtain⟨a,o,its,n,rfl,e,u0,d,i⟩:=t.ex
 unfold tAt
 simp only[e,d]
 rw[i.nums]
theorem zGJ(b:Bool)(x y:Value):keyLt' (tuples' b) x y=(do
  let xs ← Builtin.List.listItems x;let ys ← Builtin.List.listItems y
  for ((p,q),i) in (xs.toList.zip ys.toList).zipIdx do
   if !(← eqBool p q) then return ← oneLt' (b&&i==0) p q
  return decide (xs.size<ys.size)):=rfl
section
variable {prog:Program} {w:World} {A:Around} {E:Value→Shared→Prop} {s:Shared}
theorem zIQ{b:Bool}{i j:Int}{t u:Tok}{Q:Bool→Shared→Prop}(h:Q (decide (i<j)) s):wpAny (model prog w) A (oneLt' b (.int i t) (.int j u)) Q E s:=by
 cases b with
 | true=>exact oneLt_int h
 | false =>
  rw[oneLt'_eq]
  simp only[bp,if_false]
  refine bq (m:=richCompare .Lt (.int i t) (.int j u)) (wpAny_lt_int ?_)
  exact dQ h
noncomputable def zDl:List Int→List Int→Option Bool
 | a::r,b::t=>if a=b then zDl r t else some (decide (a<b))
 | _,_=>none
theorem zHG:∀ ns ms,ltI ns ms=(zDl ns ms).getD (decide (ns.length<ms.length))
 | [],[]=>rfl
 | [],_::_=>by simp[ltI,zDl]
 | _::_,[]=>by simp[ltI,zDl]
 | a::r,b::t=>by
  simp only[ltI,zDl]
  split
  ·rw[zHG r t];simp
  ·rfl
theorem zJB{b:Bool}{Q:Option Bool×Unit→Shared→Prop}:∀(ps qs:List Value) (ns ms:List Int) (k:Nat),IntsAre ps ns→IntsAre qs ms→Q (zDl ns ms,()) s →
  wpAny (model prog w) A (forIn ((ps.zip qs).zipIdx k) ((none,()):Option Bool×Unit) fun x r=>do
   let e ← eqBool x.1.1 x.1.2
   if (!e)=true then do
    let c ← oneLt' (b&&x.2==0) x.1.1 x.1.2
    pure (ForInStep.done (some c,()))
   else pure (ForInStep.yield (none,()))) Q E s
 | _,_,_,_,k,.nil,_,h=>by
  simp only[List.zip_nil_left,List.zipIdx_nil,List.forIn_nil]
  exact bC h
 | _,_,_,_,k,.cons a t i,.nil,h=>by
  simp only[List.zip_nil_right,List.zipIdx_nil,List.forIn_nil]
  exact bC h
 | _,_,_,_,k,.cons a t i,.cons c u j,h=>by
  simp only[List.zip_cons_cons,List.zipIdx_cons,List.forIn_cons]
  refine bq (bq (wpAny_eqBool_int ?_))
  simp only[zDl] at h
  by_cases e:a=c
  ·subst e
   rw[if_pos rfl] at h
   rw[if_neg (by simp)]
   refine bC ?_
   exact zJB _ _ _ _ (k+1) i j h
  ·rw[if_neg e] at h
   rw[if_pos (by simpa using e)]
   exact bq (zIQ (bC (bC h)))
theorem zKD{b:Bool}{x y:Value}{ns ms:List Int}{Q:Bool→Shared→Prop}(hx:TI s.heap x ns)(hy:TI s.heap y ms)(h:Q (ltI ns ms) s):wpAny (model prog w) A (keyLt' (tuples' b) x y) Q E s:=by
 obtain⟨a,o,its,n,rfl,e,u0,d,i⟩:=hx.ex
 obtain⟨a',o',its',n',rfl,e',u0,d',i'⟩:=hy.ex
 rw[zGJ]
 refine bq (listItems_at e d (bq (listItems_at e' d' (bq ?_))))
 refine zJB (Q:=_) its.toList its'.toList ns ms 0 i i' ?_
 rw[zHG] at h
 cases q:zDl ns ms with
 | some c =>
  rw[q] at h
  exact bC h
 | none =>
  rw[q] at h
  refine bC ?_
  have l1:=i.length
  have l2:=i'.length
  simp only[bJ] at l1 l2
  rw[l1,l2]
  exact h
theorem zKE{v:Value}{ns:List Int}{Q:Option Value→Shared→Prop}(hv:TI s.heap v ns)(h:∀ i t,Q (some (.int i t)) s):wpAny (model prog w) A (firstOfTuple' v) Q E s:=by
 obtain⟨a,o,its,n,rfl,e,c,d,i⟩:=hv.ex
 show wpAny _ _ (do
  if (← typeOf (.ref a)) != .type "tuple" then return none
  return (← Builtin.List.listItems (.ref a))[0]?) _ _ _
 refine bq (eG (T:="tuple") ⟨o,e,c⟩ ?_)
 rw[if_neg (by decide)]
 refine bq (listItems_at e d (bC ?_))
 obtain⟨l⟩:=its
 cases i with
 | nil=>exact absurd rfl hv.ne
 | cons k t r=>exact h k t
theorem zEd{Q:List (Option Value)→Shared→Prop}:∀(vs:List Value),(∀ v∈vs,∃ ns,TI s.heap v ns)→(∀ fs:List (Option Value),fs.length=vs.length→(∀ f∈fs,∃ i t,f=some (.int i t))→Q fs s)→wpAny (model prog w) A (vs.mapM firstOfTuple') Q E s
 | [],_,h=>by
  simp only[List.mapM_nil]
  exact bC (h [] rfl (by simp))
 | v::r,hv,h=>by
  simp only[List.mapM_cons]
  obtain⟨ns,t⟩:=hv v (by simp)
  refine bq (zKE t fun i t'=>bq (zEd r (fun u hu=>hv u (by simp[hu])) fun fs hl hf=>bC (h _ (by simp[hl]) fun f hm=>?_)))
  rcases ce.mp hm with e | e
  ·exact⟨i,t',e⟩
  ·exact hf f e
theorem zBZ:∀ {vs:List Value},(∀ v∈vs,∃ i t,v=.int i t)→vs.mapM typeOf=pure (vs.map fun u0=>Value.type "int")
 | [],_=>by simp
 | v::r,h=>by
  obtain⟨i,t,rfl⟩:=h v (by simp)
  rw[List.mapM_cons,zBZ fun u hu=>h u (by simp[hu])]
  show(pure (Value.type "int")>>=fun b=>pure _>>=fun bs=>pure (b::bs))=_
  simp
theorem zAy:∀(fs:List (Option Value)),(∀ f∈fs,∃ i t,f=some (.int i t))→(∀ v∈fs.filterMap id,∃ i t,v=Value.int i t)∧(fs.filterMap id).length=fs.length
 | [],_=>⟨by simp,rfl⟩
 | f::r,h=>by
  obtain⟨i,t,rfl⟩:=h f (by simp)
  obtain⟨h1,h2⟩:=zAy r fun g hg=>h g (by simp[hg])
  simp only[ef,id]
  exact⟨fun v hv=>by
   rcases ce.mp hv with e | e
   ·exact⟨i,t,e⟩
   ·exact h1 v e,by simp[h2]⟩
theorem zHH{vs:List Value}{Q:SortKind→Shared→Prop}(h2:1≤vs.length)(hv:∀ v∈vs,∃ ns,TI s.heap v ns)(h:Q (tuples' true) s):wpAny (model prog w) A (keyKind' vs.toArray) Q E s:=by
 rw[keyKind'_eq]
 rw[List.mapM_toArray]
 refine bq ?_
 rw[map_eq_pure_bind]
 refine bq (zEd vs hv fun fs hl hf=>bC ?_)
 rw[if_pos (by
  simp only[List.all_toArray,eJ]
  intro f hm
  obtain⟨i,t,rfl⟩:=hf f hm
  rfl)]
 refine bq (dz (bq ?_))
 obtain⟨q1,q2⟩:=zAy fs hf
 rw[oneTypeOnly'_eq]
 have e0:fs.toArray.filterMap id=(fs.filterMap id).toArray:=by simp
 rw[e0,List.mapM_toArray,zBZ q1]
 simp only[map_pure,pure_bind]
 cases q:fs.filterMap id with
 | nil=>rw[q] at q2;simp at q2;omega
 | cons u r =>
  have hall:((bK (fun u0=>Value.type "int") (u::r)).toArray.all fun x=>x==Value.type "int")=true:=by
   simp only[List.all_toArray,List.all_map,eJ]
   intro u0 u0;rfl
  have h0:(bK (fun u0=>Value.type "int") (u::r)).toArray[0]?=some (Value.type "int"):=by simp
  rw[h0]
  simp only[hall,if_true]
  refine bC (bC ?_)
  exact h
theorem zDR{a:Addr}{vs:List Value}{n:Nat}{P:Fin→Shared→Prop}(ho:s.heap.get? a=some (seqObj "list" vs.toArray n))(hv:∀ v∈vs,(∃ ns,TI s.heap v ns)∧v≠.ref a)(h64:vs.length<10000)
  (h:∀ out:Array Value,out.toList.Perm vs→(∀ i j,i≤j→j<out.size→ltI ((tAt s.heap (out.getD j .none)).getD []) ((tAt s.heap (out.getD i .none)).getD [])=false)→P (.done (.ret .none)) { s with heap:=sortedHeap s.heap a vs out }) :
  wpAny (model prog w) A (Builtin.«list.sort» ⟨[.ref a],[]⟩) P E s:=by
 rw[list_sort_plain]
 have ha:a<s.heap.objs.size:=bP ho
 refine bq (listItems_at ho rfl (bq (listUpdate_at ho rfl ?_)))
 obtain⟨e1,ho1⟩:∃ e1,(s.heap.update a (Obj.mapSeq fun u0=>#[])).get? a=some (seqObj "list" #[] e1):=⟨_,get?_update_seq ho (fun u0=>#[])⟩
 refine bq (seqEpoch_at ho1 rfl (bq (wpAny_newTuple (bq (wpAny_newList (cP ?_))))))
 have up:∀ c o,c≠a→s.heap.get? c=some o→(((s.heap.update a (Obj.mapSeq fun u0=>#[])).push (seqObj "tuple" vs.toArray 0)).push (seqObj "list" #[] 0)).get? c=some o:=fun c o hc e=>bz _ (bz _ (by rw[dG _ _ _ _ hc];exact e))
 have ho6:(((s.heap.update a (Obj.mapSeq fun u0=>#[])).push (seqObj "tuple" vs.toArray 0)).push (seqObj "list" #[] 0)).get? a=some (seqObj "list" #[] e1):=bz _ (bz _ ho1)
 show wpAny (model prog w) A _ P E { s with heap:=(((s.heap.update a (Obj.mapSeq fun u0=>#[])).push (seqObj "tuple" vs.toArray 0)).push (seqObj "list" #[] 0)) }
 generalize hg:((s.heap.update a (Obj.mapSeq fun u0=>#[])).push (seqObj "tuple" vs.toArray 0)).push (seqObj "list" #[] 0)=g at up ho6 ⊢
 have hv':∀ v∈vs,∃ ns,TI g v ns∧tAt s.heap v=some ns:=fun v hm=>by
  obtain⟨⟨ns,t⟩,na⟩:=hv v hm
  have t':=t
  obtain⟨⟨b,o,its,k,rfl,q1,q2,q3,q4⟩,ne⟩:=t
  exact⟨ns,⟨⟨b,o,its,k,rfl,up b o (fun z=>na (by rw[z])) q1,q2,q3,q4⟩,ne⟩,t'.items⟩
 dsimp only
 have fin:∀ z:SortSt,(arrOf z).Perm (pairsOf vs)→SortedToK (zAx g) (arrOf z) (pairsOf vs).size→P (.done (.ret .none)) { s with heap:=g.update a (Obj.mapSeq fun u0=>(arrOf z).map (·.2)) }:=by
  intro z pm st
  have pl:(arrOf z).toList.Perm (vs.zip vs):=by rw[← pairsOf_toList];exact Array.perm_iff_toList_perm.mp pm
  have mem:∀ p∈(arrOf z).toList,p.1=p.2∧p.1∈vs:=fun p hp=>mem_zip_self (pl.mem_iff.mp hp)
  have:=h ((arrOf z).map (·.2)) (by
   have q:=pl.map (·.2)
   rw[Array.toList_map]
   refine q.trans (.of_eq ?_)
   rw[List.map_snd_zip (bF _)]) fun i j ij hj=>by
    have hj':j<(arrOf z).size:=by simpa using hj
    have hi':i<(arrOf z).size:=by omega
    have q:=st i j ij (by rw[← pm.size_eq];exact hj')
    have gk:∀ k,(hk:k<(arrOf z).size)→KK (zAx g) (arrOf z) k=(tAt s.heap (((arrOf z).map (·.2)).getD k .none)).getD []:=fun k hk=>by
     obtain⟨m1,m2⟩:=mem _ (show(arrOf z)[k]∈(arrOf z).toList by simp)
     obtain⟨ns,t1,t2⟩:=hv' _ m2
     have e1:KK (zAx g) (arrOf z) k=ns:=by
      unfold KK
      rw[getElem?_pos _ k hk]
      show(tAt g (arrOf z)[k].1).getD []=ns
      rw[t1.items];rfl
     have e2:((arrOf z).map (·.2)).getD k .none=(arrOf z)[k].1:=by
      rw[m1];simp[eF,hk]
     rw[e1,e2,t2];rfl
    rw[← gk i hi',← gk j hj']
    exact q
  unfold sortedHeap at this
  rw[hg] at this
  exact this
 have hsz:vs.toArray.size=vs.length:=by simp
 by_cases h2:vs.toArray.size<2
 ·rw[if_pos h2,if_pos h2]
  refine bq (bC ?_)
  rw[StateT.run_pure]
  refine bq (bC (bq (seqEpoch_at ho6 rfl (bq (listUpdate_at ho6 rfl ?_ (hsz2:=by rw[Array.size_map];show(pairsOf vs).size≤_;rw[pairsOf_size,sizeLine_eq];omega))))))
  simp only[bne_self_eq_false,bp,if_false]
  refine bC (fin (SortSt.mk' general' (vs.toArray.zip vs.toArray) #[] 7 none) (Array.Perm.refl _) fun i j hij hj=>?_)
  obtain rfl:i=j:=by rw[pairsOf_size] at hj;omega
  exact KeyOrd.kle_refl _
 ·rw[if_neg h2,if_neg h2]
  refine bq (zHH (s:={ s with heap:=g }) (by omega) (fun v hm=>by obtain⟨ns,t,u0⟩:=hv' v hm;exact⟨ns,t⟩) ?_)
  have L:∀(z:SortSt) (x y:Keyed) (Q:Option Bool→SortSt→Prop),kindOf z=tuples' true→x∈pairsOf vs→y∈pairsOf vs→Q (some ((zAx g).blt (HM.ky (zAx g) x) (HM.ky (zAx g) y))) z→wpS (model prog w) A E { s with heap:=g } (lt' x y) Q z:=by
   intro z x y Q b hi hj q
   have key:∀ p∈pairsOf vs,∃ ns,TI g p.1 ns∧HM.ky (zAx g) p=ns:=fun p hk=>by
    have hm:p∈vs.zip vs:=by rw[← pairsOf_toList];simpa using hk
    obtain⟨m1,m2⟩:=mem_zip_self hm
    obtain⟨ns,t,u0⟩:=hv' _ m2
    refine⟨ns,t,?_⟩
    unfold HM.ky
    show(tAt g p.1).getD []=ns
    rw[t.items];rfl
   obtain⟨ns,x2,x3⟩:=key x hi
   obtain⟨ms,y2,y3⟩:=key y hj
   rw[x3,y3] at q
   rw[lt'_eq]
   refine bD (wpS_get ?_)
   rw[b]
   exact bD (wpS_lift (wpAny_attempt (zKD (s:={ s with heap:=g }) x2 y2 ⟨rfl,bG q⟩)))
  refine bq (wpAny_mono (HM.zLa (a0:=pairsOf vs) L (z:=SortSt.mk' (tuples' true) (vs.toArray.zip vs.toArray) #[] 7 none) (Q:=fun u0 z'=>(arrOf z').Perm (pairsOf vs)∧failedOf z'=none∧SortedToK (zAx g) (arrOf z') (pairsOf vs).size)
   (fun p hp=>hp) (Array.Perm.refl _) rfl rfl rfl (by rw[pairsOf_size];omega) fun z' a1 a2 a3=>⟨a1,a2,a3⟩) ?_ fun u0 u0 e=>e)
  rintro⟨⟨⟩,z'⟩ s' ⟨e',pm,hf,st⟩
  subst e'
  dsimp only
  refine bq (seqEpoch_at ho6 rfl (bq (listUpdate_at ho6 rfl ?_ (hsz2:=by refine cC (Nat.le_of_eq ((Array.size_map ..).trans (pm.size_eq.trans (pairsOf_size _)))) ?_;rw[sizeLine_eq];omega))))
  rw[hf]
  simp only[bne_self_eq_false,bp,if_false]
  exact bC (fin z' pm st)
theorem zEe{v:Value}{vs:List Value}{Q:Value→Shared→Prop}(hv:∀ u∈vs,∃ ns,TI s.heap u ns)(h64:vs.length<1000)
  (hc:∀(Q':List Value→Shared→Prop),Q' vs { s with heap:=(s.heap.push (seqObj "list" #[] 0)).update s.heap.objs.size (Obj.mapSeq (·++vs.toArray)) }→wpAny (model prog w) A.in1 (collect v) Q' E s)
  (h:∀ out:Array Value,out.toList.Perm vs→(out.toList.map fun u=>(tAt s.heap u).getD []).Pairwise (fun a b=>ltI b a=false)→Q (.ref (s.heap.objs.size+1)) { s with heap:=sortedAll s.heap vs out }) :
  wpAny (model prog w) A (call (.builtin "sorted") [v]) Q E s:=by
 refine Calls.call_function_entry kind_sorted plain_sorted entry_sorted (args_sorted1 _) ?_
 unfold Builtin.«sorted»
 refine bq (m:=checkCount "sorted" 1 1 _) (bC (bq (hc _ (bq (wpAny_newList ?_)))))
 have hsz:((s.heap.push (seqObj "list" #[] 0)).update s.heap.objs.size (Obj.mapSeq (·++vs.toArray))).objs.size=s.heap.objs.size+1:=by rw[Heap.size_update,size_push']
 have hoL:(((s.heap.push (seqObj "list" #[] 0)).update s.heap.objs.size (Obj.mapSeq (·++vs.toArray))).push (seqObj "list" vs.toArray 0)).get? (s.heap.objs.size+1)=some (seqObj "list" vs.toArray 0):=by rw[← hsz];exact bM _ rfl
 have old:∀ c o,s.heap.get? c=some o→(((s.heap.push (seqObj "list" #[] 0)).update s.heap.objs.size (Obj.mapSeq (·++vs.toArray))).push (seqObj "list" vs.toArray 0)).get? c=some o:=fun c o e=>bz _ (by
  rw[dG _ _ _ _ (cg (bP e))];exact bz _ e)
 show wpAny _ _ _ _ _ { s with heap:=((s.heap.push (seqObj "list" #[] 0)).update s.heap.objs.size (Obj.mapSeq (·++vs.toArray))).push (seqObj "list" vs.toArray 0) }
 rw[hsz]
 have eqi:∀ u∈vs,tAt (((s.heap.push (seqObj "list" #[] 0)).update s.heap.objs.size (Obj.mapSeq (·++vs.toArray))).push (seqObj "list" vs.toArray 0)) u=tAt s.heap u∧(∃ ns,TI (((s.heap.push (seqObj "list" #[] 0)).update s.heap.objs.size (Obj.mapSeq (·++vs.toArray))).push (seqObj "list" vs.toArray 0)) u ns)∧u≠.ref (s.heap.objs.size+1):=fun u hu=>by
  obtain⟨ns,t⟩:=hv u hu
  have t0:=t
  obtain⟨⟨a,o,its,n,rfl,e1,e2,e3,e4⟩,ne⟩:=t
  have t':TI (((s.heap.push (seqObj "list" #[] 0)).update s.heap.objs.size (Obj.mapSeq (·++vs.toArray))).push (seqObj "list" vs.toArray 0)) (.ref a) ns:=⟨⟨a,o,its,n,rfl,old a o e1,e2,e3,e4⟩,ne⟩
  refine⟨by rw[t'.items,t0.items],⟨ns,t'⟩,fun z=>?_⟩
  cases z
  exact absurd (bP e1) (Nat.not_lt.mpr (dh _))
 refine bq (cP (cT slot_list_sort ⟨_,hoL,rfl⟩ entry_list_sort (zDR (s:={ s with heap:=((s.heap.push (seqObj "list" #[] 0)).update s.heap.objs.size (Obj.mapSeq (·++vs.toArray))).push (seqObj "list" vs.toArray 0) }) hoL (fun u hu=>(eqi u hu).2) (by omega) fun out pm so=>⟨_,rfl,bC ⟨_,rfl,h out pm ?_⟩⟩) (args_list_sort _)))
 rw[dZ]
 intro i j hi hj ij
 have hj':j<out.size:=by simpa using hj
 have hi':i<out.size:=by omega
 have q:=so i j (el ij) hj'
 have g:∀ k,(hk:k<out.size)→tAt (((s.heap.push (seqObj "list" #[] 0)).update s.heap.objs.size (Obj.mapSeq (·++vs.toArray))).push (seqObj "list" vs.toArray 0)) (out.getD k .none)=tAt s.heap out[k]:=fun k hk=>by
  have e:out.getD k .none=out[k]:=by simp[eF,hk]
  rw[e]
  exact(eqi _ (pm.mem_iff.mp (by simp))).1
 rw[g i hi',g j hj'] at q
 simpa using q
end
end HS
namespace L3
open L2 HS
section
variable {X:Cx} {e:Expr} {pos p:Pos} {tl:TL2}
noncomputable def tI(ns:List Int):D:=.tup (ns.map D.int)
theorem zD6{pins:List (Addr×Obj)}{σ:L2.St}{H:Hp}{s:Shared}(I:zW X pins σ H s):∀ {nss:List (List Int)} {ys:List V} {us:List Value},Dens X.K H (nss.map tI) ys→zY ys us→(∀ ns∈nss,ns≠[]) →
  us.map (fun u=>(tAt s.heap u).getD [])=nss∧∀ u∈us,∃ a ns,u=.ref a∧TI s.heap u ns∧zQ X.K H (tI ns) (.ref a)
 | [],ys,us,d,r,_=>by
  simp only[et] at d
  unfold Dens at d
  subst d
  cases r
  exact⟨rfl,by simp⟩
 | ns::nss,ys,us,d,r,hne=>by
  simp only[cD] at d
  unfold Dens at d
  obtain⟨x,xs,rfl,d1,d2⟩:=d
  cases r with
  | cons r1 r2 =>
   rename_i u us'
   obtain⟨q1,q2⟩:=zD6 I d2 r2 fun n hn=>hne n (by simp[hn])
   have d0:=d1
   unfold tI zQ at d1
   obtain⟨a,zs,rfl,hs,hd⟩:=d1
   have hz:=hd.ints_inv
   subst hz
   obtain⟨its,rv,⟨o,h1,h2,n,h3⟩,u0⟩:=I.tuple hs
   cases (show u=Value.ref a from r1)
   have t:TI s.heap (.ref a) ns:=⟨⟨a,o,its.toArray,n,rfl,h1,h2,h3,by simpa using intsAre_of rv⟩,hne ns (by simp)⟩
   refine⟨by rw[cD,q1,t.items];rfl,fun v hv=>?_⟩
   rcases ce.mp hv with e | e
   ·subst e;exact⟨a,ns,rfl,t,d0⟩
   ·exact q2 v e
theorem zFl{pins:List (Addr×Obj)}{σ:L2.St}{H:Hp}{s:Shared}(I:zW X pins σ H s):∀ {us:List Value},(∀ u∈us,∃ a ns,u=.ref a∧TI s.heap u ns∧zQ X.K H (tI ns) (.ref a)) →
  ∃ ys:List V,zY ys us∧Dens X.K H ((us.map fun u=>(tAt s.heap u).getD []).map tI) ys
 | [],_=>⟨[],.nil,.nil⟩
 | u::us,h=>by
  obtain⟨ys,v,d⟩:=zFl I (us:=us) fun w hw=>h w (ca _ hw)
  obtain⟨a,ns,rfl,t,d1⟩:=h u (by simp)
  refine⟨.ref a::ys,.cons rfl v,?_⟩
  simp only[cD]
  rw[t.items]
  exact .cons d1 d
theorem zGK:wE X (.builtin "sorted") (fun xs H Q=>∃(p:Addr) (ys:List V) (nss:List (List Int)),xs=[.ref p]∧(SqL X.K H p ys∨SqT X.K H p ys)∧Dens X.K H (nss.map tI) ys∧nss.length<1000∧(∀ ns∈nss,ns≠[]) ∧
  ∀(l:Addr) (ys':List V) (nss':List (List Int)),H l=none→nss'.Perm nss→Dens X.K H (nss'.map tI) ys'→nss'.Pairwise (fun a b=>ltI b a=false)→Q (.ref l) (wd H l (.lst ys'))):=by
 intro pins s σ H xs us Q I r h
 obtain⟨p,ys,nss,rfl,hq,hd,hz,hne,q⟩:=h
 obtain⟨u,rfl,rx⟩:=vals1 r
 cases rx
 have fin:∀(its:List Value) (out:Array Value),zY ys its→out.toList.Perm its→(out.toList.map fun u=>(tAt s.heap u).getD []).Pairwise (fun a b=>ltI b a=false)→EP X pins σ Q (.ref (s.heap.objs.size+1)) { s with heap:=sortedAll s.heap its out }:=by
  intro its out rv pm so
  obtain⟨q1,q2⟩:=zD6 I hd rv hne
  obtain⟨ys',rv',d'⟩:=zFl I (us:=out.toList) fun w hw=>q2 w (pm.mem_iff.mp hw)
  obtain⟨e,he⟩:=sortedAll_at s.heap its out
  have hn:H (s.heap.objs.size+1)=none:=I.hok.fresh (dh _)
  refine⟨.ref (s.heap.objs.size+1),_,I.laid (t':=s.toks) (o:=.lst ys') (fun b u q=>sortedAll_old q) (dh _) ?_,rfl,q _ ys' _ hn (by rw[← q1];exact pm.map _) d' so⟩
  have hp:=pm.length_eq
  have l1:=rv'.length
  have l2:=rv.length
  have l3:=hd.length
  rw[bx] at l3
  refine⟨?_,out.toList,e,rv',?_⟩
  ·rw[sizeLine_eq];omega
  ·rw[he]<;>rfl
 rcases hq with hq | hq
 ·obtain⟨its,rv,pl,u0⟩:=I.list hq
  obtain⟨q1,q2⟩:=zD6 I hd rv hne
  have l2:=rv.length
  have l3:=hd.length
  rw[bx] at l3
  exact zEe (vs:=its) (fun w hw=>by obtain⟨u0,ns,u0,t,u0⟩:=q2 w hw;exact⟨ns,t⟩) (by omega) (fun Q' hQ'=>collect_list pl.isList hQ' (by rw[sizeLine_eq];omega)) fun out pm so=>fin its out rv pm so
 ·obtain⟨its,rv,pl,u0⟩:=I.tuple hq
  obtain⟨q1,q2⟩:=zD6 I hd rv hne
  have l2:=rv.length
  have l3:=hd.length
  rw[bx] at l3
  exact zEe (vs:=its) (fun w hw=>by obtain⟨u0,ns,u0,t,u0⟩:=q2 w hw;exact⟨ns,t⟩) (by omega) (fun Q' hQ'=>HT.zDe pl hQ') fun out pm so=>fin its out rv pm so
noncomputable def zBq(t:wW):TL2:=fun σ G R=>t σ G fun ds G1=>match ds with
 | [d]=>∃ nss:List (List Int),zBh G1 d (nss.map tI)∧nss.length<1000∧(∀ ns∈nss,ns≠[])∧∀ nss':List (List Int),nss'.Perm nss→nss'.Pairwise (fun a b=>ltI b a=false)→R (nss'.map tI) G1
 | _=>False
theorem zKF{t:wW}(hg:Gl X "sorted")(hm:X.mg "sorted"=none)(ha:A2 X [e] t)(he:starEach [e] X.env=(false,eval e X.env)::starEach [] X.env:=by rfl)(hpl:(backTo pos (starEach [] X.env)).any (·.1)=false:=by rfl) :
  F2 X (.Call (.Name "sorted" p) [e] [] pos) (zBq t):=by
 refine PE.mono (zA6 zGK hg hm boot_sorted ha (by decide) (by decide) he hpl) ?_
 rintro σ1 H Q ⟨σ,G,R,rl,q,k⟩
 refine⟨σ,G,_,rl,q,fun ds G1 q1 vs H1 g1 r1 d1=>?_⟩
 split at q1
 ·rename_i d
  obtain⟨nss,e1,hl,hne,q1⟩:=q1
  obtain⟨v,rfl,d2⟩:=zBY d1
  obtain⟨a,xs,rfl,s1,t1⟩:=zD2 r1 d2 e1
  refine⟨a,xs,nss,rfl,s1,t1,hl,hne,fun l' ys' nss' n' h1 h2 h3=>?_⟩
  exact k _ G1 (q1 nss' h1 h3) l' _ _ (g1.trans (.fresh n')) (r1.fresh n') (r1.free n') zo (h2.grow (.fresh n'))
 ·exact q1.elim
end
end L3
namespace HT
section
variable {prog:Program} {w:World} {A:Around} {E:Value→Shared→Prop} {s:Shared}
end
end HT
namespace L3
open L2
section
variable {X:Cx} {a b c e o:Expr} {es:List Expr} {pos p:Pos} {ta tb te:ze}
theorem zKG:wE X (.type "int") (fun xs H Q=>∃ b,xs=[.bl b]∧Q (.int (if b then 1 else 0)) H):=by
 intro pins s σ H xs us Q I r h
 obtain⟨b,rfl,q⟩:=h
 obtain⟨u,rfl,rx⟩:=vals1 r
 obtain rfl:u=Value.bool b:=rx
 exact call_int_bool ⟨.int _,H,I.tok _,⟨_,rfl⟩,q⟩
noncomputable def zDS:Sp2:=fun ds G R=>match ds with | [.bl b]=>R (.int (if b then 1 else 0)) G | _=>False
theorem zLb{K:PySem.W.Frag}:zGv K (fun xs H Q=>∃ b,xs=[.bl b]∧Q (.int (if b then 1 else 0)) H) zDS:=by
 intro ds G R vs H Q h r d k
 unfold zDS at h
 split at h
 ·rename_i b
  obtain⟨v,rfl,d2⟩:=zBY d
  unfold zQ at d2
  subst d2
  exact⟨b,rfl,k _ G h _ H (.refl H) r (by unfold zQ;rfl)⟩
 ·exact h.elim
theorem zPH{t:wW}(hg:Gl X "int")(hm:X.mg "int"=none)(ha:A2 X [e] t)(he:starEach [e] X.env=(false,eval e X.env)::starEach [] X.env:=by rfl)(hpl:(backTo pos (starEach [] X.env)).any (·.1)=false:=by rfl) :
  E2 X (.Call (.Name "int" p) [e] [] pos) (zL zDS t):=zEO zKG zLb hg hm (by decide +kernel) ha (by decide) (by decide) he hpl
end
section
variable {X:Cx} {a b c e o we:Expr} {es:List Expr} {pos p:Pos} {ta tb te tw:ze}
noncomputable def zPI(tc:TT2)(ta tb:ze):ze:=fun σ G R=>tc σ G fun z G1=>if z=true then ta σ G1 R else tb σ G1 R
theorem zQE{tc:TT2}(hc:T2 X c tc)(ha:E2 X a ta)(hb:E2 X b tb):E2 X (.IfExp c a b pos) (zPI tc ta tb):=by
 refine PE.mono (zKm hc ha hb) ?_
 rintro σ1 H Q ⟨σ,G,R,r,q,k⟩
 refine⟨σ,G,_,r,q,fun z G1 q1 H1 g1 r1=>?_⟩
 cases z with
 | true=>exact⟨σ,G1,R,r.to g1 r1,q1,fun d G' q' v H' g' r' d'=>k d G' q' v H' (g1.trans g') r' d'⟩
 | false=>exact⟨σ,G1,R,r.to g1 r1,q1,fun d G' q' v H' g' r' d'=>k d G' q' v H' (g1.trans g') r' d'⟩
end
end L3
namespace HI
noncomputable def wS(xs:Array Nat):Prop:=xs.toList.Pairwise (·<·)
theorem wS.lt{xs:Array Nat}(h:wS xs){i k:Nat}(ik:i<k)(hk:k<xs.size):xs[i]'(Nat.lt_trans ik hk)<xs[k]:=by
 have:=dZ.mp h i k (by simpa using Nat.lt_trans ik hk) (by simpa using hk) ik
 simpa using this
theorem zLc{xs:Array Nat}{j:Nat}(hr:wS xs):∀(fuel lo hi:Nat),hi≤xs.size→lo≤hi→hi-lo≤fuel→(∀ i,(q:i<xs.size)→i<lo→xs[i]<j)→(∀ i,(q:i<xs.size)→hi≤i→j≤xs[i]) →
  (∀ i,(q:i<xs.size)→i<cF.go xs j fuel lo hi→xs[i]<j)∧∀ i,(q:i<xs.size)→cF.go xs j fuel lo hi≤i→j≤xs[i]
 | 0,lo,hi,h1,h2,h3,a,b=>by
  unfold cF.go
  obtain rfl:lo=hi:=by omega
  exact⟨fun i q e=>a i q e,fun i q e=>b i q e⟩
 | fuel+1,lo,hi,h1,h2,h3,a,b=>by
  unfold cF.go
  by_cases c:lo<hi
  ·rw[if_pos c]
   dsimp only
   have hm:(lo+hi) / 2<xs.size:=by omega
   have eg:xs.getD ((lo+hi) / 2) j=xs[(lo+hi) / 2]:=by simp[eF,hm]
   rw[eg]
   by_cases d:xs[(lo+hi) / 2]<j
   ·rw[if_pos d]
    refine zLc hr fuel ((lo+hi) / 2+1) hi h1 (by omega) (by omega) (fun i q e=>?_) b
    rcases da i ((lo+hi) / 2) with z | z
    ·exact Nat.lt_trans (hr.lt z hm) d
    ·obtain rfl:i=(lo+hi) / 2:=by omega
     exact d
   ·rw[if_neg d]
    refine zLc hr fuel lo ((lo+hi) / 2) (by omega) (by omega) (by omega) a (fun i q e=>?_)
    rcases da ((lo+hi) / 2) i with z | z
    ·exact cC (Nat.not_lt.mp d) (el (hr.lt z q))
    ·obtain rfl:i=(lo+hi) / 2:=by omega
     exact Nat.not_lt.mp d
  ·rw[if_neg c]
   obtain rfl:lo=hi:=by omega
   exact⟨fun i q e=>a i q e,fun i q e=>b i q e⟩
theorem zC1{xs:Array Nat}{j:Nat}(hr:wS xs):(∀ i,(q:i<xs.size)→i<cF xs j→xs[i]<j)∧∀ i,(q:i<xs.size)→cF xs j≤i→j≤xs[i]:=by
 unfold cF
 exact zLc hr xs.size 0 xs.size (bF _) (dO _) (by omega) (fun i q e=>absurd e (Nat.not_lt_zero _)) (fun i q e=>absurd q (Nat.not_lt.mpr e))
theorem zGL{xs:Array Nat}{j:Nat}(hr:wS xs)(hn:xs[cF xs j]?≠some j):wS (SetTable.insertAt xs (cF xs j) j):=by
 obtain⟨b1,b2⟩:=zC1 (j:=j) hr
 generalize cF xs j=p at *
 unfold wS
 rw[SetTable.toList_insertAt]
 have hd:∀ a∈xs.toList.drop p,j<a:=fun a ha=>by
  obtain⟨i,hi,rfl⟩:=d9.mp ha
  rw[cV,bJ] at hi
  have hpi:p+i<xs.size:=by omega
  rw[List.getElem_drop,Array.getElem_toList]
  have h1:=b2 (p+i) hpi (by omega)
  rcases Nat.eq_or_lt_of_le h1 with e | e
  ·exfalso
   cases i with
   | zero =>
    apply hn
    rw[getElem?_pos xs p (by omega)]
    congr 1
    simpa using e.symm
   | succ i =>
    have hp:p<xs.size:=by omega
    have:=b2 p hp (bF _)
    have l:=hr.lt (i:=p) (k:=p+(i+1)) (by omega) hpi
    omega
  ·exact e
 have ht:∀ a∈xs.toList.take p,a<j:=fun a ha=>by
  obtain⟨i,hi,rfl⟩:=d9.mp ha
  rw[bW,bJ] at hi
  rw[List.getElem_take,Array.getElem_toList]
  exact b1 i (by omega) (by omega)
 refine List.pairwise_append.mpr ⟨hr.sublist (cX _ _),List.pairwise_cons.mpr ⟨hd,hr.sublist (List.drop_sublist _ _)⟩,fun a ha b hb=>?_⟩
 rcases ce.mp hb with e | e
 ·rw[e];exact ht a ha
 ·exact Nat.lt_trans (ht a ha) (hd b e)
theorem zHI{t:SetTable}{j:Nat}(h:t.slot j=.empty∨t.slot j=.dummy):t.place[cF t.place j]?≠some j:=fun e=>by
 unfold SetTable.slot at h
 simp only[e,beq_self_eq_true,if_true] at h
 rcases h with h | h<;>cases h
theorem zEf{t:SetTable}{f:Nat→Int}{h:Int}:∀(n:Nat) (p:SetTable.Probe) (j:Nat) (d:Option Nat),(∀ x,p.dummy=some x→t.slot x=.dummy)→SetTable.probe.go t f h n p=some (.empty j d)→t.slot j=.empty∧∀ x,d=some x→t.slot x=.dummy
 | 0,p,j,d,_,e=>by cases e
 | n+1,p,j,d,hd,e=>by
  unfold SetTable.probe.go at e
  cases q:t.slot p.j with
  | empty =>
   rw[q] at e
   simp only[Option.some.injEq,SetTable.Met.empty.injEq] at e
   obtain⟨rfl,rfl⟩:=e
   exact⟨q,hd⟩
  | dummy =>
   rw[q] at e
   refine zEf n _ j d (fun x hx=>?_) e
   have:(t.advance { p with dummy:=some p.j }).dummy=some p.j:=by unfold SetTable.advance;split<;>rfl
   rw[this] at hx
   cases hx
   exact q
  | live i =>
   rw[q] at e
   dsimp only at e
   split at e
   ·cases e
   ·refine zEf n _ j d (fun x hx=>?_) e
    have:(t.advance p).dummy=p.dummy:=by unfold SetTable.advance;split<;>rfl
    rw[this] at hx
    exact hd x hx
theorem zNJ{t:SetTable}{h:Int}{j:Nat}{b:Bool}(e:t.freeSlot h=some (j,b)):t.place[cF t.place j]?≠some j:=by
 unfold SetTable.freeSlot at e
 split at e
 ·rename_i j' d q
  cases e
  obtain⟨h1,h2⟩:=zEf _ _ _ _ (fun x hx=>by cases hx) q
  cases d with
  | none=>exact zHI (.inl h1)
  | some x=>exact zHI (.inr (h2 x rfl))
 ·cases e
theorem zCD{t:SetTable}{n:Nat}:wS (t.standIn n).place:=by
 show(Array.range n).toList.Pairwise (·<·)
 rw[Array.toList_range]
 exact eD
theorem zHJ{t:SetTable}{n:Nat}(h:wS t.place):wS (t.orStandIn n).place:=by
 unfold SetTable.orStandIn
 split
 ·exact h
 ·exact zCD
theorem zHK{t:SetTable}{n:Nat}:(t.orStandIn n).led=t.led:=by
 unfold SetTable.orStandIn
 split<;>rfl
theorem zIR{t:SetTable}{es:Array (Int×Value)}{h:Int}{x:Value}(hr:wS t.place):wS (layNew t es h x).2.1.place:=by
 unfold layNew
 split
 ·rename_i j b q
  exact zHJ (zGL hr (zNJ q))
 ·exact zCD
theorem zIS{t:SetTable}{es:Array (Int×Value)}{h:Int}{x:Value}:(layNew t es h x).2.1.led=t.led:=by
 unfold layNew
 split
 ·exact zHK
 ·rfl
theorem zA4{β:Type}(f:Nat→Option β):∀ l:List Nat,((l.filterMap fun j=>(f j).map (j,·)).map (·.1)).Sublist l
 | []=>.slnil
 | a::r=>by
  rw[ef]
  cases f a with
  | none=>exact .cons _ (zA4 f r)
  | some b=>exact .cons₂ _ (zA4 f r)
theorem zKH{t:SetTable}{es:Array (Int×Value)}{n:Nat}:wS (relayAll t es n).2.1.place∧(relayAll t es n).2.1.led=t.led:=by
 unfold relayAll
 split
 ·rename_i t' order q
  dsimp only
  split
  ·unfold SetTable.relaid SetTable.laid at q
   cases ow:SetTable.layClean (SetTable.sizeAbove n-1) (es.map (·.1)) with
   | none=>rw[ow] at q;cases q
   | some owner =>
    rw[ow] at q
    simp only[Option.bind_eq_bind,Option.bind_some,Option.pure_def,Option.some.injEq,Prod.mk.injEq] at q
    obtain⟨rfl,u0⟩:=q
    refine⟨?_,rfl⟩
    show dF _ (List.toArray _).toList
    rw[List.toList_toArray]
    exact eD.sublist (zA4 (fun j=>owner.getD j none) _)
  ·exact⟨zCD,rfl⟩
 ·exact⟨zCD,rfl⟩
noncomputable abbrev kyI(e:Int×Value):Int:=numOf e.2
noncomputable def OkE(prog:Program)(w:World)(l:List (Int×Value)):Prop:=∀ e∈l,∃ k u,e=((intKind prog w).hash k,.int k u)
noncomputable def SI(prog:Program)(w:World)(h:Heap)(a:Addr)(ks:List Int):Prop :=
 ∃ o es ep t,h.get? a=some o∧o.ExactSet∧o.data=.set es ep t∧OkE prog w es.toList∧es.toList.map kyI=ks∧es.size<scanBound∧t.fits es.size=true∧wS t.place∧t.led=!(w.params.followText "set-order")
section
variable {prog:Program} {w:World} {A:Around} {E:Value→Shared→Prop} {s:Shared}
theorem OkE.elems{l:List (Int×Value)}(h:OkE prog w l):ElemsOf (intKind prog w) l:=fun e he=>by
 obtain⟨k,u,rfl⟩:=h e he
 exact⟨⟨k,intKind_is _ _ _ _,rfl⟩,rfl⟩
theorem SI.keep{h h':Heap}{a:Addr}{ks:List Int}(x:SI prog w h a ks)(k:∀ o,h.get? a=some o→h'.get? a=some o):SI prog w h' a ks:=let ⟨o,es,ep,t,e,r⟩:=x;⟨o,es,ep,t,k o e,r⟩
theorem zJC{l:List (Int×Value)}(h:OkE prog w l)(k:Int):(l.findIdx? fun e=>(intKind prog w).is k e.2)=none↔k∉l.map kyI:=by
 rw[List.findIdx?_eq_none_iff]
 constructor
 ·intro q hm
  obtain⟨e,he,e1⟩:=bQ.mp hm
  obtain⟨k',u,rfl⟩:=h e he
  have e2:k'=k:=e1
  subst e2
  have:=q _ he
  rw[intKind_is] at this
  cases this
 ·intro q e he
  obtain⟨k',u,rfl⟩:=h e he
  rw[KeyKind.is_eq_decide (intKind_is prog w k' u) k]
  exact decide_eq_false fun z=>q (bQ.mpr ⟨_,he,by rw[z];rfl⟩)
theorem zJD{g:Bool→Sem Unit}(hg:∀(b:Bool) (z:Shared) (Q':Unit→Shared→Prop),Q' () z→wpAny (model prog w) A (g b) Q' E z){a:Addr}{o:Obj}{es:Array (Int×Value)}{ep:Nat}{t:SetTable}(ho:s.heap.get? a=some o)(hex:o.ExactSet)(hd:o.data=.set es ep t)
  {es1:Array (Int×Value)} {t2:SetTable} (ok1:OkE prog w es1.toList) (hb1:es1.size<scanBound) (hf2:t2.fits es1.size=true) (hr2:wS t2.place) (hl2:t2.led=!(w.params.followText "set-order")) {was:Bool} {R:Option Bool→Shared→Prop}
  (h:∀ h' ks',dP a s.heap h'→SI prog w h' a ks'→ks'.Perm (es1.toList.map kyI)→R (some true) { s with heap:=h' }) :
  wpAny (model prog w) A (do
    storeSet a es1 t2
    if (!was&&t2.tooFull)=true then do
      g (relayAll t2 es1 (dY es1.size)).2.2
      storeSet a (relayAll t2 es1 (dY es1.size)).1 (relayAll t2 es1 (dY es1.size)).2.1
      pure (some true)
     else pure (some true)) R E s:=by
 refine bq (wpAny_storeSet_of ho hd ?_ (fits_of_scanBound hb1))
 have put:∀(hp:Heap) (ob:Obj) (x:Array (Int×Value)) (e:Nat) (y:SetTable) (x':Array (Int×Value)) (y':SetTable),hp.get? a=some ob→ob.data=.set x e y→(hp.update a (Obj.putSet x' y')).get? a=some { ob with data:=.set x' (e+1) y' }:=fun hp ob x e y x' y' q1 q2=>by
  have:=dC (Obj.putSet x' y') q1 (by rw[putSet_of x' y' q2];rfl)
  rw[putSet_of x' y' q2] at this
  exact this
 have o1:=put s.heap o es ep t es1 t2 ho hd
 have sb1:=dP.update s.heap a (Obj.putSet es1 t2)
 split
 ·have pm:=relayAll_perm t2 es1 (dY es1.size)
  have fr:=relayAll_fits t2 es1 (dY es1.size)
  obtain⟨rr,rl⟩:=zKH (t:=t2) (es:=es1) (n:=dY es1.size)
  generalize relayAll t2 es1 (dY es1.size)=L at pm fr rr rl ⊢
  obtain⟨es2,t3,gv⟩:=L
  dsimp only at pm fr rr rl ⊢
  have sz:es2.size=es1.size:=by rw[← bJ,pm.length_eq,bJ]
  refine bq (hg _ _ _ (bq (wpAny_storeSet_of o1 rfl ?_ (fits_of_scanBound (by rw[sz];exact hb1)))))
  have o2:=put _ _ _ _ _ es2 t3 o1 rfl
  exact bC (h _ _ (sb1.trans (dP.update _ a _)) ⟨_,es2,_,t3,o2,hex,rfl,fun e he=>ok1 e (pm.mem_iff.mp he),rfl,by rw[sz];exact hb1,fr,rr,rl.trans hl2⟩ (pm.map _))
 ·exact bC (h _ _ sb1 ⟨_,es1,_,t2,o1,hex,rfl,ok1,rfl,hb1,hf2,hr2,hl2⟩ (.refl _))
theorem zPJ{a:Addr}{ks:List Int}{k:Int}{u:Tok}{Q:Bool→Shared→Prop}(hS:SI prog w s.heap a ks)(room:ks.length+1<scanBound)
  (h:∀ h' ks' b,dP a s.heap h'→SI prog w h' a ks'→ks'.Perm (if k∈ks then ks else ks++[k])→Q b { s with heap:=h' }) :
  wpAny (model prog w) A (setAddHashed a (.int k u) ((intKind prog w).hash k)) Q E s:=by
 have hS0:=hS
 obtain⟨o,es,ep,t,ho,hex,hd,ok,rfl,hb,hf,hr,hl⟩:=hS
 rw[bx,bJ] at room
 unfold setAddHashed setAddHashedIn
 refine cP (bq (dR ho hd hf ?_))
 dsimp only
 rw[byScan_of (knd:=intKind prog w) rfl hb ok.elems]
 simp only[↓reduceIte]
 unfold setAddByScan
 refine bq (bq (dz (bq (wpAny_setScan_of (knd:=intKind prog w) (intKind_is _ _ _ _) ho hd hf ok.elems ?_))))
 cases q:List.findIdx? (fun e=>(intKind prog w).is k e.2) es.toList with
 | some j =>
  dsimp only
  have hk:k∈es.toList.map kyI:=by
   by_cases z:k∈es.toList.map kyI
   ·exact z
   ·rw[(zJC ok k).mpr z] at q;cases q
  refine bC (bC ?_)
  have:=h s.heap _ false (dP.refl a s.heap) hS0 (by rw[if_pos hk])
  exact this
 | none =>
  dsimp only
  have hk:k∉es.toList.map kyI:=(zJC ok k).mp q
  have way:∀(b:Bool) {z:Shared} {Q':Unit→Shared→Prop},Q' () z→wpAny (model prog w) A (match b with | true=>rule "set.scan.the-table-gave-way" | false=>pure ()) Q' E z:=fun b z Q' hq=>by cases b<;>first | exact bC hq | exact dz hq
  have pm:=layNew_perm t es ((intKind prog w).hash k) (.int k u)
  have ft:=layNew_fits t es ((intKind prog w).hash k) (.int k u)
  have rs:=zIR (t:=t) (es:=es) (h:=(intKind prog w).hash k) (x:=.int k u) hr
  have ld:=zIS (t:=t) (es:=es) (h:=(intKind prog w).hash k) (x:=.int k u)
  generalize layNew t es ((intKind prog w).hash k) (.int k u)=L at pm ft rs ld ⊢
  obtain⟨es1,t1,was,gv⟩:=L
  dsimp only at pm ft rs ld ⊢
  rw[bU] at pm
  have ok1:OkE prog w es1.toList:=fun e he=>by
   rcases bR.mp (pm.mem_iff.mp he) with z | z
   ·exact ok e z
   ·rw[bH] at z;exact⟨k,u,z⟩
  have sz:es1.size=es.size+1:=by rw[← bJ,pm.length_eq,bI,bJ];rfl
  have fin:∀ h' ks',dP a s.heap h'→SI prog w h' a ks'→ks'.Perm (es1.toList.map kyI)→Q true { s with heap:=h' }:=fun h' ks' sb si p=>h h' ks' true sb si (by
   rw[if_neg hk]
   refine p.trans ((pm.map kyI).trans ?_)
   rw[cr]
   exact .refl _)
  refine bq (way _ ?_)
  split
  ·refine bq ?_
   rw[hashByValue_scannable 8 rfl]
   refine bC (zJD (fun b z Q' hq=>by cases b<;>first | exact bC hq | exact dz hq) ho hex hd ok1 (by omega) ft rs (ld.trans hl) fun h' ks' sb si p=>?_)
   dsimp only
   exact bC (fin h' ks' sb si p)
  ·refine bq (bC ?_)
   simp only[↓reduceIte]
   refine zJD (fun b z Q' hq=>by cases b<;>first | exact bC hq | exact dz hq) ho hex hd ok1 (by omega) ft rs (ld.trans hl) fun h' ks' sb si p=>?_
   dsimp only
   exact bC (fin h' ks' sb si p)
end
section
variable {prog:Program} {w:World} {A:Around} {R:Result→Shared→Prop} {I:Addr} {fp wr:List Addr} {G:Array GenState→Array GenState→Prop} {n:Nat} {P:Nat→Value→Prop} {St:Nat→Shared→Prop}
theorem zLd(W:WalksS prog w A.in1 I fp wr G n P St)(S:Addr)(hSf:S∉fp)(val:Nat→Int)(hval:∀ i v,P i v→∃ t,v=.int (val i) t)(hb:n+1<scanBound) :
  ∀(k i:Nat) (s:Shared) (ks:List Int),n-i=k→i≤n→St i s→SI prog w s.heap S ks→ks.length≤i→ks.Nodup→(∀ x,x∈ks↔∃ m,m<i∧val m=x) →
   (∀ s' ks',Moved (S::wr) G s s'→SI prog w s'.heap S ks'→ks'.Nodup→ks'.length≤n→(∀ x,x∈ks'↔∃ m,m<n∧val m=x)→R (.ok (.ret .none)) s') →
   codeAny (model prog w) A (.builtin "set.update.loop" ⟨[.ref S,.ref I],[]⟩) R s:=by
 have hSw:S∉wr:=fun q=>hSf (W.sub _ q)
 have sub:∀ b∈wr,b∈S::wr:=fun b q=>ca _ q
 intro k
 induction k with
 | zero =>
  intro i s ks hk hi st hS hl nd mem hR
  obtain rfl:i=n:=by omega
  refine cY F.entry_set_update_loop ?_
  rw[Around.under_plainId F.plain_set_update_loop _]
  show wpAny _ A.in1 (pyNext (.ref I)>>=_) _ _ s
  exact bq (W.done s _ _ st fun s' hm=>bC (hR s' ks (hm.mono sub) (hS.keep fun o e=>hm.heap S _ hSw e) nd hl mem))
 | succ k ih =>
  intro i s ks hk hi st hS hl nd mem hR
  have lt:i<n:=by omega
  refine cY F.entry_set_update_loop ?_
  rw[Around.under_plainId F.plain_set_update_loop _]
  show wpAny _ A.in1 (pyNext (.ref I)>>=_) _ _ s
  refine bq (W.item i s _ _ lt st fun v s' hP st' hm=>?_)
  obtain⟨t,rfl⟩:=hval i v hP
  have hS':=hS.keep fun o e=>hm.heap S _ hSw e
  show wpAny _ A.in1 (holding [Value.int (val i) t] (setAdd S (.int (val i) t))>>=_) _ _ s'
  refine bq (cP ?_)
  unfold setAdd
  refine cP (bq ((intKind prog w).pyHash (k:=val i) (intKind_is _ _ _ _) (zPJ (s:={ s' with toks:=s'.toks+1 }) hS' (by omega) fun h' ks' b sb si pm=>?_)))
  have nd':ks'.Nodup:=pm.nodup_iff.mpr (by
   split
   ·exact nd
   ·rename_i z
    exact dm.mpr ⟨nd,by simp,fun x hx y hy e=>by rw[bH] at hy;exact z (by rw[← hy,← e];exact hx)⟩)
  have len':ks'.length≤i+1:=by
   rw[pm.length_eq]
   split
   ·omega
   ·rw[bI];simp;omega
  have mem':∀ x,x∈ks'↔∃ m,m<i+1∧val m=x:=fun x=>by
   rw[pm.mem_iff]
   constructor
   ·intro q
    split at q
    ·obtain⟨m,h1,h2⟩:=(mem x).mp q
     exact⟨m,by omega,h2⟩
    ·rcases bR.mp q with q | q
     ·obtain⟨m,h1,h2⟩:=(mem x).mp q
      exact⟨m,by omega,h2⟩
     ·rw[bH] at q
      exact⟨i,by omega,q.symm⟩
   ·rintro⟨m,h1,h2⟩
    rcases da m i with z | z
    ·have:=(mem x).mpr ⟨m,z,h2⟩
     split
     ·exact this
     ·exact dW _ this
    ·obtain rfl:m=i:=by omega
     split
     ·rename_i q;rw[← h2];exact q
     ·rw[← h2];simp
  refine bC ⟨plainId_quiet F.plain_set_update_loop _,ih (i+1) _ ks' (by omega) lt (W.frame _ s' _ _ st' (dh _) fun b hb' o e=>?_) si len' nd' mem' fun s'' ks'' hm'' si'' nd'' len'' mem''=>?_⟩
  ·rw[sb.2 b (fun q:b=S=>hSf (by rw[← q];exact hb'))];exact e
  ·refine hR s'' ks'' (Moved.trans W.gtrans ((hm.mono sub).then_heap (dh _) fun b o hb' e=>?_) hm'') si'' nd'' len'' mem''
   rw[sb.2 b (fun q:b=S=>hb' (by rw[q];exact cc))];exact e
end
noncomputable abbrev zBr(w:World):Bool:=!(w.params.followText "set-order")
noncomputable abbrev zCJ(w:World):Obj:={ cls:=.type "set",dict:=none,data:=.set #[] 0 (.fresh 0 0 (zBr w)) }
section
variable {prog:Program} {w:World} {A:Around} {E:Value→Shared→Prop} {s:Shared}
theorem zBs(v:Value){Q1:Value→Shared→Prop}(h:Q1 (.ref s.heap.objs.size) { s with heap:=s.heap.push (zCJ w) }) :
  codeAny (model prog w) A (.call (.builtin "set.__new__") ⟨[.type "set",v],[]⟩) (wants Q1 E) s:=by
 refine codeAny_of_tree ?_
 show wpAny _ A.in1 (do checkBuiltinCall "set.__new__" ⟨[.type "set",v],[]⟩;again (.builtin "set.__new__" ⟨[.type "set",v],[]⟩)) _ _ s
 refine bq (wpAny_of_eq (F.newCall_set_1 v) (bC ⟨plainId_quiet F.plain_set_new _,cY F.entry_set_new ?_⟩))
 rw[Around.under_plainId F.plain_set_new _]
 unfold Builtin.«set.__new__» Builtin.Frozenset.newClass
 have hsub:=sub_set_self
 obtain⟨hp,g,d,tk,os⟩:=s
 dsimp only
 wp_walk
 refine wpAny_askSetting (bC ?_)
 dsimp only
 simp only[newObj]
 exact bq (wpAny_alloc (bC (bC h)))
theorem zPK{h:Heap}:SI prog w (h.push (zCJ w)) h.objs.size [] :=
 ⟨zCJ w,#[],0,.fresh 0 0 (zBr w),bM _ rfl,⟨rfl,rfl,rfl⟩,rfl,fun e he=>by simp at he,rfl,by decide,rfl,.nil,rfl⟩
theorem zKI{l:Addr}{its:Array Value}{ns:List Int}{Q:Value→Shared→Prop}(hh:A.handled=none)(hl:s.heap.IsList l its)(hi:IntsAre its.toList ns)(hb:its.size+1<scanBound)
  (h:∀(h':Heap) (tk:Nat) (ks:List Int),SI prog w h' s.heap.objs.size ks→ks.Nodup→ks.length≤ns.length→(∀ x,x∈ks↔x∈ns)→(∀ b o,b<s.heap.objs.size→s.heap.get? b=some o→h'.get? b=some o)→Q (.ref s.heap.objs.size) { s with heap:=h',toks:=tk }) :
  wpAny (model prog w) A (call (.type "set") [.ref l]) Q E s:=by
 obtain⟨c,tl,hmro⟩:=F.called_set.mro
 have hmade:=F.called_set.made
 have hsub:=F.called_set.sub
 refine wpAny_call (codeAny_of_tree (show wpAny _ _ (callAny (.type "set") _) _ _ _ from bC ⟨Code.quiet_builtin _ (by decide +kernel),cY F.entry_type_call ?_⟩))
 rw[Around.under_plain (weight_type_call_type "set" [.ref l] []) rfl]
 have h1:=F.called_set.notType
 have h2:=F.called_set.canCreate
 have hct:=F.typeCall_set_1 (.ref l)
 (repeat (any_goals (first | assumption | wp_step)))
 refine dN (zBs (.ref l) (E:=E) (Q1:=fun obj z=>obj=.ref s.heap.objs.size∧z={ s with heap:=s.heap.push (zCJ w) }) ⟨rfl,rfl⟩) fun r z hr=>?_
 cases r with
 | error e=>exact hr
 | ok fl =>
  cases fl with
  | ret obj =>
   obtain⟨rfl,rfl⟩:=hr
   have hT:Shared.TypeIs { s with heap:=s.heap.push (zCJ w) } (.ref s.heap.objs.size) "set":=⟨_,bM _ rfl,rfl⟩
   have hli:=F.called_set.init.lookup
   have hbi:=F.called_set.init.bind (.ref s.heap.objs.size)
   (repeat (any_goals (first | assumption | wp_step)))
   refine dN (codeAny_call_builtin (R:=wants (fun r z2=>r=.none∧∃ h' tk ks,z2={ s with heap:=h',toks:=tk }∧SI prog w h' s.heap.objs.size ks∧ks.Nodup∧ks.length≤its.size∧(∀ x,x∈ks↔∃ m,m<its.size∧ns.getD m 0=x)∧(∀ b o,b<s.heap.objs.size→s.heap.get? b=some o→h'.get? b=some o)) E) F.called_set.init.plain F.entry_set_init (check_set_init_1 hT ?_)) fun r2 z2 hr2=>?_
   ·obtain⟨ol,hol,hcl,nl,hdl⟩:=hl
    obtain⟨ocls,odict,odata,oslots⟩:=ol
    simp only at hcl hdl
    subst hcl;subst hdl
    have hol':(s.heap.push (zCJ w)).get? l=some { cls:=.type "list",dict:=odict,data:=.seq its nl,slots:=oslots }:=bz _ hol
    have hsls:=F.sub_list_set
    have hslf:=F.sub_list_frozenset
    have hne:(Value.type "list"==Value.type "dict")=false:=by decide
    have hl1:(s.heap.push (zCJ w)).IsList l its:=⟨_,hol',rfl,nl,rfl⟩
    unfold Builtin.«set.__init__» noKeywords Builtin.Frozenset.updateFrom
    generalize hPI:pyIter=PI
    wp_walk
    subst hPI
    refine wpAny_pyIter_list hl1 (bq (wpAny_runValue ?_))
    have lS:l<s.heap.objs.size:=bP hol
    have hh3:A.in1.in1.in1.handled=none:=by simp[hh]
    have neI:l≠(s.heap.push (zCJ w)).objs.size:=by rw[e7];exact cg (Nat.lt_succ_of_lt lS)
    have hSf:s.heap.objs.size∉[(s.heap.push (zCJ w)).objs.size,l]:=by
     rw[e7];simp only[ce,bH,db,or_false,not_or]
     exact⟨cg (Nat.lt_succ_self _),Nat.ne_of_gt lS⟩
    have hval:∀(i:Nat) (v:Value),its[i]?=some v→∃ t,v=.int ((fun i=>ns.getD i 0) i) t:=fun i v hv=>IntsAre.int_at hi i v (by rw[cx];exact hv)
    refine zLd ((Walks.list hh3 _ l neI its).toS) s.heap.objs.size hSf (fun i=>ns.getD i 0) hval hb (its.size-0) 0 _ [] (by omega) (dO _) ⟨⟨_,bM _ rfl,rfl,rfl⟩,(hl1.push _)⟩ (zPK.keep fun o e=>bz _ e) (bF _) .nil (fun x=>⟨fun q=>(by simp at q),fun⟨m,q,_⟩=>absurd q (Nat.not_lt_zero _)⟩) ?_
    intro s' ks' hm si nd len mem
    obtain⟨h',g',d',tk',os'⟩:=s'
    have eg:g'=s.gens:=hm.gens
    have ed:d'=s.drawn:=hm.drawn
    have eo:os'=s.os:=hm.os
    subst eg;subst ed;subst eo
    show wpAny _ _ _ _ _ _
    refine bC ?_
    show wpAny _ _ (ret Value.none) _ _ _
    refine bC ⟨rfl,h',tk',ks',rfl,si,nd,len,mem,fun b o hb' e=>?_⟩
    have b1:b≠s.heap.objs.size:=cg hb'
    have b2:b≠(s.heap.push (zCJ w)).objs.size:=by rw[e7];exact cg (Nat.lt_succ_of_lt hb')
    exact hm.heap b o (by simp only[ce,bH,db,or_false,not_or];exact⟨b1,b2⟩) (bz _ (bz _ e))
   ·cases r2 with
    | error e=>exact hr2
    | ok fl2 =>
     cases fl2 with
     | ret r =>
      obtain⟨rfl,h',tk,ks,rfl,si,nd,len,mem,kp⟩:=hr2
      (repeat (any_goals (first | assumption | wp_step)))
      have ln:=hi.length
      rw[bJ] at ln
      refine h _ _ ks si nd (by omega) (fun x=>?_) kp
      rw[mem x]
      constructor
      ·rintro⟨m,q,rfl⟩
       have:m<ns.length:=by omega
       simp[cJ,this]
      ·intro q
       obtain⟨m,hm,rfl⟩:=d9.mp q
       exact⟨m,by omega,by simp[cJ,hm]⟩
     | _=>exact hr2.elim
  | _=>exact hr.elim
end
theorem ye:Slot "set_iterator" "__next__" "set_iterator.__next__" :=
 .of (owner:="set_iterator") (n:="__next__") (by rw[typeLookup_type,builtinLookup_eq_fast];kernel_rfl) (by decide +kernel) (by decide +kernel) (by decide +kernel) (by first | exact .inl (by decide +kernel) | exact .inr (by decide +kernel)) (by rw[isSubtype_type];kernel_rfl)
theorem zCE:entryFor table "set_iterator.__next__"=some Builtin.«set_iterator.__next__»:=entryFor_of_tree (by kernel_rfl)
theorem zC2(v:Value):argsOk "set_iterator.__next__" ⟨[v],[]⟩:=by unfold argsOk;kernel_rfl
theorem zEg:entryFor table "set.__iter__"=some Builtin.«frozenset.__iter__»:=entryFor_alias (id':="frozenset.__iter__") (by kernel_rfl) rfl (by decide +kernel) (by kernel_rfl)
theorem zGM{α:Type}:∀(l:List α) (i:Nat) (h:i<l.length),([l[i]]++l.eraseIdx i).Perm l
 | a::r,0,_=>.refl _
 | a::r,i+1,h=>by
  have hi:i<r.length:=by simpa using h
  have q:=zGM r i hi
  show([r[i]]++(a::r.eraseIdx i)).Perm (a::r)
  exact(dg.swap a r[i] _).trans (q.cons a)
theorem zJE{α:Type}(f:Nat→Nat):∀(n k:Nat) (l:List α) (out:Array α),l.length=n→(pickOrder.go f n k l out).toList.Perm (out.toList++l)
 | 0,k,l,out,h=>by
  have:l=[]:=dl.mp h
  subst this
  unfold pickOrder.go
  simp
 | n+1,k,l,out,h=>by
  unfold pickOrder.go
  have hi:f k%l.length<l.length:=Nat.mod_lt _ (by omega)
  rw[cL hi]
  dsimp only
  refine(zJE f n (k+1) _ _ (by rw[List.length_eraseIdx_of_lt hi];omega)).trans ?_
  rw[bU,bZ]
  refine dg.append_left _ ?_
  exact zGM l _ hi
theorem zCF{α:Type}(f:Nat→Nat)(xs:Array α):(pickOrder f xs).toList.Perm xs.toList:=by
 unfold pickOrder
 simpa using zJE f xs.size 0 xs.toList #[] (by simp)
section
variable {prog:Program} {w:World} {A:Around} {E:Value→Shared→Prop} {s:Shared}
theorem zCb{Q:Bool→Shared→Prop}(h:Q (w.params.followText "set-order") s):wpAny (model prog w) A setsByText Q E s:=by
 unfold setsByText
 exact bq (wpAny_askSetting (bC h))
theorem zEh{α:Type}:∀(n:Nat) (l:List α) (s:Shared) (Q:List α→Shared→Prop),l.length=n→(∀ r d,r.Perm l→Q r { s with drawn:=d })→wpAny (model prog w) A (drawOrder n l) Q E s
 | 0,l,s,Q,h,q=>by
  have:l=[]:=dl.mp h
  subst this
  unfold drawOrder
  exact bC (q [] s.drawn (.refl _))
 | n+1,[],s,Q,h,q=>by cases h
 | n+1,a::r,s,Q,h,q=>by
  unfold drawOrder
  refine bq (fun Γ p hΓ=>?_)
  show PySem.Sem.wp _ Γ (.choose .order (a::r).length .pure) _ _ p s
  rw[Sem.wp_choose]
  refine⟨by simp,?_⟩
  have hi:(model prog w).w.draws .order (s.drawn.get .order)%(a::r).length<(a::r).length:=Nat.mod_lt _ (by simp)
  generalize (model prog w).w.draws .order (s.drawn.get .order)%(a::r).length=i at hi
  rw[Sem.wp_pure]
  have goal:wpAny (model prog w) A (match (a::r)[i]? with | some x=>do return x::(← drawOrder n ((a::r).eraseIdx i)) | none=>unsupported "internal:drawOrder") Q E { s with drawn:=s.drawn.bump .order }:=by
   rw[cL hi]
   dsimp only
   refine bq (zEh n _ _ _ (by rw[List.length_eraseIdx_of_lt hi];simp at h ⊢;omega) fun z d pm=>bC (q _ d ?_))
   exact(pm.cons _).trans (zGM (a::r) i hi)
  exact goal
noncomputable abbrev wI(f:Value)(i:Int)(a:Addr)(n:Nat)(ep:Nat):Obj:={ cls:=.type "set_iterator",dict:=none,data:=.fields #[f,rawInt i,.ref a,rawInt n,rawInt ep],slots:=#[] }
structure Sx (h:Heap) (a:Addr) (es:Array (Int×Value)) (ep:Nat) (t:SetTable):Prop where
 ex:∃ o,h.get? a=some o∧o.ExactSet∧o.data=.set es ep t
theorem Sx.keep{h h':Heap}{a:Addr}{es:Array (Int×Value)}{ep:Nat}{t:SetTable}(x:Sx h a es ep t)(k:∀ o,h.get? a=some o→h'.get? a=some o):Sx h' a es ep t:=let ⟨o,e,r⟩:=x.ex;⟨o,k o e,r⟩
noncomputable def Tells(prog:Program)(w:World)(a:Addr)(es:Array (Int×Value))(ep:Nat)(t:SetTable)(sl:Nat→Nat)(xs:List Value):Prop :=
 ∀(A:Around) (E:Value→Shared→Prop) (s:Shared) (i:Nat) (Q:Option (Value×Nat)→Shared→Prop),i≤xs.length→Sx s.heap a es ep t→Q ((xs[i]?).map fun v=>(v,sl (i+1))) s→wpAny (model prog w) A (setNext a (sl i) i ep) Q E s
theorem zCc{a:Addr}{es:Array (Int×Value)}{ep:Nat}{t:SetTable}(hf:t.fits es.size=true)(hb:w.params.followText "set-order"=true):Tells prog w a es ep t (fun u0=>0) ((pickOrder (w.params.setOrder a ep) es).toList.map (·.2)):=by
 intro A E s i Q hi hx h
 obtain⟨o,ho,u0,hd⟩:=hx.ex
 unfold setNext
 refine bq (dR ho hd hf ?_)
 dsimp only
 refine bq (zCb ?_)
 rw[hb]
 simp only[↓reduceIte,bne_self_eq_false,bp]
 refine bq ?_
 unfold setWalk
 refine bq (dR ho hd hf ?_)
 dsimp only
 refine bq (zCb ?_)
 rw[hb]
 simp only[↓reduceIte]
 refine bq (wpAny_askSetting (bC (bC ?_)))
 rw[bY,Option.map_map,cx] at h
 exact h
theorem below_at{xs:Array Nat}(hr:wS xs){i:Nat}(hi:i≤xs.size):(i<xs.size→cF xs (if i=0 then 0 else xs.getD (i-1) 0+1)=i)∧(i=xs.size→xs.size≤cF xs (if i=0 then 0 else xs.getD (i-1) 0+1)):=by
 generalize hj:(if i=0 then 0 else xs.getD (i-1) 0+1)=j
 obtain⟨b1,b2⟩:=zC1 (j:=j) hr
 generalize cF xs j=p at b1 b2
 have lo:i≤p:=by
  rcases da p i with q | q
  ·exfalso
   have h1:=b2 p (by omega) (bF _)
   rw[if_neg (by omega)] at hj
   have h0:i-1<xs.size:=by omega
   have e:xs.getD (i-1) 0=xs[i-1]:=by simp[eF,h0]
   rw[e] at hj
   rcases da p (i-1) with z | z
   ·have:=hr.lt z h0;omega
   ·have e2:p=i-1:=by omega
    subst e2;omega
  ·exact q
 refine⟨fun h=>?_,fun h=>by omega⟩
 rcases da i p with q | q
 ·exfalso
  have h1:=b1 i h q
  by_cases z:i=0
  ·rw[if_pos z] at hj;omega
  ·rw[if_neg z] at hj
   have h0:i-1<xs.size:=by omega
   have e:xs.getD (i-1) 0=xs[i-1]:=by simp[eF,h0]
   have:=hr.lt (i:=i-1) (k:=i) (by omega) h
   omega
 ·omega
theorem zBt{a:Addr}{es:Array (Int×Value)}{ep:Nat}{t:SetTable}(hf:t.fits es.size=true)(hr:wS t.place)(hb:w.params.followText "set-order"=false)(hl:t.led=true)(hp:(!t.plain&&decide (es.size>1))=false) :
  Tells prog w a es ep t (fun i=>if i=0 then 0 else t.place.getD (i-1) 0+1) (es.toList.map (·.2)):=by
 intro A E s i Q hi hx h
 obtain⟨o,ho,u0,hd⟩:=hx.ex
 have hs:t.place.size=es.size:=by
  simp only[SetTable.fits,dk,beq_iff_eq] at hf
  exact hf.1
 unfold setNext
 refine bq (dR ho hd hf ?_)
 dsimp only
 refine bq (zCb ?_)
 rw[hb]
 simp only[bp,↓reduceIte]
 refine dM (fun q=>absurd (show(!t.plain&&decide (es.size>1))=true from q) (by rw[hp];decide)) (fun u0=>?_)
 refine bq (dM (fun q=>absurd q (by rw[hl];simp)) (fun u0=>bC (bC ?_)))
 rw[bx,bJ] at hi
 obtain⟨b1,b2⟩:=below_at hr (i:=i) (by omega)
 rw[bY,Option.map_map,cx] at h
 rcases da i es.size with q | q
 ·rw[b1 (by omega),getElem?_pos es i q,getElem?_pos t.place i (by omega)]
  rw[getElem?_pos es i q] at h
  have e:t.place.getD (i+1-1) 0=t.place[i]'(by omega):=by simp[eF,hs,q]
  have h':Q (some (es[i].2,if i+1=0 then 0 else t.place.getD (i+1-1) 0+1)) s:=h
  rw[if_neg (by omega),e] at h'
  exact h'
 ·have hn:es[cF t.place (if i=0 then 0 else t.place.getD (i-1) 0+1)]?=none:=by
   rw[Array.getElem?_eq_none_iff]
   have:=b2 (by omega)
   omega
  have hn2:es[i]?=none:=by rw[Array.getElem?_eq_none_iff];exact q
  rw[hn]
  rw[hn2] at h
  exact h
theorem zEi{a it:Addr}{es:Array (Int×Value)}{ep:Nat}{t:SetTable}{sl:Nat→Nat}{xs:List Value}(T:Tells prog w a es ep t sl xs)(hf:t.fits es.size=true)(hx:xs.length=es.size){i:Nat}(hi:i<es.size)(hit:s.heap.get? it=some (wI (rawInt (sl i)) i a es.size ep))(hS:Sx s.heap a es ep t)(hne:a≠it){Q:Option Value→Shared→Prop}
  (hQ:∀ h' v,xs[i]?=some v→h'.get? it=some (wI (rawInt (sl (i+1))) ((i+1:Nat):Int) a es.size ep)→(∀ b o,b≠it→s.heap.get? b=some o→h'.get? b=some o)→Q (some v) { s with heap:=h' }):wpAny (model prog w) A (pyNext (.ref it)) Q E s:=by
 have hT:s.TypeIs (.ref it) "set_iterator":=⟨_,hit,rfl⟩
 obtain⟨o,ho,u0,hd⟩:=hS.ex
 unfold pyNext
 refine bq (wpAny_attempt (wpAny_callSpecial?_slot (name:=Str.ofString "__next__") hT ye (cT ye hT zCE ?_ (zC2 _))))
 unfold Builtin.«set_iterator.__next__»
 refine bq (m:=slotArgs "__next__" 0 _) (bC ?_)
 refine bq (wpAny_fieldsOf hit rfl ?_)
 simp only[rawInt]
 refine bq (e9 ho hd hf ?_)
 simp only[bne_self_eq_false,bp,↓reduceIte]
 simp only[Int.toNat_natCast]
 refine bq (T _ _ _ i _ (by omega) hS ?_)
 rw[cL (show i<xs.length by omega)]
 refine bq (dI hit (by simp) fun h1 e1 s1=>bq (dI e1 (by simp) fun h2 e2 s2=>bC ⟨_,rfl,bC (hQ h2 xs[i] (cL _) ?_ fun b o hb e=>s2.extBut _ _ hb (s1.extBut _ _ hb e))⟩))
 exact e2
theorem zJF{B:Around}{z:Shared}{Q:Fin→Shared→Prop}{E':Value→Shared→Prop}(hh:B.handled=none)(h:∀ h' e,(∀ b o,z.heap.get? b=some o→h'.get? b=some o)→(∃ o,h'.get? e=some o∧o.cls=.type "StopIteration")→E' (.ref e) { z with heap:=h' }) :
  wpAny (model prog w) B (do raiseNew (← newExc (.type "StopIteration") [])) Q E' z:=by
 refine bq ?_
 simp only[newExc,newTuple]
 refine bq (cW (bq (m:=firstArgMember _ _) (wpAny_of_eq (a:=Value.none) (by first | rfl | (simp only[firstArgMember];rfl)) (cW ?_ (by size_fits)))) (by size_fits))
 simp only[raiseNew]
 refine bq (wpAny_handled ?_)
 rw[hh]
 exact bq (bC (wpAny_throw (h _ _ (fun b o e=>bz _ (bz _ e)) ⟨_,bM _ rfl,rfl⟩)))
theorem zGN{a it:Addr}{es:Array (Int×Value)}{ep:Nat}{t:SetTable}{sl:Nat→Nat}{xs:List Value}(hh:A.handled=none)(T:Tells prog w a es ep t sl xs)(hf:t.fits es.size=true)(hx:xs.length=es.size)(hit:s.heap.get? it=some (wI (rawInt (sl es.size)) es.size a es.size ep))(hS:Sx s.heap a es ep t){Q:Option Value→Shared→Prop}
  (hQ:∀ h',(∀ b o,b≠it→s.heap.get? b=some o→h'.get? b=some o)→Q none { s with heap:=h' }):wpAny (model prog w) A (pyNext (.ref it)) Q E s:=by
 have hT:s.TypeIs (.ref it) "set_iterator":=⟨_,hit,rfl⟩
 obtain⟨o,ho,u0,hd⟩:=hS.ex
 unfold pyNext
 refine bq (wpAny_attempt (wpAny_callSpecial?_slot (name:=Str.ofString "__next__") hT ye (cT ye hT zCE ?_ (zC2 _))))
 unfold Builtin.«set_iterator.__next__»
 refine bq (m:=slotArgs "__next__" 0 _) (bC ?_)
 refine bq (wpAny_fieldsOf hit rfl ?_)
 simp only[rawInt]
 refine bq (e9 ho hd hf ?_)
 simp only[bne_self_eq_false,bp,↓reduceIte]
 simp only[Int.toNat_natCast]
 refine bq (T _ _ _ es.size _ (by omega) hS ?_)
 rw[List.getElem?_eq_none (show xs.length≤es.size by omega)]
 refine bq (dI hit (by simp) fun h1 e1 s1=>?_)
 refine zJF (by simpa using hh) fun h' e kp he=>?_
 obtain⟨oe,q1,q2⟩:=he
 refine bq (wpAny_isInstance (T:="StopIteration") (b:=true) ⟨oe,q1,q2⟩ isSubtype_stop (bC (hQ _ fun b o hb e=>kp _ _ (s1.extBut _ _ hb e))))
theorem zLe{a it T:Addr}{es:Array (Int×Value)}{ep:Nat}{t:SetTable}{od:List Nat}(hf:t.fits es.size=true)(hod:od.Perm (bE es.size)){i:Nat}(hi:i<es.size)(hit:s.heap.get? it=some (wI (.ref T) i a es.size ep))(hS:Sx s.heap a es ep t)(hT:s.heap.get? T=some { cls:=.type "tuple",data:=.seq (od.map fun(k:Nat)=>rawInt k).toArray }){Q:Option Value→Shared→Prop}
  (hQ:∀ h' v,(od.map fun k=>(es.getD k (0,.none)).2)[i]?=some v→h'.get? it=some (wI (.ref T) ((i+1:Nat):Int) a es.size ep)→(∀ b o,b≠it→s.heap.get? b=some o→h'.get? b=some o)→Q (some v) { s with heap:=h' }):wpAny (model prog w) A (pyNext (.ref it)) Q E s:=by
 have hTy:s.TypeIs (.ref it) "set_iterator":=⟨_,hit,rfl⟩
 obtain⟨o,ho,u0,hd⟩:=hS.ex
 have hl:od.length=es.size:=by rw[hod.length_eq];simp
 have hk:od[i]'(by omega)<es.size:=cb.mp (hod.mem_iff.mp (di _))
 unfold pyNext
 refine bq (wpAny_attempt (wpAny_callSpecial?_slot (name:=Str.ofString "__next__") hTy ye (cT ye hTy zCE ?_ (zC2 _))))
 unfold Builtin.«set_iterator.__next__»
 refine bq (m:=slotArgs "__next__" 0 _) (bC ?_)
 refine bq (wpAny_fieldsOf hit rfl ?_)
 simp only[rawInt]
 refine bq (e9 ho hd hf ?_)
 simp only[bne_self_eq_false,bp,↓reduceIte]
 refine bq (wpAny_seqItems hT rfl ?_)
 have e1:((od.map fun(k:Nat)=>rawInt k).toArray)[(i:Int).toNat]?=some (Value.int (od[i]'(by omega):Nat) 0):=by
  simp[rawInt,hl,hi]
 dsimp only
 rw[e1]
 dsimp only
 refine bq ?_
 unfold setNextDrawn
 refine bq (dR ho hd hf ?_)
 simp only[Int.toNat_natCast,bne_self_eq_false,bp,↓reduceIte]
 rw[getElem?_pos es _ hk]
 dsimp only
 refine bC (bq (dI hit (by simp) fun h1 e1 s1=>bC ⟨_,rfl,bC (hQ h1 _ ?_ e1 fun b o hb e=>s1.extBut _ _ hb e)⟩))
 rw[bY,cL (show i<od.length by omega)]
 simp[eF,hk]
theorem zNK{a it T:Addr}{es:Array (Int×Value)}{ep:Nat}{t:SetTable}{od:List Nat}(hh:A.handled=none)(hf:t.fits es.size=true)(hod:od.Perm (bE es.size))(hit:s.heap.get? it=some (wI (.ref T) es.size a es.size ep))(hS:Sx s.heap a es ep t)(hT:s.heap.get? T=some { cls:=.type "tuple",data:=.seq (od.map fun(k:Nat)=>rawInt k).toArray }){Q:Option Value→Shared→Prop}
  (hQ:∀ h',(∀ b o,b≠it→s.heap.get? b=some o→h'.get? b=some o)→Q none { s with heap:=h' }):wpAny (model prog w) A (pyNext (.ref it)) Q E s:=by
 have hTy:s.TypeIs (.ref it) "set_iterator":=⟨_,hit,rfl⟩
 obtain⟨o,ho,u0,hd⟩:=hS.ex
 have hl:od.length=es.size:=by rw[hod.length_eq];simp
 unfold pyNext
 refine bq (wpAny_attempt (wpAny_callSpecial?_slot (name:=Str.ofString "__next__") hTy ye (cT ye hTy zCE ?_ (zC2 _))))
 unfold Builtin.«set_iterator.__next__»
 refine bq (m:=slotArgs "__next__" 0 _) (bC ?_)
 refine bq (wpAny_fieldsOf hit rfl ?_)
 simp only[rawInt]
 refine bq (e9 ho hd hf ?_)
 simp only[bne_self_eq_false,bp,↓reduceIte]
 refine bq (wpAny_seqItems hT rfl ?_)
 have e1:((od.map fun(k:Nat)=>rawInt k).toArray)[(es.size:Int).toNat]?=none:=by
  simp[hl]
 dsimp only
 rw[e1]
 dsimp only
 refine bq (dI hit (by simp) fun h1 e1 s1=>bq (dI e1 (by simp) fun h2 e2 s2=>?_))
 refine zJF (by simpa using hh) fun h' e kp he=>?_
 obtain⟨oe,q1,q2⟩:=he
 exact bq (wpAny_isInstance (T:="StopIteration") (b:=true) ⟨oe,q1,q2⟩ isSubtype_stop (bC (hQ _ fun b o hb e=>kp _ _ (s2.extBut _ _ hb (s1.extBut _ _ hb e)))))
end
theorem zHL:Slot "set_iterator" "__iter__" "set_iterator.__iter__" :=
 .of (owner:="set_iterator") (n:="__iter__") (by rw[typeLookup_type,builtinLookup_eq_fast];kernel_rfl) (by decide +kernel) (by decide +kernel) (by decide +kernel) (by first | exact .inl (by decide +kernel) | exact .inr (by decide +kernel)) (by rw[isSubtype_type];kernel_rfl)
theorem zKJ:entryFor table "set_iterator.__iter__"=some Builtin.«dict_keyiterator.__iter__» :=
 entryFor_alias (id':="dict_keyiterator.__iter__") (by kernel_rfl) (by first | rfl | decide +kernel | (unfold String.splitOn;simp +decide [String.splitOnAux])) (by decide +kernel) (by kernel_rfl)
theorem zLf(v:Value):argsOk "set_iterator.__iter__" ⟨[v],[]⟩:=by unfold argsOk;kernel_rfl
section
variable {prog:Program} {w:World} {A:Around} {E:Value→Shared→Prop} {s:Shared}
theorem zC3{it:Addr}{f:Value}{i:Int}{a:Addr}{n ep:Nat}{Q:Value→Shared→Prop}(h:s.heap.get? it=some (wI f i a n ep))(q:Q (.ref it) s):wpAny (model prog w) A (pyIter (.ref it)) Q E s:=by
 have hT:s.TypeIs (.ref it) "set_iterator":=⟨_,h,rfl⟩
 refine wpAny_pyIter_slot hT zHL (cT zHL hT zKJ ?_ (zLf _))
 show wpAny _ _ (ret (.ref it)) _ _ s
 exact bC ⟨_,rfl,"set_iterator",_,hT,ye.lookup,q⟩
noncomputable abbrev PvI(val:Nat→Int)(i:Nat)(v:Value):Prop:=∃ u,v=.int (val i) u
theorem zLg{a it:Addr}{es:Array (Int×Value)}{ep:Nat}{t:SetTable}{sl:Nat→Nat}{xs:List Value}(hh:A.handled=none)(T:Tells prog w a es ep t sl xs)(hf:t.fits es.size=true)(hx:xs.length=es.size)(hne:a≠it)(hv:∀ v∈xs,∃ k u,v=.int k u) :
  Walks prog w A it [it,a] [it] es.size (PvI fun i=>numOf (xs.getD i .none)) (fun i h=>h.get? it=some (wI (rawInt (sl i)) i a es.size ep)∧Sx h a es ep t) where
 sub:=fun b hb=>by simp at hb ⊢;exact .inl hb
 frame:=fun i h h' st k=>⟨k it (by simp) _ st.1,st.2.keep fun o e=>k a (by simp) o e⟩
 item:=fun i s Q E hi st hQ=>zEi T hf hx hi st.1 st.2 hne fun h' v hxv e kp=>by
  obtain⟨k,u,rfl⟩:=hv v (cf hxv)
  have e2:xs.getD i .none=.int k u:=by simp[cJ,hxv]
  exact hQ _ h' s.toks ⟨u,by dsimp only;rw[e2];rfl⟩ ⟨e,st.2.keep fun o q=>kp a o hne q⟩ fun b o hb q=>kp b o (by simpa using hb) q
 done:=fun s Q E st hQ=>zGN hh T hf hx st.1 st.2 fun h' kp=>hQ h' s.toks fun b o hb q=>kp b o (by simpa using hb) q
 self:=fun i s Q E st hQ=>zC3 st.1 hQ
theorem zLh{a it T:Addr}{es:Array (Int×Value)}{ep:Nat}{t:SetTable}{od:List Nat}(hh:A.handled=none)(hf:t.fits es.size=true)(hod:od.Perm (bE es.size))(hne:a≠it)(hnT:T≠it)(hv:∀ e∈es.toList,∃ k u,e.2=.int k u) :
  Walks prog w A it [it,a,T] [it] es.size (PvI fun i=>numOf ((od.map fun k=>(es.getD k (0,.none)).2).getD i .none)) (fun i h=>h.get? it=some (wI (.ref T) i a es.size ep)∧Sx h a es ep t∧h.get? T=some { cls:=.type "tuple",data:=.seq (od.map fun(k:Nat)=>rawInt k).toArray }) where
 sub:=fun b hb=>by simp at hb ⊢;exact .inl hb
 frame:=fun i h h' st k=>⟨k it (by simp) _ st.1,st.2.1.keep fun o e=>k a (by simp) o e,k T (by simp) _ st.2.2⟩
 item:=fun i s Q E hi st hQ=>zLe hf hod hi st.1 st.2.1 st.2.2 fun h' v hxv e kp=>by
  have hm:=cf hxv
  obtain⟨k,hk,rfl⟩:=bQ.mp hm
  have hk':k<es.size:=cb.mp (hod.mem_iff.mp hk)
  have e3:es.getD k (0,.none)=es[k]:=by simp[eF,hk']
  obtain⟨n,u,e4⟩:=hv es[k] (by simp)
  have e2:(od.map fun k=>(es.getD k (0,.none)).2).getD i .none=(es.getD k (0,.none)).2:=by rw[List.getD_eq_getElem?_getD,hxv];rfl
  refine hQ _ h' s.toks ⟨u,?_⟩ ⟨e,st.2.1.keep fun o q=>kp a o hne q,kp T _ hnT st.2.2⟩ fun b o hb q=>kp b o (by simpa using hb) q
  dsimp only
  rw[e2,e3,e4]
  rfl
 done:=fun s Q E st hQ=>zNK hh hf hod st.1 st.2.1 st.2.2 fun h' kp=>hQ h' s.toks fun b o hb q=>kp b o (by simpa using hb) q
 self:=fun i s Q E st hQ=>zC3 st.1 hQ
theorem zFm(xs:List Value):(bE xs.length).map (fun i=>numOf (xs.getD i .none))=xs.map numOf:=by
 refine List.ext_getElem (by simp) fun i h1 h2=>?_
 have:i<xs.length:=by simpa using h1
 simp[cJ,this]
theorem zLi{a:Addr}{ks:List Int}{Q:Value→Shared→Prop}(hS:SI prog w s.heap a ks)
  (h:∀(h1:Heap) (d:Drawn) (it:Addr) (fp:List Addr) (St:Nat→Heap→Prop) (val:Nat→Int),(∀ b o,s.heap.get? b=some o→h1.get? b=some o)→(∀ b∈fp,b=a∨s.heap.objs.size≤b)→s.heap.objs.size≤it →
   (∀ B:Around,B.handled=none→Walks prog w B it fp [it] ks.length (PvI val) St)→St 0 h1→((bE ks.length).map val).Perm ks→Q (.ref it) { s with heap:=h1,drawn:=d }):wpAny (model prog w) A (pyIter (.ref a)) Q E s:=by
 obtain⟨o,es,ep,t,ho,hex,hd,ok,rfl,hb,hf,hr,hl⟩:=hS
 have hv:∀ e∈es.toList,∃ k u,e.2=.int k u:=fun e he=>by
  obtain⟨k,u,rfl⟩:=ok e he
  exact⟨k,u,rfl⟩
 have hlen:(es.toList.map kyI).length=es.size:=by simp
 have hT:s.TypeIs (.ref a) "set":=⟨o,ho,hex.1⟩
 have la:a<s.heap.objs.size:=bP ho
 refine wpAny_pyIter_slot hT F.slot_set_iter (cT F.slot_set_iter hT zEg ?_ (F.args_set_iter_1 _))
 unfold Builtin.«frozenset.__iter__» Builtin.Frozenset.slot0
 refine bq (m:=do Builtin.Frozenset.addrOf (← slotArgs "__iter__" 0 _).1) (show wpAny _ _ (pure a) _ _ _ from bC ?_)
 unfold Builtin.Frozenset.sizeOf
 refine bq (bq (e9 ho hd hf (bC ?_)))
 unfold setDrawn
 refine bq (bq (dR ho hd hf (bq (zCb (bC ?_)))))
 dsimp only
 have mk:∀(f:Value) (z:Shared),z.heap.get? a=some o→(∀(R:Value→Shared→Prop),R (.ref z.heap.objs.size) { z with heap:=z.heap.push (wI f 0 a es.size ep) }→wpAny (model prog w) A.in1 (do let e ← setEpoch a;let r ← newFields "set_iterator" [f,rawInt 0,.ref a,rawInt es.size,rawInt e];ret r) (fun fin s'=>∃ v,fin=.done (.ret v)∧R v s') E z):=fun f z hz R hR =>
  bq (wpAny_setEpoch_of hz hd hf (bq (cW (bC ⟨_,rfl,hR⟩))))
 have sx:∀ h1:Heap,h1.get? a=some o→Sx h1 a es ep t:=fun h1 e=>⟨o,e,hex,hd⟩
 have ky:es.toList.map kyI=(es.toList.map (·.2)).map numOf:=by rw[cH];rfl
 have tabs:∀(sl:Nat→Nat) (xs:List Value),sl 0=0→Tells prog w a es ep t sl xs→xs.Perm (es.toList.map (·.2))→∃ v,True∧(Q (.ref s.heap.objs.size) { s with heap:=s.heap.push (wI (rawInt 0) 0 a es.size ep) }):=fun sl xs h0 T pm=>by
  have hx:xs.length=es.size:=by rw[pm.length_eq];simp
  have hvx:∀ v∈xs,∃ k u,v=.int k u:=fun v hm=>by
   obtain⟨e,he,rfl⟩:=bQ.mp (pm.mem_iff.mp hm)
   exact hv e he
  refine⟨(),trivial,h (s.heap.push (wI (rawInt 0) 0 a es.size ep)) s.drawn s.heap.objs.size [s.heap.objs.size,a] (fun i h=>h.get? s.heap.objs.size=some (wI (rawInt (sl i)) i a es.size ep)∧Sx h a es ep t) (fun i=>numOf (xs.getD i .none)) (fun b o e=>bz _ e) (fun b hb=>?_) (bF _) (fun B hB=>by rw[hlen];exact zLg hB T hf hx (cg la) hvx) ⟨?_,sx _ (bz _ ho)⟩ ?_⟩
  ·simp only[ce,db,or_false] at hb
   rcases hb with e | e
   ·exact .inr (Nat.le_of_eq e.symm)
   ·exact .inl e
  ·rw[h0];exact bM _ rfl
  ·rw[hlen,← hx,zFm,ky]
   exact pm.map _
 have fin1:∀(sl:Nat→Nat) (xs:List Value),sl 0=0→Tells prog w a es ep t sl xs→xs.Perm (es.toList.map (·.2))→wpAny (model prog w) A.in1 (do let e ← setEpoch a;let r ← newFields "set_iterator" [rawInt 0,rawInt 0,.ref a,rawInt es.size,rawInt e];ret r) (fun fin s'=>∃ v,fin=.done (.ret v)∧∃ T' r,s'.TypeIs v T'∧typeLookup (.type T') "__next__"=pure (some r)∧Q v s') E s:=fun sl xs h0 T pm=>by
  obtain⟨u0,u0,q⟩:=tabs sl xs h0 T pm
  exact mk (rawInt 0) s ho _ ⟨"set_iterator",_,⟨_,bM _ rfl,rfl⟩,ye.lookup,q⟩
 cases bt:w.params.followText "set-order" with
 | true =>
  rw[if_neg (by simp)]
  refine fin1 (fun u0=>0) _ rfl (zCc hf bt) ?_
  exact(zCF (w.params.setOrder a ep) es).map _
 | false =>
  rw[bt] at hl
  by_cases hp:(!t.plain&&decide (es.size>1))=true
  ·refine dM (fun u0=>?_) (fun q=>absurd (show(!false&&(!t.plain&&decide (es.size>1)))=true by rw[hp];rfl) q)
   refine bq (zEh es.size (bE es.size) s _ (by simp) fun od d hod=>?_)
   refine bq (wpAny_newTuple ?_ (by rw[bx,hod.length_eq,bT,sizeLine_eq];unfold scanBound at hb;omega))
   have hT0:(s.heap.push { cls:=.type "tuple",data:=.seq (od.map fun(k:Nat)=>rawInt k).toArray }).get? a=some o:=bz _ ho
   refine mk (.ref s.heap.objs.size) { s with drawn:=d,heap:=s.heap.push { cls:=.type "tuple",data:=.seq (od.map fun(k:Nat)=>rawInt k).toArray } } hT0 _ ⟨"set_iterator",_,⟨_,bM _ rfl,rfl⟩,ye.lookup,?_⟩
   have sz:(s.heap.push { cls:=.type "tuple",data:=.seq (od.map fun(k:Nat)=>rawInt k).toArray }).objs.size=s.heap.objs.size+1:=e7 ..
   refine h ((s.heap.push { cls:=.type "tuple",data:=.seq (od.map fun(k:Nat)=>rawInt k).toArray }).push (wI (.ref s.heap.objs.size) 0 a es.size ep)) d _ [(s.heap.push { cls:=.type "tuple",data:=.seq (od.map fun(k:Nat)=>rawInt k).toArray }).objs.size,a,s.heap.objs.size] (fun i h=>h.get? (s.heap.push { cls:=.type "tuple",data:=.seq (od.map fun(k:Nat)=>rawInt k).toArray }).objs.size=some (wI (.ref s.heap.objs.size) i a es.size ep)∧Sx h a es ep t∧h.get? s.heap.objs.size=some { cls:=.type "tuple",data:=.seq (od.map fun(k:Nat)=>rawInt k).toArray }) (fun i=>numOf ((od.map fun k=>(es.getD k (0,.none)).2).getD i .none)) (fun b o e=>bz _ (bz _ e)) (fun b hb=>?_) (by rw[sz];exact dh _)
    (fun B hB=>by rw[hlen];exact zLh hB hf hod (by rw[sz];exact cg (Nat.lt_succ_of_lt la)) (by rw[sz];exact cg (Nat.lt_succ_self _)) hv) ⟨bM _ rfl,sx _ (bz _ hT0),bz _ (bM _ rfl)⟩ ?_
   ·simp only[ce,db,or_false] at hb
    rcases hb with e | e | e
    ·rw[sz] at e;exact .inr (by rw[e];exact dh _)
    ·exact .inl e
    ·exact .inr (Nat.le_of_eq e.symm)
   ·have l2:(od.map fun k=>(es.getD k (0,.none)).2).length=es.size:=by rw[bx,hod.length_eq];simp
    rw[hlen,← l2,zFm,ky]
    refine dg.map _ ?_
    refine(hod.map _).trans (.of_eq ?_)
    refine List.ext_getElem (by simp) fun i h1 h2=>?_
    have:i<es.size:=by simpa using h1
    simp[eF,this]
  ·refine dM (fun q=>absurd (show(!false&&(!t.plain&&decide (es.size>1)))=true from q) (by intro z;exact hp (by simpa using z))) (fun u0=>?_)
   refine fin1 (fun i=>if i=0 then 0 else t.place.getD (i-1) 0+1) _ rfl (zBt hf hr bt (by simpa using hl) (by simpa using hp)) (.refl _)
theorem zBu{a:Addr}{o:Obj}{Q:Bool→Shared→Prop}(ho:s.heap.get? a=some o)(hc:o.cls=.type "set")(h:Q false s):wpAny (model prog w) A (Builtin.List.listLengthHint (.ref a)) Q E s:=by
 unfold Builtin.List.listLengthHint
 refine bq (wpAny_specialOf ⟨o,ho,hc⟩ F.slot_set_len.lookup ?_)
 generalize hid:("set.__len__":String)=id0
 wp_delta
 rw[show splitId id0=some ("set","__len__") from by subst hid;decide +kernel]
 subst hid
 refine bq (wpAny_isInstance (T:="set") (b:=true) ⟨o,ho,hc⟩ (by rw[isSubtype_type];kernel_rfl) ?_)
 refine dM (fun hab=>absurd hab (by decide)) (fun u0=>?_)
 refine dM (fun u0=>?_) (fun hab=>absurd (by decide +kernel) hab)
 exact bq (eG (T:="set") ⟨o,ho,hc⟩ (bC h))
theorem zIT{R:Result→Shared→Prop}{a:Addr}{ks:List Int}(hh:A.handled=none)(hS:SI prog w s.heap a ks)(hlen:ks.length≤1000)(L:Addr)(res:Value)(c0:Nat)(hL:s.heap.get? L=some { cls:=.type "list",data:=.seq #[] c0 })
  (hR:∀ h' d tk acc c (val:Nat→Int),(∀ b o,b≠L→s.heap.get? b=some o→h'.get? b=some o)→h'.get? L=some { cls:=.type "list",dict:=none,data:=.seq acc c,slots:=#[] }→ItemsOf (PvI val) acc ks.length→((bE ks.length).map val).Perm ks→R (.ok (.ret res)) { s with heap:=h',drawn:=d,toks:=tk }) :
  wpAny (model prog w) A.in1 (Builtin.List.listExtendWith (.ref L) (.ref a) res)
   (fun fin s'=>match fin with | .done f=>R (.ok f) s' | .again c'=>c'.quiet=true∧codeAny (model prog w) A c' R s') (fun e s'=>R (.error e) s') s:=by
 obtain⟨o,es,ep,t,ho,hex,hrest⟩:=id hS
 have La:L≠a:=fun e=>by rw[e,ho] at hL;cases hL;have:=hex.1;simp at this
 have lL:L<s.heap.objs.size:=bP hL
 unfold Builtin.List.listExtendWith
 refine bq (eG (T:="set") ⟨o,ho,hex.1⟩ ?_)
 have h1:Builtin.List.listSameRef (.ref L) (.ref a)=false:=by simp[Builtin.List.listSameRef,La]
 have h2:(Value.type "set"==Value.type "list")=false:=by decide
 have h3:(Value.type "set"==Value.type "tuple")=false:=by decide
 simp only[h1,h2,h3,Bool.or_false,bp,if_false]
 refine bq (zLi hS fun g d it fp St val kp hfp hit W st pm=>?_)
 have hSf:L∉fp:=fun q=>by
  rcases hfp L q with e | e
  ·exact La e
  ·exact absurd lL (Nat.not_lt.mpr e)
 have W1:=(W A.in1 (by simpa using hh)).toS
 refine bq (cP (zBu (s:={ s with heap:=g,drawn:=d }) (kp a o ho) hex.1 ?_))
 have hL1:=kp L _ hL
 refine dM (fun u0=>?_) (fun q=>absurd (by decide +kernel) q)
 refine bq (dz (bq ?_))
 show wpAny _ _ (updateSeq L (·.push .none)>>=fun u0=>updateSeq L (·.pop)) _ _ _
 refine bq (wpAny_updateSeq hL1 rfl ?_)
 have hL2:=dC (Obj.mapSeq (·.push Value.none)) hL1 rfl
 refine wpAny_updateSeq (hz:=by seq_fits) hL2 rfl ?_
 have hL3:=dC (Obj.mapSeq (·.pop)) hL2 rfl
 refine bC ⟨plainId_quiet F.plain_extend_loop _,?_⟩
 have old:∀ b ob,b≠L→g.get? b=some ob→((g.update L (Obj.mapSeq (·.push Value.none))).update L (Obj.mapSeq (·.pop))).get? b=some ob:=fun b ob hb e=>by
  rw[dG _ _ _ _ hb,dG _ _ _ _ hb];exact e
 refine codeAny_extend_loopS W1 (by rw[sizeLine_eq];omega) L hSf res ks.length 0 _ #[] _ rfl (dO _) ?_ hL3 (ItemsOf.nil _) fun s' acc c hm hL' hacc=>?_
 ·exact(W A.in1 (by simpa using hh)).frame 0 _ _ st fun b hb ob e=>old b ob (fun z=>hSf (by rw[← z];exact hb)) e
 ·rw[Moved.eq_with hm]
  refine hR s'.heap d s'.toks acc c val (fun b ob hb e=>hm.heap b ob (fun hmem=>?_) (old b ob hb (kp b ob e))) hL' hacc pm
  rcases ce.mp hmem with e' | hmem
  ·exact hb e'
  ·exact absurd (bP e) (by rw[bH.mp hmem];exact Nat.not_lt.mpr hit)
theorem zNL{acc:Array Value}{n:Nat}{val:Nat→Int}(h:ItemsOf (PvI val) acc n):IntsAre acc.toList ((bE n).map val):=by
 have e:acc.toList.map numOf=(bE n).map val:=by
  refine List.ext_getElem (by simp[h.1]) fun i h1 h2=>?_
  have hi:i<acc.size:=by simpa using h1
  obtain⟨u,hu⟩:=h.2 i acc[i] (getElem?_pos acc i hi)
  simp only[List.getElem_map,Array.getElem_toList,List.getElem_range]
  rw[hu];rfl
 rw[← e]
 refine intsAre_map _ fun v hv=>?_
 obtain⟨i,hi,rfl⟩:=d9.mp hv
 have hi':i<acc.size:=by simpa using hi
 obtain⟨u,hu⟩:=h.2 i acc[i] (getElem?_pos acc i hi')
 exact⟨_,u,by simpa using hu⟩
theorem zHM{a:Addr}{ks:List Int}{Q:List Value→Shared→Prop}(hh:A.handled=none)(hS:SI prog w s.heap a ks)(hlen:ks.length≤1000)
  (hQ:∀ h' d tk vs ns,(∀ b o,s.heap.get? b=some o→h'.get? b=some o)→s.heap.objs.size≤h'.objs.size→IntsAre vs ns→ns.Perm ks→Q vs { s with heap:=h',drawn:=d,toks:=tk }):wpAny (model prog w) A (collect (.ref a)) Q E s:=by
 unfold collect
 refine bq (wpAny_runValue (cY PySem.F.entry_proto_collect ?_))
 rw[Around.under_plainId PySem.F.plain_proto_collect _]
 show wpAny _ A.in1 (newList []>>=fun l=>again (.builtin "list.__iadd__" ⟨[l,.ref a],[]⟩)) _ _ s
 refine bq (cW (bC ⟨plainId_quiet PySem.F.plain_list_iadd _,cY PySem.F.entry_list_iadd ?_⟩))
 rw[Around.under_plainId PySem.F.plain_list_iadd _]
 show wpAny _ A.in1 (Builtin.List.listExtendWith (.ref s.heap.objs.size) (.ref a) (.ref s.heap.objs.size)) _ _ _
 have hL:(s.heap.push { cls:=.type "list",data:=.seq ([]:List Value).toArray }).get? s.heap.objs.size=some { cls:=.type "list",data:=.seq #[] 0 }:=bM _ rfl
 let Pst:Result→Shared→Prop:=fun res s'=>∃(h':Heap) (d:Drawn) (tk:Nat) (acc:Array Value) (c:Nat) (val:Nat→Int),res=.ok (.ret (.ref s.heap.objs.size))∧s'={ s with heap:=h',drawn:=d,toks:=tk }∧(∀ b o,s.heap.get? b=some o→h'.get? b=some o)∧h'.get? s.heap.objs.size=some { cls:=.type "list",dict:=none,data:=.seq acc c,slots:=#[] }∧ItemsOf (PvI val) acc ks.length∧((bE ks.length).map val).Perm ks
 refine wpAny_mono (zIT (A:=A) (R:=Pst) (s:={ s with heap:=s.heap.push { cls:=.type "list",data:=.seq ([]:List Value).toArray } }) hh (hS.keep fun o e=>bz _ e) hlen s.heap.objs.size (.ref s.heap.objs.size) 0 hL fun h' d tk acc c val kp q1 q2 q3=>?_) (fun fin s' h=>?_) (fun e s' h=>?_)
 ·exact⟨h',d,tk,acc,c,val,rfl,rfl,fun b o e=>kp b o (cg (bP e)) (bz _ e),q1,q2,q3⟩
 ·have fin':∀ {r' s''},Pst r' s''→wpAny (model prog w) A (match Value.ref s.heap.objs.size with
     | Value.ref a=>do
      match (← load a).data with
       | Data.seq xs _=>pure xs.toList
       | _=>unsupported "internal:collect"
     | _=>unsupported "internal:collect") Q E s'':=by
   rintro r' s'' ⟨h',d,tk,acc,c,val,rfl,rfl,kp,q1,q2,q3⟩
   show wpAny _ A (load s.heap.objs.size>>=_) _ _ _
   exact bq (wpAny_load q1 (bC (hQ h' d tk _ _ kp (el (bP q1)) (zNL q2) q3)))
  cases fin with
  | done f =>
   have hf:=h
   obtain⟨h',d,tk,acc,c,val,e,u0⟩:=h
   cases e
   exact fin' hf
  | again c'=>exact⟨h.1,dN h.2 fun r s'' hr=>by
    have hf:=hr
    obtain⟨h',d,tk,acc,c,val,e,u0⟩:=hr
    subst e
    exact fin' hf⟩
 ·obtain⟨u0,u0,u0,u0,u0,u0,e,u0⟩:=h
  cases e
theorem zIU{a:Addr}{ks:List Int}{Q:Value→Shared→Prop}(hh:A.handled=none)(hS:SI prog w s.heap a ks)(h64:ks.length<64)
  (h:∀ h' d tk l (out:Array Value) (ns':List Int) e,(∀ b o,s.heap.get? b=some o→h'.get? b=some o)→s.heap.objs.size≤l→h'.get? l=some (seqObj "list" out e)→IntsAre out.toList ns'→ns'.Perm ks→ns'.Pairwise (·≤·)→Q (.ref l) { s with heap:=h',drawn:=d,toks:=tk }) :
  wpAny (model prog w) A (call (.builtin "sorted") [.ref a]) Q E s:=by
 refine Calls.call_function_entry kind_sorted plain_sorted entry_sorted (args_sorted1 _) ?_
 unfold Builtin.«sorted»
 refine bq (m:=checkCount "sorted" 1 1 _) (bC (bq (zHM (by simpa using hh) hS (by omega) fun g d tk vs ns kp lg hI pm=>bq (wpAny_newList ?_ (by have:=hI.length;have:=pm.length_eq;rw[sizeLine_eq];omega)))))
 have lv:vs.length<64:=by have:=hI.length;have:=pm.length_eq;omega
 have hoL:(g.push (seqObj "list" vs.toArray 0)).get? g.objs.size=some (seqObj "list" vs.toArray 0):=bM _ rfl
 show wpAny _ _ _ _ _ { s with heap:=g.push (seqObj "list" vs.toArray 0),drawn:=d,toks:=tk }
 refine bq (cP (cT slot_list_sort ⟨_,hoL,rfl⟩ entry_list_sort (list_sort_tree (s:={ s with heap:=g.push (seqObj "list" vs.toArray 0),drawn:=d,toks:=tk }) hoL hI lv fun out ns' a1 a2 a3=>⟨_,rfl,bC ⟨_,rfl,?_⟩⟩) (args_list_sort _)))
 have at1:((g.push (seqObj "list" vs.toArray 0)).update g.objs.size (Obj.mapSeq fun u0=>#[])).get? g.objs.size=some (seqObj "list" #[] _):=get?_update_seq hoL (fun u0=>#[])
 have at2:((((g.push (seqObj "list" vs.toArray 0)).update g.objs.size (Obj.mapSeq fun u0=>#[])).push (seqObj "tuple" vs.toArray 0)).push (seqObj "list" #[] 0)).get? g.objs.size=some (seqObj "list" #[] _):=bz _ (bz _ at1)
 refine h _ d tk g.objs.size out ns' _ (fun b o e=>?_) lg (get?_update_seq at2 (fun u0=>out)) a1 (a2.trans pm) a3
 have hb:b≠g.objs.size:=cg (bP (kp b o e))
 unfold sortedHeap
 rw[dG _ _ _ _ hb]
 exact bz _ (bz _ (by rw[dG _ _ _ _ hb];exact bz _ (kp b o e)))
end
end HI
namespace L2
open HI
variable {X:Cx} {e:Expr} {t:TA} {p p2 pos pos2:Pos}
theorem zW.drw{pins:List (Addr×Obj)}{σ:List (Option V)}{H:Hp}{s:Shared}(I:zW X pins σ H s)(d:Drawn):zW X pins σ H { s with drawn:=d }:=⟨I.ok,I.os,I.bare,I.base,I.loc,I.cell,I.free,I.freeC,I.pin,I.hok,I.len⟩
noncomputable def tSS(K:PySem.W.Frag)(t:TA):TE:=fun σ H Q=>t σ H fun vs H1=>∃(q:Addr) (ns:List Int),vs=[.ref q]∧SqL K H1 q (ns.map V.int)∧ns.length<64∧∀(l:Addr) (ns':List Int),H1 l=none→ns'.Nodup→(∀ x,x∈ns'↔x∈ns)→ns'.Pairwise (·≤·)→Q (.ref l) (wd H1 l (.lst (ns'.map V.int)))
theorem zIV(hc:X.calm=true)(hg:Gl X "sorted")(hm:X.mg "sorted"=none)(hg2:Gl X "set")(hm2:X.mg "set"=none)(ha:PA X [e] t)
  (he:starEach [.Call (.Name "set" p2) [e] [] pos2] X.env=(false,eval (.Call (.Name "set" p2) [e] [] pos2) X.env)::starEach [] X.env:=by rfl) (hpl:(backTo pos (starEach [] X.env)).any (·.1)=false:=by rfl)
  (he2:starEach [e] X.env=(false,eval e X.env)::starEach [] X.env:=by rfl) (hpl2:(backTo pos2 (starEach [] X.env)).any (·.1)=false:=by rfl) :
  PE X (.Call (.Name "sorted" p) [.Call (.Name "set" p2) [e] [] pos2] [] pos) (tSS X.K t):=by
 intro pins s σ H Q I h
 refine ev (zBc I hg hm boot_sorted (PyProof.Rows.callWith_builtin1 ?_ he hpl))
 rw[he]
 show wpAny _ _ (spliced ((false,eval (.Call (.Name "set" p2) [e] [] pos2) X.env)::backTo pos (starEach [] X.env))) _ _ s
 refine Calls.spliced_cons (ev (zBc I hg2 hm2 boot_set (PyProof.Rows.callWith_type1 (wM (ha pos2 pins s σ H _ I h) fun us s1 ⟨vs,H1,I1,r1,q1⟩=>?_) he2 hpl2)))
 obtain⟨q,ns,rfl,hq,hz,qq⟩:=q1
 obtain⟨u,rfl,rx⟩:=vals1 r1
 cases rx
 obtain⟨its,rv,pl,u0⟩:=I1.list hq
 have hl:=rv.length
 rw[bx] at hl
 refine zKI (I1.ok.hd hc) pl.isList (ns:=ns) (by simpa using intsAre_of rv) (by simp[scanBound];omega) fun h' tk ks si nd len mem kp=>?_
 refine Calls.spliced_nil ?_
 have kp1:∀ b o,s1.heap.get? b=some o→h'.get? b=some o:=fun b o e=>kp b o (bP e) e
 have sz1:s1.heap.objs.size<h'.objs.size:=by obtain⟨o,u0,u0,u0,ho,u0⟩:=si;exact bP ho
 refine zIU (s:={ s1 with heap:=h',toks:=tk }) (I1.ok.hd hc) si (by omega) fun h2 d tk2 l out ns' c kp2 hl2 hget hI pm so=>?_
 have sl:s1.heap.objs.size≤l:=cC (el sz1) hl2
 have hn:H1 l=none:=I1.hok.fresh sl
 have J:zW X pins σ (wd H1 l (.lst (ns'.map V.int))) { s1 with heap:=h2,toks:=tk2 }:=I1.laid (t':=tk2) (o:=.lst (ns'.map V.int)) (fun b o e=>kp2 b o (kp1 b o e)) sl ⟨by rw[bx,pm.length_eq,sizeLine_eq];omega,out.toList,c,zA8 hI,by rw[hget]⟩
 exact⟨.ref l,_,J.drw d,rfl,qq l ns' hn (pm.nodup_iff.mpr nd) (fun x=>(pm.mem_iff).trans (mem x)) so⟩
end L2
namespace L3
open L2
section
variable {X:Cx} {e:Expr} {p p2 pos pos2:Pos}
noncomputable def xSS(t:wW):TL2:=fun σ G R=>t σ G fun ds G1=>match ds with
 | [.adr l]=>∃ ns:List Int,Ls G1 l (ns.map D.int)∧ns.length<64∧∀ ns':List Int,ns'.Nodup→(∀ x,x∈ns'↔x∈ns)→ns'.Pairwise (·≤·)→R (ns'.map D.int) G1
 | _=>False
theorem zKK{t:wW}(hc:X.calm=true)(hg:Gl X "sorted")(hm:X.mg "sorted"=none)(hg2:Gl X "set")(hm2:X.mg "set"=none)(ha:A2 X [e] t)
  (he:starEach [.Call (.Name "set" p2) [e] [] pos2] X.env=(false,eval (.Call (.Name "set" p2) [e] [] pos2) X.env)::starEach [] X.env:=by rfl) (hpl:(backTo pos (starEach [] X.env)).any (·.1)=false:=by rfl)
  (he2:starEach [e] X.env=(false,eval e X.env)::starEach [] X.env:=by rfl) (hpl2:(backTo pos2 (starEach [] X.env)).any (·.1)=false:=by rfl) :
  F2 X (.Call (.Name "sorted" p) [.Call (.Name "set" p2) [e] [] pos2] [] pos) (xSS t):=by
 refine PE.mono (zIV hc hg hm hg2 hm2 ha he hpl he2 hpl2) ?_
 rintro σ1 H Q ⟨σ,G,R,rl,q,k⟩
 refine⟨σ,G,_,rl,q,fun ds G1 q1 vs H1 g1 r1 d1=>?_⟩
 split at q1
 ·rename_i l
  obtain⟨ns,e1,hl,q1⟩:=q1
  obtain⟨v,rfl,d2⟩:=zBY d1
  unfold zQ at d2
  subst d2
  obtain⟨xs,s1,t1⟩:=r1.sq e1
  have hxs:=t1.ints_inv
  subst hxs
  refine⟨l,ns,rfl,s1,hl,fun l' ns' n' h1 h2 h3=>?_⟩
  exact k _ G1 (q1 ns' h1 h2 h3) l' _ _ (g1.trans (.fresh n')) (r1.fresh n') (r1.free n') zo (Dens.ints ns')
 ·exact q1.elim
end
end L3
namespace HT2
open PySem
noncomputable abbrev Probe:=SetTable.Probe
noncomputable def lp(mask:Nat)(h:Int):Nat→Nat×Nat
 | 0=>(SetTable.bits h%(mask+1),SetTable.bits h)
 | n+1=>SetTable.leap mask (lp mask h n).1 (lp mask h n).2
section
variable {mask:Nat} {h:Int}
end
open HI (wS)
theorem zAL{P:Nat→Prop}[DecidablePred P]{M:Nat}{l:List Nat}(h:∀ j,j<M→P j→j∈l)(hl:l.length<M):∃ j,j<M∧¬ P j:=by
 by_cases q:∃ j,j<M∧¬ P j
 ·exact q
 ·have hs:bE M ⊆ l:=fun j hj=>by
   have hj:=cb.mp hj
   by_cases z:P j
   ·exact h j hj z
   ·exact(q ⟨j,hj,z⟩).elim
  have:=List.Nodup.length_le_of_subset eI hs
  simp at this
  omega
open HI (wS)
end HT2
namespace HT2
open PySem PySem.Spec
open HI (wS)
section
variable {prog:Program} {w:World} {P:Addr→Prop} {A:Around} {E:Value→Shared→Prop} {s:Shared}
noncomputable abbrev hT(prog:Program)(w:World)(ns:List Int):Int:=tupleKeyHash (intKind prog w) ns
noncomputable def sf(es:Array (Int×Value))(i:Nat):Int:=(es[i]?.map (·.1)).getD 0
end
open HI (wS)
section
variable {t:SetTable} {es:Array (Int×Value)} {j:Nat} {h:Int} {x:Value}
end
section
variable {t:SetTable} {es:Array (Int×Value)} {i j:Nat}
end
open HI (wS)
noncomputable def hd(mask:Nat)(h:Int):Nat→Nat
 | 0=>0
 | k+1=>hd mask h k+(SetTable.runEnd mask (lp mask h k).1-(lp mask h k).1)+1
section
variable {mask:Nat} {h:Int}
end
open HI (wS)
section
variable {prog:Program} {w:World} {P:Addr→Prop} {A:Around} {E:Value→Shared→Prop} {s:Shared}
end
open HI (wS)
section
variable {prog:Program} {w:World} {P:Addr→Prop} {A:Around} {E:Value→Shared→Prop} {s:Shared}
end
end HT2
namespace HT2
open HI (wS zCJ zBr zBs)
noncomputable def Kp(h0 h:Heap):Prop:=∀ b o,h0.get? b=some o→h.get? b=some o
section
variable {prog:Program} {w:World} {P:Addr→Prop} {A:Around} {R:Result→Shared→Prop} {h0:Heap} {S I:Addr} {fp wr:List Addr} {n:Nat} {its:Array Value} {val:Nat→List Int} {St:Nat→Heap→Prop} {g:Array GenState} {d:Drawn} {os:OsState}
end
end HT2
namespace HT2
open PySem PySem.Spec
open HI (wS)
section
variable {prog:Program} {w:World} {P:Addr→Prop} {A:Around} {E:Value→Shared→Prop} {s:Shared}
end
open HI (wS zCJ zBr)
section
variable {prog:Program} {w:World} {P:Addr→Prop} {A:Around} {E:Value→Shared→Prop} {s:Shared}
end
end HT2
namespace HT2
open HI (wS zCJ zBr zCb zCF)
section
variable {prog:Program} {w:World} {P:Addr→Prop} {A:Around} {E:Value→Shared→Prop} {s:Shared}
end
open HI (wS zCJ zBr zBs)
section
variable {prog:Program} {w:World} {P:Addr→Prop} {A:Around} {E:Value→Shared→Prop} {s:Shared}
end
open HI (wS Sx Tells wI zEi zGN zC3 zCb ye zEg zCc zBt zCF zBu)
section
variable {prog:Program} {w:World} {P:Addr→Prop} {A:Around} {E:Value→Shared→Prop} {s:Shared}
end
open HI (zBu)
open HS (TI tAt ltI zDR)
section
variable {prog:Program} {w:World} {P:Addr→Prop} {A:Around} {E:Value→Shared→Prop} {s:Shared}
end
theorem zN4:entryFor table "set.__xor__"=some Builtin.«frozenset.__xor__»:=entryFor_alias (id':="frozenset.__xor__") (by kernel_rfl) (by first | rfl | decide +kernel) (by decide +kernel) (by kernel_rfl)
section
variable {prog:Program} {w:World} {P:Addr→Prop} {A:Around} {E:Value→Shared→Prop} {s:Shared}
end
end HT2
namespace L2
end L2
namespace L3
open L2 HT2 HS
section
variable {X:Cx} {pins:List (Addr×Obj)} {σ:L2.St} {H:Hp} {s:Shared}
end
end L3
namespace L3
open L2
section
variable {X:Cx} {elt iter:Expr} {pos:Pos} {te:ze} {ifs:List Expr} {sc:Scope} {N0:List Str} {wi:TI2} {tc:TT2}
end
end L3
namespace HZ
section
variable {prog:Program} {w:World} {A:Around} {E:Value→Shared→Prop} {s:Shared} {e it l:Addr} {xs:Array Value} (Z:Zs prog w it l xs)
end
end HZ
namespace L2
open HZ
end L2
namespace L3
open L2
end L3
namespace HZ
end HZ
namespace L2
open HZ
end L2
namespace L3
open L2
end L3
namespace HI
section
variable {prog:Program} {w:World} {A:Around} {E:Value→Shared→Prop} {s:Shared}
end
end HI
namespace L2
open HI
variable {X:Cx} {e:Expr} {t:TA} {p p2 pos pos2:Pos}
end L2
namespace L3
open L2
section
variable {X:Cx} {e:Expr} {p p2 pos pos2:Pos}
end
end L3
namespace L2
section
variable {X:Cx} {pos:Pos}
theorem zKL(hc:X.calm=true):wE X (.builtin "sum") (fun xs H Q=>∃(l:Addr) (ns:List Int),xs=[.ref l]∧SqL X.K H l (ns.map V.int)∧ns.length≤100∧(∀ a∈ns,0≤a∧a≤1000000)∧Q (.int ns.sum) H):=by
 intro pins s σ H xs us Q I r h
 obtain⟨l,ns,rfl,hs,hp,hb,q⟩:=h
 obtain⟨u,rfl,ru⟩:=vals1 r
 cases (show u=Value.ref l from ru)
 obtain⟨its,rv,pl,hz⟩:=I.list hs
 have hi:IntsAre its ns:=intsAre_of rv
 have ha:AllInts its.toArray:=hi.allInts
 have hn:numsOf its.toArray.toList=ns:=by rw[show its.toArray.toList=its from rfl,hi.numsOf]
 have hl:=pl.isList
 have hl2:its.length=ns.length:=hi.length
 have hz2:its.toArray.size=ns.length:=by simp;omega
 generalize its.toArray=arr at ha hn hl hz2
 obtain⟨zs,rfl⟩:=ha.items
 rw[nums_intItems] at hn
 have hsz:zs.size=ns.length:=by simpa[intItems] using hz2
 have sm:∀(l:List Int),(∀ a∈l,0≤a∧a≤1000000)→0≤l.sum∧l.sum≤1000000*l.length:=fun l=>by
  induction l with
  | nil=>intro u0;simp
  | cons a r ih =>
   intro h
   have h1:=h a cc
   have h2:=ih fun x hx=>h x (ca _ hx)
   rw[ez,bu]
   omega
 refine sum_intList (I.ok.hd hc) hl (fun j hj=>?_) fun h' tk t' hk=>?_
 ·have hm:numAt zs j∈ns:=by rw[← hn,numAt_eq];exact getD_mem (by rw[bx,bJ];omega)
  have h1:=hb _ hm
  rw[preSum_eq]
  have h2:=sm ((zs.toList.map (·.1)).take (j+1)) fun a ha=>hb a (by rw[← hn];exact cq ha)
  have h3:((zs.toList.map (·.1)).take (j+1)).length≤100:=by
   have:(zs.toList.map (·.1)).length=zs.size:=by simp
   rw[bW,this];omega
  unfold InLong
  exact⟨by constructor<;>omega,by constructor<;>omega⟩
 ·refine⟨.int _,H,I.kept (t':=tk) hk,⟨_,rfl⟩,?_⟩
  rw[preSum_eq,du (by simp),hn]
  exact q
end
end L2
namespace L3
open L2
section
variable {X:Cx} {e o:Expr} {te to:ze} {t:wW} {tl:TL2} {pos p apos cpos:Pos}
noncomputable def zN5:Sp2:=fun ds G R=>∃ ns:List Int,ds=ns.map D.int∧ns.length≤100∧(∀ a∈ns,0≤a∧a≤1000000)∧R (.int ns.sum) G
theorem zNM(hc:X.calm=true)(hg:Gl X "sum")(hm:X.mg "sum"=none)(ha:F2 X e tl)(he:starEach [e] X.env=(false,eval e X.env)::starEach [] X.env:=by rfl)(hpl:(backTo pos (starEach [] X.env)).any (·.1)=false:=by rfl) :
  E2 X (.Call (.Name "sum" p) [e] [] pos) (yG zN5 tl):=zGw (zKL hc) (by
   rintro ds G R l xs H Q ⟨ns,rfl,hp,hb,h⟩ r e d k
   have:=d.ints_inv
   subst this
   exact⟨l,ns,rfl,.of e,hp,hb,k _ G h _ H (.refl H) r (by unfold zQ;rfl)⟩) hg hm (by decide +kernel) ha (by decide) (by decide) he hpl
theorem zLl{X:Cx}{sc:Scope}{N N0 own:List Str}(h:zLG X.env.scope sc N N0 own=true)(e2:X.N=N:=by rfl):zG0 X sc N0 own:=zz (osc:=X.env.scope) h rfl e2
theorem zQu{st:Stmt}:P2 X st (fun u0 u0 u0=>False):=by
 rintro pins s σ H E I ⟨σ',G,D2,r,q,k⟩
 exact q.elim
end
end L3
namespace K
open L2 L3
theorem zBV{σ:S2}{G:Gp}{t u:ze}{l:Addr}{ds:List D}{k:Int}{d:D}(h:zi t σ G (.adr l))(h':zi u σ G (.int k))(hl:Ls G l ds)(e:atI ds k=some d):zi (zP yh t u) σ G d:=yi h h' fun G2 e2 R q=>⟨ds,d,e2.ls hl,e,q⟩
theorem zIb{σ:S2}{G:Gp}{i:Nat}{tl:TL2}{u:wD}{E:yH}{ds:List D}(h:PuL tl σ G ds)(h':∀ l,G.m l=none→u E (σ.set i (some (.adr l))) (zN G l ds)):zX (zAm i tl) u E σ G:=h G (.refl G) _ h'
theorem zGQ{σ:S2}{G:Gp}{tc:TT2}{u:wD}{E:yH}{b:Bool}{te:ze}(h:PuT tc σ G b)(hy:b=true→zw te E σ G)(hn:b=false→u E σ G):zX (xIf tc (zw te) zr) u E σ G:=by
 cases b with
 | false=>exact zDO h (hn rfl)
 | true=>exact h G (.refl G) _ (by rw[if_pos rfl];exact hy rfl)
theorem zAV{σ:S2}{G:Gp}{tl:TL2}{R:Q2}(h:tl σ G fun ds G1=>∀ l,G1.m l=none→R (.adr l) (zN G1 l ds)):za tl σ G R:=h
theorem zHP{σ:S2}{G:Gp}{f:D→D→Gp→Q2→Prop}{ta tb:ze}{R:Q2}(h:ta σ G fun x G1=>tb σ G1 fun y G2=>f x y G2 R):zP f ta tb σ G R:=h
theorem zEp(q:Nat×Nat→Bool)(i j:Nat):wz q i j=wz q j i:=by
 unfold wz
 rw[Nat.min_comm,Nat.max_comm]
 congr 1
 rw[bS];simp;omega
section
variable {n:Nat} {q:Nat×Nat→Bool}
end
noncomputable def trn{α:Type}(l:List α)(b:Nat):List α:=l.drop b++l.take b
theorem zIc{l:List D}{k:Nat}(h:k≤l.length):L3.cutD l none (some (k:Int))=l.take k:=by
 unfold L3.cutD
 rw[HT.zGl,HT.zB4]
 simp[h]
theorem zLn{l:List D}{k:Nat}(h:k≤l.length):L3.cutD l (some (k:Int)) none=l.drop k:=by
 unfold L3.cutD
 rw[HT.zGl,HT.zB4,df h]
 rw[du (by simp)]
theorem zQI{σ:S2}{G:Gp}{t u:ze}{xs:List D}{k:Nat}(h:zi t σ G (.tup xs))(h1:zi u σ G (nD k))(hk:k≤xs.length):zi (wQ t yo (yO u)) σ G (.tup (xs.take k)):=fun G2 e R q=>h G2 e _ (h1 G2 e _ (by show R (.tup (L3.cutD xs none (some (k:Int)))) G2;rw[zIc hk];exact q))
theorem zNN{σ:S2}{G:Gp}{t u:ze}{xs:List D}{k:Nat}(h:zi t σ G (.tup xs))(h1:zi u σ G (nD k))(hk:k≤xs.length):zi (wQ t (yO u) yo) σ G (.tup (xs.drop k)):=fun G2 e R q=>h G2 e _ (h1 G2 e _ (by show R (.tup (L3.cutD xs (some (k:Int)) none)) G2;rw[zLn hk];exact q))
noncomputable abbrev uD(l:List Nat):D:=.tup (l.map nD)
theorem zQJ{σ:S2}{G:Gp}{te:ze}{g:TG2}{E:yH}{d:D}(h:zi te σ G d)(h':g d σ G fun σ' G'=>E.nx σ' G'):zn te g E σ G:=h G (.refl G) _ h'
theorem zPP{σ:S2}{G:Gp}{te:ze}{g:TG2}{E:yH}(h:te σ G fun d G1=>g d σ G1 fun σ' G'=>E.nx σ' G'):zn te g E σ G:=h
theorem zQK{σ:S2}{G:Gp}{ta tb:ze}{l:Addr}{R:List D→Gp→Prop}(h:zi ta σ G (.adr l))(h':tb σ G fun y G2=>match D.adr l,y with | .adr l,.adr m=>∃ xs ys,G2.m l=some xs∧G2.m m=some ys∧xs.length+ys.length≤1000000∧R (xs++ys) G2 | _,_=>False):zG1 ta tb σ G R:=h G (.refl G) _ h'
end K
namespace K
open L3
theorem zCi{σ:S2}{G:Gp}{te:ze}{E:yH}(h:te σ G fun u0 G1=>E.nx σ G1):wF te E σ G:=h
end K
namespace K
open L2 L3
end K
namespace L3
open L2
section
variable {X:Cx} {a b e:Expr} {ta tb te:ze} {t:wW} {p pos:Pos}
theorem zHQ{v:V}{u:Value}(h:RelV v u):(u==Value.none)=decide (v=V.non):=by
 cases v with
 | non=>cases h;rfl
 | bl b=>cases h;rfl
 | int i=>obtain⟨u0,rfl⟩:=h;rfl
 | str i=>obtain⟨u0,rfl⟩:=h;rfl
 | byt i=>obtain⟨u0,rfl⟩:=h;rfl
 | flt i=>obtain⟨u0,rfl⟩:=h;rfl
 | ref i=>cases h;rfl
 | ty i=>cases h;rfl
theorem zKs:OpR X (compareOp .Is) (fun x y H Q=>y=.non∧Q (.bl (decide (x=.non))) H):=by
 intro pins s σ H x y v u Q I rx ry h
 obtain⟨rfl,q⟩:=h
 cases ry
 refine is_none_gen ?_
 rw[zHQ rx]
 exact⟨.bl _,H,I,rfl,q⟩
theorem zKM:OpR X (compareOp .IsNot) (fun x y H Q=>y=.non∧Q (.bl (!decide (x=.non))) H):=by
 intro pins s σ H x y v u Q I rx ry h
 obtain⟨rfl,q⟩:=h
 cases ry
 refine isnot_none_gen ?_
 rw[zHQ rx]
 exact⟨.bl _,H,I,rfl,q⟩
noncomputable def zLo:D→Bool
 | .non=>true
 | _=>false
theorem zNO{K:PySem.W.Frag}{H:Hp}{d:D}{v:V}(h:zQ K H d v):decide (v=V.non)=zLo d:=by
 cases d with
 | non=>unfold zQ at h;subst h;rfl
 | tup xs=>unfold zQ at h;obtain⟨a,us,rfl,u0⟩:=h;rfl
 | dic a=>unfold zQ at h;obtain⟨rfl,u0⟩:=h;rfl
 | _=>unfold zQ at h;subst h;rfl
noncomputable def zHR(ng:Bool):D→D→Gp→Q2→Prop:=fun x y G R=>match y with | .non=>R (.bl (if ng then !zLo x else zLo x)) G | _=>False
theorem zJJ{K:PySem.W.Frag}{ng:Bool}:Fit K (fun x y H Q=>y=V.non∧Q (.bl (if ng then !decide (x=V.non) else decide (x=V.non))) H) (zHR ng):=by
 intro dx dy G R x y H Q h r d1 d2 k
 unfold zHR at h
 split at h
 ·unfold zQ at d2
  refine⟨d2,k _ G h _ H (.refl H) r ?_⟩
  rw[zNO d1]
  unfold zQ;rfl
 ·exact h.elim
theorem zQM(ha:E2 X a ta)(hb:E2 X b tb):T2 X (.Compare a [.Is] [b] pos) (xB (zP (zHR false) ta tb)):=zCo zKs (zJJ (ng:=false)) ha hb (zBd _)
theorem zLp(ha:E2 X a ta)(hb:E2 X b tb):T2 X (.Compare a [.IsNot] [b] pos) (xB (zP (zHR true) ta tb)):=zCo zKM (zJJ (ng:=true)) ha hb (zBd _)
end
end L3
namespace L3
open L2 HT2 HS
end L3
namespace L3
open L2
section
variable {X:Cx} {e:Expr} {p pos:Pos}
end
section
variable {X:Cx} {a b:Expr} {ta tb:ze} {pos:Pos}
theorem zN6(ha:E2 X a ta)(hb:E2 X b tb):E2 X (.BinOp a .LShift b pos) (zP (yd zDq fun i j=>.int (i*2 ^ j.toNat)) ta tb):=zGs zOf (zCp fun u0 u0=>⟨rfl,rfl⟩) ha hb
theorem zN4(ha:E2 X a ta)(hb:E2 X b tb):E2 X (.BinOp a .BitXor b pos) (zP (fII fun i j=>.int (Builtin.bitXor i j)) ta tb):=zGs zOg (zEI fun u0 u0=>⟨rfl,rfl⟩) ha hb
end
theorem zHS(a b:Nat):(a ^^^ b)+2*(a &&& b)=a+b:=by
 induction a using Nat.strongRecOn generalizing b with
 | _ a ih =>
  by_cases h:a=0
  ·subst h;simp
  ·have h0:=ih (a / 2) (by omega) (b / 2)
   rw[← Nat.xor_div_two,← Nat.and_div_two] at h0
   have h1:=@Nat.xor_mod_two_eq_one a b
   have h2:=@Nat.and_mod_two_eq_one a b
   have h3:(a ^^^ b)%2+2*((a &&& b)%2)=a%2+b%2:=by
    clear h0 ih h
    rcases dU a with x | x<;>rcases dU b with y | y<;>rcases dU (a &&& b) with z | z<;>rcases dU (a ^^^ b) with w | w<;>rw[x,y,z,w]<;>rw[x,y,z] at h2<;>rw[x,y,w] at h1<;>simp at h1 h2 ⊢
   generalize a ^^^ b=u at h0 h3 ⊢
   generalize a &&& b=v at h0 h3 ⊢
   omega
theorem zId(a b:Nat):Builtin.bitXor (a:Int) (b:Int)=((a ^^^ b:Nat):Int):=by
 have e:Builtin.bitAnd (a:Int) (b:Int)=((a &&& b:Nat):Int):=by
  unfold Builtin.bitAnd
  have h1:decide ((0:Int)≤(a:Int))=true:=decide_eq_true (by omega)
  have h2:decide ((0:Int)≤(b:Int))=true:=decide_eq_true (by omega)
  rw[h1,h2]
  rfl
 have h:=zHS a b
 rw[PyProof.Rows.bitXor_and,e]
 omega
end L3
namespace K
noncomputable def red(free:List Nat)(x:Nat):Nat:=free.foldl (fun x b=>min x (x ^^^ b)) x
noncomputable def zQN(free:List Nat)(row:Nat):List Nat:=if red free row≠0 then free++[red free row] else free
end K
namespace K
open L2 L3
theorem snoc_ind{P:List Nat→Prop}(nil:P [])(append_singleton:∀ l o,P l→P (l++[o]))(l:List Nat):P l:=by
 rw[← List.reverse_reverse l]
 induction l.reverse with
 | nil=>exact nil
 | cons a r ih=>rw[dE];exact append_singleton _ _ ih
noncomputable def wR(l:List Nat):Nat:=(l.map fun o=>2 ^ o).sum
theorem zNP:∀(l:List Nat) (m:Nat),l.Pairwise (·<·)→(∀ x∈l,x<m)→wR l<2 ^ m:=by
 intro l
 induction l using snoc_ind with
 | nil=>intro m u0 u0;exact Nat.two_pow_pos m
 | append_singleton l o ih =>
  intro m hp hm
  have hp':=List.pairwise_append.mp hp
  have h1:=ih o hp'.1 fun x hx=>hp'.2.2 x hx o (by simp)
  have ho:=hm o (by simp)
  have h2:2 ^ (o+1)≤2 ^ m:=Nat.pow_le_pow_right (by omega) ho
  unfold wR at *
  rw[cr,List.sum_append]
  simp only[cD,et,ez,List.sum_nil]
  rw[Nat.pow_succ] at h2
  omega
theorem zEq:∀(l:List Nat),l.Pairwise (·<·)→∀ i,(wR l).testBit i=decide (i∈l):=by
 intro l
 induction l using snoc_ind with
 | nil=>intro u0 i;simp[wR]
 | append_singleton l o ih =>
  intro hp i
  have hp':=List.pairwise_append.mp hp
  have hl:=zNP l o hp'.1 fun x hx=>hp'.2.2 x hx o (by simp)
  have h1:=ih hp'.1 i
  have e:wR (l++[o])=2 ^ o*1+wR l:=by
   unfold wR
   rw[cr,List.sum_append]
   simp;omega
  rw[e,Nat.testBit_two_pow_mul_add _ hl]
  by_cases hi:i<o
  ·rw[if_pos hi,h1]
   have:i≠o:=by omega
   simp[this]
  ·rw[if_neg hi]
   have hni:i∉l:=fun z=>by have:=hp'.2.2 i z o (by simp);omega
   by_cases hio:i=o
   ·subst hio;simp
   ·obtain⟨j,hj⟩:∃ j,i-o=j+1:=⟨i-o-1,by omega⟩
    rw[hj,Nat.testBit_succ]
    simp[hni,hio]
noncomputable def oth(n:Nat)(ps:List Nat):List Nat:=(bE n).filter fun x=>!decide (x∈ps)
theorem zEr{n:Nat}{ps:List Nat}{x:Nat}(h:x∈oth n ps):x<n:=cb.mp (bV.mp h).1
noncomputable def mask(q:Nat×Nat→Bool)(i:Nat)(os:List Nat):Nat:=wR (os.filter (wz q i))
theorem zLr(l:List Nat):(l.map fun(x:Nat)=>(x:Int)).sum=((l.sum:Nat):Int):=by
 induction l with
 | nil=>rfl
 | cons a r ih=>rw[cD,ez,ih,ez];omega
noncomputable def rk(n:Nat)(q:Nat×Nat→Bool)(ps:List Nat):List Nat:=(ps.map fun i=>mask q i (oth n ps)).foldl zQN []
theorem zNQ{σ:S2}{G:Gp}{t u:ze}{a b:Nat}(h:zi t σ G (nD a))(h':zi u σ G (nD b)):zi (zP (fII fun i j=>.int (Builtin.bitXor i j)) t u) σ G (nD (a ^^^ b)):=by
 have:=zDd (g:=fun i j=>.int (Builtin.bitXor i j)) h h'
 rw[zId] at this
 exact this
theorem zHT:∀ l l':List Nat,eqDs (l.map nD) (l'.map nD)=decide (l=l')
 | [],[]=>by simp[eqDs]
 | [],_::_=>by simp[eqDs]
 | _::_,[]=>by simp[eqDs]
 | a::r,b::t=>by
  simp only[cD,eqDs]
  rw[zDP,zHT r t,bS]
  simp
end K
namespace K
open L2 L3 HS
noncomputable def pI(p:Nat×Nat):List Int:=[(p.1:Int),(p.2:Int)]
theorem zLs(l:List (Nat×Nat)):l.map prD=(l.map pI).map tI:=by rw[cH];rfl
theorem zPQ{a b:Nat×Nat}(h:ltP a b):ltI (pI b) (pI a)=false:=by
 unfold ltP at h
 unfold pI
 simp only[ltI]
 split
 ·split
  ·rfl
  ·simp only[decide_eq_false_iff_not];omega
 ·simp only[decide_eq_false_iff_not];omega
theorem zQO{l:List (Nat×Nat)}:∀ ns∈l.map pI,ns≠[]:=fun ns h=>by
 obtain⟨p,u0,rfl⟩:=bQ.mp h
 simp[pI]
theorem zLt:∀ n,n<10→(prs n).length≤36:=by decide +kernel
theorem zLu{n:Nat}{l:List (Nat×Nat)}(nd:l.Nodup)(hp:∀ p∈l,p.1<p.2∧p.2<n)(hn:n≤9):l.length≤36 :=
 cC (nd.length_le_of_subset fun p h=>zB7.mpr (hp p h)) (zLt n (by omega))
theorem zIe{n:Nat}{l:List (Nat×Nat)}{m:List (List Int)}(nd:l.Nodup)(hp:∀ p∈l,p.1<p.2∧p.2<n)(pm:m.Perm (l.map pI))(hm:m.Pairwise (fun a b=>ltI b a=false)):m=((prs n).filter fun p=>decide (p∈l)).map pI:=by
 have rs:((prs n).filter fun p=>decide (p∈l)).Pairwise ltP:=(zLX n).filter _
 refine dg.eq_of_pairwise (fun a b u0 u0 h1 h2=>zGI a b h2 h1) hm ?_ (pm.trans (dg.map _ ?_))
 ·rw[List.pairwise_map]
  exact rs.imp zPQ
 ·refine(List.perm_ext_iff_of_nodup nd ((zFe n).filter _)).mpr fun p=>?_
  rw[bV,zB7]
  constructor
  ·intro h;exact⟨hp p h,decide_eq_true h⟩
  ·rintro⟨u0,h⟩;exact of_decide_eq_true h
theorem zKN{σ:S2}{G:Gp}{t:ze}{a:Addr}{n:Nat}{l:List (Nat×Nat)}(h:zi t σ G (.adr a))(hl:Ls G a (l.map prD))(nd:l.Nodup)(hp:∀ p∈l,p.1<p.2∧p.2<n)(hn:n≤9):zi (yG wG (zBq (zA t zG))) σ G (.tup (((prs n).filter fun p=>decide (p∈l)).map prD)):=fun G2 e R q=>h G2 e _ (by
 refine⟨l.map pI,?_,by have:=zLu nd hp hn;rw[bx];omega,zQO,fun m pm hm=>?_⟩
 ·rw[← zLs];exact e.ls hl
 ·rw[zIe nd hp pm hm,← zLs]
  exact q)
end K
namespace L2
section
variable {X:Cx} {z:Str} {tg elt iter:Expr} {ifs:List Expr} {sc:Scope} {pos:Pos} {N0 own:List Str} {wi:TI} {g:TG} {tc:TT} {te:TE}
end
end L2
namespace L3
open L2
section
variable {X:Cx} {elt iter:Expr} {pos:Pos} {te:ze} {ifs:List Expr} {sc:Scope} {N0:List Str} {wi:TI2} {tc:TT2}
end
end L3
namespace K
open L2 L3
theorem zQP{G0:Gp}{A l:Addr}{x y:List D}(h:A≠l):zN (zN G0 A x) l y=zN (zN G0 l y) A x:=by
 unfold zN
 dsimp only
 congr 1
 funext z
 by_cases hz:z=l
 ·subst hz
  simp only[if_true,if_neg (Ne.symm h)]
 ·by_cases hzA:z=A
  ·subst hzA
   simp only[if_true,if_neg h]
  ·simp only[if_neg hz,if_neg hzA]
theorem Dr.swap{G0 G3:Gp}{A l:Addr}{x:List D}(h:A≠l)(d:Dr l (zN G0 A x) G3)(st:zAX G0 l):∃ G1,Dr l G0 G1∧G3=zN G1 A x:=by
 obtain⟨s',b',rfl,ok⟩:=d
 exact⟨zN G0 l [.int s',.bl b'],⟨s',b',rfl,ok⟩,zQP h⟩
end K
namespace HZ
end HZ
namespace L2
open HZ
end L2
namespace L3
open L2
end L3
namespace K
open L2 L3 HS
theorem zD7{σ:S2}{G:Gp}{t:ze}{a:Addr}{xs:List D}(h:zi t σ G (.adr a))(hl:Ls G a xs):zi (zL zk (zA t zG)) σ G (nD xs.length):=wN (zJ h zT) fun u0 e u0 q=>⟨xs,e.ls hl,q⟩
theorem zJK(n:Nat):zy 1 n=(bE n).map fun k=>nD (k+1):=by
 unfold zy
 refine ee fun k u0=>?_
 show D.int _=D.int _
 congr 1
 omega
theorem zJL{n i:Nat}{x:D}(h:((bE n).map fun k=>nD (k+1))[i]?=some x):x=nD (i+1)∧i<n:=by
 rw[bY] at h
 by_cases hi:i<n
 ·rw[List.getElem?_range hi] at h
  cases h
  exact⟨rfl,hi⟩
 ·rw[List.getElem?_eq_none (by rw[bT];omega)] at h
  cases h
end K
namespace K
open L3
noncomputable def mkW(r:List Nat)(a j:Nat):Nat:=((r.drop a).take j).foldl (fun m x=>m ^^^ 2 ^ x) 0
noncomputable def tog(l:List Nat)(x:Nat):List Nat:=if x∈l then l.filter (fun y=>decide (y≠x)) else l++[x]
noncomputable def odW(r:List Nat)(a j:Nat):List Nat:=((r.drop a).take j).foldl tog []
theorem zGR{l:List Nat}{x i:Nat}:i∈tog l x↔(i∈l∧i≠x)∨(i=x∧x∉l):=by
 unfold tog
 by_cases h:x∈l
 ·rw[if_pos h,bV]
  simp only[decide_eq_true_eq]
  constructor
  ·intro q;exact .inl q
  ·rintro(q | ⟨u0,q⟩)
   ·exact q
   ·exact absurd h q
 ·rw[if_neg h,bR,bH]
  constructor
  ·rintro(q | q)
   ·exact .inl ⟨q,fun z=>h (by rw[← z];exact q)⟩
   ·exact .inr ⟨q,h⟩
  ·rintro(q | q)
   ·exact .inl q.1
   ·exact .inr q.1
theorem zKO{l:List Nat}{x:Nat}(h:l.Nodup):(tog l x).Nodup:=by
 unfold tog
 by_cases hx:x∈l
 ·rw[if_pos hx];exact h.filter _
 ·rw[if_neg hx]
  exact dm.mpr ⟨h,by simp,fun a ha b hb e=>by rw[bH.mp hb] at e;exact hx (by rw[← e];exact ha)⟩
theorem zFn:∀(xs l:List Nat) (m:Nat),l.Nodup→(∀ i,m.testBit i=decide (i∈l))→(xs.foldl tog l).Nodup∧∀ i,(xs.foldl (fun m x=>m ^^^ 2 ^ x) m).testBit i=decide (i∈xs.foldl tog l)
 | [],l,m,h,e=>⟨h,e⟩
 | x::xs,l,m,h,e=>by
  refine zFn xs (tog l x) (m ^^^ 2 ^ x) (zKO h) fun i=>?_
  rw[Nat.testBit_xor,e,Nat.testBit_two_pow,bS]
  simp only[decide_eq_true_eq,bne_iff_ne,ne_eq,decide_eq_decide,zGR]
  by_cases h1:i∈l<;>by_cases h2:x=i
  ·subst h2;simp[h1]
  ·simp[h1,h2,Ne.symm h2,eq_comm]
  ·subst h2;simp[h1]
  ·simp[h1,h2,Ne.symm h2,eq_comm]
theorem zLv(r:List Nat)(a j:Nat):(odW r a j).Nodup∧∀ i,(mkW r a j).testBit i=decide (i∈odW r a j):=zFn _ [] 0 List.nodup_nil fun i=>by simp
theorem zLw{r near:List Nat}{a j:Nat}(hr:near.Pairwise (·<·)):mkW r a j=wR near↔zBo (odW r a j)=near:=by
 obtain⟨nd,hb⟩:=zLv r a j
 have ndn:near.Nodup:=hr.imp fun x=>cg x
 constructor
 ·intro e
  have mem:∀ i,i∈odW r a j↔i∈near:=fun i=>by
   have:=hb i
   rw[e,zEq near hr] at this
   have:=bS.mp this
   simp only[decide_eq_true_eq] at this
   exact this.symm
  have pm:(odW r a j).Perm near:=(List.perm_ext_iff_of_nodup nd ndn).mpr mem
  exact dg.eq_of_pairwise (le:=(·≤·)) (fun a b u0 u0 x y=>Nat.le_antisymm x y) (zCx _) (hr.imp fun x=>el x) ((wX _).trans pm)
 ·intro e
  have pm:near.Perm (odW r a j):=by rw[← e];exact wX _
  refine Nat.eq_of_testBit_eq fun i=>?_
  rw[hb,zEq near hr,bS]
  simp only[decide_eq_true_eq]
  exact pm.mem_iff.symm
theorem zHV{r:List Nat}{a j:Nat}(h:a+j<r.length):mkW r a (j+1)=mkW r a j ^^^ 2 ^ (r.getD (a+j) 0):=by
 unfold mkW
 have e:(r.drop a)[j]?=some (r.getD (a+j) 0):=by
  rw[eC]
  simp[cJ,h]
 rw[yS e,List.foldl_append];rfl
theorem zNS{r:List Nat}{a j:Nat}(h:r.length≤a+j):mkW r a (j+1)=mkW r a j:=by
 unfold mkW
 rw[du (by rw[cV];omega),du (by rw[cV];omega)]
theorem zLx{r:List Nat}{a j:Nat}(h:a+j<r.length):odW r a (j+1)=tog (odW r a j) (r.getD (a+j) 0):=by
 unfold odW
 have e:(r.drop a)[j]?=some (r.getD (a+j) 0):=by
  rw[eC]
  simp[cJ,h]
 rw[yS e,List.foldl_append];rfl
noncomputable def zC7(r:List Nat)(p a b:Nat):List Nat:=r.take a++[p]++(r.drop a).take (b-a)++[p]++r.drop b
noncomputable def zBy(r:List Nat)(p W a j:Nat):List (List Nat):=((bE j).filter fun d=>decide (mkW r a d=W)).map fun d=>zC7 r p a (a+d)
noncomputable def wP(r:List Nat)(p W:Nat):Nat→List (List Nat)
 | 0=>[]
 | i+1=>wP r p W i++zBy r p W (i+1) (r.length-i)
noncomputable def wch(r:List Nat)(p W:Nat):List (List Nat):=wP r p W r.length
theorem zAf{r:List Nat}{p W a j:Nat}:zBy r p W a (j+1)=zBy r p W a j++(if mkW r a j=W then [zC7 r p a (a+j)] else []):=by
 unfold zBy
 rw[List.range_succ,cZ,cr]
 by_cases h:mkW r a j=W<;>simp[h]
theorem zHW{f:Nat→Bool}:∀ j,(∀ d,d+1<j→¬ (f d=true∧f (d+1)=true))→((bE j).filter f).length≤(j+1) / 2
 | 0,_=>by simp
 | 1,_=>by
  have:=cN f (bE 1)
  simpa using this
 | j+2,h=>by
  have ih:=zHW j fun d hd=>h d (by omega)
  rw[List.range_succ,List.range_succ,cZ,cZ,bI,bI]
  have:=h j (by omega)
  cases h1:f j<;>cases h2:f (j+1)<;>simp_all<;>omega
theorem zC8{r:List Nat}{p W a j:Nat}(hj:a+j≤r.length+1):(zBy r p W a j).length≤(j+1) / 2:=by
 unfold zBy
 rw[bx]
 refine zHW j fun d hd=>?_
 rintro⟨h1,h2⟩
 have h1:=of_decide_eq_true h1
 have h2:=of_decide_eq_true h2
 rw[zHV (by omega),h1] at h2
 have h3:=congrArg (fun z=>z ^^^ W) h2
 simp only[Nat.xor_self] at h3
 rw[Nat.xor_comm W,Nat.xor_assoc,Nat.xor_self,Nat.xor_zero] at h3
 have:0<2 ^ (r.getD (a+d) 0):=Nat.pow_pos (by omega)
 omega
noncomputable def zPR(L:Nat):Nat→Nat
 | 0=>0
 | i+1=>zPR L i+(L-i+1) / 2
theorem zFo{r:List Nat}{p W:Nat}:∀ i,i≤r.length→(wP r p W i).length≤zPR r.length i
 | 0,_=>bF _
 | i+1,h=>by
  have:=zFo i (by omega) (r:=r) (p:=p) (W:=W)
  have h2:=zC8 (r:=r) (p:=p) (W:=W) (a:=i+1) (j:=r.length-i) (by omega)
  show(wP r p W i++zBy r p W (i+1) (r.length-i)).length≤zPR r.length i+(r.length-i+1) / 2
  rw[bI]
  omega
theorem zNT{r:List Nat}{p a b:Nat}(h:a≤b)(hb:b≤r.length):(zC7 r p a b).length=r.length+2∧∀ x∈zC7 r p a b,x=p∨x∈r:=by
 unfold zC7
 constructor
 ·simp only[bI,bW,cV,bu,bw]
  omega
 ·intro x hx
  simp only[bR,ce,db,or_false] at hx
  rcases hx with (((hx | hx) | hx) | hx) | hx
  ·exact .inr (cq hx)
  ·exact .inl hx
  ·exact .inr (dD (cq hx))
  ·exact .inl hx
  ·exact .inr (dD hx)
theorem zFp{r:List Nat}{p W:Nat}{x:List Nat}:∀ i,i≤r.length→x∈wP r p W i→x.length=r.length+2∧∀ y∈x,y=p∨y∈r
 | 0,_,h=>by cases h
 | i+1,hi,h=>by
  rcases bR.mp (show x∈wP r p W i++zBy r p W (i+1) (r.length-i) from h) with h | h
  ·exact zFp i (by omega) h
  ·obtain⟨d,hd,rfl⟩:=bQ.mp h
   have hd:=cb.mp (bV.mp hd).1
   exact zNT (by omega) (by omega)
end K
namespace L3
open L2
section
variable {X:Cx} {pins:List (Addr×Obj)} {σ1:L2.St} {H:Hp} {s:Shared} {A:Around}
end
section
variable {X:Cx} {a b:Expr} {pos p:Pos} {ta tb te:ze}
end
end L3
namespace K
open L2 L3
noncomputable def WkT(t:TT2)(σ:S2)(G:Gp)(b:Bool):Prop:=∀ G2,Ext G G2→∀ R:Bool→Gp→Prop,(∀ G3,Ext G2 G3→R b G3)→t σ G2 R
noncomputable def WkE(t:ze)(σ:S2)(G:Gp)(d:D):Prop:=∀ G2,Ext G G2→∀ R:D→Gp→Prop,(∀ G3,Ext G2 G3→R d G3)→t σ G2 R
theorem zi.wk{t:ze}{σ:S2}{G:Gp}{d:D}(h:zi t σ G d):WkE t σ G d:=fun G2 e R q=>h G2 e R (q G2 (.refl _))
theorem zEs{σ:S2}{G:Gp}{wi:TI2}{bd:D→Option (List D)}{tc:TT2}{te:ze}{ds:List D}(p:D→Bool)(f:D→D)(us:D→List D)(hw:PuI wi σ G ds)
  (hx:∀ x∈ds,bd x=some (us x)∧WkT tc (σ++(us x).map some) G (p x)∧(p x=true→WkE te (σ++(us x).map some) G (f x))):PuL (yE wi bd tc te) σ G ((ds.filter p).map f):=by
 intro G2 e R q
 refine hw G2 e _ fun gd G3 e3 hgd A nA=>?_
 refine⟨fun i acc G'=>G'=zN G3 A acc∧acc=((ds.take i).filter p).map f,⟨rfl,by simp⟩,?_,?_,?_⟩
 ·rintro i acc G' hi ⟨rfl,rfl⟩
  refine⟨hgd _ (.new nA),zF,?_⟩
  rw[bx]
  exact cC (cN _ _) (by rw[bW];omega)
 ·rintro i x acc G' hi ⟨rfl,rfl⟩
  obtain⟨hb,ht,he⟩:=hx x (cf hi)
  rw[hb]
  dsimp only
  have ex:Ext G (zN G3 A (((ds.take i).filter p).map f)):=(e.trans e3).trans (.new nA)
  refine ht _ ex _ fun G5 e5=>?_
  cases hp:p x with
  | false =>
   rw[if_neg (by simp)]
   exact⟨_,e5.sub,rfl,by rw[yS hi];simp[hp]⟩
  | true =>
   rw[if_pos rfl]
   refine he hp _ (ex.trans e5) _ fun G6 e6=>?_
   have e56:=e5.trans e6
   refine⟨e56.sub.m _ _ zF,zN G3 A (((ds.take i).filter p).map f++[f x]),⟨fun a o ha=>?_,fun a o ha=>e56.sub.ro a o ha⟩,rfl,by rw[yS hi];simp[hp]⟩
   by_cases hz:a=A
   ·subst hz
    rw[zF] at ha ⊢
    exact ha
   ·rw[zO hz] at ha ⊢
    exact e56.sub.m a o (by rw[zO hz];exact ha)
 ·rintro acc G' ⟨rfl,rfl⟩
  exact⟨G2,e3.own nA,e3.sub.trans (.new nA),by rw[cU];exact q⟩
end K
namespace K
open L2 L3 HS
theorem wn{σ:S2}{G:Gp}{sp:List D→Gp→(List D→Gp→Prop)→Prop}{t:wW}{R:List D→Gp→Prop}(h:t σ G fun ds G1=>sp ds G1 R):zq sp t σ G R:=h
theorem wo{wi:TI2}{g:TG2}{tb u:wD}{E:yH}{σ:S2}{G:Gp}(h:wV wi g tb { E with nx:=u E } σ G):zX (wV wi g tb) u E σ G:=h
theorem zJM{σ:S2}{G:Gp}{tc:TT2}{t u:wD}{E:yH}{b:Bool}(h:WkT tc σ G b)(hy:b=true→∀ G3,Ext G G3→t E σ G3)(hn:b=false→∀ G3,Ext G G3→u E σ G3):xIf tc t u E σ G:=h G (.refl G) _ fun G3 e=>by
 cases b
 ·rw[if_neg (by simp)];exact hn rfl G3 e
 ·rw[if_pos rfl];exact hy rfl G3 e
theorem zLy{σ:S2}{G:Gp}{t:ze}{b:Bool}(h:WkE t σ G (.bl b)):WkT (xB t) σ G b:=fun G2 e R q=>h G2 e _ q
theorem zC9{σ:S2}{G:Gp}{to:ze}{t:wW}{R:Q2}{l:Addr}{xs:List D}(ho:zi to σ G (.adr l))(h:G.m l=some xs)(ht:t σ G fun ds G2=>match ds with | [d]=>∃ ys,G2.m l=some ys∧ys.length≤1000000∧R .non (zN G2 l (ys++[d])) | _=>False):zDt to t σ G R:=by
 refine ho G (.refl G) _ ?_
 show match G.m l with | some _=>_ | none=>_
 rw[h]
 have:∀(ds:List D) (G2:Gp),(match ds with | [d]=>∃ ys,G2.m l=some ys∧ys.length≤1000000∧R .non (zN G2 l (ys++[d])) | _=>False)=(match ds with | [d]=>(match G2.m l with | some xs=>xs.length≤1000000∧R .non (zN G2 l (xs++[d])) | none=>False) | _=>False):=fun ds G2=>by
  split
  ·rename_i d
   cases q:G2.m l with
   | none=>simp
   | some ys=>simp
  ·rfl
 simp only[this] at ht
 exact ht
end K
namespace HT3
open PySem
noncomputable abbrev Probe:=SetTable.Probe
noncomputable def lp(mask:Nat)(h:Int):Nat→Nat×Nat
 | 0=>(SetTable.bits h%(mask+1),SetTable.bits h)
 | n+1=>SetTable.leap mask (lp mask h n).1 (lp mask h n).2
section
variable {mask:Nat} {h:Int}
end
noncomputable def sm:Nat→Nat
 | 0=>0
 | m+1=>sm m*5+1
open HI (wS)
theorem zAL{P:Nat→Prop}[DecidablePred P]{M:Nat}{l:List Nat}(h:∀ j,j<M→P j→j∈l)(hl:l.length<M):∃ j,j<M∧¬ P j:=by
 by_cases q:∃ j,j<M∧¬ P j
 ·exact q
 ·have hs:bE M ⊆ l:=fun j hj=>by
   have hj:=cb.mp hj
   by_cases z:P j
   ·exact h j hj z
   ·exact(q ⟨j,hj,z⟩).elim
  have:=List.Nodup.length_le_of_subset eI hs
  simp at this
  omega
open HI (wS)
end HT3
namespace HT3
open PySem PySem.Spec
open HI (wS)
section
variable {prog:Program} {w:World} {P:Addr→Prop} {A:Around} {E:Value→Shared→Prop} {s:Shared}
noncomputable abbrev hT(prog:Program)(w:World)(ns:List Int):Int:=tupleKeyHash (intKind prog w) ns
noncomputable def sf(es:Array (Int×Value))(i:Nat):Int:=(es[i]?.map (·.1)).getD 0
end
open HI (wS)
section
variable {t:SetTable} {es:Array (Int×Value)} {j:Nat} {h:Int} {x:Value}
end
section
variable {t:SetTable} {es:Array (Int×Value)} {i j:Nat}
end
open HI (wS)
noncomputable def hd(mask:Nat)(h:Int):Nat→Nat
 | 0=>0
 | k+1=>hd mask h k+(SetTable.runEnd mask (lp mask h k).1-(lp mask h k).1)+1
section
variable {mask:Nat} {h:Int}
end
open HI (wS)
section
variable {prog:Program} {w:World} {P:Addr→Prop} {A:Around} {E:Value→Shared→Prop} {s:Shared}
end
open HI (wS)
section
variable {prog:Program} {w:World} {P:Addr→Prop} {A:Around} {E:Value→Shared→Prop} {s:Shared}
end
end HT3
namespace HT3
open HI (wS zCJ zBr zBs)
noncomputable def Kp(h0 h:Heap):Prop:=∀ b o,h0.get? b=some o→h.get? b=some o
section
variable {prog:Program} {w:World} {P:Addr→Prop} {A:Around} {R:Result→Shared→Prop} {h0:Heap} {S I:Addr} {fp wr:List Addr} {n:Nat} {its:Array Value} {val:Nat→List Int} {St:Nat→Heap→Prop} {g:Array GenState} {d:Drawn} {os:OsState}
end
open HI (wS zCJ zBr zBs)
section
variable {prog:Program} {w:World} {P:Addr→Prop} {A:Around} {E:Value→Shared→Prop} {s:Shared}
end
open HI (wS Sx Tells wI zEi zGN zC3 zCb ye zEg zCc zBt zCF zBu)
section
variable {prog:Program} {w:World} {P:Addr→Prop} {A:Around} {E:Value→Shared→Prop} {s:Shared}
end
open HI (zBu)
open HS (TI tAt ltI zDR)
section
variable {prog:Program} {w:World} {P:Addr→Prop} {A:Around} {E:Value→Shared→Prop} {s:Shared}
end
end HT3
namespace L3
open L2 HT3 HS
section
variable {X:Cx} {pins:List (Addr×Obj)} {σ:L2.St} {H:Hp} {s:Shared}
end
end L3
namespace K
open L2 L3 HS
noncomputable def wJ:Sp2:=fun ds G R=>∃ a b:Nat,ds=[nD a,nD b]∧a≤b∧R .non G
noncomputable def zAG:wD:=(xIf (xB (zP (fII fun i j=>.bl (decide (j<i))) (zB 0) (zB 1))) (fun u0 u0 u0=>False) zr)
theorem zFF(ds:List D)(G:Gp)(R:Q2)(h:wJ ds G R):ds.length=2∧zAG (zj R) (zV ["many","most"] ds) G:=by
 obtain⟨a,b,rfl,hab,h⟩:=h
 refine⟨rfl,?_⟩
 unfold zAG
 have:=zDd (g:=fun i j=>.bl (decide (j<i))) (zE (σ:=[some (nD a),some (nD b)]) (G:=G) (i:=0) (d:=nD a) rfl) (zE (i:=1) (d:=nD b) rfl)
 rw[decide_eq_false (show ¬ ((b:Int)<(a:Int)) by omega)] at this
 exact zI5 (σ:=[some (nD a),some (nD b)]) (zAR this) (FgR.of h)
theorem zNU{l:List D}{a b:Nat}(h:a≤b)(hb:b≤l.length):L3.cutD l (some (a:Int)) (some (b:Int))=(l.drop a).take (b-a):=by
 unfold L3.cutD
 rw[HT.zB4,HT.zB4,df hb,df (by omega)]
theorem zJP{σ:S2}{G:Gp}{u v:ze}{r:List Nat}{p a b:Nat}(h0:look σ 0=some (uD r))(h1:look σ 1=some (nD p))(hu:zi u σ G (nD a))(hv:zi v σ G (nD b))(hab:a≤b)(hb:b≤r.length)(hl:r.length≤1000) :
  zi (zP yN (zP yN (zP yN (zP yN (wQ (zB 0) yo (yO u)) (yK (zA (zB 1) zG))) (wQ (zB 0) (yO u) (yO v))) (yK (zA (zB 1) zG))) (wQ (zB 0) (yO v) yo)) σ G (uD (zC7 r p a b)):=by
 have lm:(r.map nD).length=r.length:=bx _
 have s1:=zQI (xs:=r.map nD) (zE (σ:=σ) (G:=G) h0) hu (by omega)
 have s2:=zLW (xs:=r.map nD) (zE (σ:=σ) (G:=G) h0) hu hv
 rw[zNU hab (by omega)] at s2
 have s3:=zNN (xs:=r.map nD) (zE (σ:=σ) (G:=G) h0) hv (by omega)
 have s4:zi (yK (zA (zB 1) zG)) σ G (.tup [nD p]):=zA1 (zJ (zE h1) zT) (by simp)
 have e:uD (zC7 r p a b)=.tup (((((r.map nD).take a++[nD p])++((r.map nD).drop a).take (b-a))++[nD p])++(r.map nD).drop b):=by
  show D.tup ((zC7 r p a b).map nD)=_
  unfold zC7
  simp only[cr,List.map_take,List.map_drop,cD,et]
 rw[e]
 refine zGG (zGG (zGG (zGG s1 s4 ?_) s2 ?_) s4 ?_) s3 ?_ <;>
 ·simp only[bI,bW,cV,bu,bw,bx]
  omega
theorem zJQ(a n:Nat):zy (a:Int) n=(bE n).map fun k=>nD (a+k):=by
 unfold zy
 refine ee fun k u0=>?_
 show D.int _=D.int _
 congr 1
theorem zJR{a n i:Nat}{x:D}(h:((bE n).map fun k=>nD (a+k))[i]?=some x):x=nD (a+i)∧i<n:=by
 rw[bY] at h
 by_cases hi:i<n
 ·rw[List.getElem?_range hi] at h
  cases h
  exact⟨rfl,hi⟩
 ·rw[List.getElem?_eq_none (by rw[bT];omega)] at h
  cases h
theorem zJS{σ:S2}{G:Gp}{tc:TT2}{t u v:wD}{E:yH}{b:Bool}(h:PuT tc σ G b)(hy:b=true→t { E with nx:=v E } σ G)(hn:b=false→u { E with nx:=v E } σ G):zX (xIf tc t u) v E σ G:=h G (.refl G) _ (by
 cases b
 ·rw[if_neg (by simp)];exact hn rfl
 ·rw[if_pos rfl];exact hy rfl)
theorem ifB{σ:S2}{G:Gp}{tc:TT2}{t u:wD}{E:yH}{b:Bool}(h:PuT tc σ G b)(hy:b=true→t E σ G)(hn:b=false→u E σ G):xIf tc t u E σ G:=h G (.refl G) _ (by
 cases b
 ·rw[if_neg (by simp)];exact hn rfl
 ·rw[if_pos rfl];exact hy rfl)
theorem zDA{σ:S2}{G:Gp}{r:List Nat}(h0:look σ 0=some (uD r)):zi (zP yN (zL zk (zA (zB 0) zG)) (xC (.int 1))) σ G (nD (r.length+1)):=zEW (zI4 (zE h0)) yD
noncomputable def yZ:List D→Gp→(List D→Gp→Prop)→Prop:=fun ds G R=>∃(r cs:List Nat) (p:Nat) (l:Addr),ds=[uD r,nD p,.adr l]∧Ls G l (cs.map nD)∧r.length≤20∧(∀ x∈r,x≤9)∧(∀ x∈cs,x≤9)∧cs.length≤9∧R ((wch r p (wR cs)).map uD) G
theorem zDv:∀ ds G R R',(∀ ls G',R ls G'→R' ls G')→yZ ds G R→yZ ds G R':=by
 rintro ds G R R' h ⟨r,cs,p,l,e,h1,h2,h3,h4,h5,q⟩
 exact⟨r,cs,p,l,e,h1,h2,h3,h4,h5,h _ _ q⟩
noncomputable def zAa:wD:=(zX (zn (yG zN5 (yE (iV (zB 2)) bd1 zDJ (zP (yd zDq fun i j=>.int (i*2 ^ j.toNat)) (xC (.int 1)) (zB 8)))) (gN 3)) (zX (zn (za (yw zG)) (gN 4)) (zX (wV (iR2 (zA (xC (.int 1)) (zA (zP yN (zL zk (zA (zB 0) zG)) (xC (.int 1))) zG))) (gN 5) (zX (zn (xC (.int 0)) (gN 6)) (wV (iR2 (zA (zB 5) (zA (zP yN (zL zk (zA (zB 0) zG)) (xC (.int 1))) zG))) (gN 7) (zX (xIf (xB (zP (fEq false) (zB 6) (zB 3))) (wF (zDt (zB 4) (zA (zP yN (zP yN (zP yN (zP yN (wQ (zB 0) yo (yO (zB 5))) (yK (zA (zB 1) zG))) (wQ (zB 0) (yO (zB 5)) (yO (zB 7)))) (yK (zA (zB 1) zG))) (wQ (zB 0) (yO (zB 7)) yo)) zG))) zr) (xIf (xB (zP (fII fun i j=>.bl (decide (i<j))) (zB 7) (zL zk (zA (zB 0) zG)))) (zn (zP (fII fun i j=>.int (Builtin.bitXor i j)) (zB 6) (zP (yd zDq fun i j=>.int (i*2 ^ j.toNat)) (xC (.int 1)) (zP yh (zB 0) (zB 7)))) (gN 6)) zr))))) (zw (zB 4)))))
theorem zCj{r:List Nat}{p W:Nat}(h:r.length≤20):∀ i,i≤r.length→(wP r p W i).length≤21*i
 | 0,_=>bF _
 | i+1,hi=>by
  have h1:=zCj h i (by omega) (p:=p) (W:=W)
  have h2:=zC8 (r:=r) (p:=p) (W:=W) (a:=i+1) (j:=r.length-i) (by omega)
  show(wP r p W i++zBy r p W (i+1) (r.length-i)).length≤_
  rw[bI]
  omega
theorem zGS(ds:List D)(G:Gp)(R:Q2)(h:spL yZ ds G R):ds.length=3∧zAa (zj R) (zV ["ring","place","crossed","wanted","found","first","inside","second"] ds) G:=by
 obtain⟨r,cs,p,l,rfl,hl,hr,hrx,hcx,hcl,h⟩:=h
 refine⟨rfl,?_⟩
 unfold zAa
 rw[show zV ["ring","place","crossed","wanted","found","first","inside","second"] [uD r,nD p,.adr l]=[some (uD r),some (nD p),some (.adr l),none,none,none,none,none] from rfl]
 -- wanted
 have c:=zLI (σ:=[some (uD r),some (nD p),some (.adr l),none,none,none,none,none]) (G:=G) (bd:=bd1) (te:=(zP (yd zDq fun i j=>.int (i*2 ^ j.toNat)) (xC (.int 1)) (zB 8))) (fun d=>match d with | .int v=>nD (2 ^ v.toNat) | _=>.non) (fun d=>[d]) (zBD (zE (i:=2) (d:=.adr l) rfl) hl) fun x hx=>by
  obtain⟨k,hk,rfl⟩:=bQ.mp hx
  refine⟨rfl,yi (x:=.int 1) (y:=nD k) yD (zE rfl) fun u0 u0 u0 q'=>⟨⟨by omega,by have:=hcx k hk;omega,by decide⟩,?_⟩⟩
  dsimp only
  have:(1:Int)*2 ^ ((k:Int)).toNat=((2 ^ k:Nat):Int):=by simp
  rw[this]
  exact q'
 have e:bK (fun d=>match d with | .int v=>nD (2 ^ v.toNat) | _=>.non) (cs.map nD)=((cs.map fun o=>2 ^ o).map fun(x:Nat)=>(x:Int)).map D.int:=by
  rw[cH,cH,cH];rfl
 rw[e] at c
 refine zBT (d:=nD (wR cs)) (fun G2 e2 R' q'=>c G2 e2 _ ⟨_,rfl,by simp only[bx];omega,fun a ha=>by
   obtain⟨b,hb,rfl⟩:=bQ.mp ha
   obtain⟨o,ho',rfl⟩:=bQ.mp hb
   have:=hcx o ho'
   have h2:2 ^ o≤2 ^ 9:=Nat.pow_le_pow_right (by omega) (by omega)
   generalize 2 ^ o=z at h2 ⊢
   omega,by rw[zLr];exact q'⟩) ?_
 simp only[gN,bo,bn]
 generalize wR cs=W at h
 clear c e
 refine yB (zAB (ds:=[]) (fun G2 e R q=>zAU (yI ⟨by rw[sizeLine_eq];simp,q⟩)) fun f hf=>?_)
 simp only[gN,bo,bn]
 refine wo (zEV (i:=1) (j:=((r.length+1:Nat):Int)) (zJ yD (zJ (zDA rfl) zT)) (by omega) ?_)
 rw[show(((r.length+1:Nat):Int)-1).toNat=r.length by omega,zJK]
 refine zBL (fun i G'=>G'.m f=some ((wP r p W i).map uD)∧L3.Sub G G') ⟨zF,.new hf⟩ (fun u0 u0 u0=>trivial) ?_ ?_
 ·rintro i x hx G1 ⟨gf,sb⟩
  obtain⟨rfl,hi⟩:=zJL hx
  simp only[gN,bo,bn]
  refine zBT (d:=nD 0) yD ?_
  simp only[gN,bo,bn]
  refine zEV (i:=((i+1:Nat):Int)) (j:=((r.length+1:Nat):Int)) (zJ (zE rfl) (zJ (zDA rfl) zT)) (by omega) ?_
  rw[show(((r.length+1:Nat):Int)-((i+1:Nat):Int)).toNat=r.length-i by omega,zJQ]
  have wl:=zCj (p:=p) (W:=W) hr i (by omega)
  refine⟨fun j σ' G'=>σ'=[some (uD r),some (nD p),some (.adr l),some (nD W),some (.adr f),some (nD (i+1)),some (nD (mkW r (i+1) j)),none]∧G'.m f=some ((wP r p W i++zBy r p W (i+1) j).map uD)∧L3.Sub G G',⟨rfl,?_,sb⟩,fun u0 u0 u0 u0 u0=>trivial,?_,?_⟩
  ·show G1.m f=some ((wP r p W i++[]).map uD)
   rw[cO];exact gf
  ·rintro j x σ' G2 hx ⟨rfl,gf2,sb2⟩
   obtain⟨rfl,hj⟩:=zJR hx
   simp only[gN,bo,bn]
   have wr:=zC8 (r:=r) (p:=p) (W:=W) (a:=i+1) (j:=j) (by omega)
   have t1:PuT (xB (zP (fEq false) (zB 6) (zB 3))) [some (uD r),some (nD p),some (.adr l),some (nD W),some (.adr f),some (nD (i+1)),some (nD (mkW r (i+1) j)),some (nD (i+1+j))] G2 (decide (mkW r (i+1) j=W)):=zAR (zDj (x:=nD (mkW r (i+1) j)) (y:=nD W) (zE rfl) (zE rfl) rfl rfl (by rw[if_neg (by simp),zDP]))
   have tail:∀(E:yH) (G3:Gp),G3.m f=some ((wP r p W i++zBy r p W (i+1) (j+1)).map uD)→L3.Sub G G3→(∀ o7,E.nx [some (uD r),some (nD p),some (.adr l),some (nD W),some (.adr f),some (nD (i+1)),some (nD (mkW r (i+1) (j+1))),o7] G3) →
     (xIf (xB (zP (fII fun i j=>.bl (decide (i<j))) (zB 7) (zL zk (zA (zB 0) zG)))) (zn (zP (fII fun i j=>.int (Builtin.bitXor i j)) (zB 6) (zP (yd zDq fun i j=>.int (i*2 ^ j.toNat)) (xC (.int 1)) (zP yh (zB 0) (zB 7)))) (gN 6)) zr) E [some (uD r),some (nD p),some (.adr l),some (nD W),some (.adr f),some (nD (i+1)),some (nD (mkW r (i+1) j)),some (nD (i+1+j))] G3:=fun E G3 g3 s3 fin=>by
    have t2:PuT (xB (zP (fII fun i j=>.bl (decide (i<j))) (zB 7) (zL zk (zA (zB 0) zG)))) [some (uD r),some (nD p),some (.adr l),some (nD W),some (.adr f),some (nD (i+1)),some (nD (mkW r (i+1) j)),some (nD (i+1+j))] G3 (decide (i+1+j<r.length)):=by
     have:=zDd (g:=fun i j=>.bl (decide (i<j))) (zE (σ:=[some (uD r),some (nD p),some (.adr l),some (nD W),some (.adr f),some (nD (i+1)),some (nD (mkW r (i+1) j)),some (nD (i+1+j))]) (G:=G3) (i:=7) (d:=nD (i+1+j)) rfl) (zI4 (ps:=r) (zE (i:=0) rfl))
     have e:decide ((((i+1+j:Nat)):Int)<(r.length:Int))=decide (i+1+j<r.length):=by rw[bS];simp only[decide_eq_true_eq];omega
     rw[← e];exact zAR this
    refine ifB t2 (fun hb=>?_) fun hb=>?_
    ·have hlt:=of_decide_eq_true hb
     have hx9:r.getD (i+1+j) 0≤9:=by
      have:r.getD (i+1+j) 0=r[i+1+j]:=by simp[cJ,hlt]
      rw[this]
      exact hrx _ (di _)
     refine zQJ (d:=nD (mkW r (i+1) j ^^^ 2 ^ (r.getD (i+1+j) 0))) (zNQ (zE rfl) (yi (x:=.int 1) (y:=nD (r.getD (i+1+j) 0)) yD (zLV (ps:=r) (zE rfl) (zE rfl) hlt) fun u0 u0 u0 q'=>⟨⟨by omega,by omega,by decide⟩,?_⟩)) ?_
     ·dsimp only
      have:(1:Int)*2 ^ (((r.getD (i+1+j) 0:Nat):Int)).toNat=((2 ^ (r.getD (i+1+j) 0):Nat):Int):=by simp
      rw[this]
      exact q'
     ·simp only[gN,bo,bn]
      rw[← zHV hlt]
      exact fin _
    ·have hge:=of_decide_eq_false hb
     have:=fin (some (nD (i+1+j)))
     rw[zNS (by omega)] at this
     exact this
   refine zJS t1 (fun hb=>?_) fun hb=>?_
   ·have hW:=of_decide_eq_true hb
    refine zCi (zC9 (l:=f) (zE rfl) gf2 (zu (d:=uD (zC7 r p (i+1) (i+1+j))) (zJP rfl rfl (zE rfl) (zE rfl) (by omega) (by omega) (by omega)) (yI ⟨_,gf2,by rw[bx,bI];omega,?_⟩)))
    refine tail _ _ ?_ (sb2.put hf) fun o7=>?_
    ·rw[zF,zAf,if_pos hW,← bZ]
     simp only[cr,cD,et]
    ·refine⟨_,_,.keep (.keep (.keep (.keep (.keep (.keep (.keep (.skip .nil))))))),.refl _,rfl,?_,sb2.put hf⟩
     rw[zF,zAf,if_pos hW,← bZ]
     simp only[cr,cD,et]
   ·have hW:=of_decide_eq_false hb
    refine tail _ _ ?_ sb2 fun o7=>?_
    ·rw[zAf,if_neg hW,cO];exact gf2
    ·refine⟨_,_,.keep (.keep (.keep (.keep (.keep (.keep (.keep (.skip .nil))))))),.refl _,rfl,?_,sb2⟩
     rw[zAf,if_neg hW,cO];exact gf2
  ·rintro σ' G2 ⟨rfl,gf2,sb2⟩
   rw[bx,bT] at gf2
   exact⟨.keep (.keep (.keep (.keep (.keep (.skip (.skip (.skip .nil))))))),G2,.refl _,gf2,sb2⟩
 ·rintro G1 ⟨gf,sb⟩
  rw[bx,bT] at gf
  show FgR R (.adr f) G1
  refine⟨zN G f ((wch r p W).map uD),⟨fun a o e=>?_,fun a o e=>sb.ro a o e⟩,h f hf⟩
  by_cases ha:a=f
  ·subst ha;rw[zF] at e;cases e;exact gf
  ·rw[zO ha] at e;exact sb.m a o e
theorem zNV{σ:S2}{G:Gp}{tc:TT2}{ta tb:ze}{b:Bool}{R:Q2}(h:PuT tc σ G b)(h1:b=true→ta σ G R)(h2:b=false→tb σ G R):zPI tc ta tb σ G R:=h G (.refl G) _ (by
 cases b
 ·rw[if_neg (by simp)];exact h2 rfl
 ·rw[if_pos rfl];exact h1 rfl)
theorem zJT(r:List Nat)(a:Nat):∀ j,(odW r a j).length≤j:=fun j=>by
 have:∀(xs l:List Nat),(xs.foldl tog l).length≤l.length+xs.length:=by
  intro xs
  induction xs with
  | nil=>intro l;simp
  | cons x xs ih =>
   intro l
   rw[List.foldl_cons]
   have h1:=ih (tog l x)
   have h2:(tog l x).length≤l.length+1:=by
    unfold tog
    split
    ·have:=cN (fun y=>decide (y≠x)) l;omega
    ·simp
   simp only[bu]
   omega
 have h1:=this ((r.drop a).take j) []
 unfold odW
 simp only[bw,bW] at h1 ⊢
 omega
noncomputable def wK:List D→Gp→(List D→Gp→Prop)→Prop:=fun ds G R=>∃(r near:List Nat) (p:Nat) (l:Addr),ds=[uD r,nD p,.adr l]∧Ls G l (near.map nD)∧near.Pairwise (·<·)∧r.length≤20∧R ((wch r p (wR near)).map uD) G
theorem zFG:∀ ds G R R',(∀ ls G',R ls G'→R' ls G')→wK ds G R→wK ds G R':=by
 rintro ds G R R' h ⟨r,cs,p,l,e,h1,h2,h3,q⟩
 exact⟨r,cs,p,l,e,h1,h2,h3,h _ _ q⟩
noncomputable def zBW:wD:=(zX (zn (za (yw zG)) (gN 3)) (zX (wV (iR2 (zA (xC (.int 1)) (zA (zP yN (zL zk (zA (zB 0) zG)) (xC (.int 1))) zG))) (gN 4) (zX (zn (za (yw zG)) (gN 5)) (wV (iR2 (zA (zB 4) (zA (zP yN (zL zk (zA (zB 0) zG)) (xC (.int 1))) zG))) (gN 6) (zX (xIf (xB (zP (fII fun i j=>.bl (decide (j<i))) (zB 6) (zB 4))) (zX (zn (zP yh (zB 0) (zP (fII fun i j=>.int (i-j)) (zB 6) (xC (.int 1)))) (gN 7)) (zn (zPI (xB (zP (fIn false) (zB 7) (zB 5))) (za (yE (iV (zB 5)) bd1 (xB (zP (fEq true) (zB 8) (zB 7))) (zB 8))) (za (zG1 (zB 5) (za (yw (zA (zB 7) zG)))))) (gN 5))) zr) (xIf (xB (zP (fEq false) (za (zAW (zA (zB 5) zG))) (zB 2))) (wF (zDt (zB 3) (zA (zP yN (zP yN (zP yN (zP yN (wQ (zB 0) yo (yO (zB 4))) (yK (zA (zB 1) zG))) (wQ (zB 0) (yO (zB 4)) (yO (zB 6)))) (yK (zA (zB 1) zG))) (wQ (zB 0) (yO (zB 6)) yo)) zG))) zr))))) (zw (zB 3))))
theorem zIg(ds:List D)(G:Gp)(R:Q2)(h:spL wK ds G R):ds.length=3∧zBW (zj R) (zV ["word","place","wished","found","one","odd","other","last"] ds) G:=by
 obtain⟨r,near,p,l,rfl,hl,hnr,hr,h⟩:=h
 refine⟨rfl,?_⟩
 unfold zBW
 rw[show zV ["word","place","wished","found","one","odd","other","last"] [uD r,nD p,.adr l]=[some (uD r),some (nD p),some (.adr l),none,none,none,none,none] from rfl]
 generalize hW:wR near=W at h
 refine yB (zAB (ds:=[]) (fun G2 e R q=>zAU (yI ⟨by rw[sizeLine_eq];simp,q⟩)) fun f hf=>?_)
 simp only[gN,bo,bn]
 refine wo (zEV (i:=1) (j:=((r.length+1:Nat):Int)) (zJ yD (zJ (zDA rfl) zT)) (by omega) ?_)
 rw[show(((r.length+1:Nat):Int)-1).toNat=r.length by omega,zJK]
 refine zBL (fun i G'=>G'.m f=some ((wP r p W i).map uD)∧L3.Sub G G') ⟨zF,.new hf⟩ (fun u0 u0 u0=>trivial) ?_ ?_
 ·rintro i x hx G1 ⟨gf,sb⟩
  obtain⟨rfl,hi⟩:=zJL hx
  simp only[gN,bo,bn]
  refine yB (zAB (ds:=[]) (fun G2 e R q=>zAU (yI ⟨by rw[sizeLine_eq];simp,q⟩)) fun lo0 hlo0=>?_)
  simp only[gN,bo,bn]
  have n0:lo0≠f:=fun z=>by rw[z,gf] at hlo0;cases hlo0
  refine zEV (i:=((i+1:Nat):Int)) (j:=((r.length+1:Nat):Int)) (zJ (zE rfl) (zJ (zDA rfl) zT)) (by omega) ?_
  rw[show(((r.length+1:Nat):Int)-((i+1:Nat):Int)).toNat=r.length-i by omega,zJQ]
  have wl:=zCj (p:=p) (W:=W) hr i (by omega)
  refine⟨fun j σ' G'=>∃ lo,σ'=[some (uD r),some (nD p),some (.adr l),some (.adr f),some (nD (i+1)),some (.adr lo),none,none]∧lo≠f∧G'.m lo=some ((odW r (i+1) (j-1)).map nD)∧G'.m f=some ((wP r p W i++zBy r p W (i+1) j).map uD)∧L3.Sub G G',⟨lo0,rfl,n0,zF,?_,sb.trans (.new hlo0)⟩,fun u0 u0 u0 u0 u0=>trivial,?_,?_⟩
  ·show(zN G1 lo0 []).m f=some ((wP r p W i++[]).map uD)
   rw[cO,zO (Ne.symm n0)];exact gf
  ·rintro j x σ' G2 hx ⟨lo,rfl,nlo,glo,gf2,sb2⟩
   obtain⟨rfl,hj⟩:=zJR hx
   simp only[gN,bo,bn]
   have wr:=zC8 (r:=r) (p:=p) (W:=W) (a:=i+1) (j:=j) (by omega)
   have ol:=zJT r (i+1) j
   -- the second test
   have tail:∀(E:yH) (G3:Gp) (lo':Addr) (o7:Option D),lo'≠f→G3.m lo'=some ((odW r (i+1) j).map nD)→G3.m f=some ((wP r p W i++zBy r p W (i+1) j).map uD)→L3.Sub G G3 →
     (∀ G4,G4.m lo'=some ((odW r (i+1) j).map nD)→G4.m f=some ((wP r p W i++zBy r p W (i+1) (j+1)).map uD)→L3.Sub G G4→E.nx [some (uD r),some (nD p),some (.adr l),some (.adr f),some (nD (i+1)),some (.adr lo'),some (nD (i+1+j)),o7] G4) →
     (xIf (xB (zP (fEq false) (za (zAW (zA (zB 5) zG))) (zB 2))) (wF (zDt (zB 3) (zA (zP yN (zP yN (zP yN (zP yN (wQ (zB 0) yo (yO (zB 4))) (yK (zA (zB 1) zG))) (wQ (zB 0) (yO (zB 4)) (yO (zB 6)))) (yK (zA (zB 1) zG))) (wQ (zB 0) (yO (zB 6)) yo)) zG))) zr) E [some (uD r),some (nD p),some (.adr l),some (.adr f),some (nD (i+1)),some (.adr lo'),some (nD (i+1+j)),o7] G3:=fun E G3 lo' o7 nl' gl' gf' sb' fin=>by
    have hs:=zLw (r:=r) (a:=i+1) (j:=j) hnr
    rw[hW] at hs
    have t1:WkT (xB (zP (fEq false) (za (zAW (zA (zB 5) zG))) (zB 2))) [some (uD r),some (nD p),some (.adr l),some (.adr f),some (nD (i+1)),some (.adr lo'),some (nD (i+1+j)),o7] G3 (decide (mkW r (i+1) j=W)):=fun G4 e4 R q'=>zHP (zAB (zEZ (d:=.adr lo') (l:=odW r (i+1) j) (zJ (zE rfl) zT) (e4.ls (.inl gl')) (by omega)) fun ls hls=>(zE (i:=2) (d:=.adr l) rfl) _ (.refl _) _ (by
     refine⟨_,_,.own,(e4.ls (hl.sub sb')).sub (.new hls),yU _,yU _,?_⟩
     rw[if_neg (by simp),zHT]
     have e:decide (zBo (odW r (i+1) j)=near)=decide (mkW r (i+1) j=W):=by
      rw[bS];simp only[decide_eq_true_eq];exact hs.symm
     rw[e]
     exact q' _ (.new hls)))
    refine zJM t1 (fun hb G4 e4=>?_) fun hb G4 e4=>?_
    ·have hh:=of_decide_eq_true hb
     have g4:=e4.sub.m _ _ gf'
     refine zCi (zC9 (l:=f) (zE rfl) g4 (zu (d:=uD (zC7 r p (i+1) (i+1+j))) (zJP rfl rfl (zE rfl) (zE rfl) (by omega) (by omega) (by omega)) (yI ⟨_,g4,by rw[bx,bI];omega,?_⟩)))
     refine fin _ ?_ ?_ ((sb'.trans e4.sub).put hf)
     ·rw[zO nl'];exact e4.sub.m _ _ gl'
     ·rw[zF,zAf,if_pos hh,← bZ]
      simp only[cr,cD,et]
    ·have hh:=of_decide_eq_false hb
     refine fin G4 (e4.sub.m _ _ gl') ?_ (sb'.trans e4.sub)
     rw[zAf,if_neg hh,cO]
     exact e4.sub.m _ _ gf'
   have t0:PuT (xB (zP (fII fun i j=>.bl (decide (j<i))) (zB 6) (zB 4))) [some (uD r),some (nD p),some (.adr l),some (.adr f),some (nD (i+1)),some (.adr lo),some (nD (i+1+j)),none] G2 (decide (0<j)):=by
    have:=zDd (g:=fun i j=>.bl (decide (j<i))) (zE (σ:=[some (uD r),some (nD p),some (.adr l),some (.adr f),some (nD (i+1)),some (.adr lo),some (nD (i+1+j)),none]) (G:=G2) (i:=6) (d:=nD (i+1+j)) rfl) (zE (i:=4) (d:=nD (i+1)) rfl)
    have e:decide ((((i+1:Nat)):Int)<((i+1+j:Nat):Int))=decide (0<j):=by rw[bS];simp only[decide_eq_true_eq];omega
    rw[← e];exact zAR this
   refine zJS t0 (fun hb=>?_) fun hb=>?_
   ·obtain⟨k,rfl⟩:∃ k,j=k+1:=⟨j-1,by have:=of_decide_eq_true hb;omega⟩
    rw[Nat.add_sub_cancel] at glo
    have hlt:i+1+k<r.length:=by omega
    have ixx:zi (zP yh (zB 0) (zP (fII fun i j=>.int (i-j)) (zB 6) (xC (.int 1)))) [some (uD r),some (nD p),some (.adr l),some (.adr f),some (nD (i+1)),some (.adr lo),some (nD (i+1+(k+1))),none] G2 (nD (r.getD (i+1+k) 0)):=by
     refine zLV (ps:=r) (zE rfl) ?_ hlt
     have:=zDd (g:=fun i j=>.int (i-j)) (zE (σ:=[some (uD r),some (nD p),some (.adr l),some (.adr f),some (nD (i+1)),some (.adr lo),some (nD (i+1+(k+1))),none]) (G:=G2) (i:=6) (d:=nD (i+1+(k+1))) rfl) (yD (d:=.int 1))
     rw[show((i+1+(k+1):Nat):Int)-1=((i+1+k:Nat):Int) by omega] at this
     exact this
    refine zBT ixx ?_
    simp only[gN,bo,bn]
    have hod:=zLx (r:=r) (a:=i+1) (j:=k) hlt
    generalize r.getD (i+1+k) 0=x at hod
    have tin:PuT (xB (zP (fIn false) (zB 7) (zB 5))) [some (uD r),some (nD p),some (.adr l),some (.adr f),some (nD (i+1)),some (.adr lo),some (nD (i+1+(k+1))),some (nD x)] G2 (decide (x∈odW r (i+1) k)):=zAR (yi (x:=nD x) (y:=.adr lo) (zE rfl) (zE rfl) fun G3 e R q'=>⟨_,e.ls (.inl glo),rfl,yU _,by rw[if_neg (by simp),zCZ];exact q'⟩)
    refine zPP (zNV tin (fun hx=>?_) fun hx=>?_)
    ·have hx:=of_decide_eq_true hx
     have c:=zAt (σ:=[some (uD r),some (nD p),some (.adr l),some (.adr f),some (nD (i+1)),some (.adr lo),some (nD (i+1+(k+1))),some (nD x)]) (G:=G2) (bd:=bd1) (tc:=(xB (zP (fEq true) (zB 8) (zB 7)))) (te:=zB 8) (fun d=>match d with | .int v=>decide (v.toNat≠x) | _=>false) (fun d=>d) (fun d=>[d]) (zBD (zE (i:=5) (d:=.adr lo) rfl) (.inl glo)) fun y hy=>by
      obtain⟨z,u0,rfl⟩:=bQ.mp hy
      refine⟨rfl,zAR (zDj (x:=nD z) (y:=nD x) (zE rfl) (zE rfl) rfl rfl ?_),fun u0=>zE rfl⟩
      rw[if_pos rfl,zDP]
      simp
     have e:bK (fun d=>d) (eh (fun d=>match d with | .int v=>decide (v.toNat≠x) | _=>false) ((odW r (i+1) k).map nD))=(odW r (i+1) (k+1)).map nD:=by
      rw[eu,dt,hod]
      unfold tog
      rw[if_pos hx];rfl
     rw[e] at c
     refine zAB c fun lo' hlo'=>?_
     have nl':lo'≠f:=fun z=>by rw[z,gf2] at hlo';cases hlo'
     simp only[gN,bo,bn]
     refine tail _ _ lo' _ nl' zF (by rw[zO (Ne.symm nl')];exact gf2) (sb2.trans (.new hlo')) fun G4 a1 a2 a3=>?_
     exact⟨_,G4,.keep (.keep (.keep (.keep (.keep (.keep (.skip (.skip .nil))))))),.refl _,lo',rfl,nl',a1,a2,a3⟩
    ·have hx:=of_decide_eq_false hx
     refine zAV (zQK (zE (d:=.adr lo) rfl) (zAB (ds:=[nD x]) (fun G2 e R q=>zAU (zJ (zE rfl) zT G2 e _ ⟨by rw[sizeLine_eq];simp,q⟩)) fun l2 hl2=>?_))
     have n2:lo≠l2:=fun z=>by rw[← z,glo] at hl2;cases hl2
     refine⟨_,_,by rw[zO n2];exact glo,zF,by rw[bx];have:=zJT r (i+1) k;simp only[bu,bw];omega,fun lo' hlo'=>?_⟩
     have f2:f≠l2:=fun z=>by rw[← z,gf2] at hl2;cases hl2
     have gf3:(zN G2 l2 [nD x]).m f=some ((wP r p W i++zBy r p W (i+1) (k+1)).map uD):=by rw[zO f2];exact gf2
     have nl':lo'≠f:=fun z=>by rw[z,gf3] at hlo';cases hlo'
     have e:(odW r (i+1) k).map nD++[nD x]=(odW r (i+1) (k+1)).map nD:=by
      rw[hod]
      unfold tog
      rw[if_neg hx,cr];rfl
     rw[e]
     simp only[gN,bo,bn]
     refine tail _ _ lo' _ nl' zF (by rw[zO (Ne.symm nl')];exact gf3) ((sb2.trans (.new hl2)).trans (.new hlo')) fun G4 a1 a2 a3=>?_
     exact⟨_,G4,.keep (.keep (.keep (.keep (.keep (.keep (.skip (.skip .nil))))))),.refl _,lo',rfl,nl',a1,a2,a3⟩
   ·obtain rfl:j=0:=by have:=of_decide_eq_false hb;omega
    refine tail _ _ lo _ nlo glo gf2 sb2 fun G4 a1 a2 a3=>?_
    exact⟨_,G4,.keep (.keep (.keep (.keep (.keep (.keep (.skip (.skip .nil))))))),.refl _,lo,rfl,nlo,a1,a2,a3⟩
  ·rintro σ' G2 ⟨lo,rfl,nlo,glo,gf2,sb2⟩
   rw[bx,bT] at gf2
   exact⟨.keep (.keep (.keep (.keep (.skip (.skip (.skip (.skip .nil))))))),G2,.refl _,gf2,sb2⟩
 ·rintro G1 ⟨gf,sb⟩
  rw[bx,bT] at gf
  show FgR R (.adr f) G1
  refine⟨zN G f ((wch r p W).map uD),⟨fun a o e=>?_,fun a o e=>sb.ro a o e⟩,h f hf⟩
  by_cases ha:a=f
  ·subst ha;rw[zF] at e;cases e;exact gf
  ·rw[zO ha] at e;exact sb.m a o e
theorem zKP{σ:S2}{G:Gp}{t:ze}{d:D}{ds:List D}(h:zi t σ G d)(hs:zBh G d ds):PuI (iV t) σ G ds:=by
 cases d with
 | tup xs =>
  have e:xs=ds:=hs
  subst e
  exact zBC h
 | adr l=>exact zBD h hs
 | _=>exact hs.elim
noncomputable def zm:List D→Gp→(List D→Gp→Prop)→Prop:=fun ds G R=>∃(n:Nat) (q:Nat×Nat→Bool) (i:Nat) (os:List Nat) (d:D),ds=[zS n q,nD i,d]∧zBh G d (os.map nD)∧i<n∧(∀ x∈os,x<n)∧R ((os.filter (wz q i)).map nD) G
theorem zBa:∀ ds G R R',(∀ ls G',R ls G'→R' ls G')→zm ds G R→zm ds G R':=by
 rintro ds G R R' h ⟨n,q,i,os,d,e,hs,h1,h2,q'⟩
 exact⟨n,q,i,os,d,e,hs,h1,h2,h _ _ q'⟩
noncomputable def zAb:wD:=(zw (za (yE (iV (zB 2)) bd1 (xB (zL zB9 (zA (zB 0) (zA (zB 1) (zA (zB 3) zG))))) (zB 3))))
theorem zGT(ds:List D)(G:Gp)(R:Q2)(h:spL zm ds G R):ds.length=3∧zAb (zj R) (zV ["web","place","others"] ds) G:=by
 obtain⟨n,q,i,os,d,rfl,hs,hi,ho,h⟩:=h
 refine⟨rfl,?_⟩
 unfold zAb zw za
 have c:=zAt (σ:=zV ["web","place","others"] [zS n q,nD i,d]) (G:=G) (bd:=bd1) (tc:=(xB (zL zB9 (zA (zB 0) (zA (zB 1) (zA (zB 3) zG)))))) (te:=zB 3) (fun d=>match d with | .int v=>wz q i v.toNat | _=>false) (fun d=>d) (fun d=>[d]) (zKP (zE (i:=2) (d:=d) rfl) hs) fun x hx=>by
  obtain⟨k,hk,rfl⟩:=bQ.mp hx
  exact⟨rfl,zAR (wN (zJ (zE (d:=zS n q) rfl) (zJ (zE (d:=nD i) rfl) (zJ (zE (d:=nD k) rfl) zT))) fun u0 u0 u0 q'=>⟨n,q,i,k,rfl,hi,ho k hk,q'⟩),fun u0=>zE rfl⟩
 have e:bK (fun d=>d) (eh (fun d=>match d with | .int v=>wz q i v.toNat | _=>false) (os.map nD))=(os.filter (wz q i)).map nD:=by
  rw[eu,dt];rfl
 rw[e] at c
 exact c G (.refl G) _ fun l hl=>FgR.of (h l hl)
end K
namespace HX
open HT
section
variable {prog:Program} {w:World} {A:Around} {R:Result→Shared→Prop} {I:Addr} {fp wr:List Addr} {n:Nat} {P:Nat→Value→Prop} {St:Nat→Heap→Prop}
structure zNW (prog:Program) (w:World) (A:Around) (P:Nat→Value→Prop) (bt:Nat→Nat→Bool) (wr:List Addr) (S:Addr) (Kp:Heap→Prop):Prop where
 cmp:∀ i j vi vj (s:Shared) (Q:Value→Shared→Prop) (E:Value→Shared→Prop),Kp s.heap→P i vi→P j vj→Q (.bool (bt i j)) s→wpAny (model prog w) A (richCompare .Gt vi vj) Q E s
 keep:∀ h h':Heap,Kp h→(∀ b o,b∉wr→b≠S→h.get? b=some o→h'.get? b=some o)→Kp h'
theorem zL6(W:Walks prog w A.in1 I fp wr n P St)(bt:Nat→Nat→Bool){Kp:Heap→Prop}(S:Addr)(C  :zNW prog w A.in1 P bt wr S Kp)(hSf:S∉fp) :
  ∀(k j:Nat) (s:Shared) (vb:Value) (c:Nat),n-(j+1)=k→j+1≤n→St (j+1) s.heap→Kp s.heap→P (argBest bt j) vb →
  s.heap.get? S=some { cls:=.type "list",dict:=none,data:=.seq #[vb,vb] c,slots:=#[] } →
  (∀ v h' tk,P (argBest bt (n-1)) v→(∀ b o,b∉wr→b≠S→s.heap.get? b=some o→h'.get? b=some o)→R (.ok (.ret v)) { s with heap:=h',toks:=tk }) →
  codeAny (model prog w) A (.builtin "max.loop" ⟨[.ref I,.none,.ref S],[]⟩) R s:=by
 have nw:S∉wr:=fun h=>hSf (W.sub _ h)
 have nm:(toString "max"++toString ".loop":String)="max.loop":=by decide
 intro k
 induction k with
 | zero =>
  intro j s vb c hk hj st kp pb hS fin
  have hin:j+1=n:=by omega
  refine cY PySem.F.entry_max_loop ?_
  rw[Around.under_plainId PySem.F.plain_max_loop _]
  show wpAny _ A.in1 (seqItems? (.ref S)>>=_) _ _ s
  refine bq (wpAny_seqItems hS rfl ?_)
  show wpAny _ A.in1 (tryCatch (pyNext (.ref I)) _>>=_) _ _ s
  refine bq (wpAny_tryCatch (W.done s _ _ (hin▸st) fun h' tk hk'=>?_))
  have hS':=hk' S _ nw hS
  show wpAny _ A.in1 (updateSeq S (fun u0=>#[])>>=_) _ _ _
  refine bq ?_
  refine wpAny_updateSeq hS' rfl (bq (wpAny_letGo (bC ?_)))
  exact fin vb _ tk (by rw[← hin];exact pb) fun b o h1 h2 e=>(cI _ _ (Ne.symm h2)).trans (hk' b o h1 e)
 | succ k ih =>
  intro j s vb c hk hj st kp pb hS fin
  have lt:j+1<n:=by omega
  refine cY PySem.F.entry_max_loop ?_
  rw[Around.under_plainId PySem.F.plain_max_loop _]
  show wpAny _ A.in1 (seqItems? (.ref S)>>=_) _ _ s
  refine bq (wpAny_seqItems hS rfl ?_)
  show wpAny _ A.in1 (tryCatch (pyNext (.ref I)) _>>=_) _ _ s
  refine bq (wpAny_tryCatch (W.item (j+1) s _ _ lt st fun v h' tk pv st' hk'=>?_))
  have hS':=hk' S _ nw hS
  have kp':Kp h':=C.keep _ _ kp fun b o h1 u0 e=>hk' b o h1 e
  show wpAny _ A.in1 (tryCatch (holding [v,v] (richCompare .Gt v vb>>=_)) _>>=_) _ _ _
  refine bq (wpAny_tryCatch (cP (bq (C.cmp (j+1) (argBest bt j) v vb _ _ _ kp' pv pb ?_))))
  refine bq (cP (dQ ?_))
  refine bq (wpAny_letGo (bC ?_))
  cases hb:bt (j+1) (argBest bt j) with
  | true =>
   simp only[if_true]
   refine bq ?_
   refine wpAny_updateSeq hS' rfl (bq (wpAny_letGo ?_))
   rw[nm]
   refine bC ⟨plainId_quiet PySem.F.plain_max_loop _,ih (j+1) _ v _ (by omega) lt (W.frame _ _ _ st' fun b hbf o e=>?_) (C.keep _ _ kp' fun b o u0 h2 e=>(cI _ _ (Ne.symm h2)).trans e) (by simp only[argBest,hb,if_true];exact pv) (dC _ hS' rfl)
    fun v' h'' tk'' pv' hk''=>?_⟩
   ·exact(cI _ _ (fun h:S=b=>hSf (by rw[h];exact hbf))).trans e
   ·exact fin v' h'' tk'' pv' fun b o h1 h2 e=>hk'' b o h1 h2 ((cI _ _ (Ne.symm h2)).trans (hk' b o h1 e))
  | false =>
   simp only[bp,if_false]
   refine bq (wpAny_letGo ?_)
   rw[nm]
   refine bC ⟨plainId_quiet PySem.F.plain_max_loop _,ih (j+1) _ vb c (by omega) lt st' kp' (by simp only[argBest,hb,bp,if_false];exact pb) hS' fun v' h'' tk'' pv' hk''=>?_⟩
   exact fin v' h'' tk'' pv' fun b o h1 h2 e=>hk'' b o h1 h2 (hk' b o h1 e)
theorem zKQ(W:Walks prog w A.in1 I fp wr n P St)(bt:Nat→Nat→Bool){Kp:Heap→Prop}(S:Addr)(C  :zNW prog w A.in1 P bt wr S Kp)(hSf:S∉fp)(hn:0<n){s:Shared}{c:Nat}(st:St 0 s.heap)(kp:Kp s.heap)
  (hS:s.heap.get? S=some { cls:=.type "list",dict:=none,data:=.seq #[] c,slots:=#[] })
  (fin:∀ v h' tk,P (argBest bt (n-1)) v→(∀ b o,b∉wr→b≠S→s.heap.get? b=some o→h'.get? b=some o)→R (.ok (.ret v)) { s with heap:=h',toks:=tk }) :
  codeAny (model prog w) A (.builtin "max.loop" ⟨[.ref I,.none,.ref S],[]⟩) R s:=by
 have nw:S∉wr:=fun h=>hSf (W.sub _ h)
 have nm:(toString "max"++toString ".loop":String)="max.loop":=by decide
 refine cY PySem.F.entry_max_loop ?_
 rw[Around.under_plainId PySem.F.plain_max_loop _]
 show wpAny _ A.in1 (seqItems? (.ref S)>>=_) _ _ s
 refine bq (wpAny_seqItems hS rfl ?_)
 show wpAny _ A.in1 (tryCatch (pyNext (.ref I)) _>>=_) _ _ s
 refine bq (wpAny_tryCatch (W.item 0 s _ _ hn st fun v h' tk pv st' hk'=>?_))
 have hS':=hk' S _ nw hS
 show wpAny _ A.in1 (updateSeq S (fun u0=>#[v,v])>>=_) _ _ _
 refine bq ?_
 refine wpAny_updateSeq hS' rfl ?_
 rw[nm]
 refine bC ⟨plainId_quiet PySem.F.plain_max_loop _,zL6 W bt S C hSf _ 0 _ v _ rfl hn (W.frame _ _ _ st' fun b hbf o e=>?_) (C.keep _ _ kp fun b o h1 h2 e=>(cI _ _ (Ne.symm h2)).trans (hk' b o h1 e)) pv (dC _ hS' rfl) fun v' h'' tk'' pv' hk''=>?_⟩
 ·exact(cI _ _ (fun h:S=b=>hSf (by rw[h];exact hbf))).trans e
 ·exact fin v' h'' tk'' pv' fun b o h1 h2 e=>hk'' b o h1 h2 ((cI _ _ (Ne.symm h2)).trans (hk' b o h1 e))
end
section
variable {prog:Program} {w:World} {A:Around} {E:Value→Shared→Prop} {s:Shared}
noncomputable def gtT(nss:List (List Int))(i j:Nat):Bool:=lexLt (nss.getD j []) (nss.getD i [])
theorem zKR{as:List Addr}{nss:List (List Int)}{wr:List Addr}{S:Addr}(hu:A.units<cLine)(h1:∀ a∈as,a∉wr)(h2:S∉as) :
  zNW prog w A (fun i v=>(as.map Value.ref)[i]?=some v) (gtT nss) wr S (fun h=>zBP h as nss) where
 cmp:=fun i j vi vj s Q E kp pi pj q=>by
  have gi:∀ {i:Nat} {v:Value},(as.map Value.ref)[i]?=some v→∃ a,as[i]?=some a∧v=Value.ref a:=fun {i v} e=>by
   rw[bY] at e
   cases q:as[i]? with
   | none=>rw[q] at e;cases e
   | some a=>rw[q] at e;cases e;exact⟨a,rfl,rfl⟩
  obtain⟨a,ea,rfl⟩:=gi pi
  obtain⟨b,eb,rfl⟩:=gi pj
  have li:i<nss.length:=by rw[← kp.1];exact(bN.mp ea).1
  have lj:j<nss.length:=by rw[← kp.1];exact(bN.mp eb).1
  obtain⟨its,t1,i1⟩:=kp.2 i a nss[i] ea (by simp)
  obtain⟨its2,t2,i2⟩:=kp.2 j b nss[j] eb (by simp)
  have e:gtT nss i j=lexLt nss[j] nss[i]:=by simp[gtT,cJ,li,lj]
  rw[e] at q
  exact zIL t1 t2 i1 i2 hu q
 keep:=fun h h' kp k=>kp.keep fun a ha o e=>k a o (h1 a ha) (fun z=>h2 (z▸ha)) e
noncomputable def zQQ(prog:Program)(w:World)(A:Around)(Q:Value→Shared→Prop)(it:Value)(s₂:Shared):Prop:=∃ I fp wr n P St bt Kp,it=.ref I∧Walks prog w A.in1 I fp wr n P St∧St 0 s₂.heap∧(∀ b∈fp,b<s₂.heap.objs.size)∧0<n∧zNW prog w A.in1 P bt wr s₂.heap.objs.size Kp∧Kp s₂.heap ∧
 ∀ v h' tk,P (argBest bt (n-1)) v→(∀ b o,b∉wr→s₂.heap.get? b=some o→h'.get? b=some o)→Q v { s₂ with heap:=h',toks:=tk }
theorem zL7{Q:Value→Shared→Prop}{it:Value}{s₂:Shared}(h₂:zQQ prog w A Q it s₂):wpAny (model prog w) A.in1 (newList []>>=fun best=>again (.builtin "max.loop" ⟨[it,.none,best],[]⟩)) (fun fin s'=>match fin with | .done f=>wants Q E (.ok f) s' | .again c'=>c'.quiet=true∧codeAny (model prog w) A c' (wants Q E) s') (fun e s'=>wants Q E (.error e) s') s₂:=by
 obtain⟨I,fp,wr,n,P,St,bt,Kp,rfl,W,hst,hfp,hn,C,kp,hQ⟩:=h₂
 refine bq (cW ?_)
 have hSf:s₂.heap.objs.size∉fp:=fun hm=>de _ (hfp _ hm)
 refine bC ⟨plainId_quiet PySem.F.plain_max_loop _,zKQ W bt s₂.heap.objs.size C hSf hn (W.frame _ _ _ hst fun b u0 o e=>bz _ e) (C.keep _ _ kp fun b o u0 u0 e=>bz _ e) (bM _ rfl) fun v h' tk hP hk=>?_⟩
 exact hQ v h' tk hP fun b o hbw e=>hk b o hbw (cg (bP e)) (bz _ e)
theorem zKS{x:Value}{Q:Value→Shared→Prop}(h:wpAny (model prog w) A.in1 (pyIter x) (zQQ prog w A Q) E s) :
  wpAny (model prog w) A (call (.builtin "max") [x]) Q E s:=by
 have nm:(toString "max"++toString ".loop":String)="max.loop":=by decide
 refine call_function_tree PySem.F.kind_max PySem.F.plain_max PySem.F.entry_max (PySem.F.args_max1 _) ?_
 show wpAny _ A.in1 (Builtin.Builtins.bindParams "max" ["key","default"] 0 ⟨[],[]⟩>>=_) _ _ s
 refine bq (wpAny_of_eq (show Builtin.Builtins.bindParams "max" ["key","default"] 0 ⟨[],[]⟩=pure [none,none] from rfl) ?_)
 refine bq (bC ?_)
 refine bq (wpAny_mono h (fun it s₂ h₂=>?_) fun u0 u0 e=>e)
 have:=zL7 (E:=E) h₂
 rw[nm]
 exact this
theorem max_list{l:Addr}{as:List Addr}{nss:List (List Int)}{Q:Value→Shared→Prop}(hh:A.handled=none)(hu:A.in1.units<cLine)(hl:s.heap.IsList l (as.map Value.ref).toArray)(hne:0<as.length)(ht:zBP s.heap as nss)
  (h:∀ h' tk v,(as.map Value.ref)[argBest (gtT nss) (as.length-1)]?=some v→(∀ d o,s.heap.get? d=some o→h'.get? d=some o)→Q v { s with heap:=h',toks:=tk }) :
  wpAny (model prog w) A (call (.builtin "max") [.ref l]) Q E s:=by
 refine zKS (wpAny_pyIter_list hl ?_)
 have la:∀ x∈as,x<s.heap.objs.size:=ht.lt
 have ll:l<s.heap.objs.size:=by obtain⟨o,e,u0⟩:=hl;exact bP e
 refine⟨_,[_,l],[_],_,_,_,gtT nss,fun h=>zBP h as nss,rfl,Walks.list (A:=A.in1) hh _ l (cg ll) (as.map Value.ref).toArray,
  ⟨⟨_,bM _ rfl,rfl,rfl⟩,hl.push _⟩,fun d hd=>?_,by simpa using hne,?_,ht.keep fun x hx o e=>bz _ e,fun v h' tk hP hk=>?_⟩
 ·show d<(s.heap.push _).objs.size
  rw[e7]
  rcases ce.mp hd with rfl | hd
  ·exact Nat.lt_succ_self _
  ·rcases ce.mp hd with rfl | hd
   ·exact Nat.lt_succ_of_lt ll
   ·cases hd
 ·have:=zKR (prog:=prog) (w:=w) (A:=A.in1) (as:=as) (nss:=nss) (wr:=[s.heap.objs.size]) (S:=s.heap.objs.size+1) hu (fun x hx z=>by
   have h1:=la x hx
   rw[bH] at z
   rw[z] at h1
   exact absurd h1 (de _)) (fun z=>absurd (la _ z) (Nat.not_lt.mpr (dh _)))
  refine⟨fun i j vi vj s Q E kp pi pj q=>this.cmp i j vi vj s Q E kp (by simpa using pi) (by simpa using pj) q,fun h h' kp k=>this.keep h h' kp fun b o h1 h2 e=>k b o h1 ?_ e⟩
  show b≠(s.heap.push _).objs.size
  rw[e7];exact h2
 ·have hold:∀ d o,s.heap.get? d=some o→h'.get? d=some o:=fun d o e=>by
   refine hk d o (fun hm=>?_) (bz _ e)
   rcases ce.mp hm with e1 | hm
   ·have:=bP e;rw[e1] at this;exact de _ this
   ·cases hm
  exact h h' tk v (by simpa using hP) hold
end
end HX
namespace L3
open L2
section
variable {X:Cx} {a b c e o:Expr} {es:List Expr} {pos p:Pos} {ta tb te:ze} {tl:TL2}
theorem zKT(hc:X.calm=true)(hu:X.A.units+10<cLine):wE X (.builtin "max") (fun xs H Q=>∃ l as nss,xs=[.ref l]∧SqL X.K H l (as.map V.ref)∧0<as.length∧zFh X.K H as nss∧∀ d,as[argBest (HX.gtT nss) (as.length-1)]?=some d→Q (.ref d) H):=by
 intro pins s σ H xs us Q I r h
 obtain⟨l,as,nss,rfl,hs,hp,ht,q⟩:=h
 obtain⟨u,rfl,rx⟩:=vals1 r
 cases rx
 obtain⟨its,rv,pl,hzz⟩:=I.list hs
 have:its=as.map Value.ref:=by
  clear hs pl hzz hp ht q
  induction as generalizing its with
  | nil=>cases rv;rfl
  | cons a as ih =>
   rw[cD] at rv
   cases rv with
   | cons r1 r2=>cases r1;rw[ih _ r2];rfl
 subst this
 refine HX.max_list (I.ok.hd hc) (by show X.A.in1.units<cLine;simp[Around.in1] at *;omega) pl.isList hp (ht.at I) fun h' tk v hv kp=>?_
 rw[bY] at hv
 cases q':as[argBest (HX.gtT nss) (as.length-1)]? with
 | none=>rw[q'] at hv;cases hv
 | some d =>
  rw[q'] at hv
  cases hv
  exact⟨.ref d,H,I.kept (t':=tk) kp,rfl,q d q'⟩
noncomputable def zBX(nss:List (List Int)):List Int:=nss.getD (argBest (HX.gtT nss) (nss.length-1)) []
noncomputable def zL8:Sp2:=fun ds G R=>∃ nss:List (List Int),ds=nss.map tupI∧0<nss.length∧R (tupI (zBX nss)) G
theorem zFh.pickG{K:PySem.W.Frag}{H:Hp}{as:List Addr}{nss:List (List Int)}(h:zFh K H as nss)(hp:0<nss.length){d:Addr}(hd:as[argBest (HX.gtT nss) (as.length-1)]?=some d):zQ K H (tupI (zBX nss)) (.ref d):=by
 rw[h.1] at hd
 have hl:argBest (HX.gtT nss) (nss.length-1)<nss.length:=by have:=zCa (HX.gtT nss) (nss.length-1);omega
 refine zHA (h.2 _ d _ hd ?_)
 unfold zBX
 simp[cJ,hl]
theorem zPS{k:Nat}(hr:wt k X.A)(hc:X.calm=true)(hg:Gl X "max")(hm:X.mg "max"=none)(ha:F2 X e tl)(he:starEach [e] X.env=(false,eval e X.env)::starEach [] X.env:=by rfl)(hpl:(backTo pos (starEach [] X.env)).any (·.1)=false:=by rfl) :
  E2 X (.Call (.Name "max" p) [e] [] pos) (yG zL8 tl):=zGw (zKT hc (by have:=hr.units;omega)) (by
   rintro ds G R l xs H Q ⟨nss,rfl,hp,h⟩ r e d k
   obtain⟨as,rfl,ha⟩:=zFi d
   exact⟨l,as,nss,rfl,.of e,by rw[ha.1];exact hp,ha,fun d hd=>k _ G h _ H (.refl H) r (ha.pickG hp hd)⟩) hg hm (by decide +kernel) ha (by decide) (by decide) he hpl
end
end L3
namespace K
open L2 L3
section
variable {α:Type}
theorem zJU(X Y:List α):trn (X++Y) X.length=Y++X:=by unfold trn;simp
end
noncomputable def cst(r:List Nat):List Int:=r.map fun(x:Nat)=>(x:Int)
noncomputable def zKU:List Nat→Bool
 | a::b::c::_=>decide (a≠b)&&decide (b≠c)
 | _=>false
theorem yf(r:List Nat)(p:Nat×Nat):yA r p=zKU (both r p):=by
 unfold yA zKU
 rfl
theorem four{w:List Nat}{i j:Nat}(h:w.length=4)(hm:∀ x∈w,x=i∨x=j)(hi:w.count i=2)(hij:i≠j) :
  w=[i,i,j,j]∨w=[i,j,i,j]∨w=[i,j,j,i]∨w=[j,i,i,j]∨w=[j,i,j,i]∨w=[j,j,i,i]:=by
 match w,h with
 | [a,b,c,d],_ =>
  have ji:¬ j=i:=fun e=>hij e.symm
  have ha:=hm a (by simp)
  have hb:=hm b (by simp)
  have hc:=hm c (by simp)
  have hd:=hm d (by simp)
  rcases ha with rfl | rfl<;>rcases hb with rfl | rfl<;>rcases hc with rfl | rfl<;>rcases hd with rfl | rfl<;>simp_all [cE]
theorem zNY{w:List Nat}{i j:Nat}(h:w.length=4)(hm:∀ x∈w,x=i∨x=j)(hi:w.count i=2)(hij:i≠j){k:Nat}(hk:k≤4):zKU (trn w k)=zKU w:=by
 have ji:¬ j=i:=fun e=>hij e.symm
 have:k=0∨k=1∨k=2∨k=3∨k=4:=by omega
 rcases four h hm hi hij with rfl | rfl | rfl | rfl | rfl | rfl<;>rcases this with rfl | rfl | rfl | rfl | rfl<;>simp[trn,zKU,hij,ji]
theorem zFq(r:List Nat)(i j:Nat):both r (i,j)=both r (j,i):=by
 unfold both
 exact eE fun x u0=>Bool.or_comm _ _
noncomputable def nm(od:List Nat)(x:Nat):Nat:=od.idxOf x
theorem zN7{od:List Nat}(nd:od.Nodup){i:Nat}(hi:i<od.length):nm od (od.getD i 0)=i:=by
 unfold nm
 have:od.getD i 0=od[i]:=by simp[cJ,hi]
 rw[this]
 exact List.Nodup.idxOf_getElem nd i hi
end K
namespace K
open L3
structure yP (q:Nat×Nat→Bool) (S w:List Nat):Prop where
 cnt:∀ x,w.count x=if x∈S then 2 else 0
 crs:∀ i∈S,∀ j∈S,i≠j→yA w (i,j)=wz q i j
theorem yP.mem{q:Nat×Nat→Bool}{S w:List Nat}(h:yP q S w){x:Nat}:x∈w↔x∈S:=by
 rw[← List.count_pos_iff,h.cnt x]
 by_cases hx:x∈S<;>simp[hx]
theorem yP.two{q:Nat×Nat→Bool}{S w:List Nat}(h:yP q S w){x:Nat}(hx:x∈S):w.count x=2:=by rw[h.cnt,if_pos hx]
theorem yP.congr{q:Nat×Nat→Bool}{S T w:List Nat}(h:yP q S w)(e:∀ x,x∈S↔x∈T):yP q T w :=
 ⟨fun x=>by rw[h.cnt x];simp only[e x],fun i hi j hj n=>h.crs i ((e i).mpr hi) j ((e j).mpr hj) n⟩
theorem zHY{w:List Nat}{p:Nat→Bool}{i j:Nat}(hi:p i=true)(hj:p j=true):both (w.filter p) (i,j)=both w (i,j):=by
 unfold both
 rw[List.filter_filter]
 refine eE fun x u0=>?_
 by_cases h1:x=i
 ·subst h1;simp[hi]
 ·by_cases h2:x=j
  ·subst h2;simp[hj]
  ·simp[h1,h2]
theorem zDB{w:List Nat}{p:Nat→Bool}{i j:Nat}(hi:p i=true)(hj:p j=true):yA (w.filter p) (i,j)=yA w (i,j):=by
 rw[yf,yf,zHY hi hj]
theorem yP.sub{q:Nat×Nat→Bool}{S T w:List Nat}(h:yP q S w)(hT:∀ x∈T,x∈S):yP q T (w.filter fun x=>decide (x∈T)):=by
 refine⟨fun x=>?_,fun i hi j hj n=>?_⟩
 ·by_cases hx:x∈T
  ·rw[if_pos hx,List.count_filter (by simp[hx]),h.two (hT x hx)]
  ·rw[if_neg hx]
   exact dB.mpr fun z=>hx (by simpa using(bV.mp z).2)
 ·rw[zDB (by simp[hi]) (by simp[hj])]
  exact h.crs i (hT i hi) j (hT j hj) n
theorem zKV{i j:Nat}(hij:i≠j)(l:List Nat):(both l (i,j)).length=l.count i+l.count j:=by
 unfold both
 induction l with
 | nil=>rfl
 | cons a r ih =>
  simp only[dA,cE]
  by_cases ha:a=i
  ·subst ha
   simp[hij,ih];omega
  ·by_cases hb:a=j
   ·subst hb;simp[ha,ih];omega
   ·simp[ha,hb,ih]
theorem zKW{A B:List Nat}{i j:Nat}(hij:i≠j)(hi:(A++B).count i=2)(hj:(A++B).count j=2):yA (B++A) (i,j)=yA (A++B) (i,j):=by
 rw[yf,yf]
 have e:both (B++A) (i,j)=trn (both (A++B) (i,j)) (both A (i,j)).length:=by
  have b1:∀ X Y:List Nat,both (X++Y) (i,j)=both X (i,j)++both Y (i,j):=fun X Y=>cZ _ _
  rw[b1 A B,zJU,b1]
 have l4:=zKV hij (A++B)
 have lA:(both A (i,j)).length≤(both (A++B) (i,j)).length:=by
  have b1:both (A++B) (i,j)=both A (i,j)++both B (i,j):=cZ _ _
  rw[b1,bI];omega
 rw[hi,hj] at l4
 rw[e]
 refine zNY l4 (fun x hx=>?_) ?_ hij (by omega)
 ·simpa using(bV.mp hx).2
 ·unfold both;rw[List.count_filter (by simp)];exact hi
theorem yP.rot{q:Nat×Nat→Bool}{S A B:List Nat}(h:yP q S (A++B)):yP q S (B++A):=by
 refine⟨fun x=>?_,fun i hi j hj n=>?_⟩
 ·rw[← h.cnt x,ci,ci,Nat.add_comm]
 ·rw[zKW n (h.two hi) (h.two hj)]
  exact h.crs i hi j hj n
theorem yP.begin{q:Nat×Nat→Bool}{S w:List Nat}(h:yP q S w){o:Nat}(ho:o∈S):∃ t,yP q S (o::t):=by
 obtain⟨A,B,rfl⟩:=List.append_of_mem (h.mem.mpr ho)
 exact⟨B++A,h.rot⟩
theorem zEu(w:List Nat)(i j:Nat):yA w (i,j)=yA w (j,i):=by rw[yf,yf,zFq]
theorem zHZ(i:Nat):∀(B l:List Nat),i∈B.foldl tog l↔(if i∈l then B.count i%2=0 else B.count i%2=1)
 | [],l=>by by_cases h:i∈l<;>simp[h]
 | x::B,l=>by
  rw[List.foldl_cons,zHZ i B (tog l x),cE]
  by_cases hx:x=i
  ·subst hx
   have e:x∈tog l x↔x∉l:=by rw[zGR];simp
   by_cases h:x∈l
   ·simp only[e,h,not_true,if_false,if_true,beq_self_eq_true];omega
   ·simp only[e,h,not_false_iff,if_true,if_false,beq_self_eq_true];omega
  ·have e:i∈tog l x↔i∈l:=by rw[zGR];simp[Ne.symm hx]
   have:(x==i)=false:=by simpa using hx
   simp only[e,this,bp,if_false,Nat.add_zero]
theorem zJX{A B C:List Nat}(i:Nat):(mkW (A++B++C) A.length B.length).testBit i=decide (B.count i%2=1):=by
 rw[(zLv _ _ _).2 i]
 unfold odW
 have e:((A++B++C).drop A.length).take B.length=B:=by
  rw[bZ,List.drop_left];exact List.take_left' rfl
 rw[e,bS,decide_eq_true_eq,decide_eq_true_eq,zHZ]
 simp
theorem zFr{l l':List Nat}(h:l.Perm l'):wR l=wR l':=by
 unfold wR
 induction h with
 | nil=>rfl
 | cons x _ ih=>simp only[cD,ez,ih]
 | swap x y l=>simp only[cD,ez];omega
 | trans _ _ h1 h2=>exact h1.trans h2
theorem zFs{l:List Nat}(h:l.Nodup)(i:Nat):(wR l).testBit i=decide (i∈l):=by
 rw[← zFr (wX l)]
 have hs:(zBo l).Pairwise (·<·):=by
  have nd:(zBo l).Nodup:=(wX l).nodup_iff.mpr h
  have:=(zCx l).and nd
  exact this.imp fun⟨a,b⟩=>Nat.lt_of_le_of_ne a b
 rw[zEq _ hs i,bS,decide_eq_true_eq,decide_eq_true_eq]
 exact(wX l).mem_iff
theorem zFt{r:List Nat}{p W:Nat}{w:List Nat}:∀ i,i≤r.length→(w∈wP r p W i↔∃ a d,1≤a∧a≤i∧a+d≤r.length∧mkW r a d=W∧w=zC7 r p a (a+d))
 | 0,_=>by
  constructor
  ·intro h;cases h
  ·rintro⟨a,d,h1,h2,u0⟩;omega
 | i+1,hi=>by
  show w∈wP r p W i++zBy r p W (i+1) (r.length-i)↔_
  rw[bR,zFt i (by omega)]
  unfold zBy
  rw[bQ]
  constructor
  ·rintro(⟨a,d,h1,h2,h3,h4,h5⟩ | ⟨d,hd,e⟩)
   ·exact⟨a,d,h1,by omega,h3,h4,h5⟩
   ·obtain⟨h1,h2⟩:=bV.mp hd
    have h1:=cb.mp h1
    exact⟨i+1,d,by omega,by omega,by omega,of_decide_eq_true h2,e.symm⟩
  ·rintro⟨a,d,h1,h2,h3,h4,h5⟩
   by_cases h:a≤i
   ·exact .inl ⟨a,d,h1,h,h3,h4,h5⟩
   ·obtain rfl:a=i+1:=by omega
    exact .inr ⟨d,bV.mpr ⟨cb.mpr (by omega),decide_eq_true h4⟩,h5.symm⟩
theorem zJY{r:List Nat}{p W:Nat}{w:List Nat}:w∈wch r p W↔∃ A B C,A≠[]∧r=A++B++C∧mkW r A.length B.length=W∧w=A++p::(B++p::C):=by
 unfold wch
 rw[zFt _ (bF _)]
 constructor
 ·rintro⟨a,d,h1,u0,h3,h4,rfl⟩
  refine⟨r.take a,(r.drop a).take d,r.drop (a+d),fun z=>?_,?_,?_,?_⟩
  ·have:=congrArg List.length z
   rw[bW,bw] at this;omega
  ·rw[bZ,← List.drop_drop,cM,cM]
  ·rw[bW,bW,cV,df (by omega),df (by omega)];exact h4
  ·unfold zC7
   rw[show a+d-a=d by omega]
   simp
 ·rintro⟨A,B,C,hA,rfl,hW,rfl⟩
  have hA':1≤A.length:=by cases A with | nil=>exact absurd rfl hA | cons a t=>simp
  refine⟨A.length,B.length,hA',by simp,by simp,hW,?_⟩
  unfold zC7
  have e1:(A++B++C).take A.length=A:=by rw[bZ];exact List.take_left' rfl
  have e2:((A++B++C).drop A.length).take B.length=B:=by rw[bZ,List.drop_left];exact List.take_left' rfl
  have e3:(A++B++C).drop (A.length+B.length)=C:=by rw[← bI];exact List.drop_left' rfl
  rw[show A.length+B.length-A.length=B.length by omega,e1,e2,e3]
  simp
theorem zD8(A B C:List Nat)(p x:Nat):(A++p::(B++p::C)).count x=(A++B++C).count x+if p=x then 2 else 0:=by
 simp only[ci,cE,beq_iff_eq]
 split<;>omega
theorem zEv{A B C:List Nat}{p:Nat}(h:p∉A++B++C):(A++p::(B++p::C)).filter (fun x=>decide (x≠p))=A++B++C:=by
 have f:∀ X:List Nat,p∉X→X.filter (fun x=>decide (x≠p))=X:=fun X hX=>List.filter_eq_self.mpr fun x hx=>by
  have:x≠p:=fun e=>hX (e▸hx)
  simp[this]
 simp only[bR,not_or] at h
 simp only[cZ,dA,f A h.1.1,f B h.1.2,f C h.2]
 simp
theorem yP.put{q:Nat×Nat→Bool}{S r w:List Nat}{p:Nat}(h:yP q S r)(hp:p∉S)(nd:S.Nodup)(hw:w∈wch r p (wR (S.filter (wz q p)))):yP q (S++[p]) w∧w.filter (fun x=>decide (x≠p))=r∧w.head?=r.head?:=by
 obtain⟨A,B,C,hA,rfl,hW,rfl⟩:=zJY.mp hw
 have hpr:p∉A++B++C:=fun z=>hp (h.mem.mp z)
 have hf:=zEv hpr
 refine⟨⟨fun x=>?_,?_⟩,hf,?_⟩
 ·rw[zD8,h.cnt x]
  by_cases hx:p=x
  ·subst hx;simp[hp]
  ·simp[hx,Ne.symm hx]
 ·have old:∀ i∈S,∀ j∈S,i≠j→yA (A++p::(B++p::C)) (i,j)=wz q i j:=fun i hi j hj n=>by
   rw[← h.crs i hi j hj n,← hf]
   refine(zDB ?_ ?_).symm
   ·have:i≠p:=fun e=>hp (e▸hi)
    simp[this]
   ·have:j≠p:=fun e=>hp (e▸hj)
    simp[this]
  have new:∀ j∈S,yA (A++p::(B++p::C)) (p,j)=wz q p j:=fun j hj=>by
   have hpj:p≠j:=fun e=>hp (e▸hj)
   simp only[bR,not_or] at hpr
   have c2:(A++p::(B++p::C)).count j=2:=by rw[zD8,h.two hj,if_neg hpj]
   rw[zG9 hpj hpr.1.1 hpr.1.2 hpr.2 c2]
   have b1:=zJX (A:=A) (B:=B) (C:=C) j
   rw[hW,zFs (nd.filter _) j] at b1
   have hB:B.count j≤2:=by have:=h.two hj;simp only[ci] at this;omega
   have e:(p::B).count j=B.count j:=by rw[cE];simp[hpj]
   rw[e]
   have e2:decide (B.count j=1)=decide (B.count j%2=1):=by rw[decide_eq_decide];omega
   rw[e2,← b1,bS,decide_eq_true_eq,bV]
   simp[hj]
  intro i hi j hj n
  rcases bR.mp hi with hi | hi<;>rcases bR.mp hj with hj | hj
  ·exact old i hi j hj n
  ·rw[bH.mp hj,zEu,zEp];exact new i hi
  ·rw[bH.mp hi];exact new j hj
  ·rw[bH.mp hi,bH.mp hj] at n;exact absurd rfl n
 ·cases A with
  | nil=>exact absurd rfl hA
  | cons a t=>rfl
theorem yP.cut{q:Nat×Nat→Bool}{S t:List Nat}{o p:Nat}(h:yP q (S++[p]) (o::t))(hp:p∉S)(nd:S.Nodup)(ho:o≠p):o::t∈wch ((o::t).filter fun x=>decide (x≠p)) p (wR (S.filter (wz q p))):=by
 obtain⟨A,B,C,e,hA,hB,hC⟩:=zPF (h.two (x:=p) (by simp))
 have hpr:p∉A++B++C:=by simp[hA,hB,hC]
 rw[e] at h ⊢
 rw[zEv hpr]
 refine zJY.mpr ⟨A,B,C,fun z=>?_,rfl,?_,rfl⟩
 ·subst z
  rw[bB] at e
  exact ho (List.cons.inj e).1
 ·refine Nat.eq_of_testBit_eq fun j=>?_
  rw[zJX,zFs (nd.filter _) j,bS,decide_eq_true_eq,decide_eq_true_eq,bV]
  by_cases hj:j∈S
  ·have hpj:p≠j:=fun z=>hp (z▸hj)
   have c2:(A++p::(B++p::C)).count j=2:=h.two (by simp[hj])
   have:=h.crs p (by simp) j (by simp[hj]) hpj
   rw[zG9 hpj hA hB hC c2] at this
   rw[← this]
   have e3:(p::B).count j=B.count j:=by rw[cE];simp[hpj]
   rw[zD8,if_neg hpj,ci,ci] at c2
   rw[e3]
   simp only[hj,true_and,decide_eq_true_eq]
   omega
  ·simp only[hj,false_and,iff_false]
   have:B.count j=0:=by
    by_cases hpj:p=j
    ·subst hpj;exact dB.mpr hB
    ·have c0:=h.cnt j
     rw[if_neg (by simp[hj,Ne.symm hpj]),zD8,if_neg hpj,ci,ci] at c0
     omega
   omega
noncomputable def zPT(q:Nat×Nat→Bool)(os:List Nat)(k:Nat)(r:List Nat):List (List Nat):=wch r (os.getD k 0) (wR ((os.take k).filter (wz q (os.getD k 0))))
noncomputable def wx(q:Nat×Nat→Bool)(os:List Nat):Nat→Nat→List Nat→Option (List Nat)
 | 0,_,_=>none
 | d+1,k,r=>if k=os.length then some r else (zPT q os k r).findSome? (wx q os d (k+1))
theorem zAE{os:List Nat}{k:Nat}(h:k<os.length):os.take (k+1)=os.take k++[os.getD k 0]:=yS (by simp[cJ,h])
theorem zBz{os:List Nat}{k:Nat}(nd:os.Nodup)(h:k<os.length):os.getD k 0∉os.take k:=by
 have:(os.take (k+1)).Nodup:=nd.sublist (cX _ _)
 rw[zAE h] at this
 intro z
 exact(dm.mp this).2.2 _ z _ (bH.mpr rfl) rfl
theorem zDm{q:Nat×Nat→Bool}{os:List Nat}(nd:os.Nodup):∀(d k:Nat) (r w:List Nat),k≤os.length→yP q (os.take k) r→wx q os d k r=some w→yP q os w
 | 0,_,_,_,_,_,h=>by cases h
 | d+1,k,r,w,hk,ht,h=>by
  unfold wx at h
  by_cases he:k=os.length
  ·rw[if_pos he] at h
   cases h
   rw[he,cU] at ht
   exact ht
  ·rw[if_neg he] at h
   obtain⟨x,hx,hw⟩:=List.exists_of_findSome?_eq_some h
   have hk':k<os.length:=by omega
   refine zDm nd d (k+1) x w (by omega) ?_ hw
   rw[zAE hk']
   exact(ht.put (zBz nd hk') (nd.sublist (cX _ _)) hx).1
theorem zHa{os t:List Nat}{o:Nat}(nd:os.Nodup){k:Nat}(hk:k<os.length):((o::t).filter fun x=>decide (x∈os.take (k+1))).filter (fun x=>decide (x≠os.getD k 0))=(o::t).filter fun x=>decide (x∈os.take k):=by
 rw[List.filter_filter]
 refine eE fun x u0=>?_
 rw[zAE hk,bS]
 have:=zBz nd hk
 simp only[dk,decide_eq_true_eq,bR,bH]
 constructor
 ·rintro⟨h1,h2 | h2⟩
  ·exact h2
  ·exact absurd h2 h1
 ·intro h
  exact⟨fun z=>this (z▸h),.inl h⟩
theorem zEw{q:Nat×Nat→Bool}{os t:List Nat}{o:Nat}(nd:os.Nodup)(h0:∃ tl,os=o::tl)(ht:yP q os (o::t)):∀(d k:Nat),1≤k→k≤os.length→os.length<d+k→wx q os d k ((o::t).filter fun x=>decide (x∈os.take k))≠none
 | 0,k,_,h2,h3=>by omega
 | d+1,k,h1,h2,h3=>by
  unfold wx
  by_cases he:k=os.length
  ·rw[if_pos he];simp
  ·rw[if_neg he]
   have hk:k<os.length:=by omega
   have ok:o∈os.take k:=by
    obtain⟨tl,rfl⟩:=h0
    cases k with
    | zero=>omega
    | succ k=>simp
   have ok1:o∈os.take (k+1):=by rw[zAE hk];exact dW _ ok
   have op:o≠os.getD k 0:=fun z=>zBz nd hk (z▸ok)
   have T1:=ht.sub (T:=os.take (k+1)) fun x hx=>cq hx
   have e1:(o::t).filter (fun x=>decide (x∈os.take (k+1)))=o::t.filter (fun x=>decide (x∈os.take (k+1))):=List.filter_cons_of_pos (by simp[ok1])
   have e2:=zHa (t:=t) (o:=o) nd hk
   rw[e1] at T1 e2
   rw[zAE hk] at T1
   have hm:=T1.cut (zBz nd hk) (nd.sublist (cX _ _)) op
   rw[← zAE hk,e2] at hm
   have ih:=zEw nd h0 ht d (k+1) (by omega) (by omega) (by omega)
   rw[e1] at ih
   intro z
   exact ih (List.findSome?_eq_none_iff.mp z _ hm)
noncomputable def Told(n:Nat)(q:Nat×Nat→Bool):Prop:=∃ w,yP q (bE n) w
theorem zHb(q:Nat×Nat→Bool)(o:Nat):yP q [o] [o,o]:=by
 refine⟨fun x=>?_,fun i hi j hj n=>?_⟩
 ·rw[cE,cE,List.count_nil]
  by_cases h:o=x
  ·subst h;simp
  ·simp[h,Ne.symm h]
 ·rw[bH.mp hi,bH.mp hj] at n
  exact absurd rfl n
structure Ord (n:Nat) (os:List Nat):Prop where
 nd:os.Nodup
 len:os.length=n
 lt:∀ x∈os,x<n
theorem Ord.mem{n:Nat}{os:List Nat}(h:Ord n os)(x:Nat):x∈os↔x∈bE n:=by
 constructor
 ·intro q;exact cb.mpr (h.lt x q)
 ·intro q
  refine Classical.byContradiction fun hx=>?_
  have:=(cR.mpr ⟨hx,h.nd⟩).length_le_of_subset (l₂:=bE n) fun y hy=>by
   rcases ce.mp hy with rfl | hy
   ·exact q
   ·exact cb.mpr (h.lt y hy)
  rw[bu,bT,h.len] at this
  omega
theorem zKX{n:Nat}{q:Nat×Nat→Bool}{o:Nat}{tl:List Nat}(h:Ord n (o::tl))(d:Nat)(hd:n≤d) :
  (∀ w,wx q (o::tl) d 1 [o,o]=some w→yP q (bE n) w)∧(Told n q→wx q (o::tl) d 1 [o,o]≠none):=by
 constructor
 ·intro w hw
  exact(zDm h.nd d 1 _ w (by simp) (zHb q o) hw).congr h.mem
 ·rintro⟨w,hw⟩
  have hw2:yP q (o::tl) w:=hw.congr fun x=>(h.mem x).symm
  obtain⟨t,ht⟩:=hw2.begin (cc ..)
  have:=zEw h.nd ⟨tl,rfl⟩ ht d 1 (bF _) (by simp) (by rw[h.len];omega)
  have e:(o::t).filter (fun x=>decide (x∈(o::tl).take 1))=[o,o]:=by
   have c:=ht.two (x:=o) (by simp)
   have:∀ l:List Nat,l.filter (fun x=>decide (x∈(o::tl).take 1))=bL (l.count o) o:=by
    intro l
    induction l with
    | nil=>rfl
    | cons a r ih =>
     rw[dA,cE,ih]
     by_cases ha:a=o
     ·subst ha;simp[br]
     ·have:(a==o)=false:=by simpa using ha
      simp[ha]
   rw[this,c];rfl
  rw[e] at this
  exact this
theorem yP.ring{n:Nat}{q:Nat×Nat→Bool}{w:List Nat}(h:yP q (bE n) w):zA3 n w:=by
 refine List.perm_iff_count.mpr fun x=>?_
 rw[h.cnt x,ci,zDi]
 by_cases hx:x<n
 ·rw[if_pos (cb.mpr hx),if_pos hx]
 ·rw[if_neg (fun z=>hx (cb.mp z)),if_neg hx]
theorem yP.web{n:Nat}{q:Nat×Nat→Bool}{w:List Nat}(h:yP q (bE n) w):zS n (yA w)=zS n q:=zIH fun p hp=>by
 obtain⟨i,j⟩:=p
 obtain⟨h1,h2⟩:=zB7.mp hp
 dsimp only at h1 h2
 rw[h.crs i (cb.mpr (by omega)) j (cb.mpr h2) (by omega)]
 unfold wz
 rw[df (by omega),Nat.max_eq_right (by omega)]
 simp;omega
end K
namespace K
open L2 L3 HS
theorem zNZ{σ:S2}{G:Gp}{t u:ze}{x y:D}(h:WkE t σ G x)(h':zi u σ G y):WkE (yK (zA t (zA u zG))) σ G (.tup [x,y]):=fun G2 e R q=>h G2 e _ fun G3 e3=>h' G3 (e.trans e3) _ ⟨by rw[sizeLine_eq];simp,q G3 e3⟩
theorem zHc{nss:List (List Int)}(h:0<nss.length):zBX nss∈nss:=by
 unfold zBX
 have hl:argBest (HX.gtT nss) (nss.length-1)<nss.length:=by have:=zCa (HX.gtT nss) (nss.length-1);omega
 simp[cJ,hl]
noncomputable def zKY(n:Nat)(q:Nat×Nat→Bool)(os:List Nat):List (List Int):=(oth n os).map fun j=>[((os.filter (wz q j)).length:Int),(j:Int)]
noncomputable def zAM(n:Nat)(q:Nat×Nat→Bool):Nat→List Nat
 | 0=>[]
 | k+1=>zAM n q k++[((zBX (zKY n q (zAM n q k))).getD 1 0).toNat]
theorem zHd{n:Nat}{os:List Nat}(h:os.length<n):∃ y,y∈oth n os:=by
 obtain⟨y,h1,h2⟩:=HT3.zAL (P:=fun j=>j∈os) (M:=n) (l:=os) (fun j u0 hj=>hj) h
 exact⟨y,bV.mpr ⟨cb.mpr h1,by simp[h2]⟩⟩
theorem zFu{n:Nat}{q:Nat×Nat→Bool}{os:List Nat}(h:os.length<n):∃ z,z∈oth n os∧zBX (zKY n q os)=[((os.filter (wz q z)).length:Int),(z:Int)]:=by
 obtain⟨y,hy⟩:=zHd h
 obtain⟨z,hz,hz2⟩:=bQ.mp (zHc (nss:=zKY n q os) (by unfold zKY;rw[bx];exact List.length_pos_of_mem hy))
 exact⟨z,hz,hz2.symm⟩
theorem zDC{n:Nat}{q:Nat×Nat→Bool}:∀ k,k≤n→(zAM n q k).Nodup∧(zAM n q k).length=k∧∀ x∈zAM n q k,x<n
 | 0,_=>⟨List.nodup_nil,rfl,fun x hx=>by cases hx⟩
 | k+1,hk=>by
  obtain⟨h1,h2,h3⟩:=zDC (n:=n) (q:=q) k (by omega)
  obtain⟨z,hz,e⟩:=zFu (n:=n) (q:=q) (os:=zAM n q k) (by omega)
  have e2:zAM n q (k+1)=zAM n q k++[z]:=by rw[zAM,e];rfl
  rw[e2]
  have hzo:z∉zAM n q k:=by
   have:=(bV.mp hz).2
   simpa using this
  refine⟨dm.mpr ⟨h1,by simp,fun a ha b hb e=>by rw[bH.mp hb] at e;exact hzo (by rw[← e];exact ha)⟩,by rw[bI,h2];rfl,fun x hx=>?_⟩
  rcases bR.mp hx with hx | hx
  ·exact h3 x hx
  ·rw[bH.mp hx];exact zEr hz
theorem zHe(n:Nat)(q:Nat×Nat→Bool):Ord n (zAM n q n):=⟨(zDC n (bF n)).1,(zDC n (bF n)).2.1,(zDC n (bF n)).2.2⟩
noncomputable def yJ:List D→Gp→(List D→Gp→Prop)→Prop:=fun ds G R=>∃(n:Nat) (q:Nat×Nat→Bool),ds=[zS n q]∧1≤n∧n≤9∧R ((zAM n q n).map nD) G
theorem zDw:∀ ds G R R',(∀ ls G',R ls G'→R' ls G')→yJ ds G R→yJ ds G R':=by
 rintro ds G R R' h ⟨n,q,e,h1,h9,k⟩
 exact⟨n,q,e,h1,h9,h _ _ k⟩
noncomputable def zAc:wD:=(zX (zn (za (yw zG)) (gN 1)) (zX (zGC (xB (zP (fII fun i j=>.bl (decide (i<j))) (zL zk (zA (zB 1) zG)) (zP yh (zB 0) (xC (.int 0))))) (zX (zAm 2 (yE (iR1 (zA (zP yh (zB 0) (xC (.int 0))) zG)) bd1 (xB (zP (fIn true) (zB 3) (zB 1))) (zB 3))) (wF (zDt (zB 1) (zA (zP yh (yG zL8 (yE (iV (zB 2)) bd1 zDJ (yK (zA (zL zk (zA (za (zq zm (zA (zB 0) (zA (zB 3) (zA (zB 1) zG))))) zG)) (zA (zB 3) zG))))) (xC (.int 1))) zG))))) (zw (zB 1))))
theorem zGV(ds:List D)(G:Gp)(R:Q2)(h:spL yJ ds G R):ds.length=1∧zAc (zj R) (zV ["web","order","rest"] ds) G:=by
 obtain⟨n,q,rfl,h1,h9,h⟩:=h
 refine⟨rfl,?_⟩
 unfold zAc
 rw[show zV ["web","order","rest"] [zS n q]=[some (zS n q),none,none] from rfl]
 refine yB (zAB (ds:=[]) (fun G2 e R q=>zAU (yI ⟨by rw[sizeLine_eq];simp,q⟩)) fun l hl=>?_)
 simp only[gN,bo,bn]
 refine Fg.of ⟨fun m σ G'=>∃(os:List Nat) (o:Option D),σ=[some (zS n q),some (.adr l),o]∧m+os.length=n∧os=zAM n q os.length∧G'.m l=some (os.map nD)∧L3.Sub G G',⟨n,[],none,rfl,rfl,rfl,zF,.new hl⟩,?_⟩
 rintro m σ G1 ⟨os,o,rfl,hm,hos,g1,sb⟩
 obtain⟨nd,u0,hlt⟩:=zDC (n:=n) (q:=q) os.length (by omega)
 rw[← hos] at nd hlt
 have t0:=zDd (g:=fun i j=>.bl (decide (i<j))) (zD7 (t:=zB 1) (σ:=[some (zS n q),some (.adr l),o]) (G:=G1) (a:=l) (zE rfl) (.inl g1)) (zDh (n:=n) (q:=q) (zE (i:=0) rfl))
 refine zAR t0 G1 (.refl _) _ ?_
 rw[bx]
 by_cases hd:os.length<n
 ·rw[decide_eq_true (by omega),if_pos rfl]
  have c:=zAt (σ:=[some (zS n q),some (.adr l),o]) (G:=G1) (bd:=bd1) (tc:=(xB (zP (fIn true) (zB 3) (zB 1)))) (te:=zB 3) (fun d=>match d with | .int v=>!decide (v.toNat∈os) | _=>false) (fun d=>d) (fun d=>[d])
   (show PuI (iR1 (zA (zP yh (zB 0) (xC (.int 0))) zG)) _ _ ((bE n).map nD) by
    rw[← zAu]
    exact zDM (zJ (zDh (q:=q) (zE rfl)) zT) (by omega)) fun x hx=>by
   obtain⟨j,u0,rfl⟩:=bQ.mp hx
   refine⟨rfl,zAR (yi (x:=nD j) (y:=.adr l) (zE rfl) (zE rfl) fun G2 e R q'=>⟨os.map nD,e.ls (.inl g1),rfl,yU os,?_⟩),fun u0=>zE rfl⟩
   rw[if_pos rfl,zCZ];exact q'
  have e:bK (fun d=>d) (eh (fun d=>match d with | .int v=>!decide (v.toNat∈os) | _=>false) ((bE n).map nD))=(oth n os).map nD:=by
   rw[eu,dt];rfl
  rw[e] at c
  refine zIb c fun lr hlr=>?_
  simp only[bo,bn]
  have nlr:l≠lr:=fun z=>by rw[z] at g1;rw[g1] at hlr;cases hlr
  have g2:(zN G1 lr ((oth n os).map nD)).m l=some (os.map nD):=by rw[zO nlr];exact g1
  have g2r:Ls (zN G1 lr ((oth n os).map nD)) lr ((oth n os).map nD):=.own
  have sb2:L3.Sub G (zN G1 lr ((oth n os).map nD)):=sb.trans (.new hlr)
  generalize zN G1 lr ((oth n os).map nD)=G2 at g2 g2r sb2
  obtain⟨y,hy⟩:∃ y,y∈oth n os:=by
   obtain⟨y,h1,h2⟩:=HT3.zAL (P:=fun j=>j∈os) (M:=n) (l:=os) (fun j u0 hj=>hj) hd
   exact⟨y,bV.mpr ⟨cb.mpr h1,by simp[h2]⟩⟩
  have cm:=zEs (σ:=[some (zS n q),some (.adr l),some (.adr lr)]) (G:=G2) (bd:=bd1) (tc:=zDJ) (te:=yK (zA (zL zk (zA (za (zq zm (zA (zB 0) (zA (zB 3) (zA (zB 1) zG))))) zG)) (zA (zB 3) zG))) (fun u0=>true) (fun d=>match d with | .int v=>.tup [nD (os.filter (wz q v.toNat)).length,.int v] | _=>.non) (fun d=>[d]) (zBD (zE (i:=2) (d:=.adr lr) rfl) g2r) fun x hx=>by
   obtain⟨j,hj,rfl⟩:=bQ.mp hx
   refine⟨rfl,fun G3 e R q'=>q' G3 (.refl _),fun u0=>zNZ (x:=nD (os.filter (wz q j)).length) (y:=nD j) (fun G3 e R q'=>?_) (zE rfl)⟩
   refine(show zL zk _ _ _ _ from zAo (zAV (wn (zu (d:=zS n q) (zE rfl) (zu (d:=nD j) (zE rfl) (zu (d:=.adr l) (zE rfl) (yI ⟨n,q,j,os,.adr l,rfl,e.ls (.inl g2),zEr hj,hlt,fun lt hlt'=>?_⟩)))))))
   exact yI ⟨_,.own,by rw[bx];exact q' _ (.new hlt')⟩
  rw[List.filter_eq_self.mpr (fun u0 u0=>rfl)] at cm
  have e2:bK (fun d=>match d with | .int v=>D.tup [nD (os.filter (wz q v.toNat)).length,.int v] | _=>.non) ((oth n os).map nD)=((oth n os).map fun j=>[((os.filter (wz q j)).length:Int),(j:Int)]).map tupI:=by
   rw[cH,cH];rfl
  rw[e2] at cm
  have ln:0<((oth n os).map fun j=>[((os.filter (wz q j)).length:Int),(j:Int)]).length:=by
   rw[bx];exact List.length_pos_of_mem hy
  obtain⟨z,hz,hz2⟩:=zFu (q:=q) hd
  have hz2:=hz2.symm
  unfold zKY at hz2
  have pz:zi (zP yh (yG zL8 (yE (iV (zB 2)) bd1 zDJ (yK (zA (zL zk (zA (za (zq zm (zA (zB 0) (zA (zB 3) (zA (zB 1) zG))))) zG)) (zA (zB 3) zG))))) (xC (.int 1))) [some (zS n q),some (.adr l),some (.adr lr)] G2 (nD z):=by
   refine yi (x:=tupI [((os.filter (wz q z)).length:Int),(z:Int)]) (y:=.int 1) (fun G3 e R q'=>cm G3 e _ ⟨_,rfl,ln,?_⟩) yD fun u0 u0 u0 q'=>q'
   rw[← hz2];exact q'
  refine zCi (zC9 (l:=l) (zE rfl) g2 (zu pz (yI ⟨_,g2,by rw[bx];omega,?_⟩)))
  refine⟨[some (zS n q),some (.adr l),none],_,.keep (.keep (.skip .nil)),.refl _,m-1,by omega,os++[z],none,rfl,by rw[bI];simp only[bu,bw];omega,?_,?_,sb2.put hl⟩
  ·rw[bI,show([z]:List Nat).length=1 from rfl,zAM,← hos]
   unfold zKY
   rw[← hz2]
   rfl
  ·rw[zF,cr];rfl
 ·rw[decide_eq_false (by omega),if_neg (by simp)]
  have hlen:os.length=n:=by
   have:os.length≤n:=by
    have:=nd.length_le_of_subset (l₂:=bE n) fun x hx=>cb.mpr (hlt x hx)
    rw[bT] at this;exact this
   omega
  show FgR R (.adr l) G1
  rw[hlen] at hos
  rw[← hos] at h
  refine⟨zN G l (os.map nD),⟨fun a o e=>?_,fun a o e=>sb.ro a o e⟩,h l hl⟩
  by_cases ha:a=l
  ·subst ha;rw[zF] at e;cases e;exact g1
  ·rw[zO ha] at e;exact sb.m a o e
theorem zIh{σ:S2}{G:Gp}{t u:ze}{l:Addr}{ds:List D}{i:Int}{R:List D→Gp→Prop}(h:zi t σ G (.adr l))(h1:zi u σ G (.int i))(hl:Ls G l ds)(q:R (L3.cutD ds none (some i)) G):zAw t yo (yO u) σ G R:=h G (.refl G) _ (h1 G (.refl G) _ ⟨ds,hl,q⟩)
noncomputable def zQR:Option (List Nat)→D
 | none=>.non
 | some r=>uD r
noncomputable def yC(d:Nat):Sp2:=fun ds G R=>∃(n:Nat) (q:Nat×Nat→Bool) (os:List Nat) (k:Nat) (r:List Nat) (lo:Addr),ds=[zS n q,.adr lo,nD k,uD r]∧Ls G lo (os.map nD)∧os.length=n∧n≤7∧(∀ x∈os,x<n)∧1≤k∧k≤n∧n<d+k∧r.length=2*k∧(∀ x∈r,x≤9)∧R (zQR (wx q os d k r)) G
theorem zMA{ds:List D}{G:Gp}{R:Q2}(h:yC 0 ds G R):False:=by
 obtain⟨n,q,os,k,r,lo,u0,u0,u0,u0,u0,u0,h1,h2,u0⟩:=h
 omega
noncomputable def zD9(d:Nat):wD:=(zX (xIf (xB (zP (fEq false) (zB 2) (zL zk (zA (zB 1) zG)))) (zw (zB 3)) zr) (zX (zn (zP yh (zB 1) (zB 2)) (gN 4)) (zX (wV (iF (zq yZ (zA (zB 3) (zA (zB 4) (zA (za (zq zm (zA (zB 0) (zA (zB 4) (zA (za (zAw (zB 1) yo (yO (zB 2)))) zG))))) zG))))) (gN 5) (zX (zn (zL (yC d) (zA (zB 0) (zA (zB 1) (zA (zP yN (zB 2) (xC (.int 1))) (zA (zB 5) zG))))) (gN 6)) (xIf (xB (zP (zHR true) (zB 6) (xC .non))) (zw (zB 6)) zr))) (zw (xC .non)))))
theorem zNa(d:Nat)(ds:List D)(G:Gp)(R:Q2)(h:yC (d+1) ds G R):ds.length=4∧zD9 d (zj R) (zV ["web","order","done","ring","place","longer","found"] ds) G:=by
 obtain⟨n,q,os,k,r,lo,rfl,hlo,hon,hn,hlt,hk1,hkn,hd,hr,hrx,h⟩:=h
 refine⟨rfl,?_⟩
 unfold zD9
 rw[show zV ["web","order","done","ring","place","longer","found"] [zS n q,.adr lo,nD k,uD r]=[some (zS n q),some (.adr lo),some (nD k),some (uD r),none,none,none] from rfl]
 have t0:PuT (xB (zP (fEq false) (zB 2) (zL zk (zA (zB 1) zG)))) [some (zS n q),some (.adr lo),some (nD k),some (uD r),none,none,none] G (decide (k=n)):=zAR (zDj (x:=nD k) (y:=nD n) (zE rfl) (by
  have:=zD7 (t:=zB 1) (σ:=[some (zS n q),some (.adr lo),some (nD k),some (uD r),none,none,none]) (G:=G) (a:=lo) (zE rfl) hlo
  rw[bx,hon] at this
  exact this) rfl rfl (by rw[if_neg (by simp),zDP]))
 refine zGQ t0 (fun hb=>zDk (zE rfl) (.of (by rw[wx,if_pos (by rw[hon];exact of_decide_eq_true hb)] at h;exact h))) fun hb=>?_
 have hkn':k<n:=by have:=of_decide_eq_false hb;omega
 have hko:k<os.length:=by omega
 rw[wx,if_neg (by omega)] at h
 have hwch:zPT q os k r=wch r os[k] (wR ((os.take k).filter (wz q os[k]))):=by unfold zPT;simp[cJ,hko]
 rw[hwch] at h
 clear hwch
 have ixp:zi (zP yh (zB 1) (zB 2)) [some (zS n q),some (.adr lo),some (nD k),some (uD r),none,none,none] G (nD os[k]):=zBV (k:=k) (zE (d:=.adr lo) rfl) (zE rfl) hlo (wB (by rw[bY];simp[hko]))
 have hp:os[k]<n:=hlt _ (di _)
 refine zBT ixp ?_
 simp only[gN,bo,bn]
 generalize os[k]=p at hp h
 refine wo (zDN (zNF (wn (zu (d:=uD r) (zE rfl) (zu (d:=nD p) (zE rfl) (zAo (zAV (wn (zu (d:=zS n q) (zE rfl) (zu (d:=nD p) (zE rfl) (zAo (zAV (zIh (i:=(k:Int)) (zE (i:=1) (d:=.adr lo) rfl) (zE (i:=2) (d:=nD k) rfl) hlo fun ls hls=>?_)))))))))))))
 rw[zIc (by rw[bx];omega),← List.map_take]
 refine yI ⟨n,q,p,os.take k,.adr ls,rfl,.inl zF,hp,fun x hx=>hlt x (cq hx),fun lc hlc=>?_⟩
 have cl:((os.take k).filter (wz q p)).length≤9:=by
  have a:=cN (wz q p) (os.take k)
  rw[bW] at a
  omega
 refine yI ⟨r,(os.take k).filter (wz q p),p,lc,rfl,.own,by omega,hrx,fun x hx=>?_,cl,fun lw hlw=>?_⟩
 ·have:=hlt x (cq (bV.mp hx).1);omega
 have hG3:(zN (zN (zN G ls ((os.take k).map nD)) lc (((os.take k).filter (wz q p)).map nD)) lw ((wch r p (wR ((os.take k).filter (wz q p)))).map uD)).m lw=some ((wch r p (wR ((os.take k).filter (wz q p)))).map uD):=zF
 have sG:L3.Sub G (zN (zN (zN G ls ((os.take k).map nD)) lc (((os.take k).filter (wz q p)).map nD)) lw ((wch r p (wR ((os.take k).filter (wz q p)))).map uD)):=((L3.Sub.new hls).trans (.new hlc)).trans (.new hlw)
 generalize zN (zN (zN G ls ((os.take k).map nD)) lc (((os.take k).filter (wz q p)).map nD)) lw ((wch r p (wR ((os.take k).filter (wz q p)))).map uD)=G3 at sG hG3 ⊢
 have own3:=hG3
 clear hG3
 generalize hws:wch r p (wR ((os.take k).filter (wz q p)))=ws at h own3 ⊢
 refine zBL (fun i G'=>G'=G3∧∀ w∈ws.take i,wx q os d (k+1) w=none) ⟨rfl,fun w hw=>by simp at hw⟩ (fun i G' hI=>by rw[hI.1];exact .inl own3) ?_ ?_
 ·rintro i x hx G' ⟨rfl,hno⟩
  rw[bY] at hx
  obtain⟨w,hw,rfl⟩:=Option.map_eq_some_iff.mp hx
  obtain⟨w1,w2⟩:=zFp r.length (bF _) (show w∈wP r p (wR ((os.take k).filter (wz q p))) r.length from by rw[show wP r p (wR ((os.take k).filter (wz q p))) r.length=ws from hws];exact cf hw)
  simp only[gN,bo,bn]
  refine yB (zBS (ds:=[zS n q,.adr lo,nD (k+1),uD w]) (zJ (zE rfl) (zJ (zE rfl) (zJ (d:=nD (k+1)) (zEW (i:=(k:Int)) (j:=1) (zE rfl) yD) (zJ (zE rfl) zT)))) ⟨n,q,os,k+1,w,lo,rfl,hlo.sub sG,hon,hn,hlt,by omega,by omega,by omega,by omega,fun x hx=>?_,?_⟩)
  ·rcases w2 x hx with rfl | z
   ·omega
   ·exact hrx x z
  ·simp only[gN,bo,bn]
   cases hg:wx q os d (k+1) w with
   | none =>
    refine zI5 (zAR (yi (x:=.non) (y:=.non) (zE rfl) yD fun u0 u0 u0 q'=>q')) ⟨.keep (.keep (.keep (.keep (.keep (.skip (.skip .nil)))))),_,.refl _,rfl,fun w' hw'=>?_⟩
    rw[yS hw] at hw'
    rcases bR.mp hw' with z | z
    ·exact hno w' z
    ·rw[bH.mp z];exact hg
   | some r' =>
    refine zPE (zAR (yi (x:=uD r') (y:=.non) (zE rfl) yD fun u0 u0 u0 q'=>q')) (zDk (d:=uD r') (zE rfl) ⟨G,sG,?_⟩)
    have:ws.findSome? (wx q os d (k+1))=some r':=by
     have e:ws=ws.take i++w::ws.drop (i+1):=by
      have h1:ws=ws.take i++ws.drop i:=(cM i ws).symm
      have h2:ws.drop i=w::ws.drop (i+1):=by
       obtain⟨hi,he⟩:=bN.mp hw
       rw[List.drop_eq_getElem_cons hi,he]
      rw[← h2];exact h1
     rw[e,List.findSome?_append,List.findSome?_eq_none_iff.mpr hno,List.findSome?_cons,hg]
     rfl
    rw[this] at h
    exact h
 ·rintro G' ⟨rfl,hno⟩
  dsimp only
  rw[bx,cU] at hno
  rw[List.findSome?_eq_none_iff.mpr hno] at h
  exact zDk (d:=.non) yD ⟨G,sG,h⟩
noncomputable def zFv(n:Nat)(q:Nat×Nat→Bool):Option (List Nat):=match zAM n q n with
 | []=>none
 | o::tl=>wx q (o::tl) 8 1 [o,o]
theorem zMB{n:Nat}{q:Nat×Nat→Bool}(h1:1≤n)(h7:n≤7):(∀ w,zFv n q=some w→yP q (bE n) w)∧(Told n q→zFv n q≠none):=by
 have o:=zHe n q
 unfold zFv
 cases h:zAM n q n with
 | nil=>rw[h] at o;have:=o.len;simp at this;omega
 | cons p t=>rw[h] at o;exact zKX o 8 (by omega)
noncomputable def wY:Sp2:=fun ds G R=>∃(n:Nat) (q:Nat×Nat→Bool),ds=[zS n q]∧1≤n∧n≤7∧R (zQR (zFv n q)) G
noncomputable def zCG:wD:=(zX (wF (zL wJ (zA (zP yh (zB 0) (xC (.int 0))) (zA (xC (.int 7)) zG)))) (zX (zn (za (zq yJ (zA (zB 0) zG))) (gN 1)) (zw (zL (yC 8) (zA (zB 0) (zA (zB 1) (zA (xC (.int 1)) (zA (yK (zA (zP yh (zB 1) (xC (.int 0))) (zA (zP yh (zB 1) (xC (.int 0))) zG))) zG))))))))
theorem zKZ(ds:List D)(G:Gp)(R:Q2)(h:wY ds G R):ds.length=1∧zCG (zj R) (zV ["web","order"] ds) G:=by
 obtain⟨n,q,rfl,h1,h7,h⟩:=h
 refine⟨rfl,?_⟩
 unfold zCG
 rw[show zV ["web","order"] [zS n q]=[some (zS n q),none] from rfl]
 refine(show zX (wF _) _ _ _ _ from zBS (ds:=[nD n,nD 7]) (zJ (zDh (q:=q) (zE rfl)) (zJ yD zT)) ⟨n,7,rfl,h7,?_⟩)
 show zX (zn (za (zq yJ (zA (zB 0) zG))) (gN 1)) _ (zj R) [some (zS n q),none] G
 refine yB (zAV (wn (zu (d:=zS n q) (zE rfl) (yI ⟨n,q,rfl,h1,by omega,fun lo hlo=>?_⟩))))
 simp only[gN,bo,bn]
 obtain⟨nd,hl,hlt⟩:=zHe n q
 unfold zFv at h
 generalize zAM n q n=os at nd hl hlt hlo h ⊢
 obtain⟨p,t,rfl⟩:∃ p t,os=p::t:=by
  cases os with
  | nil=>simp at hl;omega
  | cons p t=>exact⟨p,t,rfl⟩
 have ix:∀ {σ:S2},look σ 1=some (.adr lo)→zi (zP yh (zB 1) (xC (.int 0))) σ (zN G lo ((p::t).map nD)) (nD p):=fun {σ} hs=>zBV (k:=0) (zE hs) yD .own (wB (j:=0) rfl)
 have hp:=hlt p (cc ..)
 refine zBS (ds:=[zS n q,.adr lo,nD 1,uD [p,p]]) (zJ (zE rfl) (zJ (zE rfl) (zJ yD (zJ (zA1 (zJ (ix rfl) (zJ (ix rfl) zT)) (by simp)) zT)))) ⟨n,q,p::t,1,[p,p],lo,rfl,.own,hl,h7,hlt,by omega,by omega,by omega,rfl,fun x hx=>?_,?_⟩
 ·simp only[ce,db,or_false] at hx
  rcases hx with rfl | rfl<;>omega
 ·exact⟨G,.new hlo,h⟩
end K
namespace K
open L3
theorem zHf{X:List Nat}{i j:Nat}(hi:i∉X)(hj:j∉X):both X (i,j)=[]:=by
 rw[zBF hi,dB.mpr hj];rfl
theorem zEx(X Y:List Nat)(p:Nat×Nat):both (X++Y) p=both X p++both Y p:=cZ _ _
theorem zMC(q:Nat×Nat→Bool):yP q [] []:=⟨fun x=>by simp,fun i hi=>by cases hi⟩
theorem yP.glue{q:Nat×Nat→Bool}{S T u v:List Nat}(hu:yP q S u)(hv:yP q T v)(dj:∀ x∈S,x∉T)(hq:∀ x∈T,∀ y∈S,wz q x y=false):yP q (S++T) (u++v):=by
 have oS:∀ x∈S,x∉v:=fun x hx z=>dj x hx (hv.mem.mp z)
 have oT:∀ x∈T,x∉u:=fun x hx z=>dj x (hu.mem.mp z) hx
 have mix:∀ i∈S,∀ j∈T,yA (u++v) (i,j)=false:=fun i hi j hj=>by
  have hij:i≠j:=fun e=>dj i hi (e▸hj)
  rw[yf,zEx,zFq u,zBF (oT j hj),zBF (oS i hi),hu.two hi,hv.two hj]
  simp[zKU,br]
 refine⟨fun x=>?_,fun i hi j hj n=>?_⟩
 ·rw[ci,hu.cnt x,hv.cnt x]
  by_cases h1:x∈S
  ·simp[h1,dj x h1]
  ·by_cases h2:x∈T<;>simp[h1,h2]
 ·rcases bR.mp hi with hi | hi<;>rcases bR.mp hj with hj | hj
  ·rw[yf,zEx,zHf (oS i hi) (oS j hj),cO,← yf]
   exact hu.crs i hi j hj n
  ·rw[mix i hi j hj,zEp,hq j hj i hi]
  ·rw[zEu,mix j hj i hi,hq i hi j hj]
  ·rw[yf,zEx,zHf (oT i hi) (oT j hj),bB,← yf]
   exact hv.crs i hi j hj n
structure zIi (n:Nat) (q:Nat×Nat→Bool) (os:List Nat):Prop where
 nd:os.Nodup
 lt:∀ x∈os,x<n
 near:∀ a,a<os.length→(∀ y∈os.take a,wz q (os.getD a 0) y=false)→∀ x,x<n→x∉os.take a→∀ y∈os.take a,wz q x y=false
theorem zMD(n:Nat)(q:Nat×Nat→Bool):zIi n q []:=⟨List.nodup_nil,(fun x hx=>by cases hx),(fun a ha=>by simp at ha)⟩
theorem zIi.snoc{n:Nat}{q:Nat×Nat→Bool}{os:List Nat}{z:Nat}(h:zIi n q os)(hz:z<n)(hzo:z∉os)(hn:(∀ y∈os,wz q z y=false)→∀ x,x<n→x∉os→∀ y∈os,wz q x y=false):zIi n q (os++[z]):=by
 refine⟨dm.mpr ⟨h.nd,by simp,fun a ha b hb e=>by rw[bH.mp hb] at e;exact hzo (e▸ha)⟩,fun x hx=>?_,fun a ha=>?_⟩
 ·rcases bR.mp hx with hx | hx
  ·exact h.lt x hx
  ·rw[bH.mp hx];exact hz
 ·rw[bI,List.length_singleton] at ha
  by_cases hl:a<os.length
  ·rw[List.take_append_of_le_length (by omega)]
   have:(os++[z]).getD a 0=os.getD a 0:=by simp[cJ,cj hl]
   rw[this]
   exact h.near a hl
  ·obtain rfl:a=os.length:=by omega
   rw[List.take_left' rfl]
   have:(os++[z]).getD os.length 0=z:=by simp[cJ]
   rw[this]
   exact hn
set_option genInjectivity true in
inductive Stk (q:Nat×Nat→Bool) (bs:List Nat):Nat→List (List Nat)→Prop
 | nil:Stk q bs 0 []
 | lvl {k:Nat} {l seg:List (List Nat)} (h:Stk q bs k l) (hs:∀ w∈seg,w.length=2*(k+1)∧yP q (bs.take (k+1)) w) (hl:seg.length≤42):Stk q bs (k+1) (l++seg)
theorem Stk.len{q:Nat×Nat→Bool}{bs:List Nat}{k:Nat}{l:List (List Nat)}(h:Stk q bs k l):l.length≤42*k:=by
 induction h with
 | nil=>simp
 | lvl h hs hl ih=>rw[bI];omega
theorem Stk.pop{q:Nat×Nat→Bool}{bs:List Nat}{k:Nat}{l':List (List Nat)}(h:Stk q bs k l'):∀ {l:List (List Nat)} {w:List Nat},l'=l++[w]→∃ j,1≤j∧j≤k∧w.length=2*j∧yP q (bs.take j) w∧Stk q bs j l:=by
 induction h with
 | nil=>intro l w e;simp at e
 | @lvl k l0 seg h hs hl ih =>
  intro l w e
  rcases List.eq_nil_or_concat seg with rfl | ⟨s',x,rfl⟩
  ·rw[cO] at e
   obtain⟨j,h1,h2,h3,h4,h5⟩:=ih e
   exact⟨j,h1,by omega,h3,h4,h5⟩
  ·rw[List.concat_eq_append,← bZ] at e
   obtain⟨e1,e2⟩:=List.append_inj' e rfl
   obtain rfl:x=w:=(List.cons.inj e2).1
   rw[List.concat_eq_append] at hs hl
   obtain⟨w1,w2⟩:=hs x (by simp)
   refine⟨k+1,by omega,bF _,w1,w2,?_⟩
   rw[← e1]
   exact .lvl h (fun y hy=>hs y (dW _ hy)) (by rw[bI] at hl;omega)
noncomputable def wgt(ls:List (List Nat)):Nat:=(ls.map fun w=>100 ^ (7-w.length / 2)).sum
theorem zGW(l l':List (List Nat)):wgt (l++l')=wgt l+wgt l':=by unfold wgt;rw[cr,List.sum_append]
theorem zJZ(w:List Nat):wgt [w]=100 ^ (7-w.length / 2):=by simp[wgt]
theorem zNb{ws:List (List Nat)}{j:Nat}(h:∀ w∈ws,w.length=2*j):wgt ws=ws.length*100 ^ (7-j):=by
 induction ws with
 | nil=>simp[wgt]
 | cons w r ih =>
  have e:wgt (w::r)=wgt [w]+wgt r:=zGW [w] r
  rw[e,zJZ,ih (fun x hx=>h x (ca _ hx)),h w (cc ..),bu,Nat.add_mul,Nat.mul_div_cancel_left _ (by omega)]
  omega
theorem zME{ls ws:List (List Nat)}{w:List Nat}{j:Nat}(hj:j<7)(hw:w.length=2*j)(hs:∀ x∈ws,x.length=2*(j+1))(hl:ws.length≤42):wgt (ls++ws)<wgt (ls++[w]):=by
 rw[zGW,zGW,zNb hs,zJZ,hw,Nat.mul_div_cancel_left _ (by omega)]
 have e:7-j=(7-(j+1))+1:=by omega
 rw[e,Nat.pow_succ]
 have:0<100 ^ (7-(j+1)):=Nat.pow_pos (by omega)
 have h2:ws.length*100 ^ (7-(j+1))≤42*100 ^ (7-(j+1)):=Nat.mul_le_mul_right _ hl
 omega
theorem zPU{r:List Nat}{p W j:Nat}(h:r.length=2*j)(hj:j<7):(wch r p W).length≤42:=by
 have:=zFo (r:=r) (p:=p) (W:=W) r.length (bF _)
 refine cC this ?_
 rw[h]
 match j,hj with
 | 0,_=>decide
 | 1,_=>decide
 | 2,_=>decide
 | 3,_=>decide
 | 4,_=>decide
 | 5,_=>decide
 | 6,_=>decide
theorem zMF{q:Nat×Nat→Bool}{S w:List Nat}(h:yP q S w)(nd:S.Nodup):w.length=2*S.length:=by
 have p:w.Perm (S++S):=List.perm_iff_count.mpr fun x=>by
  rw[h.cnt x,ci]
  by_cases hx:x∈S
  ·rw[if_pos hx,nd.count,if_pos hx]
  ·rw[if_neg hx,dB.mpr hx]
 rw[p.length_eq,bI];omega
end K
namespace HT
section
variable {prog:Program} {w:World} {A:Around} {E:Value→Shared→Prop} {s:Shared}
end
end HT
namespace L3
open L2
section
variable {X:Cx} {a b c d e o:Expr} {es:List Expr} {pos p:Pos} {ta tb tc td te:ze} {tl:TL2}
end
section
variable {X:Cx} {a b e o:Expr} {pos p apos cpos:Pos} {ta tb te:ze} {tl:TL2} {t:wW}
theorem zKa:wE X (.type "int") (fun xs H Q=>∃ n:Int,xs=[.str (Str.ofString (toString n))]∧0≤n∧n<10 ^ 10∧Q (.int n) H):=by
 intro pins s σ H xs us Q I r h
 obtain⟨n,rfl,h0,h1,q⟩:=h
 obtain⟨u,rfl,ru⟩:=vals1 r
 obtain⟨t,rfl⟩:=ru
 exact PySem.W.KIN.call_num h0 h1 ⟨.int n,H,I.tok _,⟨_,rfl⟩,q⟩
noncomputable def zA5:Sp2:=fun ds G R=>match ds with | [.str z]=>∃ n:Nat,z=Str.ofString (toString (n:Int))∧n<1000∧R (.int n) G | _=>False
theorem zMG{K:PySem.W.Frag}:zGv K (fun xs H Q=>∃ n:Int,xs=[.str (Str.ofString (toString n))]∧0≤n∧n<10 ^ 10∧Q (.int n) H) zA5:=by
 intro ds G R vs H Q h r d k
 unfold zA5 at h
 split at h
 ·rename_i z
  obtain⟨n,rfl,h1,h⟩:=h
  obtain⟨v,rfl,d1⟩:=zBY d
  unfold zQ at d1
  subst d1
  refine⟨n,rfl,by omega,?_,k _ G h _ H (.refl H) r (by unfold zQ;rfl)⟩
  have:(1000:Int)≤10 ^ 10:=by decide
  omega
 ·exact h.elim
theorem zMH(hg:Gl X "int")(hm:X.mg "int"=none)(ha:A2 X [e] t)(he:starEach [e] X.env=(false,eval e X.env)::starEach [] X.env:=by rfl)(hpl:(backTo pos (starEach [] X.env)).any (·.1)=false:=by rfl) :
  E2 X (.Call (.Name "int" p) [e] [] pos) (zL zA5 t):=zEO zKa zMG hg hm (by decide +kernel) ha (by decide) (by decide) he hpl
theorem zB0:∀ l:List (Str×Tok),zY ((l.map (·.1)).map V.str) (strValues l)
 | []=>.nil
 | (a,tk)::r=>.cons ⟨tk,rfl⟩ (zB0 r)
theorem zMI:MtR X "str.split" (fun x xs H Q=>∃ z sep,x=.str z∧xs=[.str sep]∧(sep.length==0)=false∧z.length≤1000000∧∀ l,H l=none→Q (.ref l) (wd H l (.lst ((Txt.split z sep).map V.str)))):=by
 intro pins s σ H x xs v us Q I rx rs h
 obtain⟨z,sep,rfl,rfl,hy,hz,q⟩:=h
 obtain⟨tk,rfl⟩:=rx
 obtain⟨u,rfl,ru⟩:=vals1 rs
 obtain⟨tu,rfl⟩:=ru
 have hx:z.length≤sizeLine:=by rw[sizeLine_eq];omega
 have hl:=split_le z sep
 have fin:∀(l:List (Str×Tok)) (k:Nat),l.map (·.1)=Txt.split z sep→EP X pins σ Q (.ref s.heap.objs.size) { s with toks:=k,heap:=s.heap.push { cls:=.type "list",data:=.seq (strValues l).toArray } }:=fun l k e=>by
  refine⟨.ref _,_,I.laid (t':=k) (o:=.lst ((Txt.split z sep).map V.str)) (fun b ob q=>bz _ q) (bF _) ?_,rfl,q _ (I.hok.fresh (bF _))⟩
  refine⟨by rw[bx,sizeLine_eq];omega,strValues l,0,?_,bM _ rfl⟩
  rw[← e]
  exact zB0 l
 cases h1:(decide (z.length<sep.length)||decide (Builtin.Str.strKind z<Builtin.Str.strKind sep))
 ·cases hf:(Builtin.Str.occurrences z sep 0 z.length (z.length+1)).isEmpty
  ·have hn:(Builtin.Str.partsBetween z (Builtin.Str.occurrences z sep 0 z.length (z.length+1)) sep.length).length≤sizeLine:=by
    have:Txt.split z sep=Builtin.Str.partsBetween z (Builtin.Str.occurrences z sep 0 z.length (z.length+1)) sep.length:=(if_neg (ne_true_of_eq_false h1)).trans (if_neg (ne_true_of_eq_false hf))
    rw[← this,sizeLine_eq];omega
   refine call_meets F.slot_str_split (typeIs_str _ _ _) F.entry_str_split (F.args_str_split_2 _ _) (meets_str_split_sep z sep tk tu h1 hy hf hx hn) ?_
   show EP X pins σ Q _ { s with toks:=_,heap:=s.heap.push { cls:=.type "list",data:=.seq (strsFrom s.toks (Builtin.Str.partsBetween z (Builtin.Str.occurrences z sep 0 z.length (z.length+1)) sep.length)).toArray } }
   rw[strsFrom_eq]
   exact fin (numbered s.toks _) _ ((numbered_texts _ _).trans ((if_neg (ne_true_of_eq_false h1)).trans (if_neg (ne_true_of_eq_false hf))).symm)
  ·exact call_meets F.slot_str_split (typeIs_str _ _ _) F.entry_str_split (F.args_str_split_2 _ _) (meets_str_split_not_found z sep tk tu h1 hy hf)
    (fin [(z,tk)] _ ((if_neg (ne_true_of_eq_false h1)).trans (if_pos hf)).symm)
 ·exact call_meets F.slot_str_split (typeIs_str _ _ _) F.entry_str_split (F.args_str_split_2 _ _) (meets_str_split_cannot_occur z sep tk tu h1)
   (fin [(z,tk)] _ (if_pos h1).symm)
noncomputable def zGX(to:ze)(t:wW):TL2:=fun σ G R=>to σ G fun d G1=>match d with | .str z=>t σ G1 fun ds G2=>(match ds with | [.str sep]=>(sep.length==0)=false∧z.length≤1000000∧R ((Txt.split z sep).map D.str) G2 | _=>False) | _=>False
theorem zEy{K:PySem.W.Frag}{H:Hp}:∀ ls:List Str,Dens K H (ls.map D.str) (ls.map V.str)
 | []=>by unfold Dens;rfl
 | a::r=>by
  unfold Dens
  exact⟨_,_,rfl,by unfold zQ;rfl,zEy r⟩
theorem zNc{to:ze}(ho:E2 X o to)(ha:A2 X [e] t)
  (hbase:attributeBase o "split" X.env (eval o X.env)=eval o X.env:=by rfl)
  (hfew:((backTo cpos (starEach [e] X.env)).all (fun x=>!x.1)&&(backToKw cpos (keywordEach [] X.env)).all (fun x=>x.1.isSome)
   && decide ([e].length+([]:List Keyword).length+(if ([]:List Keyword).isEmpty then 0 else 1)<30))=true:=by rfl)
  (hline:(apos.endLine==cpos.line)=true:=by rfl) (hs:starEach [e] X.env=(false,eval e X.env)::starEach [] X.env:=by rfl) (hplain:(backTo cpos (starEach [] X.env)).any (·.1)=false:=by rfl) :
  F2 X (.Call (.Attribute o "split" apos) [e] [] cpos) (zGX to t):=by
 refine PE.mono (zIv F.plainAttrs_str F.slot_str_split F.type_str_split zMI ho ha hbase hfew hline hs hplain) ?_
 rintro σ1 H Q ⟨σ,G,R,r,q,k⟩
 refine⟨σ,G,_,r,q,fun d G1 q1 v H1 g1 r1 d1=>?_⟩
 cases d with
 | str z =>
  unfold zQ at d1
  subst d1
  refine⟨rfl,σ,G1,_,r.to g1 r1,q1,fun ds G2 q2 vs H2 g2 r2 d2=>?_⟩
  split at q2
  ·rename_i sep
   obtain⟨w,rfl,d3⟩:=zBY d2
   unfold zQ at d3
   subst d3
   refine⟨z,sep,rfl,rfl,q2.1,q2.2.1,fun l hl=>?_⟩
   exact k _ G2 q2.2.2 l _ _ ((g1.trans g2).trans (.fresh hl)) (r2.fresh hl) (r2.free hl) zo (zEy _)
  ·exact q2.elim
 | _=>exact q1.elim
end
section
variable {X:Cx} {a b o:Expr} {pos:Pos} {ta tb to:ze}
noncomputable def zCK:D→D→Gp→Q2→Prop:=fun x y G R=>match x,y with
 | .str z,.int i=>z.length≤1000000∧(match atI z.cps.toList i with | some c=>R (.str ⟨#[c]⟩) G | none=>False)
 | _,_=>False
theorem zNd{K:PySem.W.Frag}:Fit K zPz zCK:=by
 intro dx dy G R x y H Q h r d1 d2 k
 unfold zCK at h
 split at h
 ·rename_i z i
  obtain⟨hz,h⟩:=h
  split at h
  ·rename_i c e2
   unfold zQ at d1 d2
   exact⟨z,i,c,d1,d2,by rw[sizeLine_eq];omega,e2,k _ G h _ H (.refl H) r (by unfold zQ;rfl)⟩
  ·exact h.elim
 ·exact h.elim
theorem zMJ(ha:E2 X a ta)(hb:E2 X b tb)(hs:zF2 b:=by intro u0 u0;rfl):E2 X (.Subscript a b pos) (zP zCK ta tb) :=
 PE.mono (zNq zOp ha hb hs) fun σ1 H Q h=>zGr zNd h
noncomputable def zMK(to:ze):ze:=fun σ G R=>to σ G fun x G1=>match x with
 | .adr l=>∃ xs d,G1.m l=some (xs++[d])∧R d (zN G1 l xs)
 | _=>False
theorem zPV{apos:Pos}(ho:E2 X o to)(hbase:attributeBase o "pop" X.env (eval o X.env)=eval o X.env:=by rfl)(hline:(apos.endLine==pos.line)=true:=by rfl) :
  E2 X (.Call (.Attribute o "pop" apos) [] [] pos) (zMK to):=by
 refine PE.mono (zOq PySem.F.plainAttrs_list PySem.F.slot_list_pop PySem.F.type_list_pop zOr ho hbase hline) ?_
 rintro σ1 H Q ⟨σ,G,R,rl,q,k⟩
 refine⟨σ,G,_,rl,q,fun dx G1 q1 x H1 g1 r1 d1=>?_⟩
 split at q1
 ·rename_i l
  obtain⟨xs,d,e0,q1⟩:=q1
  unfold zQ at d1
  subst d1
  obtain⟨ys,a1,a2⟩:=r1.m l _ e0
  have hlen:=a2.length
  rw[bI,List.length_singleton] at hlen
  obtain⟨z,c1,c2⟩:=a2.get (i:=xs.length) (d:=d) (by simp)
  have e2:ys.dropLast=ys.eraseIdx xs.length:=by
   rw[List.eraseIdx_eq_take_drop_succ,List.drop_of_length_le (by omega),cO,List.dropLast_eq_take,show ys.length-1=xs.length by omega]
  have e3:(xs++[d]).eraseIdx xs.length=xs:=by
   rw[List.eraseIdx_append_of_length_le (bF _)];simp
  have d3:=a2.eraseIdx xs.length
  rw[e3,← e2] at d3
  refine⟨.inl ⟨rfl,ys,.of a1⟩,l,ys,z,rfl,rfl,a1,by rw[show ys.length-1=xs.length by omega];exact c1,?_⟩
  exact k _ _ q1 _ _ (g1.trans (.lst a1)) (r1.put a1 d3) (c2.grow (.lst a1))
 ·exact q1.elim
end
end L3
namespace K
open L2 L3
theorem zNe{σ:S2}{G:Gp}{t:ze}{r:List Nat}{n:Nat}(h:zi t σ G (.tup (r.map nD)))(hl:r.length=2*n):zi (zP (yd zGj fun i j=>.int (i / j)) (zL zk (zA t zG)) (xC (.int 2))) σ G (nD n):=by
 have e:(((r.map nD).length:Int) / 2)=(n:Int):=by rw[bx,hl];omega
 exact yi (zIJ h) yD fun u0 u0 u0 q=>⟨⟨by decide,by decide⟩,by dsimp only;rw[e];exact q⟩
theorem zHg{σ:S2}{G:Gp}{t:ze}{n:Nat}(h:zi t σ G (nD n))(hn:n≤1000):zi (zP (yd zCV fun i j=>.int (i*j)) (xC (.int 2)) t) σ G (nD (2*n)):=by
 refine yi (x:=.int 2) (y:=nD n) yD h fun u0 u0 u0 q=>⟨by unfold zCV;omega,?_⟩
 have e2:(2:Int)*(n:Int)=((2*n:Nat):Int):=by omega
 dsimp only
 rw[e2]
 exact q
end K
namespace K
open L2 L3 HS
theorem zQw{σ:S2}{G:Gp}{ta tb:ze}{l m:Addr}{xs ys:List D}{R:List D→Gp→Prop}(h:zi ta σ G (.adr l))(h':zi tb σ G (.adr m))(hl:G.m l=some xs)(hm:G.m m=some ys)(hz:xs.length+ys.length≤1000000)(q:R (xs++ys) G):zG1 ta tb σ G R:=h G (.refl G) _ (h' G (.refl G) _ ⟨xs,ys,hl,hm,hz,q⟩)
theorem zHh{l:List Nat}:eqDs (l.map nD) []=decide (l=[]):=by cases l<;>simp[eqDs]
theorem zKb{l:List (List Nat)}:eqDs (l.map uD) []=decide (l=[]):=by cases l<;>simp[eqDs]
theorem zHi(l:List (List Nat)):∀ d∈l.map uD,flat 8 d=true:=fun d hd=>by
 obtain⟨w,u0,rfl⟩:=bQ.mp hd
 show(w.map nD).all (flat 7)=true
 rw[eJ]
 intro x hx
 obtain⟨k,u0,rfl⟩:=bQ.mp hx
 rfl
noncomputable def nbs(n:Nat)(q:Nat×Nat→Bool)(os:List Nat)(x:Nat):List Nat:=(lar n q x).filter fun y=>decide (y∈os)
theorem zGY{n:Nat}{q:Nat×Nat→Bool}{os:List Nat}{x:Nat}(hx:x<n)(ho:∀ y∈os,y<n):nbs n q os x=[]↔∀ y∈os,wz q x y=false:=by
 unfold nbs
 rw[List.filter_eq_nil_iff]
 constructor
 ·intro h y hy
  cases e:wz q x y with
  | false=>rfl
  | true=>exact absurd (decide_eq_true hy) (h y ((zGF hx).mpr ⟨ho y hy,e⟩))
 ·intro h y hy z
  have z:=of_decide_eq_true z
  have:=((zGF hx).mp hy).2
  rw[h y z] at this
  cases this
theorem zKc{σ:S2}{G:Gp}{n:Nat}{q:Nat×Nat→Bool}{x:Nat}{tx:ze}(h0:look σ 0=some (zS n q))(hx:zi tx σ G (nD x)):PuI (iF (zq zl (zA (zB 0) (zA tx zG)))) σ G ((lar n q x).map nD) :=
 fun G2 e R q'=>zNF (wn (zu (d:=zS n q) (zE h0) ((zJ hx zT) G2 e _ ⟨n,q,x,rfl,fun a ha=>q' _ _ (.new ha) fun G4 e4=>e4.ls .own⟩)))
theorem zML{σ:S2}{G:Gp}{n:Nat}{q:Nat×Nat→Bool}{os:List Nat}{x:Nat}{tp tx te:ze}(h0:look σ 0=some (zS n q))(hx:zi tx σ G (nD x))
  (hl:∀ y,WkE (zP (fIn false) te tp) (σ++[some (nD y)]) G (.bl (decide (y∈os)))) (he:∀ y,zi te (σ++[some (nD y)]) G (nD y)) :
  PuL (yE (iF (zq zl (zA (zB 0) (zA tx zG)))) bd1 (xB (zP (fIn false) te tp)) te) σ G ((nbs n q os x).map nD):=by
 have c:=zEs (σ:=σ) (G:=G) (bd:=bd1) (tc:=xB (zP (fIn false) te tp)) (te:=te) (fun d=>match d with | .int v=>decide (v.toNat∈os) | _=>false) (fun d=>d) (fun d=>[d]) (zKc h0 hx) fun d hd=>by
  obtain⟨y,u0,rfl⟩:=bQ.mp hd
  exact⟨rfl,zLy (hl y),fun u0=>zi.wk (he y)⟩
 have e:bK (fun d=>d) (eh (fun d=>match d with | .int v=>decide (v.toNat∈os) | _=>false) ((lar n q x).map nD))=(nbs n q os x).map nD:=by
  rw[eu,dt];rfl
 rw[e] at c
 exact c
theorem zJa{σ:S2}{G:Gp}{t u:ze}{y:Nat}{l:Addr}{os:List Nat}(h:zi t σ G (nD y))(h':zi u σ G (.adr l))(hl:Ls G l (os.map nD)):zi (zP (fIn false) t u) σ G (.bl (decide (y∈os))) :=
 yi h h' fun G2 e R q'=>⟨os.map nD,e.ls hl,rfl,yU os,by rw[if_neg (by simp),zCZ];exact q'⟩
theorem zMM{σ:S2}{G:Gp}{tl:TL2}{l:List Nat}{ng:Bool}(h:PuL tl σ G (l.map nD)):WkE (zP (fEq ng) (za tl) (za (yw zG))) σ G (.bl (if ng then !decide (l=[]) else decide (l=[]))):=fun G2 e R q' =>
 zHP (zAV (h G2 e _ fun a ha=>zAB (ds:=[]) (fun G2 e R q=>zAU (yI ⟨by rw[sizeLine_eq];simp,q⟩)) fun b hb=>by
  have ne:a≠b:=fun z=>by rw[← z,zF] at hb;cases hb
  refine⟨l.map nD,[],.inl (by rw[zO ne];exact zF),.own,yU l,(fun d hd=>by cases hd),?_⟩
  rw[zHh]
  exact q' _ ((Ext.new ha).trans (.new hb))))
noncomputable def yb:List D→Gp→(List D→Gp→Prop)→Prop:=fun ds G R=>∃(n:Nat) (q:Nat×Nat→Bool),ds=[zS n q]∧1≤n∧n≤9∧∀ os:List Nat,zIi n q os→os.length=n→R (os.map nD) G
theorem zDx:∀ ds G R R',(∀ ls G',R ls G'→R' ls G')→yb ds G R→yb ds G R':=by
 rintro ds G R R' h ⟨n,q,e,h1,h9,k⟩
 exact⟨n,q,e,h1,h9,fun os a b=>h _ _ (k os a b)⟩
noncomputable def zAd:wD:=(zX (zn (za (yw zG)) (gN 1)) (zX (wV (iR1 (zA (zP yh (zB 0) (xC (.int 0))) zG)) (gN 2) (zX (zAm 3 (yE (iR1 (zA (zP yh (zB 0) (xC (.int 0))) zG)) bd1 (xB (zP (fIn true) (zB 5) (zB 1))) (zB 5))) (zX (zAm 4 (yE (iV (zB 3)) bd1 (xB (zP (fEq true) (za (yE (iF (zq zl (zA (zB 0) (zA (zB 5) zG)))) bd1 (xB (zP (fIn false) (zB 6) (zB 1))) (zB 6))) (za (yw zG)))) (zB 5))) (wF (zDt (zB 1) (zA (zP yh (za (zG1 (zB 4) (zB 3))) (xC (.int 0))) zG)))))) (zw (zB 1))))
theorem zGZ(ds:List D)(G:Gp)(R:Q2)(h:spL yb ds G R):ds.length=1∧zAd (zj R) (zV ["web","found","turn","left","near"] ds) G:=by
 obtain⟨n,q,rfl,h1,h9,h⟩:=h
 refine⟨rfl,?_⟩
 unfold zAd
 rw[show zV ["web","found","turn","left","near"] [zS n q]=[some (zS n q),none,none,none,none] from rfl]
 refine yB (zAB (ds:=[]) (fun G2 e R q=>zAU (yI ⟨by rw[sizeLine_eq];simp,q⟩)) fun f hf=>?_)
 simp only[gN,bo,bn]
 refine wo (zLP (n:=n) (zJ (zDh (q:=q) (zE rfl)) zT) (by omega) ?_)
 refine zBL (fun k G'=>∃ os:List Nat,os.length=k∧zIi n q os∧G'.m f=some (os.map nD)∧L3.Sub G G') ⟨[],rfl,zMD n q,zF,.new hf⟩ (fun u0 u0 u0=>trivial) ?_ ?_
 ·rintro k x hx G1 ⟨os,ol,on,g1,sb⟩
  obtain⟨rfl,hk⟩:=zIC hx
  simp only[gN,bo,bn]
  have c:=zAt (σ:=[some (zS n q),some (.adr f),some (nD k),none,none]) (G:=G1) (bd:=bd1) (tc:=(xB (zP (fIn true) (zB 5) (zB 1)))) (te:=zB 5) (fun d=>match d with | .int v=>!decide (v.toNat∈os) | _=>false) (fun d=>d) (fun d=>[d])
   (show PuI (iR1 (zA (zP yh (zB 0) (xC (.int 0))) zG)) _ _ ((bE n).map nD) by
    rw[← zAu]
    exact zDM (zJ (zDh (q:=q) (zE rfl)) zT) (by omega)) fun x hx=>by
   obtain⟨j,u0,rfl⟩:=bQ.mp hx
   refine⟨rfl,zAR (yi (x:=nD j) (y:=.adr f) (zE rfl) (zE rfl) fun G2 e R q'=>⟨os.map nD,e.ls (.inl g1),rfl,yU os,?_⟩),fun u0=>zE rfl⟩
   rw[if_pos rfl,zCZ];exact q'
  have e:bK (fun d=>d) (eh (fun d=>match d with | .int v=>!decide (v.toNat∈os) | _=>false) ((bE n).map nD))=(oth n os).map nD:=by
   rw[eu,dt];rfl
  rw[e] at c
  refine zIb c fun lr hlr=>?_
  simp only[bo,bn]
  have nfr:f≠lr:=fun z=>by rw[z] at g1;rw[g1] at hlr;cases hlr
  have g2:(zN G1 lr ((oth n os).map nD)).m f=some (os.map nD):=by rw[zO nfr];exact g1
  have g2r:(zN G1 lr ((oth n os).map nD)).m lr=some ((oth n os).map nD):=zF
  have sb2:L3.Sub G (zN G1 lr ((oth n os).map nD)):=sb.trans (.new hlr)
  generalize zN G1 lr ((oth n os).map nD)=G2 at g2 g2r sb2
  have ct:=zEs (σ:=[some (zS n q),some (.adr f),some (nD k),some (.adr lr),none]) (G:=G2) (bd:=bd1) (tc:=(xB (zP (fEq true) (za (yE (iF (zq zl (zA (zB 0) (zA (zB 5) zG)))) bd1 (xB (zP (fIn false) (zB 6) (zB 1))) (zB 6))) (za (yw zG))))) (te:=zB 5) (fun d=>match d with | .int v=>!decide (nbs n q os v.toNat=[]) | _=>false) (fun d=>d) (fun d=>[d]) (zBD (zE (i:=3) (d:=.adr lr) rfl) (.inl g2r)) fun x hx=>by
   obtain⟨j,hj,rfl⟩:=bQ.mp hx
   refine⟨rfl,zLy ?_,fun u0=>zi.wk (zE rfl)⟩
   have:=zMM (ng:=true) (zML (os:=os) (σ:=[some (zS n q),some (.adr f),some (nD k),some (.adr lr),none]++[some (nD j)]) (G:=G2) (x:=j) (te:=zB 6) (tx:=zB 5) (tp:=zB 1) rfl (zE rfl) (fun y=>zi.wk (zJa (l:=f) (zE rfl) (zE rfl) (.inl g2))) (fun y=>zE rfl))
   exact this
  have e2:bK (fun d=>d) (eh (fun d=>match d with | .int v=>!decide (nbs n q os v.toNat=[]) | _=>false) ((oth n os).map nD))=((oth n os).filter fun x=>!decide (nbs n q os x=[])).map nD:=by
   rw[eu,dt];rfl
  rw[e2] at ct
  refine zIb ct fun ln hln=>?_
  simp only[bo,bn]
  have nfn:f≠ln:=fun z=>by rw[z] at g2;rw[g2] at hln;cases hln
  have nrn:lr≠ln:=fun z=>by rw[z] at g2r;rw[g2r] at hln;cases hln
  generalize hnr:((oth n os).filter fun x=>!decide (nbs n q os x=[]))=nr
  have g3:(zN G2 ln (nr.map nD)).m f=some (os.map nD):=by rw[zO nfn];exact g2
  have g3r:(zN G2 ln (nr.map nD)).m lr=some ((oth n os).map nD):=by rw[zO nrn];exact g2r
  have g3n:(zN G2 ln (nr.map nD)).m ln=some (nr.map nD):=zF
  have sb3:L3.Sub G (zN G2 ln (nr.map nD)):=sb2.trans (.new hln)
  generalize zN G2 ln (nr.map nD)=G3 at g3 g3r g3n sb3
  obtain⟨y,hy⟩:=zHd (n:=n) (os:=os) (by omega)
  obtain⟨z,tl,hz⟩:∃ z tl,nr++oth n os=z::tl:=by
   cases hc:nr++oth n os with
   | nil=>rw[(List.append_eq_nil_iff.mp hc).2] at hy;cases hy
   | cons z tl=>exact⟨z,tl,rfl⟩
  have hzm:z∈oth n os:=by
   have:z∈nr++oth n os:=by rw[hz];exact cc ..
   rcases bR.mp this with w | w
   ·rw[← hnr] at w;exact(bV.mp w).1
   ·exact w
  have hzo:z∉os:=by
   have:=(bV.mp hzm).2
   simpa using this
  have lo:(oth n os).length≤9:=by
   have:=cN (fun x=>!decide (x∈os)) (bE n)
   rw[bT] at this
   exact cC this h9
  have lnr:nr.length≤9:=by
   rw[← hnr];exact cC (cN _ _) lo
  have near2:zIi n q (os++[z]):=by
   refine on.snoc (zEr hzm) hzo fun hno x hx hxo y hy=>?_
   cases nr with
   | cons a t =>
    obtain rfl:a=z:=(List.cons.inj hz).1
    have:a∈(oth n os).filter fun x=>!decide (nbs n q os x=[]):=by rw[hnr];exact cc ..
    have w:=(bV.mp this).2
    have w2:nbs n q os a=[]:=(zGY (zEr hzm) on.lt).mpr hno
    rw[w2] at w
    simp at w
   | nil =>
    have hxm:x∈oth n os:=bV.mpr ⟨cb.mpr hx,by simp[hxo]⟩
    have:nbs n q os x=[]:=by
     have w:=List.filter_eq_nil_iff.mp hnr x hxm
     simpa using w
    exact(zGY hx on.lt).mp this y hy
  refine zCi (zC9 (l:=f) (zE rfl) g3 (zAo (zHP (zAV (zQw (l:=ln) (m:=lr) (zE rfl) (zE rfl) g3n g3r (by simp only[bx];omega) fun lc hlc=>?_)))))
  have nfc:f≠lc:=fun z=>by rw[z] at g3;rw[g3] at hlc;cases hlc
  refine yD (d:=.int 0) _ (.refl _) _ ⟨_,nD z,.own,?_,yI ⟨os.map nD,by rw[zO nfc];exact g3,by rw[bx];omega,?_⟩⟩
  ·rw[← cr,hz];exact wB (j:=0) rfl
  ·refine⟨.keep (.keep (.skip (.skip (.skip .nil)))),_,.refl _,os++[z],by rw[bI,ol];rfl,near2,?_,(sb3.trans (.new hlc)).put hf⟩
   rw[zF,cr];rfl
 ·rintro G1 ⟨os,ol,on,g1,sb⟩
  rw[bx,bT] at ol
  show FgR R (.adr f) G1
  refine⟨zN G f (os.map nD),⟨fun a o e=>?_,fun a o e=>sb.ro a o e⟩,h os on ol f hf⟩
  by_cases ha:a=f
  ·subst ha;rw[zF] at e;cases e;exact g1
  ·rw[zO ha] at e;exact sb.m a o e
theorem zPW{ls:List Nat}{ns':List Int}(nd:ns'.Nodup)(hm:∀ x,x∈ns'↔x∈ls.map fun(k:Nat)=>(k:Int))(hs:ns'.Pairwise (·≤·)):∃ near:List Nat,ns'.map D.int=near.map nD∧near.Pairwise (·<·)∧∀ x,x∈near↔x∈ls:=by
 have cst:∀ x∈ns',((x.toNat:Nat):Int)=x:=fun x hx=>by
  obtain⟨k,u0,rfl⟩:=bQ.mp ((hm x).mp hx)
  simp
 refine⟨ns'.map Int.toNat,?_,?_,fun x=>?_⟩
 ·rw[cH]
  refine ee fun x hx=>?_
  show D.int x=D.int (x.toNat:Nat)
  rw[cst x hx]
 ·rw[List.pairwise_map]
  have:=hs.and nd
  refine(dF.and_mem.mp this).imp fun {a b} ⟨ha,hb,h1,h2⟩=>?_
  have e1:=cst a ha
  have e2:=cst b hb
  omega
 ·rw[bQ]
  constructor
  ·rintro⟨y,hy,rfl⟩
   obtain⟨k,hk,rfl⟩:=bQ.mp ((hm y).mp hy)
   simpa using hk
  ·intro hx
   exact⟨(x:Int),(hm _).mpr (bQ.mpr ⟨x,hx,rfl⟩),by simp⟩
theorem zNf{σ:S2}{G:Gp}{to:ze}{t:TL2}{R:Q2}{l:Addr}{xs:List D}(ho:zi to σ G (.adr l))(h:G.m l=some xs)(ht:t σ G fun zs G2=>match G2.m l with | some xs=>xs.length+zs.length≤1000000∧R .non (zN G2 l (xs++zs)) | none=>False):zJz to t σ G R:=by
 refine ho G (.refl G) _ ?_
 show match G.m l with | some _=>_ | none=>_
 rw[h]
 exact ht
theorem zPX{σ:S2}{G:Gp}{t:wW}{R:List D→Gp→Prop}(h:t σ G fun ds G1=>match ds with | [.adr l]=>∃ ns:List Int,Ls G1 l (ns.map D.int)∧ns.length<64∧∀ ns':List Int,ns'.Nodup→(∀ x,x∈ns'↔x∈ns)→ns'.Pairwise (·≤·)→R (ns'.map D.int) G1 | _=>False):xSS t σ G R:=h
noncomputable def yg:Sp2:=fun ds G R=>∃(n:Nat) (q:Nat×Nat→Bool) (bs:List Nat) (lo:Addr),ds=[zS n q,.adr lo]∧Ls G lo (bs.map nD)∧bs.Nodup∧bs≠[]∧(∀ x∈bs,x<n)∧n≤7∧∀ b:Bool,(b=true→∃ w,yP q bs w)→R (.bl b) G
noncomputable def zAH:wD:=(zX (zn (za (yw (zA (yK (zA (zP yh (zB 1) (xC (.int 0))) (zA (zP yh (zB 1) (xC (.int 0))) zG))) zG))) (gN 2)) (zX (zGC (xB (zP (fEq true) (zB 2) (za (yw zG)))) (zX (zn (zMK (zB 2)) (gN 3)) (zX (xIf (xB (zP (fEq false) (zL zk (zA (zB 3) zG)) (zP (yd zCV fun i j=>.int (i*j)) (xC (.int 2)) (zL zk (zA (zB 1) zG))))) (zw (xC (.bl true))) zr) (zX (zn (zP yh (zB 1) (zP (yd zGj fun i j=>.int (i / j)) (zL zk (zA (zB 3) zG)) (xC (.int 2)))) (gN 4)) (zX (zn (za (zq zl (zA (zB 0) (zA (zB 4) zG)))) (gN 5)) (wF (zJz (zB 2) (zq wK (zA (zB 3) (zA (zB 4) (zA (za (xSS (zA (za (yE (iV (zB 3)) bd1 (xB (zP (fIn false) (zB 6) (zB 5))) (zB 6))) zG))) zG))))))))))) (zw (xC (.bl false)))))
theorem zFH(ds:List D)(G:Gp)(R:Q2)(h:yg ds G R):ds.length=2∧zAH (zj R) (zV ["web","order","line","word","place","near"] ds) G:=by
 obtain⟨n,q,bs,lo,rfl,hlo,nd,hne,hlt,hn,h⟩:=h
 refine⟨rfl,?_⟩
 unfold zAH
 rw[show zV ["web","order","line","word","place","near"] [zS n q,.adr lo]=[some (zS n q),some (.adr lo),none,none,none,none] from rfl]
 obtain⟨o,bt,rfl⟩:∃ o bt,bs=o::bt:=by
  cases bs with
  | nil=>exact absurd rfl hne
  | cons o bt=>exact⟨o,bt,rfl⟩
 have hbl:(o::bt).length≤n:=by
  have:=nd.length_le_of_subset (l₂:=bE n) fun x hx=>cb.mpr (hlt x hx)
  rw[bT] at this
  exact this
 generalize hbs:o::bt=bs at *
 have ix0:zi (zP yh (zB 1) (xC (.int 0))) [some (zS n q),some (.adr lo),none,none,none,none] G (nD o):=zBV (k:=0) (zE (d:=.adr lo) rfl) yD hlo (by rw[← hbs];exact wB (j:=0) rfl)
 refine yB (zAB (ds:=[uD [o,o]]) (fun G2 e R q=>zAU (zJ (zA1 (zJ ix0 (zJ ix0 zT)) (by simp)) zT G2 e _ ⟨by rw[sizeLine_eq];simp,q⟩)) fun l hl=>?_)
 simp only[gN,bo,bn]
 have st0:Stk q bs 1 [[o,o]]:=by
  have:Stk q bs (0+1) ([]++[[o,o]]):=.lvl .nil (fun w hw=>by
   rw[bH.mp hw]
   refine⟨rfl,?_⟩
   rw[← hbs]
   exact zHb q o) (by simp)
  exact this
 refine Fg.of ⟨fun m σ G'=>∃(ls:List (List Nat)) (k:Nat),σ=[some (zS n q),some (.adr lo),some (.adr l),none,none,none]∧m=wgt ls∧Stk q bs k ls∧k≤bs.length∧G'.m l=some (ls.map uD)∧L3.Sub G G',⟨_,[[o,o]],1,rfl,rfl,st0,by rw[← hbs];simp,zF,.new hl⟩,?_⟩
 rintro m σ G1 ⟨ls,k,rfl,rfl,hst,hk,g1,sb⟩
 have tw:WkT (xB (zP (fEq true) (zB 2) (za (yw zG)))) [some (zS n q),some (.adr lo),some (.adr l),none,none,none] G1 (!decide (ls=[])):=zLy fun G2 e R q'=>zHP (zE (i:=2) (d:=.adr l) rfl G2 (.refl _) _ (zAB (ds:=[]) (fun G2 e R q=>zAU (yI ⟨by rw[sizeLine_eq];simp,q⟩)) fun b hb=>by
  have m2:=e.sub.m _ _ g1
  have ne:l≠b:=fun z=>by rw[z] at m2;rw[m2] at hb;cases hb
  refine⟨ls.map uD,[],.inl (by rw[zO ne];exact m2),.own,zHi ls,(fun d hd=>by cases hd),?_⟩
  rw[if_pos rfl,zKb]
  exact q' _ (.new hb)))
 refine tw G1 (.refl _) _ fun G2 e2=>?_
 have g2:=e2.sub.m _ _ g1
 have sb2:=sb.trans e2.sub
 clear tw e2 g1 sb
 rcases List.eq_nil_or_concat ls with rfl | ⟨ls,w,rfl⟩
 ·rw[show(!decide (([]:List (List Nat))=[]))=false by simp,if_neg (by simp)]
  show zw (xC (.bl false)) (zj R) [some (zS n q),some (.adr lo),some (.adr l),none,none,none] G2
  exact zDk (d:=.bl false) yD ⟨G,sb2,h false (fun z=>by cases z)⟩
 ·rw[List.concat_eq_append] at *
  rw[show(!decide (ls++[w]=[]))=true by simp,if_pos rfl]
  obtain⟨j,j1,jk,hw,tw,hst2⟩:=hst.pop rfl
  rw[cr] at g2
  refine yB (show zMK _ _ _ _ from zE (i:=2) (d:=.adr l) rfl G2 (.refl _) _ ⟨ls.map uD,uD w,g2,?_⟩)
  simp only[gN,bo,bn]
  have g3:(zN G2 l (ls.map uD)).m l=some (ls.map uD):=zF
  have sb3:L3.Sub G (zN G2 l (ls.map uD)):=sb2.put hl
  generalize zN G2 l (ls.map uD)=G3 at g3 sb3
  have v3:∀ {τ:S2} {G:Gp},look τ 3=some (uD w)→zi (zL zk (zA (zB 3) zG)) τ G (nD w.length):=fun {τ G} hs=>by
   have:=zIJ (σ:=τ) (G:=G) (t:=zB 3) (ds:=w.map nD) (zE hs)
   rw[bx] at this
   exact this
  have v1:zi (zL zk (zA (zB 1) zG)) [some (zS n q),some (.adr lo),some (.adr l),some (uD w),none,none] G3 (nD bs.length):=by
   have:=zD7 (t:=zB 1) (σ:=[some (zS n q),some (.adr lo),some (.adr l),some (uD w),none,none]) (G:=G3) (a:=lo) (zE rfl) (hlo.sub sb3)
   rw[bx] at this
   exact this
  have t1:PuT (xB (zP (fEq false) (zL zk (zA (zB 3) zG)) (zP (yd zCV fun i j=>.int (i*j)) (xC (.int 2)) (zL zk (zA (zB 1) zG))))) [some (zS n q),some (.adr lo),some (.adr l),some (uD w),none,none] G3 (decide (j=bs.length)):=zAR (zDj (x:=nD w.length) (y:=nD (2*bs.length)) (v3 rfl) (zHg v1 (by omega)) rfl rfl (by rw[if_neg (by simp),zDP,hw,decide_eq_decide];omega))
  refine zGQ t1 (fun hb=>zDk (d:=.bl true) yD ⟨G,sb3,h true fun u0=>⟨w,?_⟩⟩) fun hb=>?_
  ·rw[of_decide_eq_true hb,cU] at tw;exact tw
  have hj:j<bs.length:=by have:=of_decide_eq_false hb;omega
  have ixp:zi (zP yh (zB 1) (zP (yd zGj fun i j=>.int (i / j)) (zL zk (zA (zB 3) zG)) (xC (.int 2)))) [some (zS n q),some (.adr lo),some (.adr l),some (uD w),none,none] G3 (nD (bs.getD j 0)):=by
   refine zBV (k:=j) (zE (i:=1) (d:=.adr lo) rfl) (zNe (r:=w) (zE rfl) hw) (hlo.sub sb3) (wB (by rw[bY];simp[cJ,hj]))
  have hp:bs.getD j 0<n:=hlt _ (by simp[cJ,hj])
  have hpn:bs.getD j 0∉bs.take j:=zBz nd hj
  refine zBT ixp ?_
  simp only[gN,bo,bn]
  generalize hpd:bs.getD j 0=p at hp hpn
  refine yB (zAV (wn (zu (d:=zS n q) (zE rfl) (zu (d:=nD p) (zE rfl) (yI ⟨n,q,p,rfl,fun la hla=>?_⟩)))))
  simp only[gN,bo,bn]
  have nla:l≠la:=fun z=>by rw[z] at g3;rw[g3] at hla;cases hla
  have g4:(zN G3 la ((lar n q p).map nD)).m l=some (ls.map uD):=by rw[zO nla];exact g3
  have g4a:Ls (zN G3 la ((lar n q p).map nD)) la ((lar n q p).map nD):=.own
  have sb4:L3.Sub G (zN G3 la ((lar n q p).map nD)):=sb3.trans (.new hla)
  generalize zN G3 la ((lar n q p).map nD)=G4 at g4 g4a sb4
  have c:=zAt (σ:=[some (zS n q),some (.adr lo),some (.adr l),some (uD w),some (nD p),some (.adr la)]) (G:=G4) (bd:=bd1) (tc:=(xB (zP (fIn false) (zB 6) (zB 5)))) (te:=zB 6) (fun d=>match d with | .int v=>decide (v.toNat∈lar n q p) | _=>false) (fun d=>d) (fun d=>[d]) (zBC (zE (i:=3) (d:=uD w) rfl)) fun x hx=>by
   obtain⟨y,u0,rfl⟩:=bQ.mp hx
   exact⟨rfl,zAR (zJa (l:=la) (zE rfl) (zE rfl) g4a),fun u0=>zE rfl⟩
  have e2:bK (fun d=>d) (eh (fun d=>match d with | .int v=>decide (v.toNat∈lar n q p) | _=>false) (w.map nD))=(w.filter fun x=>decide (x∈lar n q p)).map nD:=by
   rw[eu,dt];rfl
  rw[e2] at c
  refine zCi (zNf (l:=l) (zE (i:=2) rfl) g4 (wn (zu (d:=uD w) (zE rfl) (zu (d:=nD p) (zE rfl) (zAo (zAV (zPX (zAo (zAV (c G4 (.refl _) _ fun lc hlc=>yI ⟨(w.filter fun x=>decide (x∈lar n q p)).map fun(k:Nat)=>(k:Int),.inl (by rw[zF,cH];rfl),?_,fun ns' nd' hm' hs'=>?_⟩))))))))))
  ·rw[bx]
   have:=cN (fun x=>decide (x∈lar n q p)) w
   omega
  obtain⟨near,en,hrise,hmem⟩:=zPW nd' hm' hs'
  rw[en]
  have nlc:l≠lc:=fun z=>by rw[z] at g4;rw[g4] at hlc;cases hlc
  intro lnn hlnn
  have g5:(zN G4 lc ((w.filter fun x=>decide (x∈lar n q p)).map nD)).m l=some (ls.map uD):=by rw[zO nlc];exact g4
  have nln:l≠lnn:=fun z=>by rw[z] at g5;rw[g5] at hlnn;cases hlnn
  have pw:wR near=wR ((bs.take j).filter (wz q p)):=by
   refine zFr ((List.perm_ext_iff_of_nodup (hrise.imp fun x=>cg x) ((nd.sublist (cX _ _)).filter _)).mpr fun x=>?_)
   rw[hmem,bV,bV,decide_eq_true_eq,zGF hp,tw.mem]
   constructor
   ·rintro⟨a,u0,b⟩;exact⟨a,b⟩
   ·rintro⟨a,b⟩;exact⟨a,hlt x (cq a),b⟩
  refine yI ⟨w,near,p,lnn,rfl,.own,hrise,by omega,?_⟩
  rw[pw]
  have hlen:=zPU (p:=p) (W:=wR ((bs.take j).filter (wz q p))) hw (show j<7 by omega)
  have hws:∀ x∈wch w p (wR ((bs.take j).filter (wz q p))),x.length=2*(j+1)∧yP q (bs.take (j+1)) x:=fun x hx=>by
   have T:=(tw.put hpn (nd.sublist (cX _ _)) hx).1
   rw[← hpd,← zAE hj] at T
   refine⟨?_,T⟩
   rw[zMF T (nd.sublist (cX _ _)),bW]
   omega
  have hst3:=Stk.lvl hst2 hws hlen
  have hl2:=hst2.len
  show match (zN (zN G4 lc ((w.filter fun x=>decide (x∈lar n q p)).map nD)) lnn (near.map nD)).m l with | some xs=>_ | none=>False
  rw[zO nln,g5]
  refine⟨by simp only[bx];omega,?_⟩
  refine⟨[some (zS n q),some (.adr lo),some (.adr l),none,none,none],_,.keep (.keep (.keep (.skip (.skip (.skip .nil))))),.refl _,_,zME (ls:=ls) (w:=w) (j:=j) (by omega) hw (fun x hx=>(hws x hx).1) hlen,_,j+1,rfl,rfl,hst3,by omega,?_,?_⟩
  ·rw[zF,cr]
  ·exact((sb4.trans (.new hlc)).trans (.new hlnn)).put hl
theorem zKd{σ:S2}{G:Gp}{t u v:ze}{l:Addr}{ds:List D}{i j:Int}{R:List D→Gp→Prop}(h:zi t σ G (.adr l))(h1:zi u σ G (.int i))(h2:zi v σ G (.int j))(hl:Ls G l ds)(q:R (L3.cutD ds (some i) (some j)) G):zAw t (yO u) (yO v) σ G R:=h G (.refl G) _ (h1 G (.refl G) _ (h2 G (.refl G) _ ⟨ds,hl,q⟩))
theorem zNg{σ:S2}{G:Gp}{t u v:ze}{y k:Nat}{l:Addr}{os:List Nat}(h:zi t σ G (nD y))(h':zi u σ G (.adr l))(hl:Ls G l (os.map nD))(hv:zi v σ G (nD k))(hk:k≤os.length):WkE (zP (fIn false) t (za (zAw u yo (yO v)))) σ G (.bl (decide (y∈os.take k))):=fun G2 e R q' =>
 h G2 e _ (zAV (h' G2 e _ (hv G2 e _ ⟨os.map nD,e.ls hl,fun a ha=>by
  rw[zIc (by rw[bx];exact hk),← List.map_take]
  refine⟨(os.take k).map nD,.own,rfl,yU _,?_⟩
  rw[if_neg (by simp),zCZ]
  exact q' _ (.new ha)⟩)))
theorem zMN{σ:S2}{G:Gp}{t:ze}{a:Addr}{l:List Nat}(h:zi t σ G (.adr a))(hl:Ls G a (l.map nD)):WkE (zP (fEq false) t (za (yw zG))) σ G (.bl (decide (l=[]))):=fun G2 e R q' =>
 zHP (h G2 e _ (zAB (ds:=[]) (fun G2 e R q=>zAU (yI ⟨by rw[sizeLine_eq];simp,q⟩)) fun b hb=>by
  refine⟨l.map nD,[],(e.ls hl).sub (.new hb),.own,yU l,(fun d hd=>by cases hd),?_⟩
  rw[if_neg (by simp),zHh]
  exact q' _ (.new hb)))
theorem zNh{σ:S2}{G:Gp}{te:ze}{g:TG2}{E:yH}{d:D}(h:zi te σ G d)(h':g d σ G E.nx):zn te g E σ G:=h G (.refl G) _ h'
theorem zEA{σ:S2}{G:Gp}{tc:TT2}{t u v:wD}{E:yH}(h:tc σ G fun b G1=>if b=true then t { E with nx:=v E } σ G1 else u { E with nx:=v E } σ G1):zX (xIf tc t u) v E σ G:=h
noncomputable def yz:Sp2:=fun ds G R=>∃(n:Nat) (q:Nat×Nat→Bool),ds=[zS n q]∧1≤n∧n≤7∧∀ b:Bool,(b=true→Told n q)→R (.bl b) G
noncomputable def zAe:wD:=(zX (zn (za (zq yb (zA (zB 0) zG))) (gN 1)) (zX (zn (xC (.int 0)) (gN 2)) (zX (wV (iR2 (zA (xC (.int 1)) (zA (zP yN (zP yh (zB 0) (xC (.int 0))) (xC (.int 1))) zG))) (gN 3) (zX (zn (za (yw zG)) (gN 4)) (zX (xIf (xB (zP (fII fun i j=>.bl (decide (i<j))) (zB 3) (zP yh (zB 0) (xC (.int 0))))) (zAm 4 (yE (iF (zq zl (zA (zB 0) (zA (zP yh (zB 1) (zB 3)) zG)))) bd1 (xB (zP (fIn false) (zB 5) (za (zAw (zB 1) yo (yO (zB 3)))))) (zB 5))) zr) (xIf (xB (zP (fEq false) (zB 4) (za (yw zG)))) (zX (xIf (zAn (xB (zL yg (zA (zB 0) (zA (za (zAw (zB 1) (yO (zB 2)) (yO (zB 3)))) zG))))) (zw (xC (.bl false))) zr) (zn (zB 3) (gN 2))) zr)))) (zw (xC (.bl true))))))
theorem zPY{n i:Nat}{x:D}(h:(zy 1 n)[i]?=some x):x=nD (i+1)∧i<n:=by
 unfold zy at h
 rw[bY] at h
 obtain⟨k,hk,rfl⟩:=Option.map_eq_some_iff.mp h
 obtain⟨h1,h2⟩:=bN.mp hk
 rw[List.getElem_range] at h2
 rw[bT] at h1
 subst h2
 refine⟨?_,h1⟩
 show D.int _=D.int _
 congr 1
 omega
theorem zGa(ds:List D)(G:Gp)(R:Q2)(h:yz ds G R):ds.length=1∧zAe (zj R) (zV ["web","order","start","at","near"] ds) G:=by
 obtain⟨n,q,rfl,h1,h7,h⟩:=h
 refine⟨rfl,?_⟩
 unfold zAe
 rw[show zV ["web","order","start","at","near"] [zS n q]=[some (zS n q),none,none,none,none] from rfl]
 refine yB (zAV (wn (zu (d:=zS n q) (zE rfl) (yI ⟨n,q,rfl,h1,by omega,fun os on ol lo hlo=>?_⟩))))
 simp only[gN,bo,bn]
 have sb0:L3.Sub G (zN G lo (os.map nD)):=.new hlo
 have g0:(zN G lo (os.map nD)).m lo=some (os.map nD):=zF
 generalize zN G lo (os.map nD)=G0 at sb0 g0
 refine zBT (d:=nD 0) yD ?_
 simp only[gN,bo,bn]
 have pn:∀ {τ:S2} {G:Gp},look τ 0=some (zS n q)→zi (zP yh (zB 0) (xC (.int 0))) τ G (nD n):=fun {τ G} hs=>zDh (q:=q) (zE hs)
 refine wo (zEV (i:=1) (j:=(n:Int)+1) (zJ yD (zJ (zEW (i:=(n:Int)) (j:=1) (pn rfl) yD) zT)) (by omega) ?_)
 rw[show((n:Int)+1-1).toNat=n by omega]
 refine⟨fun i σ G'=>∃ s,σ=[some (zS n q),some (.adr lo),some (nD s),none,none]∧s≤i∧(i=n→s=n)∧(∃ u,yP q (os.take s) u)∧(∀ x∈os.drop s,∀ y∈os.take s,wz q x y=false)∧G'.m lo=some (os.map nD)∧L3.Sub G G',⟨0,rfl,bF _,fun z=>by omega,⟨[],zMC q⟩,(fun x u0 y hy=>by simp at hy),g0,sb0⟩,fun u0 u0 u0 u0 u0=>trivial,?_,?_⟩
 ·rintro i x σ G1 hx ⟨s,rfl,hs,hsn,⟨u,hu⟩,hsep,g1,sb1⟩
  obtain⟨rfl,hi⟩:=zPY hx
  simp only[gN,bo,bn]
  refine yB (zAB (ds:=[]) (fun G2 e R q=>zAU (yI ⟨by rw[sizeLine_eq];simp,q⟩)) fun l4 hl4=>?_)
  simp only[gN,bo,bn]
  have n4:lo≠l4:=fun z=>by rw[z] at g1;rw[g1] at hl4;cases hl4
  have g2:(zN G1 l4 []).m lo=some (os.map nD):=by rw[zO n4];exact g1
  have g24:Ls (zN G1 l4 []) l4 (([]:List Nat).map nD):=.own
  have sb2:L3.Sub G (zN G1 l4 []):=sb1.trans (.new hl4)
  generalize zN G1 l4 []=G2 at g2 g24 sb2
  have pc:PuT (xB (zP (fII fun i j=>.bl (decide (i<j))) (zB 3) (zP yh (zB 0) (xC (.int 0))))) [some (zS n q),some (.adr lo),some (nD s),some (nD (i+1)),some (.adr l4)] G2 (decide (i+1<n)):=by
   have:=zDd (g:=fun i j=>.bl (decide (i<j))) (zE (i:=3) (d:=nD (i+1)) (σ:=[some (zS n q),some (.adr lo),some (nD s),some (nD (i+1)),some (.adr l4)]) (G:=G2) rfl) (pn (τ:=[some (zS n q),some (.adr lo),some (nD s),some (nD (i+1)),some (.adr l4)]) (G:=G2) rfl)
   have e:decide (((i+1:Nat):Int)<(n:Int))=decide (i+1<n):=by rw[decide_eq_decide];omega
   rw[e] at this
   exact zAR this
  -- behind: near
  have rest:∀(nr:List Nat) (ln:Addr) (G3:Gp),Ls G3 ln (nr.map nD)→G3.m lo=some (os.map nD)→L3.Sub G G3→(nr=[]→∀ x∈os.drop (i+1),∀ y∈os.take (i+1),wz q x y=false)→(i+1=n→nr=[]) →
    xIf (xB (zP (fEq false) (zB 4) (za (yw zG)))) (zX (xIf (zAn (xB (zL yg (zA (zB 0) (zA (za (zAw (zB 1) (yO (zB 2)) (yO (zB 3)))) zG))))) (zw (xC (.bl false))) zr) (zn (zB 3) (gN 2))) zr
    { nx:=Fg (fun σ G'=>∃ s,σ=[some (zS n q),some (.adr lo),some (nD s),none,none]∧s≤i+1∧(i+1=n→s=n)∧(∃ u,yP q (os.take s) u)∧(∀ x∈os.drop s,∀ y∈os.take s,wz q x y=false)∧G'.m lo=some (os.map nD)∧L3.Sub G G'),rt:=FgR R,bk:=fun σ G=>zw (xC (.bl true)) (zj R) σ G,ct:=Fg (fun σ G'=>∃ s,σ=[some (zS n q),some (.adr lo),some (nD s),none,none]∧s≤i+1∧(i+1=n→s=n)∧(∃ u,yP q (os.take s) u)∧(∀ x∈os.drop s,∀ y∈os.take s,wz q x y=false)∧G'.m lo=some (os.map nD)∧L3.Sub G G') }
    [some (zS n q),some (.adr lo),some (nD s),some (nD (i+1)),some (.adr ln)] G3:=by
   intro nr ln G3 h3n h3 sb3 hsp hnn
   refine zJM (zLy (zMN (zE (i:=4) rfl) h3n)) (fun hb G4 e4=>?_) (fun hb G4 e4=>?_)
   ·have hb:=of_decide_eq_true hb
    have g4:=e4.sub.m _ _ h3
    have sb4:=sb3.trans e4.sub
    refine zEA (show zAn (xB (zL _ _)) _ _ _ from zIG (zu (d:=zS n q) (zE rfl) (zAo (zAV (zKd (l:=lo) (i:=(s:Int)) (j:=((i+1:Nat):Int)) (zE (i:=1) rfl) (zE (i:=2) (d:=nD s) rfl) (zE (i:=3) (d:=nD (i+1)) rfl) (.inl g4) fun lb hlb=>?_)))))
    rw[zNE (by omega) (by rw[bx];omega),← List.map_drop,← List.map_take]
    have ndb:((os.drop s).take (i+1-s)).Nodup:=on.nd.sublist ((cX _ _).trans (List.drop_sublist _ _))
    refine yI ⟨n,q,(os.drop s).take (i+1-s),lb,rfl,.own,ndb,fun z=>?_,fun x hx=>on.lt x (dD (cq hx)),h7,fun b hbt=>?_⟩
    ·have:=congrArg List.length z
     rw[bW,cV,bw] at this
     omega
    cases b with
    | false =>
     show if (!false)=true then _ else _
     rw[if_pos (by simp)]
     exact zDk (d:=.bl false) yD ⟨G,sb4.trans (.new hlb),h false fun z=>by cases z⟩
    | true =>
     show if (!true)=true then _ else _
     rw[if_neg (by simp)]
     obtain⟨v,hv⟩:=hbt rfl
     have e:os.take (i+1)=os.take s++(os.drop s).take (i+1-s):=by
      rw[← List.take_add,show s+(i+1-s)=i+1 by omega]
     have T:yP q (os.take (i+1)) (u++v):=by
      rw[e]
      refine hu.glue hv (fun x hx z=>?_) fun x hx y hy=>hsep x (cq hx) y hy
      have:=on.nd
      rw[← cM s os] at this
      exact(dm.mp this).2.2 x hx x (cq z) rfl
     dsimp only[zr]
     refine zNh (te:=zB 3) (d:=nD (i+1)) (zE (i:=3) (σ:=[some (zS n q),some (.adr lo),some (nD s),some (nD (i+1)),some (.adr ln)]) rfl) ?_
     exact⟨[some (zS n q),some (.adr lo),some (nD (i+1)),none,none],_,.keep (.keep (.keep (.skip (.skip .nil)))),.refl _,i+1,rfl,bF _,fun z=>z,⟨_,T⟩,hsp hb,(L3.Sub.new hlb).m _ _ g4,sb4.trans (.new hlb)⟩
   ·have hb:=of_decide_eq_false hb
    exact⟨[some (zS n q),some (.adr lo),some (nD s),none,none],_,.keep (.keep (.keep (.skip (.skip .nil)))),.refl _,s,rfl,by omega,fun z=>absurd (hnn z) hb,⟨u,hu⟩,hsep,e4.sub.m _ _ h3,sb3.trans e4.sub⟩
  by_cases hin:i+1<n
  ·have hio:i+1<os.length:=by omega
   have hp:os.getD (i+1) 0<n:=on.lt _ (by simp[cJ,hio])
   have ixp:zi (zP yh (zB 1) (zB 3)) [some (zS n q),some (.adr lo),some (nD s),some (nD (i+1)),some (.adr l4)] G2 (nD (os.getD (i+1) 0)):=zBV (k:=((i+1:Nat):Int)) (zE (i:=1) (d:=.adr lo) rfl) (zE (i:=3) (d:=nD (i+1)) rfl) (.inl g2) (wB (by rw[bY];simp[cJ,hio]))
   refine zEA (pc G2 (.refl _) _ ?_)
   rw[decide_eq_true hin,if_pos rfl]
   refine(zML (os:=os.take (i+1)) (σ:=[some (zS n q),some (.adr lo),some (nD s),some (nD (i+1)),some (.adr l4)]) (G:=G2) (te:=zB 5) rfl ixp (fun y=>zNg (l:=lo) (os:=os) (zE rfl) (zE rfl) (.inl g2) (zE (i:=3) (d:=nD (i+1)) rfl) (by omega)) (fun y=>zE rfl)) G2 (.refl _) _ fun ln hln=>?_
   have nln:lo≠ln:=fun z=>by rw[z] at g2;rw[g2] at hln;cases hln
   refine rest _ ln _ .own (by rw[zO nln];exact g2) (sb2.trans (.new hln)) (fun z x hx y hy=>?_) (fun z=>by omega)
   have:=on.near (i+1) hio ((zGY hp (fun y hy=>on.lt y (cq hy))).mp z) x (on.lt x (dD hx)) (fun hz=>?_) y hy
   ·exact this
   ·have:=on.nd
    rw[← cM (i+1) os] at this
    exact(dm.mp this).2.2 x hz x hx rfl
  ·refine zEA (pc G2 (.refl _) _ ?_)
   rw[decide_eq_false hin,if_neg (by simp)]
   refine rest [] l4 G2 g24 g2 sb2 (fun u0 x hx=>?_) (fun u0=>rfl)
   rw[List.drop_of_length_le (by omega)] at hx
   cases hx
 ·rintro σ G1 ⟨s,rfl,hs,hsn,⟨u,hu⟩,hsep,g1,sb1⟩
  have hl:(zy 1 n).length=n:=by unfold zy;simp
  rw[hl] at hsn
  have:=hsn rfl
  subst this
  show zw (xC (.bl true)) (zj R) [some (zS s q),some (.adr lo),some (nD s),none,none] G1
  refine zDk (d:=.bl true) yD ⟨G,sb1,h true fun u0=>⟨u,?_⟩⟩
  rw[du (by omega)] at hu
  exact hu.congr (Ord.mem ⟨on.nd,ol,on.lt⟩)
theorem zFw{α β:Type}(f:α→β):∀(l:List α) (i:Nat),(l.map f).eraseIdx i=(l.eraseIdx i).map f
 | [],_=>rfl
 | _::_,0=>rfl
 | a::l,i+1=>congrArg (f a::·) (zFw f l i)
theorem zMO{tc:TT2}{t u v:wD}{E:yH}{σ:S2}{G:Gp}(h:xIf tc t u { E with nx:=v E } σ G):zX (xIf tc t u) v E σ G:=h
noncomputable def mm(f:Nat→Nat)(p:Nat×Nat):Nat×Nat:=(min (f p.1) (f p.2),max (f p.1) (f p.2))
theorem zPZ{f:Nat→Nat}{n:Nat}(hf:∀ x,x<n→∀ y,y<n→f x=f y→x=y){p r:Nat×Nat}(hp:p.1<p.2∧p.2<n)(hr:r.1<r.2∧r.2<n)(e:mm f p=mm f r):p=r:=by
 obtain⟨a,b⟩:=p
 obtain⟨c,d⟩:=r
 unfold mm at e
 dsimp only at *
 obtain⟨e1,e2⟩:=Prod.mk.inj e
 have:(f a=f c∧f b=f d)∨(f a=f d∧f b=f c):=by omega
 rcases this with ⟨h1,h2⟩ | ⟨h1,h2⟩
 ·rw[hf a (by omega) c (by omega) h1,hf b (by omega) d (by omega) h2]
 ·have:=hf a (by omega) d (by omega) h1
  have:=hf b (by omega) c (by omega) h2
  omega
theorem zHj{f:Nat→Nat}{n:Nat}(hf:∀ x,x<n→∀ y,y<n→f x=f y→x=y):∀(ps:List (Nat×Nat)),ps.Nodup→(∀ p∈ps,p.1<p.2∧p.2<n)→(ps.map (mm f)).Nodup
 | [],_,_=>List.nodup_nil
 | p::ps,nd,h=>by
  obtain⟨h1,h2⟩:=cR.mp nd
  refine cR.mpr ⟨fun z=>?_,zHj hf ps h2 fun q hq=>h q (ca _ hq)⟩
  obtain⟨r,hr,e⟩:=bQ.mp z
  exact h1 (zPZ hf (h r (ca _ hr)) (h p (cc ..)) e▸hr)
theorem zQS{f:Nat→Nat}{n:Nat}(hf:∀ x,x<n→∀ y,y<n→f x=f y→x=y)(hl:∀ x,x<n→f x<n){p:Nat×Nat}(hp:p.1<p.2∧p.2<n):(mm f p).1<(mm f p).2∧(mm f p).2<n:=by
 obtain⟨a,b⟩:=p
 unfold mm
 dsimp only at *
 have h1:=hl a (by omega)
 have h2:=hl b (by omega)
 have h3:f a≠f b:=fun e=>by have:=hf a (by omega) b (by omega) e;omega
 omega
noncomputable def wdS(p:Nat×Nat):Str:=⟨#[48+p.1,48+p.2]⟩
noncomputable def whl(b:Bool):Str:=if b then "01 03 05 12 16 23 34 45 56" else "01 02 03 04 05 12 15 23 34 45"
noncomputable def whp(b:Bool):List (Nat×Nat):=if b then [(0,1),(0,3),(0,5),(1,2),(1,6),(2,3),(3,4),(4,5),(5,6)] else [(0,1),(0,2),(0,3),(0,4),(0,5),(1,2),(1,5),(2,3),(3,4),(4,5)]
noncomputable def whn(b:Bool):Nat:=if b then 7 else 6
theorem zKe(b:Bool):Txt.split (whl b) " "=(whp b).map wdS:=by cases b<;>decide +kernel
theorem zPa(b:Bool):(whp b).Nodup∧(whp b).length≤10∧1≤(whp b).length∧∀ p∈whp b,p.1<p.2∧p.2<whn b:=by cases b<;>decide
theorem zGb(b:Bool):(whl b).length≤1000000∧atI (whl b).cps.toList (-1)=some (if b then 54 else 53):=by cases b<;>decide +kernel
theorem zNi:∀ d:Fin 10,(⟨#[48+d.val]⟩:Str)=Str.ofString (toString ((d.val:Nat):Int)):=by decide +kernel
theorem zKf{σ:S2}{G:Gp}{t u:ze}{a b:Nat}(h:zi t σ G (nD a))(h':zi u σ G (nD b)):PuL (zAJ (yw (zA t (zA u zG)))) σ G ([min a b,max a b].map nD):=by
 refine zJ4 (l:=[a,b]) (fun G2 e R q=>zAU ((zJ h (zJ h' zT)) G2 e _ ⟨by rw[sizeLine_eq];simp,q⟩)) (by simp) ?_ ?_
 ·by_cases hab:a≤b
  ·rw[df hab,Nat.max_eq_right hab]
  ·rw[Nat.min_eq_right (by omega),Nat.max_eq_left (by omega)]
   exact dg.swap _ _ _
 ·simp only[List.pairwise_cons,bH,db,dF.nil,and_true,false_imp_iff,implies_true]
  rintro x rfl
  omega
theorem zMP{σ:S2}{G:Gp}{t u:ze}{p:Nat×Nat}{k d:Nat}(h:zi t σ G (.str (wdS p)))(hu:zi u σ G (nD k))(hd:d<10)(hk:(wdS p).cps.toList[k]?=some (48+d)):zi (zL zA5 (zA (zP zCK t u) zG)) σ G (nD d):=by
 have e:atI (wdS p).cps.toList (k:Int)=some (48+d):=wB hk
 have:=yi (f:=zCK) (d:=.str ⟨#[48+d]⟩) h hu fun G2 e2 R q=>⟨(show 2≤1000000 by omega),by rw[e];exact q⟩
 exact wN (zJ this zT) fun G2 e2 R q=>⟨d,zNi ⟨d,hd⟩,by omega,q⟩
theorem zQx{σ:S2}{G:Gp}{to:ze}{t:wW}{R:Q2}{l:Addr}{xs:List D}(ho:zi to σ G (.adr l))(h:G.m l=some xs)(ht:t σ G fun ds G2=>match ds with
   | [.int i]=>(match G2.m l with
    | some xs=>(0≤i∧i<xs.length∧i≤1000000)∧(match xs[i.toNat]? with | some d=>R d (zN G2 l (xs.eraseIdx i.toNat)) | none=>False)
    | none=>False)
   | _=>False):zGy to t σ G R:=by
 refine ho G (.refl G) _ ?_
 show match G.m l with | some _=>_ | none=>_
 rw[h]
 exact ht
noncomputable def yx:Sp2:=fun ds G R=>∃(l:Addr),ds=[.adr l]∧zAX G l∧∀(n:Nat) (q:Nat×Nat→Bool) (G':Gp),6≤n→n≤7→Dr l G G'→R (zS n q) G'
noncomputable abbrev zGc:wD:=(zX (zn (za (yw zG)) (gN 5)) (zX (wV (iF (zGX (zB 1) (zA (xC (.str " ")) zG))) (gN 6) (zX (zn (za (zAJ (yw (zA (zP yh (zB 4) (zL zA5 (zA (zP zCK (zB 6) (xC (.int 0))) zG))) (zA (zP yh (zB 4) (zL zA5 (zA (zP zCK (zB 6) (xC (.int 1))) zG))) zG))))) (gN 7)) (wF (zDt (zB 5) (zA (yK (zA (zP yh (zB 7) (xC (.int 0))) (zA (zP yh (zB 7) (xC (.int 1))) zG))) zG))))) (zX (xIf (xB (zP (fEq false) (zL zc (zA (zB 0) (zA (xC (.int 4)) zG))) (xC (.int 0)))) (wF (zGy (zB 5) (zA (zL zc (zA (zB 0) (zA (zL zk (zA (zB 5) zG)) zG))) zG))) zr) (zw (yK (zA (zB 2) (zA (yG wG (zBq (zA (zB 5) zG))) zG)))))))
noncomputable def wy:wD:=(zX (zn (zP yh (za (yw (zA (xC (.str "01 02 03 04 05 12 15 23 34 45")) (zA (xC (.str "01 03 05 12 16 23 34 45 56")) zG)))) (zL zc (zA (zB 0) (zA (xC (.int 2)) zG)))) (gN 1)) (zX (zn (zP yN (xC (.int 6)) (zL zDS (zA (zP (fEq false) (zP zCK (zB 1) (zKA (xC (.int 1)))) (xC (.str "6"))) zG))) (gN 2)) (zX (zn (za (zBi (zA (zB 2) zG))) (gN 3)) (zX (zAm 4 (yE (iR1 (zA (zB 2) zG)) bd1 zDJ (zGy (zB 3) (zA (zL zc (zA (zB 0) (zA (zL zk (zA (zB 3) zG)) zG))) zG)))) (zX (zn (za (yw zG)) (gN 5)) (zX (wV (iF (zGX (zB 1) (zA (xC (.str " ")) zG))) (gN 6) (zX (zn (za (zAJ (yw (zA (zP yh (zB 4) (zL zA5 (zA (zP zCK (zB 6) (xC (.int 0))) zG))) (zA (zP yh (zB 4) (zL zA5 (zA (zP zCK (zB 6) (xC (.int 1))) zG))) zG))))) (gN 7)) (wF (zDt (zB 5) (zA (yK (zA (zP yh (zB 7) (xC (.int 0))) (zA (zP yh (zB 7) (xC (.int 1))) zG))) zG))))) (zX (xIf (xB (zP (fEq false) (zL zc (zA (zB 0) (zA (xC (.int 4)) zG))) (xC (.int 0)))) (wF (zGy (zB 5) (zA (zL zc (zA (zB 0) (zA (zL zk (zA (zB 5) zG)) zG))) zG))) zr) (zw (yK (zA (zB 2) (zA (yG wG (zBq (zA (zB 5) zG))) zG)))))))))))
theorem zNj{l lf a:Addr}{n:Nat}{z:Str}{ps:List (Nat×Nat)}{ys:List Nat}{G G3:Gp}{R:Q2}(hs:zAX G l)(h:∀(n:Nat) (q:Nat×Nat→Bool) (G':Gp),6≤n→n≤7→Dr l G G'→R (zS n q) G')(hn67:6≤n∧n≤7)(wp1:ps.Nodup)(wp2:ps.length≤10)(wp3:1≤ps.length)(wp4:∀ p∈ps,p.1<p.2∧p.2<n)(wsp:Txt.split z " "=ps.map wdS)(wln:z.length≤1000000)(hp:ys.Perm (bE n))(hd3:DrS l G G3)(ha:G3.m a=none) :
  zGc (zj R) [some (.adr l),some (.str z),some (nD n),some (.adr lf),some (.adr a),none,none,none] (zN G3 a (ys.map nD)):=by
 unfold zGc
 have ha0:=hd3.own hs ha
 have al:a≠l:=hd3.st.ne ha
 have hd4:DrS l G (zN G3 a (ys.map nD)):=hd3.put hs ha0
 have g4:(zN G3 a (ys.map nD)).m a=some (ys.map nD):=zF
 generalize zN G3 a (ys.map nD)=G4 at hd4 g4
 have ylen:ys.length=n:=by rw[hp.length_eq,bT]
 have ynd:ys.Nodup:=hp.nodup_iff.mpr eI
 have yl:∀ x,x<n→ys.getD x 0<n:=fun x hx=>cb.mp (hp.mem_iff.mp (by simp[cJ,ylen,hx]))
 have yinj:∀ x,x<n→∀ y,y<n→ys.getD x 0=ys.getD y 0→x=y:=fun x hx y hy e=>by
  rw[← zN7 ynd (i:=x) (by omega),← zN7 ynd (i:=y) (by omega),e]
 -- the ties
 refine yB (zAB (ds:=[]) (fun G2 e R q=>zAU (yI ⟨by rw[sizeLine_eq];simp,q⟩)) fun f hf=>?_)
 simp only[gN,bo,bn]
 have hf0:=hd4.own hs hf
 have fl:f≠l:=hd4.st.ne hf
 have fa:a≠f:=fun e=>by rw[e] at g4;rw[g4] at hf;cases hf
 have hd5:DrS l G (zN G4 f []):=hd4.put hs hf0
 have g5:(zN G4 f []).m a=some (ys.map nD):=by rw[zO fa];exact g4
 have g5f:(zN G4 f []).m f=some []:=zF
 generalize zN G4 f []=G5 at hd5 g5 g5f
 refine wo (zDN (zNF (show zGX _ _ _ _ _ from zE (i:=1) (d:=.str z) rfl G5 (.refl _) _ (zu (d:=.str " ") yD (yI ⟨rfl,wln,fun lw hlw=>?_⟩)))))
 have hlw0:=hd5.own hs hlw
 have lwl:lw≠l:=hd5.st.ne hlw
 have alw:a≠lw:=fun e=>by rw[e] at g5;rw[g5] at hlw;cases hlw
 have flw:f≠lw:=fun e=>by rw[e] at g5f;rw[g5f] at hlw;cases hlw
 rw[wsp]
 refine zBL (fun k G'=>G'.m a=some (ys.map nD)∧G'.m f=some (((ps.take k).map (mm fun i=>ys.getD i 0)).map prD)∧G'.m lw=some ((ps.map wdS).map D.str)∧DrS l G G') ⟨by rw[zO alw];exact g5,by rw[zO flw];exact g5f,zF,hd5.put hs hlw0⟩ (fun k G' hI=>.inl hI.2.2.1) ?_ ?_
 ·rintro k x hx G6 ⟨i1,i2,i3,i4⟩
  rw[cH] at hx
  obtain⟨p,hpk,rfl⟩:=zDz hx
  obtain⟨pa,pb⟩:=p
  obtain⟨hp1,hp2⟩:=wp4 (pa,pb) (cf hpk)
  dsimp only at hp1 hp2
  simp only[gN,bo,bn]
  have q1:zi (zP yh (zB 4) (zL zA5 (zA (zP zCK (zB 6) (xC (.int 0))) zG))) [some (.adr l),some (.str z),some (nD n),some (.adr lf),some (.adr a),some (.adr f),some ((D.str∘wdS) (pa,pb)),none] G6 (nD (ys.getD pa 0)):=zBV (l:=a) (k:=(pa:Int)) (zE rfl) (zMP (p:=(pa,pb)) (k:=0) (d:=pa) (zE rfl) yD (by omega) rfl) (.inl i1) (zII (by omega))
  have q2:zi (zP yh (zB 4) (zL zA5 (zA (zP zCK (zB 6) (xC (.int 1))) zG))) [some (.adr l),some (.str z),some (nD n),some (.adr lf),some (.adr a),some (.adr f),some ((D.str∘wdS) (pa,pb)),none] G6 (nD (ys.getD pb 0)):=zBV (l:=a) (k:=(pb:Int)) (zE rfl) (zMP (p:=(pa,pb)) (k:=1) (d:=pb) (zE rfl) yD (by omega) rfl) (.inl i1) (zII (by omega))
  refine yB (zAB (zKf q1 q2) fun le hle=>?_)
  simp only[gN,bo,bn]
  have hle0:=i4.own hs hle
  have ale:a≠le:=fun e=>by rw[e] at i1;rw[i1] at hle;cases hle
  have fle:f≠le:=fun e=>by rw[e] at i2;rw[i2] at hle;cases hle
  have wle:lw≠le:=fun e=>by rw[e] at i3;rw[i3] at hle;cases hle
  generalize hxa:ys.getD pa 0=xa
  generalize hxb:ys.getD pb 0=xb
  have gle:Ls (zN G6 le ([min xa xb,max xa xb].map nD)) le ([min xa xb,max xa xb].map nD):=.own
  have pt:zi (yK (zA (zP yh (zB 7) (xC (.int 0))) (zA (zP yh (zB 7) (xC (.int 1))) zG))) [some (.adr l),some (.str z),some (nD n),some (.adr lf),some (.adr a),some (.adr f),some ((D.str∘wdS) (pa,pb)),some (.adr le)] (zN G6 le ([min xa xb,max xa xb].map nD)) (prD (min xa xb,max xa xb)) :=
   zA1 (zJ (zBV (l:=le) (k:=0) (zE rfl) yD gle (wB (j:=0) rfl)) (zJ (zBV (l:=le) (k:=1) (zE rfl) yD gle (wB (j:=1) rfl)) zT)) (by simp)
  refine zCi (zC9 (l:=f) (zE rfl) (by rw[zO fle];exact i2) (zu pt (yI ⟨_,by rw[zO fle];exact i2,by simp only[bx,bW];omega,?_⟩)))
  refine⟨.keep (.keep (.keep (.keep (.keep (.keep (.skip (.skip .nil))))))),_,.refl _,by rw[zO fa,zO ale];exact i1,?_,by rw[zO (Ne.symm flw),zO wle];exact i3,(i4.put hs hle0).put hs hf0⟩
  rw[zF,yS hpk,cr,cr]
  unfold mm
  dsimp only
  rw[← hxa,← hxb]
  rfl
 ·rintro G6 ⟨i1,i2,i3,i4⟩
  rw[bx,bx,cU] at i2
  have tnd:=zHj yinj ps wp1 wp4
  have tlt:∀ p∈ps.map (mm fun i=>ys.getD i 0),p.1<p.2∧p.2<n:=fun p hp=>by
   obtain⟨r,hr,rfl⟩:=bQ.mp hp
   exact zQS yinj yl (wp4 r hr)
  have tl:(ps.map (mm fun i=>ys.getD i 0)).length≤10∧1≤(ps.map (mm fun i=>ys.getD i 0)).length:=by rw[bx];exact⟨wp2,wp3⟩
  generalize ps.map (mm fun i=>ys.getD i 0)=ts at i2 tnd tlt tl
  dsimp only
  have fin:∀(ts:List (Nat×Nat)) (G7:Gp),ts.Nodup→(∀ p∈ts,p.1<p.2∧p.2<n)→G7.m f=some (ts.map prD)→DrS l G G7→zw (yK (zA (zB 2) (zA (yG wG (zBq (zA (zB 5) zG))) zG))) (zj R) [some (.adr l),some (.str z),some (nD n),some (.adr lf),some (.adr a),some (.adr f),none,none] G7:=by
   intro ts G7 a1 a2 a3 a4
   refine zDk (d:=zS n fun p=>decide (p∈ts)) (zA1 (zJ (zE rfl) (zJ (zKN (zE (i:=5) rfl) (.inl a3) a1 a2 (by omega)) zT)) (by simp)) (a4.fin fun G' d=>h n _ G' hn67.1 hn67.2 d)
  refine zMO (show xIf (xB (zP _ _ _)) _ _ _ _ _ from zBS (zJ (zE (d:=.adr l) rfl) (zJ (yD (d:=nD 4)) zT)) ⟨l,4,rfl,i4.st,by omega,by omega,fun r G7 hr d7=>?_⟩)
  have g7:G7.m f=some (ts.map prD):=by rw[d7.ne fl];exact i2
  have hd7:=i4.dr d7
  refine yD (d:=.int 0) G7 (.refl _) _ ⟨rfl,rfl,?_⟩
  dsimp only
  rw[if_neg (show ¬ false=true by simp)]
  by_cases hb:eqD (nD r) (.int 0)=true
  ·rw[if_pos hb]
   refine zCi (zQx (l:=f) (zE (i:=5) rfl) g7 (zAo (zIG (zu (d:=.adr l) (zE rfl) (zu (d:=nD ts.length) (by
    have:=zD7 (t:=zB 5) (σ:=[some (.adr l),some (.str z),some (nD n),some (.adr lf),some (.adr a),some (.adr f),none,none]) (G:=G7) (a:=f) (zE rfl) (.inl g7)
    rw[bx] at this
    exact this) (yI ⟨l,ts.length,rfl,hd7.st,by omega,by omega,fun r2 G8 hr2 d8=>?_⟩))))))
   have g8:G8.m f=some (ts.map prD):=by rw[d8.ne fl];exact g7
   refine yI ?_
   show match G8.m f with | some xs=>_ | none=>False
   rw[g8]
   refine⟨⟨by omega,by rw[bx];omega,by omega⟩,?_⟩
   have er:((r2:Int)).toNat=r2:=by omega
   have ex:(ts.map prD)[((r2:Int)).toNat]?=some (prD ts[r2]):=by rw[er,bY];simp[hr2]
   rw[ex,er]
   dsimp only
   refine fin (ts.eraseIdx r2) _ (tnd.sublist (List.eraseIdx_sublist ..)) (fun p hp=>tlt p (List.mem_of_mem_eraseIdx hp)) ?_ ((hd7.dr d8).put hs hf0)
   rw[zF,zFw]
  ·rw[if_neg hb]
   exact fin ts G7 tnd tlt g7 hd7
theorem zEz(ds:List D)(G:Gp)(R:Q2)(h:yx ds G R):ds.length=1∧wy (zj R) (zV ["state","some","many","left","names","ties","word","ends"] ds) G:=by
 obtain⟨l,rfl,hs,h⟩:=h
 refine⟨rfl,?_⟩
 unfold wy
 rw[show zV ["state","some","many","left","names","ties","word","ends"] [.adr l]=[some (.adr l),none,none,none,none,none,none,none] from rfl]
 refine yB (zHP (zAB (ds:=[.str (whl false),.str (whl true)]) (fun G2 e R q=>zAU (zu (d:=.str (whl false)) yD (zu (d:=.str (whl true)) yD (yI ⟨by rw[sizeLine_eq];simp,q⟩)))) fun c0 hc0=>?_))
 have c0l:c0≠l:=hs.ne hc0
 have hd0:DrS l G (zN G c0 [.str (whl false),.str (whl true)]):=(DrS.refl hs).put hs hc0
 refine zBS (zJ (zE (d:=.adr l) rfl) (zJ (yD (d:=nD 2)) zT)) ⟨l,2,rfl,hs.ext (.new hc0),by omega,by omega,fun r G1 hr d1=>?_⟩
 have m1:G1.m c0=some [.str (whl false),.str (whl true)]:=by rw[d1.ne c0l];exact zF
 have hd1:=hd0.dr d1
 obtain⟨b,hb⟩:∃ b:Bool,atI [D.str (whl false),.str (whl true)] (r:Int)=some (.str (whl b)):=by
  match r,hr with
  | 0,_=>exact⟨false,rfl⟩
  | 1,_=>exact⟨true,rfl⟩
 refine⟨_,_,.inl m1,hb,?_⟩
 clear m1 hb hd0 d1 c0l hc0
 simp only[gN,bo,bn]
 have pm:zi (zP yN (xC (.int 6)) (zL zDS (zA (zP (fEq false) (zP zCK (zB 1) (zKA (xC (.int 1)))) (xC (.str "6"))) zG))) [some (.adr l),some (.str (whl b)),none,none,none,none,none,none] G1 (nD (whn b)):=by
  have p1:zi (zP zCK (zB 1) (zKA (xC (.int 1)))) [some (.adr l),some (.str (whl b)),none,none,none,none,none,none] G1 (.str ⟨#[if b then 54 else 53]⟩):=yi (x:=.str (whl b)) (y:=.int (-1)) (zE rfl) (fun G2 e R q=>q) fun G2 e2 R q=>⟨(zGb b).1,by rw[(zGb b).2];exact q⟩
  have p2:zi (zP (fEq false) (zP zCK (zB 1) (zKA (xC (.int 1)))) (xC (.str "6"))) [some (.adr l),some (.str (whl b)),none,none,none,none,none,none] G1 (.bl b):=zDj p1 yD rfl rfl (by cases b<;>rfl)
  have p3:=zEW (i:=6) (j:=if b then 1 else 0) (yD (d:=.int 6)) (wN (zJ p2 zT) fun G2 e R q=>q:zi (zL zDS (zA (zP (fEq false) (zP zCK (zB 1) (zKA (xC (.int 1)))) (xC (.str "6"))) zG)) [some (.adr l),some (.str (whl b)),none,none,none,none,none,none] G1 (.int (if b then 1 else 0)))
  have e:nD (whn b)=.int (6+if b then 1 else 0):=by cases b<;>rfl
  rw[e]
  exact p3
 refine zBT pm ?_
 simp only[gN,bo,bn]
 have hn67:6≤whn b∧whn b≤7:=by cases b<;>decide
 obtain⟨wp1,wp2,wp3,wp4⟩:=zPa b
 have wsp:=zKe b
 have wln:=(zGb b).1
 generalize hn:whn b=n at hn67 wp4
 generalize whp b=ps at wp1 wp2 wp3 wp4 wsp
 generalize whl b=z at wsp wln
 clear pm hn
 have pl:PuL (zBi (zA (zB 2) zG)) [some (.adr l),some (.str z),some (nD n),none,none,none,none,none] G1 ((bE n).map nD):=fun G2 e R q=>zJ (d:=nD n) (zE rfl) zT G2 e _ ⟨by omega,by rw[zAu];exact q⟩
 refine yB (zAB pl fun lf hlf=>?_)
 simp only[gN,bo,bn]
 have hlf0:=hd1.own hs hlf
 have la:lf≠l:=hd1.st.ne hlf
 have hd2:DrS l G (zN G1 lf ((bE n).map nD)):=hd1.put hs hlf0
 have pn:zi (zB 2) [some (.adr l),some (.str z),some (nD n),some (.adr lf),none,none,none,none] (zN G1 lf ((bE n).map nD)) (nD (bE n).length):=by
  rw[bT];exact zE rfl
 refine(show zX (zAm 4 _) _ _ _ _ from ?_)
 have hh:∀(ys:List Nat) (G3:Gp),ys.Perm (bE n)→DrS l G G3→∀ a,G3.m a=none→zGc (zj R) [some (.adr l),some (.str z),some (nD n),some (.adr lf),some (.adr a),none,none,none] (zN G3 a (ys.map nD)):=by
  intro ys G3 hp hd3 a ha
  exact zNj hs h hn67 wp1 wp2 wp3 wp4 wsp wln hp hd3 ha
 have key:=drawn (σ:=[some (.adr l),some (.str z),some (nD n),some (.adr lf),none,none,none,none]) (G:=zN G1 lf ((bE n).map nD)) (G0:=G) (k:=8) (xs:=bE n) (i0:=0) (i2:=3) (t:=zA (zB 2) zG)
  (R:=fun d G1=>match d with | .tup ds=>∀ a,G1.m a=none→zGc (zj R) [some (.adr l),some (.str z),some (nD n),some (.adr lf),some (.adr a),none,none,none] (zN G1 a ds) | _=>False) rfl rfl rfl (zJ pn zT) hd2.st hs la zF hlf0 hd2 (by simp;omega) hh
 exact key
theorem zE0(n:Nat)(q:Nat×Nat→Bool):flat 8 (zS n q)=true:=by
 unfold zS
 show([nD n,.tup (((prs n).filter q).map prD)]:List D).all (flat 7)=true
 simp only[List.all_cons,List.all_nil,Bool.and_true,dk]
 refine⟨rfl,?_⟩
 show(((prs n).filter q).map prD).all (flat 6)=true
 rw[eJ]
 intro x hx
 obtain⟨p,u0,rfl⟩:=bQ.mp hx
 rfl
theorem zGd(w:List Nat):flat 8 (uD w)=true:=zHi [w] _ (by simp)
theorem zNk{σ:S2}{G:Gp}{t:TL2}{R:List D→Gp→Prop}(h:t σ G fun ds G1=>match intsOf ds with | some ns=>ns.length<64∧∀(ns':List Int),ns'.Perm ns→ns'.Pairwise (·≤·)→R (ns'.map D.int) G1 | none=>False):zAJ t σ G R:=h
theorem zQT{σ:S2}{G:Gp}{ta tb:ze}{R:List D→Gp→Prop}(h:ta σ G fun x G1=>tb σ G1 fun y G2=>match x,y with
 | .adr l,.int k=>match G2.m l with
  | some ds=>(0≤k∧k≤1000)∧ds.length≤1000∧R ((bL k.toNat ds).flatten) G2
  | none=>False
 | _,_=>False):zJy ta tb σ G R:=h
noncomputable def wL:Sp2:=fun ds G R=>∃(n:Nat) (q:Nat×Nat→Bool),ds=[zS n q]∧1≤n∧n≤7∧R (.bl true) G
noncomputable def zCH:wD:=(zX (zn (zL wY (zA (zB 0) zG)) (gN 1)) (zX (xIf (xB (zP (zHR false) (zB 1) (xC .non))) (zw (zOw (zL yz (zA (zB 0) zG)))) zr) (zX (xIf (zCr (zAn (xB (zLD "tuple" (zB 1)))) (xB (zP (fEq true) (zL zk (zA (zB 1) zG)) (zP (yd zCV fun i j=>.int (i*j)) (xC (.int 2)) (zP yh (zB 0) (xC (.int 0))))))) (zw (xC (.bl false))) zr) (zX (wV (iV (zB 1)) (gN 2) (xIf (zCr (zAn (xB (zLD "int" (zB 2)))) (xB (zLD "bool" (zB 2)))) (zw (xC (.bl false))) zr)) (zX (xIf (xB (zP (fEq true) (za (zAW (zA (zB 1) zG))) (za (zAJ (zJy (za (zBi (zA (zP yh (zB 0) (xC (.int 0))) zG))) (xC (.int 2))))))) (zw (xC (.bl false))) zr) (zw (zOv (zP (fEq false) (zL yj (zA (zB 1) zG)) (zB 0)) (zP (fEq false) (zL wY (zA (zB 0) zG)) (zB 1)))))))))
theorem zKg(ds:List D)(G:Gp)(R:Q2)(h:wL ds G R):ds.length=1∧zCH (zj R) (zV ["web","found","place"] ds) G:=by
 obtain⟨n,q,rfl,h1,h7,h⟩:=h
 refine⟨rfl,?_⟩
 unfold zCH
 rw[show zV ["web","found","place"] [zS n q]=[some (zS n q),none,none] from rfl]
 obtain⟨ok1,ok2⟩:=zMB (q:=q) h1 h7
 refine yB (zBS (zJ (zE (d:=zS n q) rfl) zT) ⟨n,q,rfl,h1,h7,?_⟩)
 simp only[gN,bo,bn]
 cases hr:zFv n q with
 | none =>
  refine zGQ (b:=true) (zAR (yi (f:=zHR false) (x:=.non) (y:=.non) (d:=.bl true) (zE (i:=1) rfl) yD fun u0 u0 u0 q'=>q')) (fun u0=>?_) (fun z=>by cases z)
  refine(show zw (zOw (zL yz (zA (zB 0) zG))) (zj R) [some (zS n q),some .non,none] G from zBS (zJ (zE (d:=zS n q) rfl) zT) ⟨n,q,rfl,h1,h7,fun b hb=>?_⟩)
  cases b with
  | true=>exact absurd hr (ok2 (hb rfl))
  | false=>exact .of h
 | some w =>
  have T:=ok1 w hr
  have ri:=T.ring
  have hw:=ri.len
  refine zDO (zAR (yi (f:=zHR false) (x:=uD w) (y:=.non) (d:=.bl false) (zE (i:=1) rfl) yD fun u0 u0 u0 q'=>q')) ?_
  have pl:zi (zL zk (zA (zB 1) zG)) [some (zS n q),some (uD w),none] G (nD w.length):=by
   have:=zIJ (σ:=[some (zS n q),some (uD w),none]) (G:=G) (t:=zB 1) (ds:=w.map nD) (zE rfl)
   rw[bx] at this
   exact this
  refine zDO (zLU (zGA (b:=true) (zAR (zIF (d:=uD w) (zE rfl) (fun l z=>by cases z) rfl))) (zAR (zDj (x:=nD w.length) (y:=nD (2*n)) pl (zHg (zDh (q:=q) (zE rfl)) (by omega)) rfl rfl (by rw[if_pos rfl,zDP,hw];simp)))) ?_
  refine wo (zG4 (zBC (zE (i:=1) (d:=uD w) rfl)) (fun x hx G1 e1=>?_) fun G1 e1=>?_)
  ·obtain⟨y,u0,rfl⟩:=bQ.mp hx
   simp only[gN,bo,bn]
   exact zI5 (zLU (zGA (b:=true) (zAR (zIF (d:=nD y) (zE rfl) (fun l z=>by cases z) rfl))) (zAR (zIF (d:=nD y) (zE rfl) (fun l z=>by cases z) rfl))) ⟨.keep (.keep (.skip .nil)),.refl _⟩
  dsimp only
  have s1:PuL (zAW (zA (zB 1) zG)) [some (zS n q),some (uD w),none] G1 ((zBo w).map nD):=zEZ (l:=w) (zJ (zE (d:=uD w) rfl) zT) rfl (by omega)
  have tw:WkT (xB (zP (fEq true) (za (zAW (zA (zB 1) zG))) (za (zAJ (zJy (za (zBi (zA (zP yh (zB 0) (xC (.int 0))) zG))) (xC (.int 2))))))) [some (zS n q),some (uD w),none] G1 false:=zLy fun G2 e2 R q'=>by
   refine zHP (zAV (s1 G2 e2 _ fun a ha=>zAV (zNk (zQT (zAV (show zBi (zA (zP yh (zB 0) (xC (.int 0))) zG) _ _ _ from zJ (zDh (n:=n) (q:=q) (zE (i:=0) (σ:=[some (zS n q),some (uD w),none]) rfl)) zT _ (.refl _) _ ⟨by omega,fun b hb=>?_⟩))))))
   rw[zAu]
   refine yD (d:=.int 2) _ (.refl _) _ ?_
   dsimp only
   rw[zF]
   refine⟨by omega,by rw[bx,bT];omega,?_⟩
   have e:(bL (2:Int).toNat ((bE n).map nD)).flatten=((bE n++bE n).map fun(k:Nat)=>(k:Int)).map D.int:=by
    show(bL 2 _).flatten=_
    rw[cH]
    show _=(bE n++bE n).map nD
    simp[br]
   rw[e,zCY]
   refine⟨by simp;omega,fun ns' p1 p2 c hc=>?_⟩
   have e2:ns'=(zBo w).map fun(k:Nat)=>(k:Int):=by
    refine dg.eq_of_pairwise (fun a b u0 u0 h1 h2=>Int.le_antisymm h1 h2) p2 ?_ (p1.trans (((wX w).trans ri).map _).symm)
    exact dF.map _ (fun a b h=>by omega) (zCx w)
   subst e2
   rw[cH]
   have e3:bK (D.int∘fun(k:Nat)=>(k:Int)) (zBo w)=(zBo w).map nD:=rfl
   rw[e3]
   have nab:a≠b:=fun z=>by rw[← z,zF] at hb;cases hb
   have nac:a≠c:=fun z=>by rw[← z,zO nab,zF] at hc;cases hc
   refine⟨_,_,.inl (by rw[zO nac,zO nab];exact zF),.own,yU _,yU _,?_⟩
   rw[if_pos rfl,eqDs_refl _ 8 (yU _)]
   exact q' _ (((Ext.new ha).trans (.new hb)).trans (.new hc))
  refine zEA (tw G1 (.refl _) _ fun G2 e2=>?_)
  rw[if_neg (by simp)]
  dsimp only[zr]
  have wb:zi (zP (fEq false) (zL yj (zA (zB 1) zG)) (zB 0)) [some (zS n q),some (uD w),none] G2 (.bl true):=by
   refine zDj (x:=zS n q) (y:=zS n q) (wN (zJ (zE (d:=uD w) rfl) zT) fun G3 e3 R3 q3=>⟨n,w,rfl,ri,by omega,by rw[T.web];exact q3⟩) (zE rfl) (zE0 n q) (zE0 n q) (by rw[if_neg (by simp),zCs _ 8 (zE0 n q)])
  have rb:zi (zP (fEq false) (zL wY (zA (zB 0) zG)) (zB 1)) [some (zS n q),some (uD w),none] G2 (.bl true):=by
   refine zDj (x:=uD w) (y:=uD w) (wN (zJ (zE (d:=zS n q) rfl) zT) fun G3 e3 R3 q3=>⟨n,q,rfl,h1,h7,by rw[hr];exact q3⟩) (zE rfl) (zGd w) (zGd w) (by rw[if_neg (by simp),zCs _ 8 (zGd w)])
  refine wb G2 (.refl _) _ ?_
  dsimp only
  rw[if_pos rfl]
  exact rb G2 (.refl _) _ ⟨G,e1.sub.trans e2.sub,h⟩
noncomputable def zJb:wD:=(zX (wV (iR1 (zA (zL zBA (zA (xC (.int 1)) (zA (zL zAs (zA (zL zk (zA (zB 0) zG)) (zA (xC (.int 5)) zG))) zG))) zG)) (gN 1) (zX (zn (za (zq yq (zA (zB 0) (zA (zB 1) zG)))) (gN 2)) (wV (iF (yw (zA (zL zBn (zA (zB 2) (zA (zP yh (za (yw (zA (xC (.int 5)) (zA (xC (.int 6)) (zA (xC (.int 7)) zG))))) (zL zc (zA (zB 2) (zA (xC (.int 3)) zG)))) zG))) (zA (zL yx (zA (zB 2) zG)) zG)))) (gN 3) (xIf (zAn (xB (zL wL (zA (zB 3) zG)))) (zw (xC (.bl false))) zr)))) (zw (zOv (zL wL (zA (yK (zA (xC (.int 7)) (zA (yK zG) zG))) zG)) (zL wL (zA (yK (zA (xC (.int 1)) (zA (yK zG) zG))) zG)))))
theorem zQU(ds:List D)(G:Gp)(R:Q2)(h:zFd ds G R):ds.length=1∧zJb (zj R) (zV ["script","k","state","web"] ds) G:=by
 obtain⟨a,ns,rfl,ha,u0,u0,h⟩:=h
 refine⟨rfl,?_⟩
 unfold zJb
 obtain⟨m,hm⟩:=zJ5 (σ:=zV ["script","k","state","web"] [.adr a]) (G:=G) (a:=a) (ns:=ns) (c:=5) (by omega) rfl (.inr ha)
 refine wo (zG4 hm (fun x hx G1 e1=>?_) fun G1 e1=>?_)
 ·obtain⟨k,u0,rfl⟩:=bQ.mp hx
  refine zJ7 (σ:=[some (.adr a),some (nD k),none,none]) (i:=0) (j:=1) (x:=2) (ns:=ns) rfl rfl (e1.ls (.inr ha)) fun l s b hl ok=>?_
  simp only[bo,bn]
  have st0:zAX (zN G1 l [.int s,.bl b]) l:=⟨s,b,zF,ok⟩
  have sb0:L3.Sub G1 (zN G1 l [.int s,.bl b]):=.new hl
  generalize zN G1 l [.int s,.bl b]=G2 at st0 sb0
  have drS:∀ {G0 G3 G4:Gp},G0.m l=none→L3.Sub G0 G3→Dr l G3 G4→L3.Sub G0 G4:=fun {G0 G3 G4} hn hs d=>by
   obtain⟨s',b',rfl,u0⟩:=d
   exact hs.put hn
  refine zDN (zNF (zAU (zAo (zIG (zu (d:=.adr l) (zE rfl) (zAo (zHP (zAB (ds:=[nD 5,nD 6,nD 7]) (fun G2 e R q=>zAU (zu (d:=nD 5) yD (zu (d:=nD 6) yD (zu (d:=nD 7) yD (yI ⟨by rw[sizeLine_eq];simp,q⟩))))) fun c0 hc0=>?_))))))))
  have c0l:c0≠l:=st0.ne hc0
  refine zBS (zJ (zE (d:=.adr l) rfl) (zJ (yD (d:=nD 3)) zT)) ⟨l,3,rfl,st0.ext (.new hc0),by omega,by omega,fun t0 G3 ht0 d3=>?_⟩
  have m3:G3.m c0=some [nD 5,nD 6,nD 7]:=by rw[d3.ne c0l];exact zF
  have sb3:=drS hl (sb0.trans (.new hc0)) d3
  obtain⟨mo,hw0,mo1,mo5⟩:∃ mo:Nat,atI [nD 5,nD 6,nD 7] (t0:Int)=some (nD mo)∧1≤mo∧mo≤7:=by
   match t0,ht0 with
   | 0,_=>exact⟨5,rfl,by omega,by omega⟩
   | 1,_=>exact⟨6,rfl,by omega,by omega⟩
   | 2,_=>exact⟨7,rfl,by omega,by omega⟩
  refine⟨_,_,.inl m3,hw0,yI ⟨l,mo,rfl,d3.st,by omega,by omega,fun n1 q1 G4 h1 h17 d4=>?_⟩⟩
  refine zAo (zBS (zJ (zE (d:=.adr l) rfl) zT) ⟨l,rfl,d4.st,fun n2 q2 G5 h26 h27 d5=>?_⟩)
  have sb5:=drS hl (drS hl sb3 d4) d5
  refine yI ⟨by rw[sizeLine_eq];simp,fun lw hlw=>?_⟩
  refine zJ9 .own (fun x hx=>?_) ⟨.keep (.skip (.skip (.skip .nil))),sb5.trans (.new hlw)⟩
  have hxr:∃ n q,x=zS n q∧1≤n∧n≤7:=by
   simp only[ce,db,or_false] at hx
   rcases hx with rfl | rfl
   ·exact⟨_,_,rfl,h1,by omega⟩
   ·exact⟨_,_,rfl,by omega,h27⟩
  obtain⟨n,q,rfl,n1',n7⟩:=hxr
  simp only[gN,bo,bn]
  exact zI5 (zGA (b:=true) (zAR (wN (zJ (zE (d:=zS n q) rfl) zT) fun u0 u0 u0 q'=>⟨n,q,rfl,n1',n7,q'⟩))) ⟨.keep (.keep (.keep (.skip .nil))),.refl _⟩
 ·have eW:∀ n:Nat,zS n (fun u0=>false)=.tup [nD n,.tup []]:=fun n=>by unfold zS;simp
  have pr:∀(n:Nat) {σ:S2} {G:Gp},1≤n→n≤7→zi (zL wL (zA (yK (zA (xC (nD n)) (zA (yK zG) zG))) zG)) σ G (.bl true):=fun n σ G a b=>wN (zJ (d:=zS n fun u0=>false) (by rw[eW];exact zA1 (zJ yD (zJ (zA1 zT (by simp)) zT)) (by simp)) zT) fun u0 u0 u0 q'=>⟨n,_,rfl,a,b,q'⟩
  dsimp only
  refine pr 7 (by omega) (by omega) G1 (.refl _) _ ?_
  dsimp only
  rw[if_pos rfl]
  exact pr 1 (by omega) (by omega) G1 (.refl _) _ ⟨G,e1.sub,h⟩
end K
namespace K
open L2 L3
noncomputable def top(i:Nat):Stmt:=PySem.Challenge.pw_chordwebs_k52_rings_found.main.body.getD i (.Pass ⟨0,0,0,0⟩)
noncomputable abbrev wA:Stmt:=top 4
theorem zB1:zd ["many","most"] ["many","most"] (zH wA):=⟨rfl,rfl,rfl,by decide +kernel,rfl,by decide +kernel,by decide +kernel⟩
noncomputable abbrev zDa:Stmt:=top 6
theorem zJc:zd ["web","one","other"] ["web","one","other"] (zH zDa):=⟨rfl,rfl,rfl,by decide +kernel,rfl,by decide +kernel,by decide +kernel⟩
noncomputable abbrev zAg:Stmt:=top 9
theorem zE1:zd ["web","order"] ["web"] (zH zAg):=⟨rfl,rfl,rfl,by decide +kernel,rfl,by decide +kernel,by decide +kernel⟩
noncomputable abbrev yV:Stmt:=top 10
theorem zCQ:zd ["web","order","rest"] ["web"] (zH yV):=⟨rfl,rfl,rfl,by decide +kernel,rfl,by decide +kernel,by decide +kernel⟩
noncomputable abbrev yr:Stmt:=top 11
theorem zCR:zd ["web","place","others"] ["web","place","others"] (zH yr):=⟨rfl,rfl,rfl,by decide +kernel,rfl,by decide +kernel,by decide +kernel⟩
noncomputable abbrev yt:Stmt:=top 12
theorem zE2:zd ["web","order","done","ring","place","longer","found"] ["web","order","done","ring"] (zH yt):=⟨rfl,rfl,rfl,by decide +kernel,rfl,by decide +kernel,by decide +kernel⟩
noncomputable abbrev yu:Stmt:=top 13
theorem zCS:zd ["ring","place","crossed","wanted","found","first","inside","second"] ["ring","place","crossed"] (zH yu):=⟨rfl,rfl,rfl,by decide +kernel,rfl,by decide +kernel,by decide +kernel⟩
noncomputable abbrev wq:Stmt:=top 15
theorem zDD:zd ["script","k"] ["script","k"] (zH wq):=⟨rfl,rfl,rfl,by decide +kernel,rfl,by decide +kernel,by decide +kernel⟩
noncomputable abbrev zAh:Stmt:=top 16
theorem zE3:zd ["script","k","cell"] ["script","k"] (zH zAh):=⟨rfl,rfl,rfl,by decide +kernel,rfl,by decide +kernel,by decide +kernel⟩
noncomputable abbrev zBH:Stmt:=top 17
theorem zFx:zd ["state","many","found","mixed"] ["state","many"] (zH zBH):=⟨rfl,rfl,rfl,by decide +kernel,rfl,by decide +kernel,by decide +kernel⟩
noncomputable abbrev zAF:Stmt:=top 18
theorem zE4:zd ["many","found","one"] ["many"] (zH zAF):=⟨rfl,rfl,rfl,by decide +kernel,rfl,by decide +kernel,by decide +kernel⟩
noncomputable abbrev zAz:Stmt:=top 19
theorem zHk:zd ["state","most","many","way","pairs","far"] ["state","most"] (zH zAz):=⟨rfl,rfl,rfl,by decide +kernel,rfl,by decide +kernel,by decide +kernel⟩
noncomputable abbrev zAp:Stmt:=top 20
theorem zFy:zd ["state","many","left"] ["state","many"] (zH zAp):=⟨rfl,rfl,rfl,by decide +kernel,rfl,by decide +kernel,by decide +kernel⟩
noncomputable abbrev wZ:Stmt:=top 21
theorem zDn:zd ["ring","many","found","one","other","some"] ["ring"] (zH wZ):=⟨rfl,rfl,rfl,by decide +kernel,rfl,by decide +kernel,by decide +kernel⟩
noncomputable abbrev wa:Stmt:=top 22
theorem zDo:zd ["web","place"] ["web","place"] (zH wa):=⟨rfl,rfl,rfl,by decide +kernel,rfl,by decide +kernel,by decide +kernel⟩
noncomputable abbrev wc:Stmt:=top 23
theorem zDp:zd ["word","place","wished","found","one","odd","other","last"] ["word","place","wished"] (zH wc):=⟨rfl,rfl,rfl,by decide +kernel,rfl,by decide +kernel,by decide +kernel⟩
noncomputable abbrev yW:Stmt:=top 24
theorem zCT:zd ["web","found","turn","left","near"] ["web"] (zH yW):=⟨rfl,rfl,rfl,by decide +kernel,rfl,by decide +kernel,by decide +kernel⟩
noncomputable abbrev yc:Stmt:=top 25
theorem zB2:zd ["web","order","line","word","place","near"] ["web","order"] (zH yc):=⟨rfl,rfl,rfl,by decide +kernel,rfl,by decide +kernel,by decide +kernel⟩
noncomputable abbrev yv:Stmt:=top 26
theorem zCU:zd ["web","order","start","at","near"] ["web"] (zH yv):=⟨rfl,rfl,rfl,by decide +kernel,rfl,by decide +kernel,by decide +kernel⟩
noncomputable abbrev yQ:Stmt:=top 27
theorem zBb:zd ["state","some","many","left","names","ties","word","ends"] ["state"] (zH yQ):=⟨rfl,rfl,rfl,by decide +kernel,rfl,by decide +kernel,by decide +kernel⟩
noncomputable abbrev zAi:Stmt:=top 28
theorem zE5:zd ["web","found","place"] ["web"] (zH zAi):=⟨rfl,rfl,rfl,by decide +kernel,rfl,by decide +kernel,by decide +kernel⟩
noncomputable abbrev zDE:Stmt:=top 29
theorem zMQ:zd ["script","k","state","web"] ["script"] (zH zDE):=⟨rfl,rfl,rfl,by decide +kernel,rfl,by decide +kernel,by decide +kernel⟩
section
variable {P:Program} {w:World} {K:PySem.W.Frag} {mg:Str→Option Value} {base:Heap}
theorem zE6{f:Addr}{fd:FuncData}(F:Fun K "refuse_more" "refuse_more" wA f fd)(hm:mg "refuse_more"=some (.ref f))    :Df P w K mg base 1 "refuse_more" ["many","most"] wJ:=by
 have nd:=(zB1).nd
 refine yR zAG F zB1 hm (F.binds fun u0 u0 u0 u0 u0 u0 us hl=>us2 us hl fun u0 u0=>rfl) (fun cdv A outer s H E hr=>?_) zFF
 unfold zAG
 exact(zR (zAj (zP7 (zC 0) (zC 1)) (zR zQu) yM))
theorem zNl{f:Addr}{fd:FuncData}(F:Fun K "tied" "tied" zDa f fd)(hm:mg "tied"=some (.ref f))(aO:mg "min"=none)(aI:mg "max"=none)   :Df P w K mg base 1 "tied" ["web","one","other"] zB9:=by
 have nd:=(zJc).nd
 refine yR zGD F zJc hm (F.binds fun u0 u0 u0 u0 u0 u0 us hl=>us3 us hl fun u0 u0 u0=>rfl) (fun cdv A outer s H E hr=>?_) zPD
 unfold zGD
 exact(zR (zx (zQp hr (wT (zD (zNx rfl rfl aO (zD (zC 1) (zD (zC 2) zI))) (zD (zNy rfl rfl aI (zD (zC 1) (zD (zC 2) zI))) zI))) (yY (zC 0) zM))))
theorem zIj{f:Addr}{fd:FuncData}(F:Fun K "ring_of" "ring_of" zAg f fd)(hm:mg "ring_of"=some (.ref f)) {ap:Tok}(aw:mg "MOST_FOUND"=some (.int 7 ap))  (aq:Df P w K mg base 1 "refuse_more" ["many","most"] wJ)(az:Df P w K mg base 3 "near_order" ["web"] (spL yJ))(aJ:Df P w K mg base 11 "grown" ["web","order","done","ring"] (yC 8)):Df P w K mg base 12 "ring_of" ["web"] wY:=by
 have nd:=(zE1).nd
 refine yR zCG F zE1 hm (F.binds fun u0 u0 u0 u0 u0 u0 us hl=>us1 us hl fun u0=>rfl) (fun cdv A outer s H E hr=>?_) zKZ
 unfold zCG
 exact(zK (zA0 (zv aq hr (by decide) rfl (zD (yY (zC 0) zM) (zD (zM5 rfl aw) zI)))) (zK (zt 1 nd (zh (zAO az zDw hr (by decide) rfl (zD (zC 0) zI)))) (zR (zx (zv aJ hr (by decide) rfl (zD (zC 0) (zD (zC 1) (zD zM (zD (wT (zD (yY (zC 1) zM) (zD (yY (zC 1) zM) zI))) zI)))))))))
theorem zFI{f:Addr}{fd:FuncData}(F:Fun K "near_order" "near_order" yV f fd)(hm:mg "near_order"=some (.ref f))(ab:mg "len"=none)(aa:mg "range"=none)(aI:mg "max"=none)   (ad:Df P w K mg base 2 "tied_among" ["web","place","others"] (spL zm)):Df P w K mg base 3 "near_order" ["web"] (spL yJ):=by
 have nd:=(zCQ).nd
 refine yR zAc F zCQ hm (F.binds fun u0 u0 u0 u0 u0 u0 us hl=>us1 us hl fun u0=>rfl) (fun cdv A outer s H E hr=>?_) zGV
 unfold zAc
 exact(zK (zt 1 nd (zh (wU zI))) (zK (zG3 PassesOwn.never (zMw (zAA rfl ab (zD (zC 1) zI)) (yY (zC 0) zM)) (zK (zB5 2 "place" rfl (zz (osc:=zH yV) (N:=["web","order","rest"]) (N0:=["!00","order","!02"]) (own:=["place"]) (by decide +kernel)) (zAl rfl aa (zD (yY (zC 0) zM) zI)) (fun u0 u0 u0 u0 u0=>(zAQ (zI1 hr (zC 3) (zC 1)))) (fun u0 u0 u0 u0 u0=>(zC 3)) nd) (zR (zA0 (zBB (zC 1) (zD (yY (zPS hr rfl rfl aI (zFD "place" rfl (zz (osc:=zH yV) (N:=["web","order","rest"]) (N0:=["web","order","!02"]) (own:=["place"]) (by decide +kernel)) (zBf (zC 2)) (fun u0 u0 u0 u0 u0=>zEK) (fun u0 u0 u0 u0 u0=>(wT (zD (zAA rfl ab (zD (zh (zAO ad zBa hr (by decide) rfl (zD (zC 0) (zD (zC 3) (zD (zC 1) zI))))) zI)) (zD (zC 3) zI)))))) zM) zI)))))) (zR (zx (zC 1)))))
theorem zFJ{f:Addr}{fd:FuncData}(F:Fun K "tied_among" "tied_among" yr f fd)(hm:mg "tied_among"=some (.ref f))    (aS:Df P w K mg base 1 "tied" ["web","one","other"] zB9):Df P w K mg base 2 "tied_among" ["web","place","others"] (spL zm):=by
 have nd:=(zCR).nd
 refine yR zAb F zCR hm (F.binds fun u0 u0 u0 u0 u0 u0 us hl=>us3 us hl fun u0 u0 u0=>rfl) (fun cdv A outer s H E hr=>?_) zGT
 unfold zAb
 exact(zR (zx (zh (zFD "other" rfl (zz (osc:=zH yr) (N:=["web","place","others"]) (N0:=["web","place","!02"]) (own:=["other"]) (by decide +kernel)) (zBf (zC 2)) (fun u0 u0 u0 u0 u0=>(zAQ (zEL (zv aS hr (by decide) rfl (zD (zC 0) (zD (zC 1) (zD (zC 3) zI))))))) (fun u0 u0 u0 u0 u0=>(zC 3))))))
theorem zKh{k:Nat}{f:Addr}{fd:FuncData}(F:Fun K "grown" "grown" yt f fd)(hm:mg "grown"=some (.ref f)):Df P w K mg base (k+1) "grown" ["web","order","done","ring"] (yC 0):=by
 refine yR (fun u0 u0 u0=>False) F zE2 hm (F.binds fun u0 u0 u0 u0 u0 u0 us hl=>match us,hl with | [_,_,_,_],_=>rfl) (fun cdv A outer s H E hr=>?_) (fun u0 u0 u0 h=>(zMA h).elim)
 exact zQC
theorem zAN{k d:Nat}{f:Addr}{fd:FuncData}(F:Fun K "grown" "grown" yt f fd)(hm:mg "grown"=some (.ref f))(ab:mg "len"=none)(ad:Df P w K mg base 2 "tied_among" ["web","place","others"] (spL zm))(bj:2≤k)(af:Df P w K mg base 1 "with_chord" ["ring","place","crossed"] (spL yZ))(bm:1≤k)(aJ:Df P w K mg base k "grown" ["web","order","done","ring"] (yC d)):Df P w K mg base (k+1) "grown" ["web","order","done","ring"] (yC (d+1)):=by
 have nd:=(zE2).nd
 refine yR (zD9 d) F zE2 hm (F.binds fun u0 u0 u0 u0 u0 u0 us hl=>match us,hl with | [_,_,_,_],_=>rfl) (fun cdv A outer s H E hr=>?_) (zNa d)
 unfold zD9
 exact(zK (zAj (zEN hr (zC 2) (zAA rfl ab (zD (zC 1) zI))) (zR (zx (zC 3))) yM) (zK (zt 4 nd (yY (zC 1) (zC 2))) (zK (zAC PassesOwn.never rfl (zFW (zAO af zDv hr (by omega) rfl (zD (zC 3) (zD (zC 4) (zD (zh (zAO ad zBa hr (by omega) rfl (zD (zC 0) (zD (zC 4) (zD (zh (zGH (zC 1) zDL (zAS (zC 2)))) zI))))) zI))))) (zAP 5 nd) (zK (zt 6 nd (zv aJ hr (by omega) rfl (zD (zC 0) (zD (zC 1) (zD (wH (zC 2) zM) (zD (zC 5) zI)))))) (zR (zAj (zLp (zC 6) zK0) (zR (zx (zC 6))) yM)))) (zR (zx zK0)))))
theorem zFK{f:Addr}{fd:FuncData}(F:Fun K "with_chord" "with_chord" yu f fd)(hm:mg "with_chord"=some (.ref f))(aW:mg "sum"=none)(aa:mg "range"=none)(ab:mg "len"=none)   :Df P w K mg base 1 "with_chord" ["ring","place","crossed"] (spL yZ):=by
 have nd:=(zCS).nd
 refine yR zAa F zCS hm (F.binds fun u0 u0 u0 u0 u0 u0 us hl=>us3 us hl fun u0 u0 u0=>rfl) (fun cdv A outer s H E hr=>?_) zGS
 unfold zAa
 exact(zK (zt 3 nd (zNM rfl rfl aW (zFD "other" rfl (zz (osc:=zH yu) (N:=["ring","place","crossed","wanted","found","first","inside","second"]) (N0:=["!00","!01","!02","!03","!04","!05","!06","!07"]) (own:=["other"]) (by decide +kernel)) (zBf (zC 2)) (fun u0 u0 u0 u0 u0=>zEK) (fun u0 u0 u0 u0 u0=>(zN6 zM (zC 8)))))) (zK (zt 4 nd (zh (wU zI))) (zK (zAC PassesOwn.never rfl (zA9 rfl aa (zD zM (zD (wH (zAA rfl ab (zD (zC 0) zI)) zM) zI))) (zAP 5 nd) (zK (zt 6 nd zM) (zR (zAC PassesOwn.never rfl (zA9 rfl aa (zD (zC 5) (zD (wH (zAA rfl ab (zD (zC 0) zI)) zM) zI))) (zAP 7 nd) (zK (zAj (zEN hr (zC 6) (zC 3)) (zR (zA0 (zBB (zC 4) (zD (wH (wH (wH (wH (zB6 (zC 0) zDL (zAS (zC 5))) (wT (zD (zC 1) zI))) (zB6 (zC 0) (zAS (zC 5)) (zAS (zC 7)))) (wT (zD (zC 1) zI))) (zB6 (zC 0) (zAS (zC 7)) zDL)) zI)))) yM) (zR (zAj (zMw (zC 7) (zAA rfl ab (zD (zC 0) zI))) (zR (zt 6 nd (zN4 (zC 6) (zN6 zM (yY (zC 0) (zC 7)))))) yM))))))) (zR (zx (zC 4))))))
theorem zGe{f:Addr}{fd:FuncData}(F:Fun K "_law_cell_at" "_law_cell_at" wq f fd)(hm:mg "_law_cell_at"=some (.ref f))(ab:mg "len"=none)   :Df P w K mg base 1 "_law_cell_at" ["script","k"] wu:=by
 have nd:=(zDD).nd
 refine yR zAv F zDD hm (F.binds fun u0 u0 u0 u0 u0 u0 us hl=>us2 us hl fun u0 u0=>rfl) (fun cdv A outer s H E hr=>?_) zG8
 unfold zAv
 exact(zK (zAj (zMw (zC 1) (zAA rfl ab (zD (zC 0) zI))) (zR (zx (yY (zC 0) (zC 1)))) yM) (zR (zx zM)))
theorem zIk{f:Addr}{fd:FuncData}(F:Fun K "_law_state" "_law_state" zAh f fd)(hm:mg "_law_state"=some (.ref f))    (aF:Df P w K mg base 1 "_law_cell_at" ["script","k"] wu):Df P w K mg base 2 "_law_state" ["script","k"] (spL yq):=by
 have nd:=(zE3).nd
 refine yR zCA F zE3 hm (F.binds fun u0 u0 u0 u0 u0 u0 us hl=>us2 us hl fun u0 u0=>rfl) (fun cdv A outer s H E hr=>?_) zJ1
 unfold zCA
 exact(zK (zt 2 nd (zv aF hr (by decide) rfl (zD (zC 0) (zD (zC 1) zI)))) (zK (zAj (zQo (zC 2) (zNw zM zM)) (zR (zx (zh (wU (zD (zI0 (zC 2) (zNw zM zM)) (zD zFC zI)))))) yM) (zR (zx (zh (wU (zD (zFX (zC 2) zM) (zD zFC zI))))))))
theorem zKi{f:Addr}{fd:FuncData}(F:Fun K "_law_take" "_law_take" zBH f fd)(hm:mg "_law_take"=some (.ref f))    :Df P w K mg base 1 "_law_take" ["state","many"] zc:=by
 have nd:=(zFx).nd
 refine yR zCv F zFx hm (F.binds fun u0 u0 u0 u0 u0 u0 us hl=>us2 us hl fun u0 u0=>rfl) (fun cdv A outer s H E hr=>?_) zLO
 unfold zCv
 exact(zK (zAj (zEL (yY (zC 0) zM)) (zK (zt 2 nd (zFX (yY (zC 0) zM) (zC 1))) (zK (zNt (zF5 (yY (zC 0) zM) (zC 1)) (zP2 (zC 0) zM)) (zR (zx (zC 2))))) yM) (zK (zNt (zFX (wH (zBg (yY (zC 0) zM) zM) zM) zM) (zP2 (zC 0) zM)) (zK (zt 3 nd (zFX (wH (wH (zBg (yY (zC 0) zM) (yY (zC 0) zM)) (zBg zM (yY (zC 0) zM))) zM) zM)) (zK (zt 3 nd (zFX (wH (zBg (zC 3) (zC 3)) (zBg zM (zC 3))) zM)) (zR (zx (zFX (zF5 (zC 3) zM) (zC 1))))))))
theorem zIl{f:Addr}{fd:FuncData}(F:Fun K "_law_pairs" "_law_pairs" zAF f fd)(hm:mg "_law_pairs"=some (.ref f))(aa:mg "range"=none)   :Df P w K mg base 1 "_law_pairs" ["many"] (spL yp):=by
 have nd:=(zE4).nd
 refine yR zCB F zE4 hm (F.binds fun u0 u0 u0 u0 u0 u0 us hl=>us1 us hl fun u0=>rfl) (fun cdv A outer s H E hr=>?_) zJ3
 unfold zCB
 exact(zK (zt 1 nd (zh (wU zI))) (zK (zAC PassesOwn.never rfl (zAl rfl aa (zD (zC 0) zI)) (zAP 2 nd) (zR (zA0 (zGx (zC 1) (zFD "other" rfl (zz (osc:=zH zAF) (N:=["many","found","one"]) (N0:=["!00","!01","one"]) (own:=["other"]) (by decide +kernel)) (zA9 rfl aa (zD (wH (zC 2) zM) (zD (zC 0) zI))) (fun u0 u0 u0 u0 u0=>zEK) (fun u0 u0 u0 u0 u0=>(wT (zD (zC 2) (zD (zC 3) zI))))))))) (zR (zx (zC 1)))))
theorem zMR{f:Addr}{fd:FuncData}(F:Fun K "_law_web" "_law_web" zAz f fd)(hm:mg "_law_web"=some (.ref f))(ah:mg "tuple"=none)   (ae:Df P w K mg base 1 "_law_take" ["state","many"] zc)(am:Df P w K mg base 1 "_law_pairs" ["many"] (spL yp))(aM:Df P w K mg base 2 "_law_ring" ["state","many"] zBE)(ak:Df P w K mg base 2 "_law_web_of" ["ring"] yj):Df P w K mg base 3 "_law_web" ["state","most"] zBn:=by
 have nd:=(zHk).nd
 refine yR zD4 F zHk hm (F.binds fun u0 u0 u0 u0 u0 u0 us hl=>us2 us hl fun u0 u0=>rfl) (fun cdv A outer s H E hr=>?_) zND
 unfold zD4
 exact(zK (zt 2 nd (wH zM (zv ae hr (by decide) rfl (zD (zC 0) (zD (zC 1) zI))))) (zK (zt 3 nd (zv ae hr (by decide) rfl (zD (zC 0) (zD zM zI)))) (zK (zt 4 nd (zh (zAO am zCu hr (by decide) rfl (zD (zC 2) zI)))) (zK (zAj (zEN hr (zC 3) zM) (zR (zx (zv ak hr (by decide) rfl (zD (zv aM hr (by decide) rfl (zD (zC 0) (zD (zC 2) zI))) zI)))) yM) (zK (zAj (zEN hr (zC 3) zM) (zR (zx (wT (zD (zC 2) (zD (zF7 rfl ah (zFD "pair" rfl (zz (osc:=zH zAz) (N:=["state","most","many","way","pairs","far"]) (N0:=["state","!01","!02","!03","!04","!05"]) (own:=["pair"]) (by decide +kernel)) (zBf (zC 4)) (fun u0 u0 u0 u0 u0=>(zAQ (W2.test (w_or (zEN hr (yY (zC 6) zM) (wH (yY (zC 6) zM) zM)) (zK6 (zEN hr (zv ae hr (by decide) rfl (zD (zC 0) (zD zM zI))) zM)))))) (fun u0 u0 u0 u0 u0=>(zC 6)))) zI))))) yM) (zK (zt 5 nd (yY (zh (wU (zD zM (zD zM (zD zM zI))))) (zI0 (zC 3) zM))) (zR (zx (wT (zD (zC 2) (zD (zF7 rfl ah (zFD "pair" rfl (zz (osc:=zH zAz) (N:=["state","most","many","way","pairs","far"]) (N0:=["state","!01","!02","!03","!04","far"]) (own:=["pair"]) (by decide +kernel)) (zBf (zC 4)) (fun u0 u0 u0 u0 u0=>(zAQ (zEN hr (zv ae hr (by decide) rfl (zD (zC 0) (zD (zC 5) zI))) zM))) (fun u0 u0 u0 u0 u0=>(zC 6)))) zI)))))))))))
theorem zKj{f:Addr}{fd:FuncData}(F:Fun K "_law_ring" "_law_ring" zAp f fd)(hm:mg "_law_ring"=some (.ref f))(aA:mg "list"=none)(aa:mg "range"=none)(ah:mg "tuple"=none)(ab:mg "len"=none)   (ae:Df P w K mg base 1 "_law_take" ["state","many"] zc):Df P w K mg base 2 "_law_ring" ["state","many"] zBE:=by
 have nd:=(zFy).nd
 refine yR zCw F zFy hm (F.binds fun u0 u0 u0 u0 u0 u0 us hl=>us2 us hl fun u0 u0=>rfl) (fun cdv A outer s H E hr=>?_) zLS
 unfold zCw
 exact(zK (zt 2 nd (zh (zNz (zh (zF9 rfl rfl aA rfl aa (zD (zC 1) zI))) zM))) (zR (zx (zF7 rfl ah (zFD "k" rfl (zz (osc:=zH zAp) (N:=["state","many","left"]) (N0:=["state","!01","left"]) (own:=["k"]) (by decide +kernel)) (zAl rfl aa (zD (zBg zM (zC 1)) zI)) (fun u0 u0 u0 u0 u0=>zEK) (fun u0 u0 u0 u0 u0=>(zLB (zC 2) (zD (zv ae hr (by decide) rfl (zD (zC 0) (zD (zAA rfl ab (zD (zC 2) zI)) zI))) zI))))))))
theorem zHl{f:Addr}{fd:FuncData}(F:Fun K "_law_web_of" "_law_web_of" wZ f fd)(hm:mg "_law_web_of"=some (.ref f))(ab:mg "len"=none)(ah:mg "tuple"=none)   (am:Df P w K mg base 1 "_law_pairs" ["many"] (spL yp)):Df P w K mg base 2 "_law_web_of" ["ring"] yj:=by
 have nd:=(zDn).nd
 refine yR zBR F zDn hm (F.binds fun u0 u0 u0 u0 u0 u0 us hl=>us1 us hl fun u0=>rfl) (fun cdv A outer s H E hr=>?_) zIE
 unfold zBR
 exact(zK (zt 1 nd (zF5 (zAA rfl ab (zD (zC 0) zI)) zM)) (zK (zt 2 nd (zh (wU zI))) (zK (zAC PassesOwn.never rfl (zFW (zAO am zCu hr (by decide) rfl (zD (zC 1) zI))) (zP1 3 4 rfl nd) (zK (zB5 5 "place" rfl (zz (osc:=zH wZ) (N:=["ring","many","found","one","other","some"]) (N0:=["!00","!01","!02","one","other","!05"]) (own:=["place"]) (by decide +kernel)) (zBf (zC 0)) (fun u0 u0 u0 u0 u0=>(zAQ (zJu hr (zC 6) (wT (zD (zC 3) (zD (zC 4) zI)))))) (fun u0 u0 u0 u0 u0=>(zC 6)) nd) (zR (zAj (W2.test (w_and (zH2 hr (yY (zC 5) zM) (yY (zC 5) zM)) (zOx (zH2 hr (yY (zC 5) zM) (yY (zC 5) zM))))) (zR (zA0 (zBB (zC 2) (zD (wT (zD (zC 3) (zD (zC 4) zI))) zI)))) yM)))) (zR (zx (wT (zD (zC 1) (zD (zMz rfl ah (zD (zC 2) zI)) zI))))))))
theorem zHm{f:Addr}{fd:FuncData}(F:Fun K "_law_around" "_law_around" wa f fd)(hm:mg "_law_around"=some (.ref f))    :Df P w K mg base 1 "_law_around" ["web","place"] (spL zl):=by
 have nd:=(zDo).nd
 refine yR zBQ F zDo hm (F.binds fun u0 u0 u0 u0 u0 u0 us hl=>us2 us hl fun u0 u0=>rfl) (fun cdv A outer s H E hr=>?_) zID
 unfold zBQ
 exact(zR (zx (zh (zQq "one" "other" rfl (zz (osc:=zH wa) (N:=["web","place"]) (N0:=["!00","place"]) (own:=["one","other"]) (by decide +kernel)) (zBf (yY (zC 0) zM)) (fun u0 u0 u0 u0 u0=>(zAQ (zJu hr (zC 1) (wT (zD (zC 2) (zD (zC 3) zI)))))) (fun u0 u0 u0 u0 u0=>(zI0 (wH (zC 2) (zC 3)) (zC 1)))))))
theorem zHn{f:Addr}{fd:FuncData}(F:Fun K "_law_longer" "_law_longer" wc f fd)(hm:mg "_law_longer"=some (.ref f))(aa:mg "range"=none)(ab:mg "len"=none)(ag:mg "sorted"=none)   :Df P w K mg base 1 "_law_longer" ["word","place","wished"] (spL wK):=by
 have nd:=(zDp).nd
 refine yR zBW F zDp hm (F.binds fun u0 u0 u0 u0 u0 u0 us hl=>us3 us hl fun u0 u0 u0=>rfl) (fun cdv A outer s H E hr=>?_) zIg
 unfold zBW
 exact(zK (zt 3 nd (zh (wU zI))) (zK (zAC PassesOwn.never rfl (zA9 rfl aa (zD zM (zD (wH (zAA rfl ab (zD (zC 0) zI)) zM) zI))) (zAP 4 nd) (zK (zt 5 nd (zh (wU zI))) (zR (zAC PassesOwn.never rfl (zA9 rfl aa (zD (zC 4) (zD (wH (zAA rfl ab (zD (zC 0) zI)) zM) zI))) (zAP 6 nd) (zK (zAj (zP7 (zC 6) (zC 4)) (zK (zt 7 nd (yY (zC 0) (zI0 (zC 6) zM))) (zR (zt 5 nd (zQE (zJu hr (zC 7) (zC 5)) (zh (zFD "sign" rfl (zz (osc:=zH wc) (N:=["word","place","wished","found","one","odd","other","last"]) (N0:=["!00","!01","!02","!03","!04","!05","!06","last"]) (own:=["sign"]) (by decide +kernel)) (zBf (zC 5)) (fun u0 u0 u0 u0 u0=>(zAQ (zH2 hr (zC 8) (zC 7)))) (fun u0 u0 u0 u0 u0=>(zC 8)))) (zh (zN1 (zC 5) (zh (wU (zD (zC 7) zI))))))))) yM) (zR (zAj (zEN hr (zh (zG2 rfl ag (zD (zC 5) zI))) (zC 2)) (zR (zA0 (zBB (zC 3) (zD (wH (wH (wH (wH (zB6 (zC 0) zDL (zAS (zC 4))) (wT (zD (zC 1) zI))) (zB6 (zC 0) (zAS (zC 4)) (zAS (zC 6)))) (wT (zD (zC 1) zI))) (zB6 (zC 0) (zAS (zC 6)) zDL)) zI)))) yM))))))) (zR (zx (zC 3)))))
theorem zFL{f:Addr}{fd:FuncData}(F:Fun K "_law_order_of" "_law_order_of" yW f fd)(hm:mg "_law_order_of"=some (.ref f))(aa:mg "range"=none)   (ai:Df P w K mg base 1 "_law_around" ["web","place"] (spL zl)):Df P w K mg base 2 "_law_order_of" ["web"] (spL yb):=by
 have nd:=(zCT).nd
 refine yR zAd F zCT hm (F.binds fun u0 u0 u0 u0 u0 u0 us hl=>us1 us hl fun u0=>rfl) (fun cdv A outer s H E hr=>?_) zGZ
 unfold zAd
 exact(zK (zt 1 nd (zh (wU zI))) (zK (zAC PassesOwn.never rfl (zAl rfl aa (zD (yY (zC 0) zM) zI)) (zAP 2 nd) (zK (zB5 3 "place" rfl (zz (osc:=zH yW) (N:=["web","found","turn","left","near"]) (N0:=["!00","found","!02","!03","!04"]) (own:=["place"]) (by decide +kernel)) (zAl rfl aa (zD (yY (zC 0) zM) zI)) (fun u0 u0 u0 u0 u0=>(zAQ (zI1 hr (zC 5) (zC 1)))) (fun u0 u0 u0 u0 u0=>(zC 5)) nd) (zK (zB5 4 "place" rfl (zz (osc:=zH yW) (N:=["web","found","turn","left","near"]) (N0:=["web","found","!02","!03","!04"]) (own:=["place"]) (by decide +kernel)) (zBf (zC 3)) (fun u0 u0 u0 u0 u0=>(zAQ (zH2 hr (zh (zFD "other" rfl (zLl (N:=["web","found","!02","!03","!04","place"]) (N0:=["!10","found","!12","!13","!14","!15"]) (own:=["other"]) (by kernel_rfl)) (zFW (zAO ai zA2 hr (by decide) rfl (zD (zC 0) (zD (zC 5) zI)))) (fun u0 u0 u0 u0 u0=>(zAQ (zJu hr (zC 6) (zC 1)))) (fun u0 u0 u0 u0 u0=>(zC 6)))) (zh (wU zI))))) (fun u0 u0 u0 u0 u0=>(zC 5)) nd) (zR (zA0 (zBB (zC 1) (zD (yY (zh (zN1 (zC 4) (zC 3))) zM) zI))))))) (zR (zx (zC 1)))))
theorem zE7{f:Addr}{fd:FuncData}(F:Fun K "_law_piece_has" "_law_piece_has" yc f fd)(hm:mg "_law_piece_has"=some (.ref f))(ab:mg "len"=none)(ag:mg "sorted"=none)(aX:mg "set"=none)   (ai:Df P w K mg base 1 "_law_around" ["web","place"] (spL zl))(aH:Df P w K mg base 1 "_law_longer" ["word","place","wished"] (spL wK)):Df P w K mg base 2 "_law_piece_has" ["web","order"] yg:=by
 have nd:=(zB2).nd
 refine yR zAH F zB2 hm (F.binds fun u0 u0 u0 u0 u0 u0 us hl=>us2 us hl fun u0 u0=>rfl) (fun cdv A outer s H E hr=>?_) zFH
 unfold zAH
 exact(zK (zt 2 nd (zh (wU (zD (wT (zD (yY (zC 1) zM) (zD (yY (zC 1) zM) zI))) zI)))) (zK (zG3 PassesOwn.never (zH2 hr (zC 2) (zh (wU zI))) (zK (zt 3 nd (zPV (zC 2))) (zK (zAj (zEN hr (zAA rfl ab (zD (zC 3) zI)) (zBg zM (zAA rfl ab (zD (zC 1) zI)))) (zR (zx zFC)) yM) (zK (zt 4 nd (yY (zC 1) (zF5 (zAA rfl ab (zD (zC 3) zI)) zM))) (zK (zt 5 nd (zh (zAO ai zA2 hr (by decide) rfl (zD (zC 0) (zD (zC 4) zI))))) (zR (zA0 (zGx (zC 2) (zAO aH zFG hr (by decide) rfl (zD (zC 3) (zD (zC 4) (zD (zh (zKK rfl rfl ag rfl aX (zD (zh (zFD "other" rfl (zz (osc:=zH yc) (N:=["web","order","line","word","place","near"]) (N0:=["!00","!01","!02","!03","!04","near"]) (own:=["other"]) (by decide +kernel)) (zBf (zC 3)) (fun u0 u0 u0 u0 u0=>(zAQ (zJu hr (zC 6) (zC 5)))) (fun u0 u0 u0 u0 u0=>(zC 6)))) zI))) zI)))))))))))) (zR (zx zFC))))
theorem zFM{f:Addr}{fd:FuncData}(F:Fun K "_law_has_ring" "_law_has_ring" yv f fd)(hm:mg "_law_has_ring"=some (.ref f))(aa:mg "range"=none)   (aB:Df P w K mg base 2 "_law_order_of" ["web"] (spL yb))(ai:Df P w K mg base 1 "_law_around" ["web","place"] (spL zl))(au:Df P w K mg base 2 "_law_piece_has" ["web","order"] yg):Df P w K mg base 3 "_law_has_ring" ["web"] yz:=by
 have nd:=(zCU).nd
 refine yR zAe F zCU hm (F.binds fun u0 u0 u0 u0 u0 u0 us hl=>us1 us hl fun u0=>rfl) (fun cdv A outer s H E hr=>?_) zGa
 unfold zAe
 exact(zK (zt 1 nd (zh (zAO aB zDx hr (by decide) rfl (zD (zC 0) zI)))) (zK (zt 2 nd zM) (zK (zAC PassesOwn.never rfl (zA9 rfl aa (zD zM (zD (wH (yY (zC 0) zM) zM) zI))) (zAP 3 nd) (zK (zt 4 nd (zh (wU zI))) (zK (zAj (zMw (zC 3) (yY (zC 0) zM)) (zR (zB5 4 "other" rfl (zz (osc:=zH yv) (N:=["web","order","start","at","near"]) (N0:=["!00","order","!02","at","!04"]) (own:=["other"]) (by decide +kernel)) (zFW (zAO ai zA2 hr (by decide) rfl (zD (zC 0) (zD (yY (zC 1) (zC 3)) zI)))) (fun u0 u0 u0 u0 u0=>(zAQ (zJu hr (zC 5) (zh (zGH (zC 1) zDL (zAS (zC 3))))))) (fun u0 u0 u0 u0 u0=>(zC 5)) nd)) yM) (zR (zAj (zEN hr (zC 4) (zh (wU zI))) (zK (zAj (zIz (zEL (zv au hr (by decide) rfl (zD (zC 0) (zD (zh (zGH (zC 1) (zAS (zC 2)) (zAS (zC 3)))) zI))))) (zR (zx zFC)) yM) (zR (zt 2 nd (zC 3)))) yM))))) (zR (zx zFC)))))
theorem zDy{f:Addr}{fd:FuncData}(F:Fun K "_law_near_wheel" "_law_near_wheel" yQ f fd)(hm:mg "_law_near_wheel"=some (.ref f))(aL:mg "int"=none)(aA:mg "list"=none)(aa:mg "range"=none)(ab:mg "len"=none)(ag:mg "sorted"=none)(ah:mg "tuple"=none)   (ae:Df P w K mg base 1 "_law_take" ["state","many"] zc):Df P w K mg base 2 "_law_near_wheel" ["state"] yx:=by
 have nd:=(zBb).nd
 refine yR wy F zBb hm (F.binds fun u0 u0 u0 u0 u0 u0 us hl=>us1 us hl fun u0=>rfl) (fun cdv A outer s H E hr=>?_) zEz
 unfold wy
 exact(zK (zt 1 nd (yY (zh (wU (zD zIx (zD zIx zI)))) (zv ae hr (by decide) rfl (zD (zC 0) (zD zM zI))))) (zK (zt 2 nd (wH zM (zPH rfl aL (zD (zO5 hr (zMJ (zC 1) (zQB zM)) zIx) zI)))) (zK (zt 3 nd (zh (zF9 rfl rfl aA rfl aa (zD (zC 2) zI)))) (zK (zB5 4 "k" rfl (zz (osc:=zH yQ) (N:=["state","some","many","left","names","ties","word","ends"]) (N0:=["state","!01","!02","left","!04","!05","!06","!07"]) (own:=["k"]) (by decide +kernel)) (zAl rfl aa (zD (zC 2) zI)) (fun u0 u0 u0 u0 u0=>zEK) (fun u0 u0 u0 u0 u0=>(zLB (zC 3) (zD (zv ae hr (by decide) rfl (zD (zC 0) (zD (zAA rfl ab (zD (zC 3) zI)) zI))) zI))) nd) (zK (zt 5 nd (zh (wU zI))) (zK (zAC PassesOwn.never rfl (zFW (zNc (zC 1) (zD zIx zI))) (zAP 6 nd) (zK (zt 7 nd (zh (zFa rfl ag (wU (zD (yY (zC 4) (zMH rfl aL (zD (zMJ (zC 6) zM) zI))) (zD (yY (zC 4) (zMH rfl aL (zD (zMJ (zC 6) zM) zI))) zI)))))) (zR (zA0 (zBB (zC 5) (zD (wT (zD (yY (zC 7) zM) (zD (yY (zC 7) zM) zI))) zI)))))) (zK (zAj (zEN hr (zv ae hr (by decide) rfl (zD (zC 0) (zD zM zI))) zM) (zR (zA0 (zLB (zC 5) (zD (zv ae hr (by decide) rfl (zD (zC 0) (zD (zAA rfl ab (zD (zC 5) zI)) zI))) zI)))) yM) (zR (zx (wT (zD (zC 2) (zD (zF7 rfl ah (zKF rfl ag (zD (zC 5) zI))) zI))))))))))))
theorem zIm{f:Addr}{fd:FuncData}(F:Fun K "_law_right" "_law_right" zAi f fd)(hm:mg "_law_right"=some (.ref f))(aj:mg "isinstance"=none)(ah:mg "tuple"=none)(ab:mg "len"=none)(aL:mg "int"=none)(aT:mg "bool"=none)(ag:mg "sorted"=none)(aA:mg "list"=none)(aa:mg "range"=none)   (aG:Df P w K mg base 12 "ring_of" ["web"] wY)(aC:Df P w K mg base 3 "_law_has_ring" ["web"] yz)(ak:Df P w K mg base 2 "_law_web_of" ["ring"] yj):Df P w K mg base 13 "_law_right" ["web"] wL:=by
 have nd:=(zE5).nd
 refine yR zCH F zE5 hm (F.binds fun u0 u0 u0 u0 u0 u0 us hl=>us1 us hl fun u0=>rfl) (fun cdv A outer s H E hr=>?_) zKg
 unfold zCH
 exact(zK (zt 1 nd (zv aG hr (by decide) rfl (zD (zC 0) zI))) (zK (zAj (zQM (zC 1) zK0) (zR (zx (zP6 (zv aC hr (by decide) rfl (zD (zC 0) zI))))) yM) (zK (zAj (W2.test (w_or (zIz (zEL (zLE (T:="tuple") rfl aj rfl ah (by decide +kernel) (zC 1)))) (zK6 (zH2 hr (zAA rfl ab (zD (zC 1) zI)) (zBg zM (yY (zC 0) zM)))))) (zR (zx zFC)) yM) (zK (zAC PassesOwn.never rfl (zBf (zC 1)) (zAP 2 nd) (zR (zAj (W2.test (w_or (zIz (zEL (zLE (T:="int") rfl aj rfl aL (by decide +kernel) (zC 2)))) (zK6 (zEL (zLE (T:="bool") rfl aj rfl aT (by decide +kernel) (zC 2)))))) (zR (zx zFC)) yM))) (zK (zAj (zH2 hr (zh (zG2 rfl ag (zD (zC 1) zI))) (zh (zFa rfl ag (zNz (zh (zF9 rfl rfl aA rfl aa (zD (yY (zC 0) zM) zI))) zM)))) (zR (zx zFC)) yM) (zR (zx (zNv (zO5 hr (zv ak hr (by decide) rfl (zD (zC 1) zI)) (zC 0)) (zNu (zO5 hr (zv aG hr (by decide) rfl (zD (zC 0) zI)) (zC 1)))))))))))
theorem zPb{f:Addr}{fd:FuncData}(F:Fun K "law" "law" zDE f fd)(aa:mg "range"=none)(aI:mg "max"=none)(aO:mg "min"=none)(ab:mg "len"=none)   (aK:Df P w K mg base 2 "_law_state" ["script","k"] (spL yq))(ae:Df P w K mg base 1 "_law_take" ["state","many"] zc)(aP:Df P w K mg base 3 "_law_web" ["state","most"] zBn)(ao:Df P w K mg base 2 "_law_near_wheel" ["state"] yx)(av:Df P w K mg base 13 "_law_right" ["web"] wL):zBe P w K mg base CX0 14 f fd ["script"] (lSp K zFd):=by
 have nd:=zMQ.nd
 refine zO7 zJb F zMQ (fun cdv A outer s H E hr=>?_) zQU
 unfold zJb
 exact(zK (zAC PassesOwn.never rfl (zAl rfl aa (zD (zNy rfl rfl aI (zD zM (zD (zNx rfl rfl aO (zD (zAA rfl ab (zD (zC 0) zI)) (zD zM zI))) zI))) zI)) (zAP 1 nd) (zK (zt 2 nd (zh (zAO aK zGE hr (by decide) rfl (zD (zC 0) (zD (zC 1) zI))))) (zR (zAC PassesOwn.never rfl (zFW (wU (zD (zv aP hr (by decide) rfl (zD (zC 2) (zD (yY (zh (wU (zD zM (zD zM (zD zM zI))))) (zv ae hr (by decide) rfl (zD (zC 2) (zD zM zI)))) zI))) (zD (zv ao hr (by decide) rfl (zD (zC 2) zI)) zI)))) (zAP 3 nd) (zR (zAj (zIz (zEL (zv av hr (by decide) rfl (zD (zC 3) zI)))) (zR (zx zFC)) yM)))))) (zR (zx (zNv (zv av hr (by decide) rfl (zD (wT (zD zM (zD (wT zI) zI))) zI)) (zNu (zv av hr (by decide) rfl (zD (wT (zD zM (zD (wT zI) zI))) zI)))))))
end
theorem zPc{l:PySem.W.OpenLaw}{w:World}{K:PySem.W.Frag}{h:Heap}{mg:Str→Option Value}{fa:Addr}(X:K.In h)(G:h.Ns mainGlobals mg)(hfa:mg "law"=some (.ref fa))
  {f0:Addr} {od0 an0:Option Addr} {sl0:Array (Option Value)} {oc0 kV0 dc0 pm0 cd0 ct0:Value} {f1:Addr} {od1 an1:Option Addr} {sl1:Array (Option Value)} {oc1 kV1 dc1 pm1 cd1 ct1:Value} {f2:Addr} {od2 an2:Option Addr} {sl2:Array (Option Value)} {oc2 kV2 dc2 pm2 cd2 ct2:Value} {f3:Addr} {od3 an3:Option Addr} {sl3:Array (Option Value)} {oc3 kV3 dc3 pm3 cd3 ct3:Value} {f4:Addr} {od4 an4:Option Addr} {sl4:Array (Option Value)} {oc4 kV4 dc4 pm4 cd4 ct4:Value} {f5:Addr} {od5 an5:Option Addr} {sl5:Array (Option Value)} {oc5 kV5 dc5 pm5 cd5 ct5:Value} {f6:Addr} {od6 an6:Option Addr} {sl6:Array (Option Value)} {oc6 kV6 dc6 pm6 cd6 ct6:Value} {f7:Addr} {od7 an7:Option Addr} {sl7:Array (Option Value)} {oc7 kV7 dc7 pm7 cd7 ct7:Value} {f8:Addr} {od8 an8:Option Addr} {sl8:Array (Option Value)} {oc8 kV8 dc8 pm8 cd8 ct8:Value} {f9:Addr} {od9 an9:Option Addr} {sl9:Array (Option Value)} {oc9 kV9 dc9 pm9 cd9 ct9:Value} {f10:Addr} {od10 an10:Option Addr} {sl10:Array (Option Value)} {oc10 kV10 dc10 pm10 cd10 ct10:Value} {f11:Addr} {od11 an11:Option Addr} {sl11:Array (Option Value)} {oc11 kV11 dc11 pm11 cd11 ct11:Value} {f12:Addr} {od12 an12:Option Addr} {sl12:Array (Option Value)} {oc12 kV12 dc12 pm12 cd12 ct12:Value} {f13:Addr} {od13 an13:Option Addr} {sl13:Array (Option Value)} {oc13 kV13 dc13 pm13 cd13 ct13:Value} {f14:Addr} {od14 an14:Option Addr} {sl14:Array (Option Value)} {oc14 kV14 dc14 pm14 cd14 ct14:Value} {f15:Addr} {od15 an15:Option Addr} {sl15:Array (Option Value)} {oc15 kV15 dc15 pm15 cd15 ct15:Value} {f16:Addr} {od16 an16:Option Addr} {sl16:Array (Option Value)} {oc16 kV16 dc16 pm16 cd16 ct16:Value} {f17:Addr} {od17 an17:Option Addr} {sl17:Array (Option Value)} {oc17 kV17 dc17 pm17 cd17 ct17:Value} {f18:Addr} {od18 an18:Option Addr} {sl18:Array (Option Value)} {oc18 kV18 dc18 pm18 cd18 ct18:Value} {f19:Addr} {od19 an19:Option Addr} {sl19:Array (Option Value)} {oc19 kV19 dc19 pm19 cd19 ct19:Value} {f20:Addr} {od20 an20:Option Addr} {sl20:Array (Option Value)} {oc20 kV20 dc20 pm20 cd20 ct20:Value} {f21:Addr} {od21 an21:Option Addr} {sl21:Array (Option Value)} {oc21 kV21 dc21 pm21 cd21 ct21:Value} {ap:Tok}
  (a0:PySem.W.nsIn K mainGlobals "refuse_more"=some (some (.ref f0))) (l0:K.lookup f0=some ⟨oc0,od0,.func (PySem.W.fnOf "refuse_more" "refuse_more" (zg wA) (zb wA) (zH wA) .none kV0 dc0 pm0 an0 cd0 ct0),sl0⟩) (c0:PySem.W.codeIn K cd0 "refuse_more"=true) (k0:PySem.W.keepIn K (.ref f0)=true)
  (a1:PySem.W.nsIn K mainGlobals "tied"=some (some (.ref f1))) (l1:K.lookup f1=some ⟨oc1,od1,.func (PySem.W.fnOf "tied" "tied" (zg zDa) (zb zDa) (zH zDa) .none kV1 dc1 pm1 an1 cd1 ct1),sl1⟩) (c1:PySem.W.codeIn K cd1 "tied"=true) (k1:PySem.W.keepIn K (.ref f1)=true)
  (a2:PySem.W.nsIn K mainGlobals "ring_of"=some (some (.ref f2))) (l2:K.lookup f2=some ⟨oc2,od2,.func (PySem.W.fnOf "ring_of" "ring_of" (zg zAg) (zb zAg) (zH zAg) .none kV2 dc2 pm2 an2 cd2 ct2),sl2⟩) (c2:PySem.W.codeIn K cd2 "ring_of"=true) (k2:PySem.W.keepIn K (.ref f2)=true)
  (a3:PySem.W.nsIn K mainGlobals "near_order"=some (some (.ref f3))) (l3:K.lookup f3=some ⟨oc3,od3,.func (PySem.W.fnOf "near_order" "near_order" (zg yV) (zb yV) (zH yV) .none kV3 dc3 pm3 an3 cd3 ct3),sl3⟩) (c3:PySem.W.codeIn K cd3 "near_order"=true) (k3:PySem.W.keepIn K (.ref f3)=true)
  (a4:PySem.W.nsIn K mainGlobals "tied_among"=some (some (.ref f4))) (l4:K.lookup f4=some ⟨oc4,od4,.func (PySem.W.fnOf "tied_among" "tied_among" (zg yr) (zb yr) (zH yr) .none kV4 dc4 pm4 an4 cd4 ct4),sl4⟩) (c4:PySem.W.codeIn K cd4 "tied_among"=true) (k4:PySem.W.keepIn K (.ref f4)=true)
  (a5:PySem.W.nsIn K mainGlobals "grown"=some (some (.ref f5))) (l5:K.lookup f5=some ⟨oc5,od5,.func (PySem.W.fnOf "grown" "grown" (zg yt) (zb yt) (zH yt) .none kV5 dc5 pm5 an5 cd5 ct5),sl5⟩) (c5:PySem.W.codeIn K cd5 "grown"=true) (k5:PySem.W.keepIn K (.ref f5)=true)
  (a6:PySem.W.nsIn K mainGlobals "with_chord"=some (some (.ref f6))) (l6:K.lookup f6=some ⟨oc6,od6,.func (PySem.W.fnOf "with_chord" "with_chord" (zg yu) (zb yu) (zH yu) .none kV6 dc6 pm6 an6 cd6 ct6),sl6⟩) (c6:PySem.W.codeIn K cd6 "with_chord"=true) (k6:PySem.W.keepIn K (.ref f6)=true)
  (a7:PySem.W.nsIn K mainGlobals "_law_cell_at"=some (some (.ref f7))) (l7:K.lookup f7=some ⟨oc7,od7,.func (PySem.W.fnOf "_law_cell_at" "_law_cell_at" (zg wq) (zb wq) (zH wq) .none kV7 dc7 pm7 an7 cd7 ct7),sl7⟩) (c7:PySem.W.codeIn K cd7 "_law_cell_at"=true) (k7:PySem.W.keepIn K (.ref f7)=true)
  (a8:PySem.W.nsIn K mainGlobals "_law_state"=some (some (.ref f8))) (l8:K.lookup f8=some ⟨oc8,od8,.func (PySem.W.fnOf "_law_state" "_law_state" (zg zAh) (zb zAh) (zH zAh) .none kV8 dc8 pm8 an8 cd8 ct8),sl8⟩) (c8:PySem.W.codeIn K cd8 "_law_state"=true) (k8:PySem.W.keepIn K (.ref f8)=true)
  (a9:PySem.W.nsIn K mainGlobals "_law_take"=some (some (.ref f9))) (l9:K.lookup f9=some ⟨oc9,od9,.func (PySem.W.fnOf "_law_take" "_law_take" (zg zBH) (zb zBH) (zH zBH) .none kV9 dc9 pm9 an9 cd9 ct9),sl9⟩) (c9:PySem.W.codeIn K cd9 "_law_take"=true) (k9:PySem.W.keepIn K (.ref f9)=true)
  (a10:PySem.W.nsIn K mainGlobals "_law_pairs"=some (some (.ref f10))) (l10:K.lookup f10=some ⟨oc10,od10,.func (PySem.W.fnOf "_law_pairs" "_law_pairs" (zg zAF) (zb zAF) (zH zAF) .none kV10 dc10 pm10 an10 cd10 ct10),sl10⟩) (c10:PySem.W.codeIn K cd10 "_law_pairs"=true) (k10:PySem.W.keepIn K (.ref f10)=true)
  (a11:PySem.W.nsIn K mainGlobals "_law_web"=some (some (.ref f11))) (l11:K.lookup f11=some ⟨oc11,od11,.func (PySem.W.fnOf "_law_web" "_law_web" (zg zAz) (zb zAz) (zH zAz) .none kV11 dc11 pm11 an11 cd11 ct11),sl11⟩) (c11:PySem.W.codeIn K cd11 "_law_web"=true) (k11:PySem.W.keepIn K (.ref f11)=true)
  (a12:PySem.W.nsIn K mainGlobals "_law_ring"=some (some (.ref f12))) (l12:K.lookup f12=some ⟨oc12,od12,.func (PySem.W.fnOf "_law_ring" "_law_ring" (zg zAp) (zb zAp) (zH zAp) .none kV12 dc12 pm12 an12 cd12 ct12),sl12⟩) (c12:PySem.W.codeIn K cd12 "_law_ring"=true) (k12:PySem.W.keepIn K (.ref f12)=true)
  (a13:PySem.W.nsIn K mainGlobals "_law_web_of"=some (some (.ref f13))) (l13:K.lookup f13=some ⟨oc13,od13,.func (PySem.W.fnOf "_law_web_of" "_law_web_of" (zg wZ) (zb wZ) (zH wZ) .none kV13 dc13 pm13 an13 cd13 ct13),sl13⟩) (c13:PySem.W.codeIn K cd13 "_law_web_of"=true) (k13:PySem.W.keepIn K (.ref f13)=true)
  (a14:PySem.W.nsIn K mainGlobals "_law_around"=some (some (.ref f14))) (l14:K.lookup f14=some ⟨oc14,od14,.func (PySem.W.fnOf "_law_around" "_law_around" (zg wa) (zb wa) (zH wa) .none kV14 dc14 pm14 an14 cd14 ct14),sl14⟩) (c14:PySem.W.codeIn K cd14 "_law_around"=true) (k14:PySem.W.keepIn K (.ref f14)=true)
  (a15:PySem.W.nsIn K mainGlobals "_law_longer"=some (some (.ref f15))) (l15:K.lookup f15=some ⟨oc15,od15,.func (PySem.W.fnOf "_law_longer" "_law_longer" (zg wc) (zb wc) (zH wc) .none kV15 dc15 pm15 an15 cd15 ct15),sl15⟩) (c15:PySem.W.codeIn K cd15 "_law_longer"=true) (k15:PySem.W.keepIn K (.ref f15)=true)
  (a16:PySem.W.nsIn K mainGlobals "_law_order_of"=some (some (.ref f16))) (l16:K.lookup f16=some ⟨oc16,od16,.func (PySem.W.fnOf "_law_order_of" "_law_order_of" (zg yW) (zb yW) (zH yW) .none kV16 dc16 pm16 an16 cd16 ct16),sl16⟩) (c16:PySem.W.codeIn K cd16 "_law_order_of"=true) (k16:PySem.W.keepIn K (.ref f16)=true)
  (a17:PySem.W.nsIn K mainGlobals "_law_piece_has"=some (some (.ref f17))) (l17:K.lookup f17=some ⟨oc17,od17,.func (PySem.W.fnOf "_law_piece_has" "_law_piece_has" (zg yc) (zb yc) (zH yc) .none kV17 dc17 pm17 an17 cd17 ct17),sl17⟩) (c17:PySem.W.codeIn K cd17 "_law_piece_has"=true) (k17:PySem.W.keepIn K (.ref f17)=true)
  (a18:PySem.W.nsIn K mainGlobals "_law_has_ring"=some (some (.ref f18))) (l18:K.lookup f18=some ⟨oc18,od18,.func (PySem.W.fnOf "_law_has_ring" "_law_has_ring" (zg yv) (zb yv) (zH yv) .none kV18 dc18 pm18 an18 cd18 ct18),sl18⟩) (c18:PySem.W.codeIn K cd18 "_law_has_ring"=true) (k18:PySem.W.keepIn K (.ref f18)=true)
  (a19:PySem.W.nsIn K mainGlobals "_law_near_wheel"=some (some (.ref f19))) (l19:K.lookup f19=some ⟨oc19,od19,.func (PySem.W.fnOf "_law_near_wheel" "_law_near_wheel" (zg yQ) (zb yQ) (zH yQ) .none kV19 dc19 pm19 an19 cd19 ct19),sl19⟩) (c19:PySem.W.codeIn K cd19 "_law_near_wheel"=true) (k19:PySem.W.keepIn K (.ref f19)=true)
  (a20:PySem.W.nsIn K mainGlobals "_law_right"=some (some (.ref f20))) (l20:K.lookup f20=some ⟨oc20,od20,.func (PySem.W.fnOf "_law_right" "_law_right" (zg zAi) (zb zAi) (zH zAi) .none kV20 dc20 pm20 an20 cd20 ct20),sl20⟩) (c20:PySem.W.codeIn K cd20 "_law_right"=true) (k20:PySem.W.keepIn K (.ref f20)=true)
  (a21:PySem.W.nsIn K mainGlobals "law"=some (some (.ref f21))) (l21:K.lookup f21=some ⟨oc21,od21,.func (PySem.W.fnOf "law" "law" (zg zDE) (zb zDE) (zH zDE) .none kV21 dc21 pm21 an21 cd21 ct21),sl21⟩) (c21:PySem.W.codeIn K cd21 "law"=true) (k21:PySem.W.keepIn K (.ref f21)=true)
  (aD:PySem.W.nsIn K mainGlobals "MOST_FOUND"=some (some (.int 7 ap)))
  (aY:PySem.W.nsIn K mainGlobals "min"=some none)
  (aZ:PySem.W.nsIn K mainGlobals "max"=some none)
  (b0:PySem.W.nsIn K mainGlobals "len"=some none)
  (aQ:PySem.W.nsIn K mainGlobals "range"=some none)
  (b5:PySem.W.nsIn K mainGlobals "sum"=some none)
  (aR:PySem.W.nsIn K mainGlobals "tuple"=some none)
  (aU:PySem.W.nsIn K mainGlobals "list"=some none)
  (aN:PySem.W.nsIn K mainGlobals "sorted"=some none)
  (b6:PySem.W.nsIn K mainGlobals "set"=some none)
  (b7:PySem.W.nsIn K mainGlobals "int"=some none)
  (aE:PySem.W.nsIn K mainGlobals "isinstance"=some none)
  (aV:PySem.W.nsIn K mainGlobals "bool"=some none) :
  ∃ fd:FuncData,(∀(s:Shared) (v:Value),BindsTo s fd ⟨[v],[]⟩ [("script",v)])∧∀ base:Heap,K.In base→base.Ns mainGlobals mg→zBe l.prog w K mg base CX0 14 fa fd ["script"] (lSp K zFd):=by
 have e:=hfa.symm.trans (PySem.W.mg_of X G a21)
 cases e
 have aw:=PySem.W.mg_of X G aD
 have aO:=PySem.W.mg_none_of X G aY
 have aI:=PySem.W.mg_none_of X G aZ
 have ab:=PySem.W.mg_none_of X G b0
 have aa:=PySem.W.mg_none_of X G aQ
 have aW:=PySem.W.mg_none_of X G b5
 have ah:=PySem.W.mg_none_of X G aR
 have aA:=PySem.W.mg_none_of X G aU
 have ag:=PySem.W.mg_none_of X G aN
 have aX:=PySem.W.mg_none_of X G b6
 have aL:=PySem.W.mg_none_of X G b7
 have aj:=PySem.W.mg_none_of X G aE
 have aT:=PySem.W.mg_none_of X G aV
 refine⟨PySem.W.fnOf "law" "law" (zg zDE) (zb zDE) (zH zDE) .none kV21 dc21 pm21 an21 cd21 ct21,fun s v=>.of_eq rfl,fun base kb u0 =>?_⟩
 have aq:Df l.prog w K mg base 1 "refuse_more" ["many","most"] wJ:=zE6 (zp (st:=wA) l0 c0 k0) (PySem.W.mg_of X G a0) 
 have aS:Df l.prog w K mg base 1 "tied" ["web","one","other"] zB9:=zNl (zp (st:=zDa) l1 c1 k1) (PySem.W.mg_of X G a1) aO aI
 have af:Df l.prog w K mg base 1 "with_chord" ["ring","place","crossed"] (spL yZ):=zFK (zp (st:=yu) l6 c6 k6) (PySem.W.mg_of X G a6) aW aa ab
 have aF:Df l.prog w K mg base 1 "_law_cell_at" ["script","k"] wu:=zGe (zp (st:=wq) l7 c7 k7) (PySem.W.mg_of X G a7) ab
 have ae:Df l.prog w K mg base 1 "_law_take" ["state","many"] zc:=zKi (zp (st:=zBH) l9 c9 k9) (PySem.W.mg_of X G a9) 
 have am:Df l.prog w K mg base 1 "_law_pairs" ["many"] (spL yp):=zIl (zp (st:=zAF) l10 c10 k10) (PySem.W.mg_of X G a10) aa
 have ai:Df l.prog w K mg base 1 "_law_around" ["web","place"] (spL zl):=zHm (zp (st:=wa) l14 c14 k14) (PySem.W.mg_of X G a14) 
 have aH:Df l.prog w K mg base 1 "_law_longer" ["word","place","wished"] (spL wK):=zHn (zp (st:=wc) l15 c15 k15) (PySem.W.mg_of X G a15) aa ab ag
 have ad:Df l.prog w K mg base 2 "tied_among" ["web","place","others"] (spL zm):=zFJ (zp (st:=yr) l4 c4 k4) (PySem.W.mg_of X G a4) aS
 have aK:Df l.prog w K mg base 2 "_law_state" ["script","k"] (spL yq):=zIk (zp (st:=zAh) l8 c8 k8) (PySem.W.mg_of X G a8) aF
 have aM:Df l.prog w K mg base 2 "_law_ring" ["state","many"] zBE:=zKj (zp (st:=zAp) l12 c12 k12) (PySem.W.mg_of X G a12) aA aa ah ab ae
 have ak:Df l.prog w K mg base 2 "_law_web_of" ["ring"] yj:=zHl (zp (st:=wZ) l13 c13 k13) (PySem.W.mg_of X G a13) ab ah am
 have aB:Df l.prog w K mg base 2 "_law_order_of" ["web"] (spL yb):=zFL (zp (st:=yW) l16 c16 k16) (PySem.W.mg_of X G a16) aa ai
 have au:Df l.prog w K mg base 2 "_law_piece_has" ["web","order"] yg:=zE7 (zp (st:=yc) l17 c17 k17) (PySem.W.mg_of X G a17) ab ag aX ai aH
 have ao:Df l.prog w K mg base 2 "_law_near_wheel" ["state"] yx:=zDy (zp (st:=yQ) l19 c19 k19) (PySem.W.mg_of X G a19) aL aA aa ab ag ah ae
 have az:Df l.prog w K mg base 3 "near_order" ["web"] (spL yJ):=zFI (zp (st:=yV) l3 c3 k3) (PySem.W.mg_of X G a3) ab aa aI ad
 have aP:Df l.prog w K mg base 3 "_law_web" ["state","most"] zBn:=zMR (zp (st:=zAz) l11 c11 k11) (PySem.W.mg_of X G a11) ah ae am aM ak
 have aC:Df l.prog w K mg base 3 "_law_has_ring" ["web"] yz:=zFM (zp (st:=yv) l18 c18 k18) (PySem.W.mg_of X G a18) aa aB ai au
 have b8:Df l.prog w K mg base 3 "grown" ["web","order","done","ring"] (yC 0):=zKh (zp (st:=yt) l5 c5 k5) (PySem.W.mg_of X G a5)
 have b9:Df l.prog w K mg base 4 "grown" ["web","order","done","ring"] (yC 1):=zAN (zp (st:=yt) l5 c5 k5) (PySem.W.mg_of X G a5) ab ad (by decide) af (by decide) b8
 have ba:Df l.prog w K mg base 5 "grown" ["web","order","done","ring"] (yC 2):=zAN (zp (st:=yt) l5 c5 k5) (PySem.W.mg_of X G a5) ab ad (by decide) af (by decide) b9
 have bb:Df l.prog w K mg base 6 "grown" ["web","order","done","ring"] (yC 3):=zAN (zp (st:=yt) l5 c5 k5) (PySem.W.mg_of X G a5) ab ad (by decide) af (by decide) ba
 have bf:Df l.prog w K mg base 7 "grown" ["web","order","done","ring"] (yC 4):=zAN (zp (st:=yt) l5 c5 k5) (PySem.W.mg_of X G a5) ab ad (by decide) af (by decide) bb
 have bg:Df l.prog w K mg base 8 "grown" ["web","order","done","ring"] (yC 5):=zAN (zp (st:=yt) l5 c5 k5) (PySem.W.mg_of X G a5) ab ad (by decide) af (by decide) bf
 have bh:Df l.prog w K mg base 9 "grown" ["web","order","done","ring"] (yC 6):=zAN (zp (st:=yt) l5 c5 k5) (PySem.W.mg_of X G a5) ab ad (by decide) af (by decide) bg
 have bi:Df l.prog w K mg base 10 "grown" ["web","order","done","ring"] (yC 7):=zAN (zp (st:=yt) l5 c5 k5) (PySem.W.mg_of X G a5) ab ad (by decide) af (by decide) bh
 have aJ:Df l.prog w K mg base 11 "grown" ["web","order","done","ring"] (yC 8):=zAN (zp (st:=yt) l5 c5 k5) (PySem.W.mg_of X G a5) ab ad (by decide) af (by decide) bi
 have aG:Df l.prog w K mg base 12 "ring_of" ["web"] wY:=zIj (zp (st:=zAg) l2 c2 k2) (PySem.W.mg_of X G a2) aw aq az aJ
 have av:Df l.prog w K mg base 13 "_law_right" ["web"] wL:=zIm (zp (st:=zAi) l20 c20 k20) (PySem.W.mg_of X G a20) aj ah ab aL aT ag aA aa aG aC ak
 exact zPb (zp (st:=zDE) l21 c21 k21) aa aI aO ab aK ae aP ao av
end K
open PySem PySem.W PyProof.Rows
set_option maxRecDepth 100000 in
set_option maxHeartbeats 0 in
theorem PySem.Challenge.cw_chordwebs_k52_rings_found_holds : PySem.Challenge.rw_chordwebs_k52_rings_found.Holds := by
 w_on;o_law;k_head;(case hw=>w_witness2)
 k_fill
 refine L3.zLK (l:=PySem.Challenge.rw_chordwebs_k52_rings_found) (k:=14) rfl rfl ⟨rfl,by decide,by decide⟩ (fun w h Y=>⟨PySem.W.kIn_of Y,[],fun u0=>"",⟨(fun u0 h=>nomatch h),(fun u0 h=>nomatch h),(fun u0 h=>nomatch h),fun x hx=>nomatch hx⟩⟩) ?F
 case F =>
  intro w mg fa h KX G hmg
  refine' K.zPc KX G hmg ?a0 ?l0 ?c0 ?k0 ?a1 ?l1 ?c1 ?k1 ?a2 ?l2 ?c2 ?k2 ?a3 ?l3 ?c3 ?k3 ?a4 ?l4 ?c4 ?k4 ?a5 ?l5 ?c5 ?k5 ?a6 ?l6 ?c6 ?k6 ?a7 ?l7 ?c7 ?k7 ?a8 ?l8 ?c8 ?k8 ?a9 ?l9 ?c9 ?k9 ?a10 ?l10 ?c10 ?k10 ?a11 ?l11 ?c11 ?k11 ?a12 ?l12 ?c12 ?k12 ?a13 ?l13 ?c13 ?k13 ?a14 ?l14 ?c14 ?k14 ?a15 ?l15 ?c15 ?k15 ?a16 ?l16 ?c16 ?k16 ?a17 ?l17 ?c17 ?k17 ?a18 ?l18 ?c18 ?k18 ?a19 ?l19 ?c19 ?k19 ?a20 ?l20 ?c20 ?k20 ?a21 ?l21 ?c21 ?k21 ?aD ?aY ?aZ ?b0 ?aQ ?b5 ?aR ?aU ?aN ?b6 ?b7 ?aE ?aV
  (case a0=>k_is)
  (case l0=>k_is)
  (case c0=>k_is)
  (case k0=>k_is)
  (case a1=>k_is)
  (case l1=>k_is)
  (case c1=>k_is)
  (case k1=>k_is)
  (case a2=>k_is)
  (case l2=>k_is)
  (case c2=>k_is)
  (case k2=>k_is)
  (case a3=>k_is)
  (case l3=>k_is)
  (case c3=>k_is)
  (case k3=>k_is)
  (case a4=>k_is)
  (case l4=>k_is)
  (case c4=>k_is)
  (case k4=>k_is)
  (case a5=>k_is)
  (case l5=>k_is)
  (case c5=>k_is)
  (case k5=>k_is)
  (case a6=>k_is)
  (case l6=>k_is)
  (case c6=>k_is)
  (case k6=>k_is)
  (case a7=>k_is)
  (case l7=>k_is)
  (case c7=>k_is)
  (case k7=>k_is)
  (case a8=>k_is)
  (case l8=>k_is)
  (case c8=>k_is)
  (case k8=>k_is)
  (case a9=>k_is)
  (case l9=>k_is)
  (case c9=>k_is)
  (case k9=>k_is)
  (case a10=>k_is)
  (case l10=>k_is)
  (case c10=>k_is)
  (case k10=>k_is)
  (case a11=>k_is)
  (case l11=>k_is)
  (case c11=>k_is)
  (case k11=>k_is)
  (case a12=>k_is)
  (case l12=>k_is)
  (case c12=>k_is)
  (case k12=>k_is)
  (case a13=>k_is)
  (case l13=>k_is)
  (case c13=>k_is)
  (case k13=>k_is)
  (case a14=>k_is)
  (case l14=>k_is)
  (case c14=>k_is)
  (case k14=>k_is)
  (case a15=>k_is)
  (case l15=>k_is)
  (case c15=>k_is)
  (case k15=>k_is)
  (case a16=>k_is)
  (case l16=>k_is)
  (case c16=>k_is)
  (case k16=>k_is)
  (case a17=>k_is)
  (case l17=>k_is)
  (case c17=>k_is)
  (case k17=>k_is)
  (case a18=>k_is)
  (case l18=>k_is)
  (case c18=>k_is)
  (case k18=>k_is)
  (case a19=>k_is)
  (case l19=>k_is)
  (case c19=>k_is)
  (case k19=>k_is)
  (case a20=>k_is)
  (case l20=>k_is)
  (case c20=>k_is)
  (case k20=>k_is)
  (case a21=>k_is)
  (case l21=>k_is)
  (case c21=>k_is)
  (case k21=>k_is)
  (case aD=>k_is)
  (case aY=>k_is)
  (case aZ=>k_is)
  (case b0=>k_is)
  (case aQ=>k_is)
  (case b5=>k_is)
  (case aR=>k_is)
  (case aU=>k_is)
  (case aN=>k_is)
  (case b6=>k_is)
  (case b7=>k_is)
  (case aE=>k_is)
  (case aV=>k_is)
#print axioms PySem.Challenge.cw_chordwebs_k52_rings_found_holds
