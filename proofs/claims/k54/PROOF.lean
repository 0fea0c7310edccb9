import PyProof.Rows.All
import Wide.All
import OpenK.AllK
import Wide.FinOn
import Lean
import PyProof.EqAt
import PyProof.EqKinds
import PyProof.TupleCall
import PyProof.NeKinds
import KE.KRevIter
import PyProof.Rows.Range3
import PyProof.ZipIter
import PyProof.Rows.SortRunsK
import PyProof.Rows.SortShell
import PyProof.Rows.IntRules
import PyProof.Dict
import PyProof.Conv_int_bool
import PyProof.Rows.DictRows
import PyProof.DictTable
import PyProof.SetKind
import PyProof.Rows.SetFrom
import PyProof.Rows.SortPure
import PyProof.FactsAll.set_1
import PyProof.SetRoads
import PyProof.Walks
import PyProof.CollectWalk
import PyProof.ListRange
import PyProof.TupleKey
import PyProof.IsRules
import PyProof.WalksMore
import PyProof.EnumStmt
import PyProof.Rows.EnumRows
import PyProof.SeqI3
import PyProof.StrCalls2
import PyProof.StrBlockH
import PyProof.StrLawsTight
import PyProof.StrLawsJoin
import KE.KIntText
import PySem.Challenge.RW_chordwebs_k54_whole_told_webs
set_option Elab.async false
set_option linter.all false
set_option maxRecDepth 100000
set_option bootstrap.genMatcherCode false
set_option genSizeOf false
set_option compiler.extract_closed false
set_option genInjectivity false
local macro_rules | `(tactic| omega) => `(tactic| lia)
open PySem renaming wpAny_bind → bI, wpAny_pure → bS, wpAny_setState_of → cT, wpAny_holding → cY, wpAny_newObj_type → df, codeAny_builtin → dt, wpAny_call_entry → dP, wpAny_truthy_bool → dR, codeAny_mono → eh, wpAny_ite_split → eI, wpAny_typeOf → eS, wpAny_Call_Name_kw → eX, wpAny_passesOwn → eZ, wpAny_storeSet_of → ft, wpAny_pyIter_list → fu, wpAny_mono → fw, wpAny_forIn_list → fF
open Bool renaming false_eq_true → bJ, eq_iff_iff → cF, false_ne_true → dD, and_eq_true → dL, not_true → fr
open List renaming set_cons_zero → bK, set_cons_succ → bL, replicate_succ → bM, replicate_zero → bN, length_cons → bO, range → bQ, length_nil → bR, cons_append → bT, length_map → bU, nil_append → bV, getElem?_eq_some_iff → bW, mem_range → bX, mem_map → bY, map → ce, mem_singleton → cg, length_append → ci, size_toArray → cj, mem_cons_of_mem → ck, replicate → cq, mem_filter → cw, mem_of_getElem? → cy, length_range → cz, getElem?_map → cC, mem_cons_self → cE, mem_append → cH, mem_cons → cI, length_take → cK, count_cons → cL, map_cons → cM, count_append → cO, getD → cP, getElem?_append_left → cR, mem_append_right → cS, lookup_cons → cV, map_append → cX, getElem_mem → cZ, map_map → da, mem_append_left → dc, append_assoc → dg, take_append_drop → di, length_filter_le → dk, getElem?_append_right → dq, nodup_cons → du, nodup_range → dE, length_drop → dF, filter_append → dH, getElem?_eq_getElem → dM, filterMap_cons_some → dN, getElem_of_mem → dS, Pairwise → dW, append_nil → dY, count_eq_zero → e7, take_length → e8, getElem?_of_mem → ec, length_eq_zero_iff → ef, flatten_cons → el, map_congr_left → em, filter_map → en, length_pos_of_mem → et, getElem?_set_self → eu, not_mem_nil → eA, filter_cons → eB, pairwise_iff_getElem → eF, mem_of_mem_take → eH, reverse_cons → eK, range_succ → eM, nodup_append → eN, filter_congr → eO, filterMap_cons_none → eP, Perm → eQ, all_eq_true → eU, take_of_length_le → eV, pairwise_lt_range → eW, map_id' → fb, getElem?_set_ne → fe, any_eq_true → fh, filterMap_cons → fi, sum_cons → fk, getElem?_replicate → fm, take_sublist → fA, Nodup → fB, map_nil → fC
open PySem.Heap renaming get?_push_of_some → bP, get?_push_size → cb, lt_size → cc, SameBut → db, get?_update_other → dC, get?_update_self → eC, size_push → eG, get?_update_ne → eT, get?_none_of_le → ff
open Nat renaming le_refl → bZ, lt_of_lt_of_le → cG, ne_of_lt → cJ, zero_le → cW, le_trans → dh, lt_or_ge → dB, lt_irrefl → dG, min_eq_left → dJ, le_of_lt → ej, le_succ → eE, eq_or_lt_of_le → eY, mod_two_eq_zero_or_one → fc, not_lt_zero → fj, max_eq_right → fG
open PySem.SetTable renaming below → cf, sizeAbove → cr, eraseAt → cx, insertAt → cN, bits → cQ, runEnd → cU, insertAt_perm → dI, leap → dO, probe → dU, has → dX, fresh → eD, layClean → eJ, turns → fg
open Array renaming length_toList → cD, mem_toList_iff → de, getElem?_eq_some_iff → dQ, getD → eR, mem_of_getElem? → fE
open PyProof.Rows renaming wpS_bind → dA, wpS_pure → dZ
open Int renaming emod_nonneg → fo, emod_lt_of_pos → fq
open PySem PySem.Spec PyProof.Rows
namespace K
open PySem
@[elab_as_elim] theorem us1{m:List Value→Prop}(us:List Value)(hl:us.length=1)(h:∀ a,m [a]):m us:=match us,hl with
 | [a],_=>h a
@[elab_as_elim] theorem us2{m:List Value→Prop}(us:List Value)(hl:us.length=2)(h:∀ a b,m [a,b]):m us:=match us,hl with
 | [a,b],_=>h a b
@[elab_as_elim] theorem us3{m:List Value→Prop}(us:List Value)(hl:us.length=3)(h:∀ a b c,m [a,b,c]):m us:=match us,hl with
 | [a,b,c],_=>h a b c
end K
namespace L2
noncomputable abbrev Key:=Sum Int Str
noncomputable def zPZ:Key→Value→Bool
 | .inl k,v=>Value.isInt k v
 | .inr x,v=>Value.isStrOf x v
noncomputable def zSd(w:World):Key→Int
 | .inl k=>hashInt k
 | .inr x=>hashStr w x
theorem yV:∀ {k:Key} {v:Value},zPZ k v=true→(∃ i t,k=Sum.inl i∧v=Value.int i t)∨(∃ x t,k=Sum.inr x∧v=Value.str x t)
 | .inl i,v,h=>by
  obtain⟨t,e⟩:=Value.isInt_shape (k:=i) (v:=v) h
  exact .inl ⟨i,t,rfl,e⟩
 | .inr x,v,h=>by
  obtain⟨t,e⟩:=Value.isStrOf_shape (x:=x) (v:=v) h
  exact .inr ⟨x,t,rfl,e⟩
theorem zP5(a b:Int):decide ((Sum.inl a:Key)=Sum.inl b)=(a==b):=by
 by_cases e:a=b
 ·subst e;simp
 ·have h:¬ (Sum.inl a:Key)=Sum.inl b:=fun q=>e (Sum.inl.inj q)
  rw[decide_eq_false h]
  exact(beq_eq_false_iff_ne.mpr e).symm
theorem zP6(a b:Str):decide ((Sum.inr a:Key)=Sum.inr b)=decide (a=b):=by
 by_cases e:a=b
 ·subst e;simp
 ·have h:¬ (Sum.inr a:Key)=Sum.inr b:=fun q=>e (Sum.inr.inj q)
  rw[decide_eq_false h,decide_eq_false e]
theorem zP7(a:Int)(b:Str):decide ((Sum.inl a:Key)=Sum.inr b)=false:=decide_eq_false (fun q=>nomatch q)
theorem zP8(a:Str)(b:Int):decide ((Sum.inr a:Key)=Sum.inl b)=false:=decide_eq_false (fun q=>nomatch q)
noncomputable def zJc(prog:Program)(w:World):PySem.KeyKind prog w Key where
 is:=zPZ
 hash:=zSd w
 inj:=fun v a b ha hb=>by
  rcases yV ha with ⟨i,t,rfl,rfl⟩ | ⟨x,t,rfl,rfl⟩
  ·rcases yV hb with ⟨j,u,rfl,e⟩ | ⟨y,u,rfl,e⟩
   ·injection e with e1 _;rw[e1]
   ·exact nomatch e
  ·rcases yV hb with ⟨j,u,rfl,e⟩ | ⟨y,u,rfl,e⟩
   ·exact nomatch e
   ·injection e with e1 _;rw[e1]
 byValue:=fun k v h=>by
  rcases yV h with ⟨i,t,rfl,rfl⟩ | ⟨x,t,rfl,rfl⟩<;>rfl
 pyHash:=fun hv h=>by
  rcases yV hv with ⟨i,t,rfl,rfl⟩ | ⟨x,t,rfl,rfl⟩
  ·exact wpAny_pyHash_int h
  ·exact wpAny_pyHash_str h
 eqBool:=fun hu hv h=>by
  rcases yV hu with ⟨i,t,rfl,rfl⟩ | ⟨x,t,rfl,rfl⟩
  ·rcases yV hv with ⟨j,u,rfl,rfl⟩ | ⟨y,u,rfl,rfl⟩
   ·rw[zP5] at h;exact wpAny_eqBool_int h
   ·rw[zP7] at h;exact SeqAt.EqAt.int_str i t y u _ _ _ _ h
  ·rcases yV hv with ⟨j,u,rfl,rfl⟩ | ⟨y,u,rfl,rfl⟩
   ·rw[zP8] at h;exact SeqAt.EqAt.str_int x t j u _ _ _ _ h
   ·rw[zP6] at h;exact wpAny_eqBool_str h
 «strs»:=fun k x t v h=>by
  rcases yV h with ⟨i,u,rfl,e⟩ | ⟨y,u,rfl,e⟩
  ·exact nomatch e
  ·injection e with e1 _
   subst e1
   cases v<;>rfl
set_option genInjectivity true in
inductive V where
 | non | bl (b:Bool) | int (i:Int) | str (x:Str) | byt (b:Array UInt8) | flt (b:UInt64) | ref (a:Addr) | ty (n:String)
 deriving DecidableEq
noncomputable def RelV:V→Value→Prop
 | .non,u=>u=Value.none
 | .bl b,u=>u=Value.bool b
 | .int i,u=>∃ t,u=Value.int i t
 | .str x,u=>∃ t,u=Value.str x t
 | .byt b,u=>∃ t,u=Value.bytes b t
 | .flt b,u=>∃ t,u=Value.float b t
 | .ref a,u=>u=Value.ref a
 | .ty n,u=>u=Value.type n
noncomputable abbrev za:List V→List Value→Prop:=Paired RelV
theorem za.length{xs:List V}{us:List Value}(r:za xs us):xs.length=us.length:=Paired.length r
theorem za.get:∀ {xs:List V} {us:List Value} {i:Nat} {x:V},za xs us→xs[i]?=some x→∃ u,us[i]?=some u∧RelV x u
 | _,_,_,_,.nil,e=>by simp at e
 | _,_,0,_,.cons r _,e=>by simp at e;subst e;exact⟨_,rfl,r⟩
 | _,_,i+1,x,.cons _ t,e=>by
  obtain⟨u,h1,h2⟩:=za.get (i:=i) (x:=x) t (by simpa using e)
  exact⟨u,by simpa using h1,h2⟩
theorem za.set{x:V}{u:Value}(r:RelV x u):∀ {xs:List V} {us:List Value} (i:Nat),za xs us→za (xs.set i x) (us.set i u)
 | _,_,_,.nil=>.nil
 | _,_,0,.cons _ t=>.cons r t
 | _,_,i+1,.cons q t=>.cons q (za.set r i t)
theorem za.append:∀ {xs ys:List V} {us ws:List Value},za xs us→za ys ws→za (xs++ys) (us++ws)
 | _,_,_,_,.nil,s=>s
 | _,_,_,_,.cons r t,s=>.cons r (za.append t s)
theorem za.take:∀ {xs:List V} {us:List Value} (n:Nat),za xs us→za (xs.take n) (us.take n)
 | _,_,0,_=>.nil
 | _,_,_+1,.nil=>.nil
 | _,_,n+1,.cons r t=>.cons r (za.take n t)
theorem za.drop:∀ {xs:List V} {us:List Value} (n:Nat),za xs us→za (xs.drop n) (us.drop n)
 | _,_,0,r=>r
 | _,_,_+1,.nil=>.nil
 | _,_,n+1,.cons _ t=>za.drop n t
noncomputable def zP9:Option V→Option Value→Prop
 | some v,some u=>RelV v u
 | none,none=>True
 | _,_=>False
noncomputable def KV{κ:Type}:List (κ×V)→List (κ×Value)→Prop:=Paired fun(p:κ×V) (q:κ×Value)=>p.1=q.1∧RelV p.2 q.2
noncomputable def kV:Key→V
 | .inl i=>.int i
 | .inr x=>.str x
set_option genInjectivity true in
inductive HO where
 /-- a list -/
 | lst (xs:List V)
 /-- a tuple (never changes) -/
 | tup (xs:List V)
 /-- a dict whose keys are ints and texts;one whose keys are tuples of ints and texts (the empty one is both) -/
 | dK (kvs:List (Key×V)) | dT (kvs:List (List Key×V))
 /-- a set of ints: its members,its size -/
 | set (S:Int→Bool) (n:Nat)
 /-- an instance of the class at C,its dict at dx,its attributes -/
 | ins (C dx:Addr) (fs:List (Str×V))
 /-- the dict of the instance at x -/
 | own (x:Addr)
 /-- the dict of an exception -/
 | xd (fs:List (Str×V))
 /-- a bound method,f of x -/
 | met (f x:Addr)
 /-- a range object lo,lo+1,.. below hi -/
 | rng (lo hi:Int)
 /-- a thing that is known to the object (the script;a dict while a loop walks it): read,never written while it is so -/
 | frz (o:Obj) (u:HO)
 /-- a code object's table -/
 | tbl (ps:Array Value)
 /-- any other thing,by what is true of its one object (a def of one's own: SetO a S n:=HO.ext fun h=>..) -/
 | ext (φ:Heap→Prop)
noncomputable abbrev Hp:=Addr→Option HO
noncomputable def wj(H:Hp)(a:Addr)(o:HO):Hp:=fun b=>if b=a then some o else H b
theorem zu{H:Hp}{a:Addr}{o:HO}:wj H a o a=some o:=by unfold wj;rw[if_pos rfl]
theorem yN{H:Hp}{a b:Addr}{o:HO}(h:b≠a):wj H a o b=H b:=by unfold wj;rw[if_neg h]
theorem zPa{H:Hp}{a b:Addr}{o u:HO}(h:H a=some o)(h':H b=some u)(d:o≠u):a≠b:=by
 intro e;subst e;rw[h] at h';exact d (Option.some.inj h')
theorem yh{H:Hp}{a b:Addr}{o:HO}(h:H a=some o)(h':H b=none):a≠b:=by
 intro e;subst e;rw[h] at h';cases h'
noncomputable def zEh(h:Heap)(a:Addr)(items:Array Value):Prop:=∃ o,h.get? a=some o∧o.cls=.type "tuple"∧(∃ n,o.data=.seq items n)∧o.dict=none
theorem zEh.isTup{h:Heap}{a:Addr}{items:Array Value}(x:zEh h a items):IsTup h a items:=let ⟨o,h1,h2,h3,_⟩:=x;⟨o,h1,h2,h3⟩
theorem zEh.lt{h:Heap}{a:Addr}{items:Array Value}(x:zEh h a items):a<h.objs.size:=x.isTup.lt
theorem zEh.new(h:Heap)(items:Array Value):zEh (h.push { cls:=.type "tuple",data:=.seq items }) h.objs.size items:=⟨_,cb _ rfl,rfl,⟨_,rfl⟩,rfl⟩
section
variable (P:Program) (w:World)
noncomputable def wZ(H:Hp)(h:Heap)(a:Addr):HO→Prop
 | .lst xs=>xs.length≤sizeLine∧∃(its:List Value) (n:Nat),za xs its∧h.get? a=some { cls:=.type "list",data:=.seq its.toArray n }
 | .tup xs=>xs.length≤sizeLine∧∃ its:List Value,za xs its∧zEh h a its.toArray
 | .dK kvs=>kvs.length≤sizeLine∧(a==sysModules)=false∧∃ vs,KV kvs vs∧h.DictOf (zJc P w) a vs
 | .dT kvs=>kvs.length≤sizeLine∧(a==sysModules)=false∧∃ xs:List (List Key×Addr×Value),
   Paired (fun(p:List Key×V) (q:List Key×Addr×Value)=>p.1=q.1∧H q.2.1=some (.tup (p.1.map kV))∧RelV p.2 q.2.2) kvs xs ∧
   ∃ o es ep,h.get? a=some o∧o.ExactDict∧o.data=.dict es ep∧es.toList=xs.map (entryOfKey (tupleKind (zJc P w)))∧(xs.map (·.1)).Nodup
 | .set S n=>h.SetOf (intKind P w) a S n
 | .ins C dx fs=>H dx=some (.own a)∧fs.length≤1000∧dx≠a∧h.get? a=some (PySem.W.instObj C dx) ∧
   ∃ mA,h.Ns1 dx mA∧(∀ f,zP9 (fs.lookup f) (mA f))∧PySem.Within mA (fs.map (·.1))
 | .own _=>∃ o,h.get? a=some o
 | .xd fs=>∃ mA,h.Ns1 a mA∧∀ f,zP9 (fs.lookup f) (mA f)
 | .rng lo hi=>∃ t u v,h.get? a=some { cls:=.type "range",data:=.fields #[.int lo t,.int hi u,.int 1 v] }
 | .frz o u=>h.get? a=some o∧wZ H h a u
 | .tbl ps=>∃(q:Str) (t:Tok) (vs:Array Value),ps=#[.str q t]∧h.get? a=some (PySem.W.tabObj vs)∧TriplesOk vs.toList∧∀(pos:Pos) (cv:Value),codeAmong pos vs.toList=some cv →
   ∃(c:Addr) (o:Obj) (us:Array Value) (t':Tok),cv=.ref c∧H c=some (.frz o (.own 0))∧o.data=.fields us∧us[1]?=some (.str q t')
 | .met f x=>h.get? a=some (PySem.W.methodObj (.ref f) (.ref x))
 | .ext φ=>φ h∧(∃ o,h.get? a=some o)∧∀ h1 h2:Heap,φ h1→(∀ o,h1.get? a=some o→h2.get? a=some o)→φ h2
noncomputable def HOk(H:Hp)(h:Heap):Prop:=∀ a o,H a=some o→wZ P w H h a o
end
section
variable {P:Program} {w:World} {H H':Hp} {h h':Heap} {a:Addr} {o:HO}
theorem wZ.lt(x:wZ P w H h a o):a<h.objs.size:=by
 cases o with
 | lst xs=>obtain⟨u0,u0,u0,u0,e⟩:=x;exact cc e
 | tup xs=>obtain⟨u0,u0,u0,p⟩:=x;exact p.lt
 | dK kvs=>obtain⟨u0,u0,u0,u0,o,u0,u0,e,u0⟩:=x;exact cc e
 | dT kvs=>obtain⟨u0,u0,u0,u0,o,u0,u0,e,u0⟩:=x;exact cc e
 | set S n=>obtain⟨o,u0,u0,u0,e,u0⟩:=x;exact cc e
 | ins C dx fs=>obtain⟨u0,u0,u0,e,u0⟩:=x;exact cc e
 | own y=>obtain⟨u0,e⟩:=x;exact cc e
 | xd fs=>obtain⟨u0,⟨u0,u0,u0,e,u0⟩,u0⟩:=x;exact cc e
 | rng lo hi=>obtain⟨u0,u0,u0,e⟩:=x;exact cc e
 | frz ob u=>obtain⟨e,u0⟩:=x;exact cc e
 | tbl ps=>obtain⟨u0,u0,u0,u0,e,u0⟩:=x;exact cc e
 | met f y=>exact cc (show h.get? a=some _ from x)
 | ext φ=>obtain⟨u0,⟨u0,e⟩,u0⟩:=x;exact cc e
theorem Paired.mapP{α β:Type}{F G:α→β→Prop}:∀ {l₁:List α} {l₂:List β},Paired F l₁ l₂→(∀ a b,F a b→G a b)→Paired G l₁ l₂
 | _,_,.nil,_=>.nil
 | _,_,.cons r t,f=>.cons (f _ _ r) (Paired.mapP t f)
theorem wZ.stay(x:wZ P w H h a o)(k:∀ b u,(b=a∨H b=some (.own a))→h.get? b=some u→h'.get? b=some u)
  (ho:∀ b,H b=some (.own a)→H' b=some (.own a)) (ht:∀ b xs,H b=some (.tup xs)→H' b=some (.tup xs)) (hz:∀ b o u,H b=some (.frz o u)→H' b=some (.frz o u)):wZ P w H' h' a o:=by
 induction o with
 | lst xs=>obtain⟨z,its,n,r,e⟩:=x;exact⟨z,its,n,r,k _ _ (.inl rfl) e⟩
 | tup xs=>obtain⟨z,its,r,ob,e,c⟩:=x;exact⟨z,its,r,ob,k _ _ (.inl rfl) e,c⟩
 | dK kvs=>obtain⟨z,y,vs,r,ob,es,ep,e,c⟩:=x;exact⟨z,y,vs,r,ob,es,ep,k _ _ (.inl rfl) e,c⟩
 | dT kvs =>
  obtain⟨z,y,xs,r,ob,es,ep,e,c⟩:=x
  exact⟨z,y,xs,Paired.mapP r fun p q z=>⟨z.1,ht _ _ z.2.1,z.2.2⟩,ob,es,ep,k _ _ (.inl rfl) e,c⟩
 | set S n=>obtain⟨ob,es,ep,t,e,c⟩:=x;exact⟨ob,es,ep,t,k _ _ (.inl rfl) e,c⟩
 | ins C dx fs =>
  obtain⟨d,z,ne,e,mA,⟨od,es,ep,e2,c⟩,r⟩:=x
  exact⟨ho _ d,z,ne,k _ _ (.inl rfl) e,mA,⟨od,es,ep,k _ _ (.inr d) e2,c⟩,r⟩
 | own y=>obtain⟨ob,e⟩:=x;exact⟨ob,k _ _ (.inl rfl) e⟩
 | xd fs=>obtain⟨mA,⟨od,es,ep,e,c⟩,r⟩:=x;exact⟨mA,⟨od,es,ep,k _ _ (.inl rfl) e,c⟩,r⟩
 | rng lo hi=>obtain⟨t,u,v,e⟩:=x;exact⟨t,u,v,k _ _ (.inl rfl) e⟩
 | frz ob u ih=>obtain⟨e,q⟩:=x;exact⟨k _ _ (.inl rfl) e,ih q⟩
 | tbl ps =>
  obtain⟨q,t,vs,e0,e,e1,e2⟩:=x
  refine⟨q,t,vs,e0,k _ _ (.inl rfl) e,e1,fun pos cv z=>?_⟩
  obtain⟨c,oc,us,t',z1,z2,z3⟩:=e2 pos cv z
  exact⟨c,oc,us,t',z1,hz _ _ _ z2,z3⟩
 | met f y =>
  have e:h.get? a=some (PySem.W.methodObj (.ref f) (.ref y)):=x
  show h'.get? a=some (PySem.W.methodObj (.ref f) (.ref y))
  exact k a _ (.inl rfl) e
 | ext φ=>obtain⟨p,⟨o,e⟩,st⟩:=x;exact⟨st _ _ p fun o q=>k _ _ (.inl rfl) q,⟨o,k _ _ (.inl rfl) e⟩,st⟩
theorem HOk.lt(x:HOk P w H h)(e:H a=some o):a<h.objs.size:=(x a o e).lt
theorem HOk.fresh(x:HOk P w H h)(e:h.objs.size≤a):H a=none:=by
 cases q:H a with
 | none=>rfl
 | some u=>exact absurd (cG (x.lt q) e) (dG _)
theorem HOk.kept(x:HOk P w H h)(k:∀ b u,h.get? b=some u→h'.get? b=some u):HOk P w H h':=fun a o e =>
 (x a o e).stay (fun b u u0 q=>k b u q) (fun u0 q=>q) (fun u0 u0 q=>q) fun u0 u0 u0 q=>q
theorem HOk.laid(x:HOk P w H h)(k:∀ b u,h.get? b=some u→h'.get? b=some u)(hp:h.objs.size≤a)(new:wZ P w (wj H a o) h' a o):HOk P w (wj H a o) h':=fun b u e=>by
 have hn:=x.fresh hp
 by_cases hb:b=a
 ·subst hb;rw[zu] at e;cases e;exact new
 ·rw[yN hb] at e
  exact(x b u e).stay (fun c v u0 q=>k c v q) (fun c q=>by rw[yN (yh q hn)];exact q) (fun c xs q=>by rw[yN (yh q hn)];exact q) fun c oo u q=>by rw[yN (yh q hn)];exact q
end
noncomputable def Rd(H:Hp)(a:Addr)(u:HO):Prop:=H a=some u∨∃ o,H a=some (.frz o u)
theorem Rd.of{H:Hp}{a:Addr}{u:HO}(h:H a=some u):Rd H a u:=.inl h
theorem Rd.ok{P:Program}{w:World}{H:Hp}{h:Heap}{a:Addr}{u:HO}(r:Rd H a u)(x:HOk P w H h):wZ P w H h a u:=by
 rcases r with r | ⟨o,r⟩
 ·exact x a u r
 ·obtain⟨u0,q⟩:=x a _ r
  exact q
noncomputable def Mut:Option HO→Prop
 | some (.lst _)=>True
 | some (.dK _)=>True
 | some (.dT _)=>True
 | some (.set _ _)=>True
 | some (.ins _ _ _)=>True
 | some (.ext _)=>True
 | _=>False
section
variable {P:Program} {w:World} {H:Hp} {h h':Heap} {x e:Addr} {o':HO}
theorem HOk.write(ok:HOk P w H h)(mu:Mut (H x))(he:e=x∨H e=some (.own x))(k:∀ b u,b≠e→h.get? b=some u→h'.get? b=some u)(heo:∃ u,h'.get? e=some u)
  (new:wZ P w (wj H x o') h' x o'):HOk P w (wj H x o') h':=fun b u q=>by
 have nown:∀ c y,H c=some (.own y)→c≠x:=fun c y r z=>by subst z;rw[r] at mu;exact mu
 have ntup:∀ c xs,H c=some (.tup xs)→c≠x:=fun c xs r z=>by subst z;rw[r] at mu;exact mu
 have nfrz:∀ c oo u,H c=some (.frz oo u)→c≠x:=fun c oo u r z=>by subst z;rw[r] at mu;exact mu
 by_cases hb:b=x
 ·subst hb;rw[zu] at q;cases q;exact new
 ·rw[yN hb] at q
  by_cases hbe:b=e
  ·have q':H b=some (.own x):=by
    rcases he with z | z
    ·exact absurd (hbe.trans z) hb
    ·rw[hbe];exact z
   rw[q] at q';cases q'
   obtain⟨v,hv⟩:=heo
   exact⟨v,by rw[hbe];exact hv⟩
  ·refine(ok b u q).stay (fun c v hc r=>k c v ?_ r) (fun c r=>by rw[yN (nown c b r)];exact r) (fun c xs r=>by rw[yN (ntup c xs r)];exact r) fun c oo u r=>by rw[yN (nfrz c oo u r)];exact r
   rcases hc with rfl | hc
   ·exact hbe
   ·rintro rfl
    rcases he with z | z
    ·exact nown c b hc z
    ·rw[hc] at z;cases z;exact hb rfl
end
structure Un (fs ex:List Addr) (H H':Hp) (h h':Heap):Prop where
 keep:∀ b o,h.get? b=some o→H b=none→b∉fs→b∉ex→h'.get? b=some o
 slot:∀ b o,h.get? b=some o→H b=none→b∈fs→b∉ex→∃ sl,h'.get? b=some { o with slots:=sl }
 free:∀ b o,h.get? b=some o→H b=none→b∉ex→H' b=none
 there:∀ b o,h.get? b=some o→b∉ex→∃ o',h'.get? b=some o'
 tups:∀ b xs,H b=some (.tup xs)→H' b=some (.tup xs)
 frzs:∀ b o u,H b=some (.frz o u)→H' b=some (.frz o u)
 tbls:∀ b ps,H b=some (.tbl ps)→H' b=some (.tbl ps)
section
variable {fs fs' ex ex':List Addr} {H H1 H2:Hp} {h h1 h2 h':Heap} {a x e:Addr} {o:HO}
theorem Un.any(u:Un fs ex H H1 h h1){b:Addr}{ob:Obj}(q:h.get? b=some ob)(n:H b=none)(hx:b∉ex):∃ sl,h1.get? b=some { ob with slots:=sl }:=by
 by_cases hb:b∈fs
 ·exact u.slot b ob q n hb hx
 ·exact⟨ob.slots,u.keep b ob q n hb hx⟩
theorem Un.trans(a:Un fs ex H H1 h h1)(b:Un fs ex H1 H2 h1 h2):Un fs ex H H2 h h2 where
 keep:=fun c ob q n hc hx=>b.keep c ob (a.keep c ob q n hc hx) (a.free c ob q n hx) hc hx
 slot:=fun c ob q n hc hx=>by
  obtain⟨sl,e1⟩:=a.slot c ob q n hc hx
  obtain⟨sl',e2⟩:=b.slot c _ e1 (a.free c ob q n hx) hc hx
  exact⟨sl',e2⟩
 free:=fun c ob q n hx=>by
  obtain⟨o',e1⟩:=a.there c ob q hx
  exact b.free c o' e1 (a.free c ob q n hx) hx
 there:=fun c ob q hx=>by
  obtain⟨o',e1⟩:=a.there c ob q hx
  exact b.there c o' e1 hx
 tups:=fun c xs q=>b.tups c xs (a.tups c xs q)
 frzs:=fun c ob xs q=>b.frzs c ob xs (a.frzs c ob xs q)
 tbls:=fun c ps q=>b.tbls c ps (a.tbls c ps q)
theorem Un.kept(k:∀ b u,h.get? b=some u→h'.get? b=some u):Un fs ex H H h h' :=
 ⟨fun b ob q u0 u0 u0=>k b ob q,fun b ob q u0 u0 u0=>⟨ob.slots,k b ob q⟩,fun u0 u0 u0 n u0=>n,fun b ob q u0=>⟨ob,k b ob q⟩,fun u0 u0 q=>q,fun u0 u0 u0 q=>q,fun u0 u0 q=>q⟩
theorem Un.refl:Un fs ex H H h h:=Un.kept fun u0 u0 q=>q
theorem Un.laid(k:∀ b u,h.get? b=some u→h'.get? b=some u)(hp:h.objs.size≤a)(hn:H a=none):Un fs ex H (wj H a o) h h' where
 keep:=fun b u q u0 u0 u0=>k b u q
 slot:=fun b u q u0 u0 u0=>⟨u.slots,k b u q⟩
 free:=fun b u q n u0=>by rw[yN (cJ (cG (cc q) hp))];exact n
 there:=fun b u q u0=>⟨u,k b u q⟩
 tups:=fun b xs q=>by rw[yN (yh q hn)];exact q
 frzs:=fun b u xs q=>by rw[yN (yh q hn)];exact q
 tbls:=fun b ps q=>by rw[yN (yh q hn)];exact q
theorem Un.write(mu:Mut (H x))(he:e=x∨H e=some (.own x))(k:∀ b u,b≠e→h.get? b=some u→h'.get? b=some u)(heo:∃ u,h'.get? e=some u):Un fs ex H (wj H x o) h h':=by
 have hx:∀ b,H b=none→b≠x:=fun b n z=>by subst z;rw[n] at mu;exact mu
 have hb:∀ b,H b=none→b≠e:=fun b n z=>by
  subst z
  rcases he with r | r
  ·exact hx b n r
  ·rw[n] at r;cases r
 have hm:∀ b u,H b=some u→¬ Mut (some u)→b≠x:=fun b u q nm z=>by subst z;rw[q] at mu;exact nm mu
 refine⟨fun b u q n u0 u0=>k b u (hb b n) q,fun b u q n u0 u0=>⟨u.slots,k b u (hb b n) q⟩,fun b u q n u0=>by rw[yN (hx b n)];exact n,fun b u q u0=>?_,
  fun b xs q=>by rw[yN (hm b _ q fun z=>z)];exact q,fun b u xs q=>by rw[yN (hm b _ q fun z=>z)];exact q,fun b ps q=>by rw[yN (hm b _ q fun z=>z)];exact q⟩
 by_cases hbe:b=e
 ·subst hbe;exact heo
 ·exact⟨u,k b u hbe q⟩
end
noncomputable def trk(h:Heap)(H:Hp):List Addr:=(bQ h.objs.size).filter fun a=>(H a).isSome
noncomputable def zGd(h:Heap)(H:Hp):Heap:=PySem.W.hideAll h (trk h H)
theorem zKQ(h:Heap)(H:Hp):(zGd h H).objs.size=h.objs.size:=PySem.W.hideAll_size _ _
theorem zLm{h:Heap}{H:Hp}{b:Addr}{o:Obj}(e:h.get? b=some o)(n:H b=none):(zGd h H).get? b=some o :=
 PySem.W.hideAll_get _ e fun hm=>by
  have q:(H b).isSome=true:=(cw.mp hm).2
  rw[n] at q;simp at q
theorem zNn{h:Heap}{H:Hp}{b:Addr}{o:Obj}(e:(zGd h H).get? b=some o):h.get? b=some o∧H b=none:=by
 have e':h.get? b=some o:=PySem.W.of_hideAll (trk h H) e
 refine⟨e',?_⟩
 cases q:H b with
 | none=>rfl
 | some x =>
  have hm:b∈trk h H:=cw.mpr ⟨bX.mpr (cc e'),by simp[q]⟩
  have z:(zGd h H).get? b=none:=PySem.W.hideAll_none (trk h H) hm
  rw[z] at e;cases e
noncomputable def zNo(g h:Heap)(L:Addr):List (Addr×Obj):=(bQ h.objs.size).filterMap fun a=>if a=L∨(g.get? a).isSome=true then none else (h.get? a).map fun o=>(a,o)
noncomputable def rest(g h:Heap)(L d:Addr):List (Addr×Obj):=(zNo g h L).filter fun p=>decide (p.1≠d)
structure Mod (K:PySem.W.Frag) (mg:Str→Option Value) (base:Heap):Prop where
 kin:K.In base
 glob:base.Ns mainGlobals mg
 blt:∃ mb,base.Ns builtinsNs mb∧∀ x:Str,x≠"__name__"→mb x=bootBuiltins x
 nolimit:base.NoLimit
structure Cx where
 prog:Program
 w:World
 K:PySem.W.Frag
 mg:Str→Option Value
 base:Heap
 A:Around
 N:List Str
 s₀:Shared
 H₀:Hp
 env:Env
 outer:List Env
 stack:List Env
 ex:List Addr
 fn:Str→Bool
 calm:Bool
 pn:List (Addr×Obj)
 xe:Value→Shared→Prop
noncomputable def frs(l:List Env):List Addr:=l.filterMap (·.frame)
noncomputable abbrev Cx.fs(X:Cx):List Addr:=frs X.outer
noncomputable def Vis(sc:Scope)(x:Str):Prop:=sc.names.lookup x=some .local∨sc.names.lookup x=some .cell∨sc.names.lookup x=some .free
noncomputable def Loc(sc:Scope)(x:Str):Prop:=sc.names.lookup x=some .local∨sc.names.lookup x=some .cell
noncomputable def Look(env:Env)(h:Heap)(m:Str→Option Value)(x:Str)(u:Value):Prop :=
 (env.kindOf x=some .local∧m x=some u)∨((env.kindOf x=some .cell∨env.kindOf x=some .free)∧∃ c,env.cells.lookup x=some c∧h.IsCell c (some u))
noncomputable def zJd:List Str:=[]
noncomputable def TabsOk(K:PySem.W.Frag)(H:Hp):Prop:=∀ x∈zJd,∀ c b,PySem.W.tabIn K x=some (c,b)→∃ t,H b=some (.tbl #[.str (x++".<locals>.<lambda>") t])
structure Cx.Ok (X:Cx):Prop where
 mod:Mod X.K X.mg X.base
 kind:X.env.scope.kind=.function
 glob:X.env.globals=mainGlobals
 blt:X.env.builtins=builtinsNs
 above:X.s₀.heap.objs.size≤X.env.locals
 inj:∀ x y c,X.env.cells.lookup x=some c→X.env.cells.lookup y=some c→x=y
 has:∀ x,(X.env.kindOf x=some .cell∨X.env.kindOf x=some .free)→∃ c,X.env.cells.lookup x=some c
 cab:∀ x c,X.fn x=true→X.env.cells.lookup x=some c→X.s₀.heap.objs.size≤c
 hd:X.calm=true→X.A.handled=none
 frames:X.A.frames=some X.stack
 stk:X.stack=X.outer∨(X.stack=X.env::X.outer∧X.env.frame=some X.env.locals)
 exf:∀ b∈X.ex,b≠X.env.locals∧∀ x c,X.env.cells.lookup x=some c→c≠b
 bs:∀ b o,X.base.get? b=some o→X.s₀.heap.get? b=some o∧X.H₀ b=none
 bsz:X.base.objs.size≤X.s₀.heap.objs.size
 noex:∀ b o,X.base.get? b=some o→b∉X.ex
 exfs:∀ b∈X.ex,b∉X.fs
 funs:X.s₀.heap.FunFrames X.base X.outer
 frf:∀ b∈X.fs,X.H₀ b=none
 tb:TabsOk X.K X.H₀
structure zX (X:Cx) (pins:List (Addr×Obj)) (σ:List (Option V)) (H:Hp) (s:Shared):Prop where
 ok:X.Ok
 os:s.os=X.s₀.os
 bare:AllBare s.gens
 base:Un X.fs X.ex X.H₀ H X.s₀.heap s.heap
 loc:∃ m,s.heap.Ns X.env.locals m∧∀(i:Nat) (x:Str) (v:V),X.N[i]?=some x→σ[i]?=some (some v)→Vis X.env.scope x→∃ u,RelV v u∧Look X.env s.heap m x u
 cell:∀ x c,X.env.cells.lookup x=some c→∃ v,s.heap.IsCell c v
 free:H X.env.locals=none
 freeC:∀ x c,X.env.cells.lookup x=some c→H c=none
 pin:∀ p∈X.pn++pins,s.heap.get? p.1=some p.2∧H p.1=none∧p.1≠X.env.locals∧p.1∉X.fs∧∀ v,p.2.data≠.cell v
 hok:HOk X.prog X.w H s.heap
 len:σ.length=X.N.length
section
variable {X:Cx} {pins:List (Addr×Obj)} {σ:List (Option V)} {H H':Hp} {s:Shared} {h':Heap}
theorem Cx.Ok.nofr(ok:X.Ok){b:Addr}{o:Obj}(e:X.base.get? b=some o):b∉X.fs:=fun hb=>by
 have:=(ok.funs.mem hb).1
 rw[e] at this;cases this
theorem zX.bs(I:zX X pins σ H s):∀ b o,X.base.get? b=some o→s.heap.get? b=some o∧H b=none:=fun b o e =>
 ⟨I.base.keep b o (I.ok.bs b o e).1 (I.ok.bs b o e).2 (I.ok.nofr e) (I.ok.noex b o e),I.base.free b o (I.ok.bs b o e).1 (I.ok.bs b o e).2 (I.ok.noex b o e)⟩
theorem zX.bk(I:zX X pins σ H s):∀ b o,X.base.get? b=some o→s.heap.get? b=some o:=fun b o e=>(I.bs b o e).1
theorem zX.mod(I:zX X pins σ H s):Mod X.K X.mg X.base:=I.ok.mod
theorem zX.tabs(I:zX X pins σ H s):TabsOk X.K H:=fun x hx c b e=>by
 obtain⟨t,q⟩:=I.ok.tb x hx c b e
 exact⟨t,I.base.tbls b _ q⟩
theorem zX.kIn(I:zX X pins σ H s):X.K.In s.heap:=I.ok.mod.kin.keeps I.bk
theorem zX.nolimit(I:zX X pins σ H s):s.heap.NoLimit:=I.ok.mod.nolimit.keeps I.bk
theorem zX.lt(I:zX X pins σ H s):X.env.locals<s.heap.objs.size:=let ⟨_,hn,_⟩:=I.loc;hn.lt
theorem zX.sz(I:zX X pins σ H s):X.s₀.heap.objs.size≤s.heap.objs.size:=dh I.ok.above (ej I.lt)
theorem zX.nofs(I:zX X pins σ H s){a:Addr}(h:s.heap.objs.size≤a):a∉X.fs:=fun hb=>by
 obtain⟨u0,o,ho,u0⟩:=I.ok.funs.mem hb
 exact absurd (cG (cc ho) (dh I.sz h)) (dG _)
theorem zX.cne(I:zX X pins σ H s):∀ x c,X.env.cells.lookup x=some c→c≠X.env.locals:=fun x c e z=>by
 obtain⟨v,o,ho,hd⟩:=I.cell x c e
 obtain⟨m,⟨o',es,ep,ho',hd',u0⟩,u0⟩:=I.loc
 rw[z,ho'] at ho;cases ho;rw[hd'] at hd;cases hd
theorem zX.funs(I:zX X pins σ H s):s.heap.FunFrames X.base X.outer:=by
 have all:∀(l:List Env),(∀ b∈frs l,b∈X.fs)→X.s₀.heap.FunFrames X.base l→s.heap.FunFrames X.base l:=by
  intro l
  induction l with
  | nil=>intro u0 u0;trivial
  | cons env r ih =>
   intro hs hl
   obtain⟨hk,⟨L,o,hf,hn,ho,hd⟩,hr⟩:=hl
   have hL:L∈X.fs:=hs L (by unfold frs;rw[fi,hf];exact cE)
   obtain⟨sl,e⟩:=I.base.slot L o ho (I.ok.frf L hL) hL fun z=>I.ok.exfs L z hL
   exact⟨hk,⟨L,_,hf,hn,e,hd⟩,ih (fun b hb=>hs b (by unfold frs;rw[fi,hf];exact ck _ hb)) hr⟩
 exact all X.outer (fun u0 hb=>hb) I.ok.funs
theorem zX.stack(I:zX X pins σ H s):s.heap.FunFrames X.base X.stack:=by
 rcases I.ok.stk with e | ⟨e,hf⟩
 ·rw[e];exact I.funs
 ·rw[e]
  obtain⟨m,hn,u0⟩:=I.loc
  refine .cons (by rw[I.ok.kind];decide) hf hn ?_ I.funs
  exact ff (dh I.ok.bsz I.ok.above)
theorem zX.stkSub(I:zX X pins σ H s):∀ b∈frs X.stack,b∈X.env.locals::X.fs:=fun b hb=>by
 rcases I.ok.stk with e | ⟨e,hf⟩
 ·rw[e] at hb;exact ck _ hb
 ·rw[e] at hb
  unfold frs at hb
  rw[fi,hf] at hb
  exact hb
theorem zX.stkFree(I:zX X pins σ H s):∀ b∈frs X.stack,H b=none:=fun b hb=>by
 rcases cI.mp (I.stkSub b hb) with e | hb
 ·rw[e];exact I.free
 ·obtain⟨u0,o,ho,u0⟩:=I.ok.funs.mem hb
  exact I.base.free b o ho (I.ok.frf b hb) fun z=>I.ok.exfs b z hb
theorem zX.step{g':Array GenState}{t':Nat}{d':Drawn}{ch:List Addr}(I:zX X pins σ H s)
  (hch:∀ b∈ch,(b∈X.ex∨X.s₀.heap.objs.size≤b)∧b≠X.env.locals∧(∀ x c,X.env.cells.lookup x=some c→c≠b)∧∀ p∈X.pn++pins,p.1≠b)
  (keep:∀ b o,b≠X.env.locals→b∉X.fs→b∉ch→s.heap.get? b=some o→H b=none→h'.get? b=some o)
  (slot:∀ b o,b≠X.env.locals→b∈X.fs→b∉ch→s.heap.get? b=some o→H b=none→∃ sl,h'.get? b=some { o with slots:=sl }) (free:∀ b o,b∉ch→s.heap.get? b=some o→H b=none→H' b=none)
  (there:∀ b o,b∉ch→s.heap.get? b=some o→∃ o',h'.get? b=some o')
  (tups:∀ b xs,H b=some (.tup xs)→H' b=some (.tup xs)) (frzs:∀ b o u,H b=some (.frz o u)→H' b=some (.frz o u)) (tbls:∀ b ps,H b=some (.tbl ps)→H' b=some (.tbl ps))
  (ns:∀ m,s.heap.Ns X.env.locals m→h'.Ns X.env.locals m) (hok:HOk X.prog X.w H' h') (hg:AllBare g') :
  zX X pins σ H' { s with heap:=h',gens:=g',drawn:=d',toks:=t' }:=by
 have neL:∀ b o,X.s₀.heap.get? b=some o→b≠X.env.locals:=fun b o e=>cJ (cG (cc e) I.ok.above)
 have neC:∀ b o,X.s₀.heap.get? b=some o→b∉X.ex→b∉ch:=fun b o e hx hb=>by
  rcases(hch b hb).1 with z | z
  ·exact hx z
  ·exact absurd (cG (cc e) z) (dG _)
 have cellK:∀ x c,X.env.cells.lookup x=some c→∀ v,s.heap.IsCell c v→h'.IsCell c v:=fun x c e v ⟨o,ho,hd⟩=>by
  have nch:c∉ch:=fun z=>(hch c z).2.2.1 x c e rfl
  by_cases hc:c∈X.fs
  ·obtain⟨sl,q⟩:=slot c o (I.cne x c e) hc nch ho (I.freeC x c e)
   exact⟨_,q,hd⟩
  ·exact⟨o,keep c o (I.cne x c e) hc nch ho (I.freeC x c e),hd⟩
 refine⟨I.ok,I.os,hg,⟨fun b o e n hb hx=>?_,fun b o e n hb hx=>?_,fun b o e n hx=>?_,fun b o e hx=>?_,fun b xs e=>tups b xs (I.base.tups b xs e),fun b o xs e=>frzs b o xs (I.base.frzs b o xs e),fun b ps e=>?_⟩,?_,fun x c e=>?_,?_,fun x c e=>?_,fun p hp=>?_,hok,I.len⟩
 ·exact keep b o (neL b o e) hb (neC b o e hx) (I.base.keep b o e n hb hx) (I.base.free b o e n hx)
 ·obtain⟨sl,e1⟩:=I.base.slot b o e n hb hx
  obtain⟨sl',e2⟩:=slot b _ (neL b o e) hb (neC b o e hx) e1 (I.base.free b o e n hx)
  exact⟨sl',e2⟩
 ·obtain⟨o',e1⟩:=I.base.there b o e hx
  exact free b o' (neC b o e hx) e1 (I.base.free b o e n hx)
 ·obtain⟨o',e1⟩:=I.base.there b o e hx
  exact there b o' (neC b o e hx) e1
 ·exact tbls b _ (I.base.tbls b ps e)
 ·obtain⟨m,hn,hl⟩:=I.loc
  refine⟨m,ns m hn,fun i x v e1 e2 e3=>?_⟩
  obtain⟨u,r,l⟩:=hl i x v e1 e2 e3
  refine⟨u,r,?_⟩
  rcases l with l | ⟨k,c,e,z⟩
  ·exact .inl l
  ·exact .inr ⟨k,c,e,cellK x c e _ z⟩
 ·obtain⟨v,z⟩:=I.cell x c e
  exact⟨v,cellK x c e v z⟩
 ·obtain⟨m,⟨o,u0,u0,ho,u0⟩,u0⟩:=I.loc
  exact free _ o (fun z=>(hch _ z).2.1 rfl) ho I.free
 ·obtain⟨v,o,ho,hd⟩:=I.cell x c e
  exact free c o (fun z=>(hch c z).2.2.1 x c e rfl) ho (I.freeC x c e)
 ·obtain⟨e,n,ne,nf,d⟩:=I.pin p hp
  have nch:p.1∉ch:=fun z=>(hch p.1 z).2.2.2 p hp rfl
  exact⟨keep p.1 p.2 ne nf nch e n,free p.1 p.2 nch e n,ne,nf,d⟩
theorem zX.un{t':Nat}(I:zX X pins σ H s)(u:Un X.fs [] H H' s.heap h')(hok:HOk X.prog X.w H' h'):zX X pins σ H' { s with heap:=h',toks:=t' }:=by
 obtain⟨m,⟨o,es,ep,ho,r⟩,u0⟩:=id I.loc
 obtain⟨sl,hL⟩:=u.any ho I.free (by simp)
 exact I.step (g':=s.gens) (d':=s.drawn) (ch:=[]) (fun u0 z=>nomatch z) (fun b o u0 hb u0 e n=>u.keep b o e n hb (by simp)) (fun b o u0 hb u0 e n=>u.slot b o e n hb (by simp)) (fun b o u0 e n=>u.free b o e n (by simp)) (fun b o u0 e=>u.there b o e (by simp)) u.tups u.frzs u.tbls (fun m' hm=>by
  obtain⟨o',es',ep',ho',r'⟩:=hm
  rw[ho] at ho';cases ho'
  exact⟨_,es',ep',hL,r'⟩) hok I.bare
theorem zX.call{g':Array GenState}{t':Nat}{d':Drawn}{ch:List Addr}(I:zX X pins σ H s)(u:Un (frs X.stack) ch H H' s.heap h')(hok:HOk X.prog X.w H' h')(hg:AllBare g')
  (hch:∀ b∈ch,(b∈X.ex∨X.s₀.heap.objs.size≤b)∧b≠X.env.locals∧(∀ x c,X.env.cells.lookup x=some c→c≠b)∧∀ p∈X.pn++pins,p.1≠b) :
  zX X pins σ H' { s with heap:=h',gens:=g',drawn:=d',toks:=t' }:=by
 obtain⟨m,⟨o,es,ep,ho,r⟩,u0⟩:=id I.loc
 obtain⟨sl,hL⟩:=u.any ho I.free fun z=>(hch _ z).2.1 rfl
 exact I.step (ch:=ch) hch (fun b o hL hb hc e n=>u.keep b o e n (fun z=>(cI.mp (I.stkSub b z)).elim hL hb) hc) (fun b o u0 u0 hc e n=>u.any e n hc) (fun b o hc e n=>u.free b o e n hc) (fun b o hc e=>u.there b o e hc) u.tups u.frzs u.tbls (fun m' hm=>by
  obtain⟨o',es',ep',ho',r'⟩:=hm
  rw[ho] at ho';cases ho'
  exact⟨_,es',ep',hL,r'⟩) hok hg
theorem zX.turned{t':Nat}{it:Addr}(I:zX X pins σ H s)(k:∀ b o,b≠it→s.heap.get? b=some o→h'.get? b=some o)(hn:H it=none)(hL:it≠X.env.locals)
  (h1:it∈X.ex∨X.s₀.heap.objs.size≤it) (h2:∀ x c,X.env.cells.lookup x=some c→c≠it) (h3:∀ p∈X.pn++pins,p.1≠it):zX X pins σ H { s with heap:=h',toks:=t' }:=by
 have nit:∀ b u,H b=some u→b≠it:=fun b u e z=>by rw[z,hn] at e;cases e
 refine I.step (g':=s.gens) (d':=s.drawn) (ch:=[it]) (fun b hb=>?_) (fun b o u0 u0 hc e u0=>k b o (fun z=>hc (by simp[z])) e) (fun b o u0 u0 hc e u0=>⟨o.slots,k b o (fun z=>hc (by simp[z])) e⟩) (fun u0 u0 u0 u0 n=>n)
  (fun b o hc e=>⟨o,k b o (fun z=>hc (by simp[z])) e⟩) (fun u0 u0 e=>e) (fun u0 u0 u0 e=>e) (fun u0 u0 e=>e) (fun m hm=>?_) (fun b u e=>?_) I.bare
 ·have e:b=it:=by simpa using hb
  subst e
  exact⟨h1,hL,h2,h3⟩
 ·obtain⟨o,es,ep,ho,r⟩:=hm
  exact⟨o,es,ep,k _ o (Ne.symm hL) ho,r⟩
 ·refine(I.hok b u e).stay (fun c v hc q=>k c v ?_ q) (fun u0 q=>q) (fun u0 u0 q=>q) fun u0 u0 u0 q=>q
  rcases hc with z | z
  ·rw[z];exact nit b u e
  ·exact nit c _ z
theorem zX.tok(I:zX X pins σ H s)(t:Nat):zX X pins σ H { s with toks:=t }:=I.un (h':=s.heap) (t':=t) Un.refl I.hok
theorem zX.kept{t':Nat}(I:zX X pins σ H s)(k:∀ b u,s.heap.get? b=some u→h'.get? b=some u):zX X pins σ H { s with heap:=h',toks:=t' }:=I.un (Un.kept k) (I.hok.kept k)
theorem zX.laid{a:Addr}{o:HO}{t':Nat}(I:zX X pins σ H s)(k:∀ b u,s.heap.get? b=some u→h'.get? b=some u)(hp:s.heap.objs.size≤a)(new:wZ X.prog X.w (wj H a o) h' a o) :
  zX X pins σ (wj H a o) { s with heap:=h',toks:=t' }:=I.un (Un.laid k hp (I.hok.fresh hp)) (I.hok.laid k hp new)
theorem zX.write{x e:Addr}{o:HO}{t':Nat}(I:zX X pins σ H s)(mu:Mut (H x))(he:e=x∨H e=some (.own x))(k:∀ b u,b≠e→s.heap.get? b=some u→h'.get? b=some u)(heo:∃ u,h'.get? e=some u)
  (new:wZ X.prog X.w (wj H x o) h' x o):zX X pins σ (wj H x o) { s with heap:=h',toks:=t' }:=I.un (Un.write mu he k heo) (I.hok.write mu he k heo new)
theorem zX.weak{σ':List (Option V)}(I:zX X pins σ H s)(hl:σ'.length=σ.length)(w:∀(i:Nat) v,σ'[i]?=some (some v)→σ[i]?=some (some v)):zX X pins σ' H s :=
 ⟨I.ok,I.os,I.bare,I.base,let ⟨m,hn,hl'⟩:=I.loc;⟨m,hn,fun i x v e1 e2 e3=>hl' i x v e1 (w i v e2) e3⟩,I.cell,I.free,I.freeC,I.pin,I.hok,hl.trans I.len⟩
theorem zX.pins_of{pins':List (Addr×Obj)}(I:zX X pins σ H s)(h:∀ p∈pins',s.heap.get? p.1=some p.2∧H p.1=none∧p.1≠X.env.locals∧p.1∉X.fs∧∀ v,p.2.data≠.cell v):zX X pins' σ H s :=
 ⟨I.ok,I.os,I.bare,I.base,I.loc,I.cell,I.free,I.freeC,fun p hp=>(cH.mp hp).elim (fun z=>I.pin p (dc _ z)) (h p),I.hok,I.len⟩
theorem zHX{N:List Str}(hN:N.Nodup){i j:Nat}{x:Str}(a:N[i]?=some x)(b:N[j]?=some x):i=j:=by
 obtain⟨h1,e1⟩:=bW.mp a
 obtain⟨h2,e2⟩:=bW.mp b
 exact(List.getElem_inj hN).mp (e1.trans e2.symm)
theorem zFn{M:Model}{A:Around}{E:Value→Shared→Prop}{i:Nat}{x:Str}{v:V}{u:Value}{Q:Unit→Shared→Prop}(I:zX X pins σ H s)(hN:X.N.Nodup)(hi:X.N[i]?=some x)(hx:Loc X.env.scope x)(r:RelV v u)
  (h:∀ s',zX X pins (σ.set i (some v)) H s'→(∃ a,db a s.heap s'.heap∧(a=X.env.locals∨X.env.cells.lookup x=some a))→Q () s') (hf:X.fn x=true∨X.env.scope.names.lookup x=some .local:=by first | exact .inl rfl | exact .inr rfl | assumption):wpAny M A (storeName X.env x u) Q E s:=by
 obtain⟨m,hn,hl⟩:=id I.loc
 have hcls:(X.env.scope.kind==.class||(X.env.scope.kind==.module&&X.env.locals != X.env.globals))=false:=by rw[I.ok.kind];rfl
 have hiσ:i<σ.length:=by rw[I.len];exact(bW.mp hi).1
 have cne:=I.cne
 have tracked:∀ {a:Addr} {h':Heap},(∃ o,s.heap.get? a=some o∧H a=none)→db a s.heap h'→HOk X.prog X.w H h':=fun {a h'} ha hs b ob e=>by
  obtain⟨u0,u0,hfree⟩:=ha
  refine(I.hok b ob e).stay (fun c w' hc q=>(hs.2 c ?_).trans q) (fun u0 q=>q) (fun u0 u0 q=>q) fun u0 u0 u0 q=>q
  rintro rfl
  rcases hc with rfl | hc
  ·rw[hfree] at e;cases e
  ·rw[hfree] at hc;cases hc
 rcases hx with hk | hk
 ·refine wpAny_storeName_local hk hn (fun h' hn' hs=>?_) hcls
  obtain⟨oL,u0,u0,hoL,u0⟩:=id hn
  refine h _ ⟨I.ok,I.os,I.bare,⟨fun b o e n hb hx=>?_,fun b o e n hb hx=>?_,I.base.free,fun b o e hx=>?_,I.base.tups,I.base.frzs,I.base.tbls⟩,⟨_,hn',fun j y v' e1 e2 e3=>?_⟩,fun y c e=>?_,I.free,I.freeC,fun p hp=>?_,tracked ⟨oL,hoL,I.free⟩ hs,by simpa using I.len⟩ ⟨_,hs,.inl rfl⟩
  ·exact(hs.2 b (cJ (cG (cc e) I.ok.above))).trans (I.base.keep b o e n hb hx)
  ·obtain⟨sl,e1⟩:=I.base.slot b o e n hb hx
   exact⟨sl,(hs.2 b (cJ (cG (cc e) I.ok.above))).trans e1⟩
  ·obtain⟨o',e1⟩:=I.base.there b o e hx
   exact⟨o',(hs.2 b (cJ (cG (cc e) I.ok.above))).trans e1⟩
  ·by_cases hj:j=i
   ·subst hj
    rw[hi] at e1;cases e1
    rw[eu hiσ] at e2
    cases e2
    exact⟨u,r,.inl ⟨hk,by simp⟩⟩
   ·rw[fe (Ne.symm hj)] at e2
    obtain⟨u',r',q⟩:=hl j y v' e1 e2 e3
    refine⟨u',r',?_⟩
    rcases q with ⟨k,e⟩ | ⟨k,c,e,z⟩
    ·refine .inl ⟨k,?_⟩
     have:y≠x:=fun e=>hj (zHX hN e1 (e▸hi))
     simp[this,e]
    ·exact .inr ⟨k,c,e,z.sameBut hs (cne y c e)⟩
  ·obtain⟨w',z⟩:=I.cell y c e
   exact⟨w',z.sameBut hs (cne y c e)⟩
  ·obtain⟨e,n,ne,nf,d⟩:=I.pin p hp
   exact⟨(hs.2 p.1 ne).trans e,n,ne,nf,d⟩
 ·have hfn:X.fn x=true:=by
   rcases hf with z | z
   ·exact z
   ·rw[z] at hk;cases hk
  obtain⟨c,hc⟩:=I.ok.has x (.inl hk)
  obtain⟨w',z⟩:=I.cell x c hc
  refine wpAny_storeName_cell I.ok.kind hk hc z (fun h' hc' hs=>?_)
  obtain⟨oc,hoc,hocd⟩:=id z
  refine h { s with heap:=h' } ⟨I.ok,I.os,I.bare,⟨fun b o e n hb hx=>?_,fun b o e n hb hx=>?_,I.base.free,fun b o e hx=>?_,I.base.tups,I.base.frzs,I.base.tbls⟩,⟨m,hn.sameBut hs (Ne.symm (cne x c hc)),fun j y v' e1 e2 e3=>?_⟩,fun y c' e=>?_,I.free,I.freeC,fun p hp=>?_,tracked ⟨oc,hoc,I.freeC x c hc⟩ hs,by simpa using I.len⟩ ⟨c,hs,.inr hc⟩
  ·exact(hs.2 b (cJ (cG (cc e) (I.ok.cab x c hfn hc)))).trans (I.base.keep b o e n hb hx)
  ·obtain⟨sl,e1⟩:=I.base.slot b o e n hb hx
   exact⟨sl,(hs.2 b (cJ (cG (cc e) (I.ok.cab x c hfn hc)))).trans e1⟩
  ·obtain⟨o',e1⟩:=I.base.there b o e hx
   exact⟨o',(hs.2 b (cJ (cG (cc e) (I.ok.cab x c hfn hc)))).trans e1⟩
  ·by_cases hj:j=i
   ·subst hj
    rw[hi] at e1;cases e1
    rw[eu hiσ] at e2
    cases e2
    exact⟨u,r,.inr ⟨.inl hk,c,hc,hc'⟩⟩
   ·rw[fe (Ne.symm hj)] at e2
    obtain⟨u',r',q⟩:=hl j y v' e1 e2 e3
    refine⟨u',r',?_⟩
    rcases q with q | ⟨k,c',e,z'⟩
    ·exact .inl q
    ·refine .inr ⟨k,c',e,z'.sameBut hs ?_⟩
     rintro rfl
     exact hj (zHX hN e1 (I.ok.inj _ _ _ e hc▸hi))
  ·by_cases hcc:c'=c
   ·subst hcc;exact⟨_,hc'⟩
   ·obtain⟨w2,z2⟩:=I.cell y c' e
    exact⟨w2,z2.sameBut hs hcc⟩
  ·obtain⟨e,n,ne,nf,d⟩:=I.pin p hp
   refine⟨(hs.2 p.1 ?_).trans e,n,ne,nf,d⟩
   intro q
   rw[q,hoc] at e
   have q':oc=p.2:=Option.some.inj e
   exact d w' (by rw[← q'];exact hocd)
theorem zEi{M:Model}{A:Around}{E:Value→Shared→Prop}{i:Nat}{x:Str}{v:V}{u:Value}{Q:Unit→Shared→Prop}(I:zX X pins σ H s)(hN:X.N.Nodup)(hi:X.N[i]?=some x)(hx:Loc X.env.scope x)(r:RelV v u)
  (h:∀ s',zX X pins (σ.set i (some v)) H s'→Q () s') (hf:X.fn x=true∨X.env.scope.names.lookup x=some .local:=by first | exact .inl rfl | exact .inr rfl | assumption):wpAny M A (storeName X.env x u) Q E s :=
 zFn I hN hi hx r (fun s' I' u0=>h s' I') hf
theorem zX.call'{s':Shared}{ch:List Addr}(I:zX X pins σ H s)(ho:s'.os=s.os)(u:Un (frs X.stack) ch H H' s.heap s'.heap)(hok:HOk X.prog X.w H' s'.heap)(hg:AllBare s'.gens)
  (hch:∀ b∈ch,(b∈X.ex∨X.s₀.heap.objs.size≤b)∧b≠X.env.locals∧(∀ x c,X.env.cells.lookup x=some c→c≠b)∧∀ p∈X.pn++pins,p.1≠b):zX X pins σ H' s':=by
 obtain⟨h',g',d',t',o'⟩:=s'
 have e:o'=s.os:=ho
 subst e
 exact I.call (g':=g') (t':=t') (d':=d') u hok hg hch
end
noncomputable abbrev XK:=Value→Option Addr→Hp→Prop
noncomputable abbrev St:=List (Option V)
noncomputable abbrev VK:=V→Hp→Prop
noncomputable abbrev TE:=St→Hp→VK→Prop
noncomputable abbrev TT:=St→Hp→(Bool→Hp→Prop)→Prop
noncomputable abbrev TA:=St→Hp→(List V→Hp→Prop)→Prop
structure Ends where
 nx:St→Hp→Prop
 rt:VK
 bk:St→Hp→Prop:=fun u0 u0=>False
 ct:St→Hp→Prop:=fun u0 u0=>False
noncomputable abbrev TS:=Ends→St→Hp→Prop
noncomputable def EP(X:Cx)(pins:List (Addr×Obj))(σ:St)(Q:VK)(u:Value)(s':Shared):Prop:=∃ v H',zX X pins σ H' s'∧RelV v u∧Q v H'
noncomputable def TP(X:Cx)(pins:List (Addr×Obj))(σ:St)(Q:Bool→Hp→Prop)(b:Bool)(s':Shared):Prop:=∃ H',zX X pins σ H' s'∧Q b H'
noncomputable def AP(X:Cx)(pins:List (Addr×Obj))(σ:St)(Q:List V→Hp→Prop)(us:List Value)(s':Shared):Prop:=∃ vs H',zX X pins σ H' s'∧za vs us∧Q vs H'
noncomputable def SP(X:Cx)(pins:List (Addr×Obj))(D:Ends)(f:Flow)(s':Shared):Prop :=
 match f with
 | .next=>∃ σ' H',zX X pins σ' H' s'∧D.nx σ' H'
 | .brk=>∃ σ' H',zX X pins σ' H' s'∧D.bk σ' H'
 | .cont=>∃ σ' H',zX X pins σ' H' s'∧D.ct σ' H'
 | .ret u=>∃ v σ' H',zX X pins σ' H' s'∧RelV v u∧D.rt v H'
noncomputable def PE(X:Cx)(e:Expr)(t:TE):Prop :=
 ∀(pins:List (Addr×Obj)) (s:Shared) (σ:St) (H:Hp) (Q:VK),zX X pins σ H s→t σ H Q→wpAny (model X.prog X.w) X.A (eval e X.env) (EP X pins σ Q) X.xe s
noncomputable def PT(X:Cx)(e:Expr)(t:TT):Prop :=
 ∀(pins:List (Addr×Obj)) (s:Shared) (σ:St) (H:Hp) (Q:Bool→Hp→Prop),zX X pins σ H s→t σ H Q→wpAny (model X.prog X.w) X.A (isTrue e X.env (eval e X.env)) (TP X pins σ Q) X.xe s
noncomputable def PW(X:Cx)(e:Expr)(t:TT):Prop :=
 ∀(whole:Sem Value) (pins:List (Addr×Obj)) (s:Shared) (σ:St) (H:Hp) (Q:Bool→Hp→Prop),zX X pins σ H s→t σ H Q→wpAny (model X.prog X.w) X.A (isTrue e X.env whole) (TP X pins σ Q) X.xe s
theorem PW.pt{X:Cx}{e:Expr}{t:TT}(h:PW X e t):PT X e t:=h _
noncomputable def PA(X:Cx)(es:List Expr)(t:TA):Prop :=
 ∀(pos:Pos) (pins:List (Addr×Obj)) (s:Shared) (σ:St) (H:Hp) (Q:List V→Hp→Prop),zX X pins σ H s→t σ H Q→wpAny (model X.prog X.w) X.A (spliced (backTo pos (starEach es X.env))) (AP X pins σ Q) X.xe s
noncomputable def PS(X:Cx)(st:Stmt)(t:TS):Prop :=
 ∀(pins:List (Addr×Obj)) (s:Shared) (σ:St) (H:Hp) (D:Ends),zX X pins σ H s→t D σ H→wpAny (model X.prog X.w) X.A (exec st X.env) (SP X pins D) X.xe s
noncomputable def PSs(X:Cx)(st:List Stmt)(t:TS):Prop :=
 ∀(pins:List (Addr×Obj)) (s:Shared) (σ:St) (H:Hp) (D:Ends),zX X pins σ H s→t D σ H→wpAny (model X.prog X.w) X.A (execs st X.env) (SP X pins D) X.xe s
theorem yi{α:Type}{t:Sem α}{Q Q':α→Shared→Prop}{M:Model}{A:Around}{E:Value→Shared→Prop}{s:Shared}(h:wpAny M A t Q E s)(hQ:∀ a s,Q a s→Q' a s):wpAny M A t Q' E s:=fw h hQ fun u0 u0 x=>x
section
variable {X:Cx}
noncomputable def zRh(i:Nat):TE:=fun σ H Q=>∃ v,σ[i]?=some (some v)∧Q v H
noncomputable def tC(v:V):TE:=fun u0 H Q=>Q v H
theorem zLn{i:Nat}{x:Str}{pos:Pos}(hN:X.N[i]?=some x)(hv:Vis X.env.scope x)(hd:(x==("__debug__":Str))=false:=by decide)(hcd:(x==("__classdict__":Str))=false:=by decide):PE X (.Name x pos) (zRh i):=by
 intro pins s σ H Q I h
 obtain⟨v,e,h⟩:=h
 obtain⟨m,hn,hl⟩:=I.loc
 obtain⟨u,r,l⟩:=hl i x v hN e hv
 have fin:EP X pins σ Q u s:=⟨v,H,I,r,h⟩
 rcases l with ⟨hk,hm⟩ | ⟨hk,c,hc,hcell⟩
 ·exact wpAny_Name (wpAny_loadName_local I.ok.kind hk hn hm fin) hd
 ·rcases hk with hk | hk
  ·exact wpAny_Name (wpAny_loadName_cell I.ok.kind hk hc hcell fin) hd
  ·exact wpAny_Name (wpAny_loadName_free I.ok.kind hk hc hcell fin hcd) hd
theorem zQA{i j pos}:PE X (.Constant (.int i) j pos) (tC (.int i)):=fun u0 u0 u0 H u0 I h=>wpAny_Constant_int ⟨.int i,H,I.tok _,⟨_,rfl⟩,h⟩
theorem zRi{b j pos}:PE X (.Constant (.bool b) j pos) (tC (.bl b)):=fun u0 u0 u0 H u0 I h=>Constant_bool ⟨.bl b,H,I,rfl,h⟩
theorem zQB{j pos}:PE X (.Constant .none j pos) (tC .non):=fun u0 u0 u0 H u0 I h=>Constant_none ⟨.non,H,I,rfl,h⟩
theorem zQC{x j pos}:PE X (.Constant (.str x) j pos) (tC (.str x)):=fun u0 u0 u0 H u0 I h=>Calls.Constant_str ⟨.str x,H,I.tok _,⟨_,rfl⟩,h⟩
noncomputable def Gl(X:Cx)(x:Str):Prop:=X.env.kindOf x=some .globalImplicit
theorem zJe{E:Value→Shared→Prop}{pins:List (Addr×Obj)}{s:Shared}{σ:St}{H:Hp}{x:Str}{u:Value}{pos:Pos}{Q:Value→Shared→Prop}(I:zX X pins σ H s)(hg:Gl X x)(hm:X.mg x=some u)(h:Q u s)
  (hd:(x==("__debug__":Str))=false:=by decide):wpAny (model X.prog X.w) X.A (eval (.Name x pos) X.env) Q E s :=
 Calls.Name_function_global I.ok.kind hg (Calls.loadGlobal_global (by rw[I.ok.glob];exact I.mod.glob.keeps I.bk) hm h) hd
theorem zBb{E:Value→Shared→Prop}{pins:List (Addr×Obj)}{s:Shared}{σ:St}{H:Hp}{x:Str}{u:Value}{pos:Pos}{Q:Value→Shared→Prop}(I:zX X pins σ H s)(hg:Gl X x)(hm:X.mg x=none)(hv:bootBuiltins x=some u)(h:Q u s)
  (hn:x≠"__name__":=by decide) (hd:(x==("__debug__":Str))=false:=by decide):wpAny (model X.prog X.w) X.A (eval (.Name x pos) X.env) Q E s:=by
 obtain⟨mb,h1,h2⟩:=I.mod.blt
 exact Calls.Name_function_global I.ok.kind hg (Calls.loadGlobal_builtin (by rw[I.ok.glob];exact I.mod.glob.keeps I.bk) hm (by rw[I.ok.blt];exact h1.keeps I.bk) ((h2 x hn).trans hv) h) hd
theorem zNp{x:Str}{v:V}{u:Value}{pos:Pos}(hg:Gl X x)(hm:X.mg x=some u)(r:RelV v u)(hd:(x==("__debug__":Str))=false:=by decide):PE X (.Name x pos) (tC v) :=
 fun u0 u0 u0 H u0 I h=>zJe I hg hm ⟨v,H,I,r,h⟩ hd
theorem zNq{x:Str}{v:V}{u:Value}{pos:Pos}(hg:Gl X x)(hm:X.mg x=none)(hv:bootBuiltins x=some u)(r:RelV v u)(hn:x≠"__name__":=by decide)(hd:(x==("__debug__":Str))=false:=by decide):PE X (.Name x pos) (tC v) :=
 fun u0 u0 u0 H u0 I h=>zBb I hg hm hv ⟨v,H,I,r,h⟩ hn hd
variable {a b:Expr} {ta tb:TE} {pos:Pos}
noncomputable def tB(t:TE):TT:=fun σ H Q=>t σ H fun x H1=>∃ c,x=.bl c∧Q c H1
theorem zQD{e:Expr}{t:TE}(h:PE X e t)(he:∀ whole,isTrue e X.env whole=(do let v ← whole;standAt e.pos;holding [v] (truthy v)):=by intro u0;rfl):PT X e (tB t):=by
 intro pins s σ H Q I hw
 refine isTrue_plain (yi (h pins s σ H _ I hw) fun v s1 ⟨x,H1,I1,r1,q1⟩=>?_) (he _)
 obtain⟨d,rfl,q⟩:=q1
 cases r1
 exact dR ⟨H1,I1,q⟩
variable {tA tB':TT} {rest:List Expr}
noncomputable def zSe(t u:TT):TT:=fun σ H Q=>t σ H fun c H1=>if c=true then u σ H1 Q else Q false H1
noncomputable def tOr(t u:TT):TT:=fun σ H Q=>t σ H fun c H1=>if c=true then Q true H1 else u σ H1 Q
noncomputable def zSf(t:TT):TT:=fun σ H Q=>t σ H fun c H1=>Q (!c) H1
theorem zNr(ha:PT X a tA):PW X (.BoolOp .And [a] pos) tA:=by
 intro wh pins s σ H Q I h
 refine isTrue_and (yi (ha pins s σ H Q I h) fun c s1 e=>?_)
 cases c with
 | true=>exact isTrue_and_nil e
 | false=>exact e
theorem zQE(ha:PT X a tA):PW X (.BoolOp .Or [a] pos) tA:=by
 intro wh pins s σ H Q I h
 refine isTrue_or (yi (ha pins s σ H Q I h) fun c s1 e=>?_)
 cases c with
 | false=>exact isTrue_or_nil e
 | true=>exact e
theorem zQF(ha:PT X a tA)(hb:PW X (.BoolOp .And (b::rest) pos) tB'):PW X (.BoolOp .And (a::b::rest) pos) (zSe tA tB'):=by
 intro wh pins s σ H Q I h
 refine isTrue_and (yi (ha pins s σ H _ I h) fun c s1 ⟨H1,I1,q1⟩=>?_)
 cases c with
 | true=>exact hb wh pins s1 σ H1 Q I1 q1
 | false=>exact⟨H1,I1,q1⟩
theorem zRj(ha:PT X a tA)(hb:PW X (.BoolOp .Or (b::rest) pos) tB'):PW X (.BoolOp .Or (a::b::rest) pos) (tOr tA tB'):=by
 intro wh pins s σ H Q I h
 refine isTrue_or (yi (ha pins s σ H _ I h) fun c s1 ⟨H1,I1,q1⟩=>?_)
 cases c with
 | true=>exact⟨H1,I1,q1⟩
 | false=>exact hb wh pins s1 σ H1 Q I1 q1
theorem zQG(ha:PT X a tA):PT X (.UnaryOp .Not a pos) (zSf tA):=by
 intro pins s σ H Q I h
 exact isTrue_not (ha pins s σ H (fun c H1=>Q (!c) H1) I h)
noncomputable def zRk(ta tb:TE):TE:=fun σ H Q=>ta σ H fun x H1=>∃ c,x=.bl c∧if c=true then tb σ H1 Q else Q (.bl false) H1
noncomputable def zRl(ta:TE):TE:=fun σ H Q=>ta σ H fun x H1=>∃ c,x=.bl c∧Q (.bl (!c)) H1
theorem zQH{op}{t:TE}(h:PE X a t):PE X (.BoolOp op [a] pos) t:=fun pins s σ H Q I hw=>BoolOp_one (h pins s σ H Q I hw)
theorem zQI(ha:PE X a ta)(hb:PE X (.BoolOp .And (b::rest) pos) tb):PE X (.BoolOp .And (a::b::rest) pos) (zRk ta tb):=by
 intro pins s σ H Q I h
 refine BoolOp_and (yi (ha pins s σ H _ I h) fun v s1 ⟨x,H1,I1,r1,q1⟩=>?_)
 obtain⟨c,rfl,q1⟩:=q1
 cases r1
 refine dR ?_
 cases c with
 | true=>exact hb pins s1 σ H1 Q I1 q1
 | false=>exact⟨.bl false,H1,I1,rfl,q1⟩
theorem zQJ(ha:PE X a ta):PE X (.UnaryOp .Not a pos) (zRl ta):=by
 intro pins s σ H Q I h
 refine UnaryOp_ (yi (ha pins s σ H _ I h) fun v s1 ⟨x,H1,I1,r1,q1⟩=>?_)
 obtain⟨c,rfl,q1⟩:=q1
 cases r1
 exact not_of (dR ⟨.bl (!c),H1,I1,rfl,q1⟩)
end
noncomputable def SqL(K:PySem.W.Frag)(H:Hp)(a:Addr)(xs:List V):Prop :=
 Rd H a (.lst xs) ∨
  ∃(o:Obj) (its:Array Value) (n:Nat),K.lookup a=some o∧o.cls=.type "list"∧o.dict=none∧o.data=.seq its n∧its.size≤sizeLine∧za xs its.toList
noncomputable def SqT(K:PySem.W.Frag)(H:Hp)(a:Addr)(xs:List V):Prop :=
 Rd H a (.tup xs) ∨
  ∃(o:Obj) (its:Array Value) (n:Nat),K.lookup a=some o∧o.cls=.type "tuple"∧o.data=.seq its n∧its.size≤sizeLine∧za xs its.toList∧o.dict=none
noncomputable def zSg:Value→Option V
 | .none=>some .non
 | .bool b=>some (.bl b)
 | .int i _=>some (.int i)
 | .str x _=>some (.str x)
 | .bytes b _=>some (.byt b)
 | .float b _=>some (.flt b)
 | .ref a=>some (.ref a)
 | .type n=>some (.ty n)
 | _=>none
theorem RelV.abs{x:V}{u:Value}(r:RelV x u):zSg u=some x:=by
 cases x with
 | non=>cases r;rfl
 | bl _=>cases r;rfl
 | int _=>obtain⟨t,rfl⟩:=r;rfl
 | str _=>obtain⟨t,rfl⟩:=r;rfl
 | byt _=>obtain⟨t,rfl⟩:=r;rfl
 | flt _=>obtain⟨t,rfl⟩:=r;rfl
 | ref _=>cases r;rfl
 | ty _=>cases r;rfl
theorem RelV.inj{x y:V}{u:Value}(r:RelV x u)(q:RelV y u):x=y:=Option.some.inj (r.abs.symm.trans q.abs)
theorem za.inj:∀ {xs ys:List V} {us:List Value},za xs us→za ys us→xs=ys
 | _,_,_,.nil,.nil=>rfl
 | _,_,_,.cons r t,.cons r' t'=>by rw[r.inj r',za.inj t t']
section
variable {X:Cx} {pins:List (Addr×Obj)} {σ:St} {H:Hp} {s:Shared} {a:Addr} {xs ys:List V}
theorem SqL.of{K:PySem.W.Frag}(h:H a=some (.lst xs)):SqL K H a xs:=.inl (.inl h)
theorem SqT.of{K:PySem.W.Frag}(h:H a=some (.tup xs)):SqT K H a xs:=.inl (.inl h)
theorem zX.list(I:zX X pins σ H s)(h:SqL X.K H a xs):∃ its:List Value,za xs its∧PlainL s.heap a its.toArray∧xs.length≤sizeLine:=by
 rcases h with h | ⟨o,its,n,hk,hc,hd,hs,hz,r⟩
 ·obtain⟨z,its,n,r,e⟩:=h.ok I.hok
  exact⟨its,r,⟨_,n,e,rfl,rfl,rfl⟩,z⟩
 ·refine⟨its.toList,r,⟨o,n,I.kIn a o hk,hc,hd,by simpa using hs⟩,?_⟩
  have e:=r.length
  simp only[cD] at e
  omega
theorem zX.tuple(I:zX X pins σ H s)(h:SqT X.K H a xs):∃ its:List Value,za xs its∧IsTup s.heap a its.toArray∧xs.length≤sizeLine:=by
 rcases h with h | ⟨o,its,n,hk,hc,hs,hz,r,u0⟩
 ·obtain⟨z,its,r,p⟩:=h.ok I.hok
  exact⟨its,r,p.isTup,z⟩
 ·refine⟨its.toList,r,⟨o,I.kIn a o hk,hc,n,by simpa using hs⟩,?_⟩
  have e:=r.length
  simp only[cD] at e
  omega
theorem zX.noDict(I:zX X pins σ H s)(h:SqT X.K H a xs):s.TypeIs (.ref a) "tuple"∧∃ ob,s.heap.get? a=some ob∧ob.dict=none:=by
 rcases h with h | ⟨o,its,n,hk,hc,hs,hz,r,hd⟩
 ·obtain⟨z,its,r,o,h1,h2,h3,h4⟩:=h.ok I.hok
  exact⟨⟨o,h1,h2⟩,o,h1,h4⟩
 ·exact⟨⟨o,I.kIn a o hk,hc⟩,o,I.kIn a o hk,hd⟩
theorem zX.list_inj(I:zX X pins σ H s)(h:SqL X.K H a xs)(h':SqL X.K H a ys):xs=ys:=by
 obtain⟨its,r,⟨o,n,e,u0,u0,d⟩,u0⟩:=I.list h
 obtain⟨its',r',⟨o',n',e',u0,u0,d'⟩,u0⟩:=I.list h'
 rw[e] at e';cases e'
 rw[d] at d'
 injection d' with d1 _
 have:its=its':=by simpa using congrArg Array.toList d1
 subst this
 exact r.inj r'
theorem zX.tuple_inj(I:zX X pins σ H s)(h:SqT X.K H a xs)(h':SqT X.K H a ys):xs=ys:=by
 obtain⟨its,r,⟨o,e,u0,n,d⟩,u0⟩:=I.tuple h
 obtain⟨its',r',⟨o',e',u0,n',d'⟩,u0⟩:=I.tuple h'
 rw[e] at e';cases e'
 rw[d] at d'
 injection d' with d1 _
 have:its=its':=by simpa using congrArg Array.toList d1
 subst this
 exact r.inj r'
end
noncomputable abbrev Cx.wish(X:Cx)(E:Value→Shared→Prop):Cx:={ X with xe:=E }
noncomputable abbrev Cx.nox(X:Cx):Cx:=X.wish fun u0 u0=>False
theorem Cx.Ok.wish{X:Cx}(ok:X.Ok)(E:Value→Shared→Prop):(X.wish E).Ok :=
 ⟨ok.mod,ok.kind,ok.glob,ok.blt,ok.above,ok.inj,ok.has,ok.cab,ok.hd,ok.frames,ok.stk,ok.exf,ok.bs,ok.bsz,ok.noex,ok.exfs,ok.funs,ok.frf,ok.tb⟩
theorem Cx.Ok.unwish{X:Cx}{E:Value→Shared→Prop}(ok:(X.wish E).Ok):X.Ok :=
 ⟨ok.mod,ok.kind,ok.glob,ok.blt,ok.above,ok.inj,ok.has,ok.cab,ok.hd,ok.frames,ok.stk,ok.exf,ok.bs,ok.bsz,ok.noex,ok.exfs,ok.funs,ok.frf,ok.tb⟩
section
variable {X:Cx} {pins:List (Addr×Obj)} {σ:St} {H:Hp} {s:Shared} {E:Value→Shared→Prop}
theorem zX.wish(I:zX X pins σ H s)(E:Value→Shared→Prop):zX (X.wish E) pins σ H s:=⟨I.ok.wish E,I.os,I.bare,I.base,I.loc,I.cell,I.free,I.freeC,I.pin,I.hok,I.len⟩
theorem zX.unwish(I:zX (X.wish E) pins σ H s):zX X pins σ H s:=⟨I.ok.unwish,I.os,I.bare,I.base,I.loc,I.cell,I.free,I.freeC,I.pin,I.hok,I.len⟩
theorem SP.unwish{D:Ends}{f:Flow}{s':Shared}(h:SP (X.wish E) pins D f s'):SP X pins D f s':=by
 cases f with
 | next=>obtain⟨σ',H',I,q⟩:=h;exact⟨σ',H',I.unwish,q⟩
 | brk=>obtain⟨σ',H',I,q⟩:=h;exact⟨σ',H',I.unwish,q⟩
 | cont=>obtain⟨σ',H',I,q⟩:=h;exact⟨σ',H',I.unwish,q⟩
 | ret u=>obtain⟨v,σ',H',I,r,q⟩:=h;exact⟨v,σ',H',I.unwish,r,q⟩
theorem PSs.nox{st:List Stmt}{t:TS}(h:PSs X.nox st t):PSs X st t:=fun pins s σ H D I hw =>
 fw (h pins s σ H D (I.wish _) hw) (fun u0 u0 q=>q.unwish) fun u0 u0 z=>False.elim z
end
section
variable {X:Cx} {st:Stmt} {rest:List Stmt} {t u:TS} {e:Expr} {te:TE} {pos:Pos}
noncomputable def zRm:TS:=fun D σ H=>D.nx σ H
noncomputable def zSh(t u:TS):TS:=fun D σ H=>t { D with nx:=u D } σ H
theorem zNs:PSs X [] zRm:=fun u0 u0 σ H u0 I h=>wpAny_execs_nil ⟨σ,H,I,h⟩
theorem zLo(h1:PS X st t)(h2:PSs X rest u):PSs X (st::rest) (zSh t u):=by
 intro pins s σ H D I h
 refine wpAny_execs_cons (yi (h1 pins s σ H { D with nx:=u D } I h) fun f s1 q=>?_)
 cases f with
 | next =>
  obtain⟨σ',H',I',q⟩:=q
  exact h2 pins s1 σ' H' D I' q
 | ret v=>exact q
 | brk=>exact q
 | cont=>exact q
theorem zNt(h1:PS X st t):PSs X [st] t:=by
 intro pins s σ H D I h
 refine wpAny_execs_cons (yi (h1 pins s σ H D I h) fun f s1 q=>?_)
 cases f with
 | next=>exact wpAny_execs_nil q
 | ret v=>exact q
 | brk=>exact q
 | cont=>exact q
theorem zX.quiet{pins:List (Addr×Obj)}{σ:St}{H:Hp}{s:Shared}(I:zX X pins σ H s):interactive X.env=false:=by simp[interactive,I.ok.kind]
noncomputable def zRn(te:TE):TS:=fun D σ H=>te σ H fun u0 H1=>D.nx σ H1
theorem zNu(he:PE X e te)(hs:swapsWith e none pos.line X.env=pure false:=by rfl):PS X (.Expr e pos) (zRn te):=by
 intro pins s σ H D I h
 exact wpAny_Expr_any (yi (he pins s σ H _ I h) fun v s1 ⟨x,H1,I1,r1,q1⟩=>⟨σ,H1,I1,q1⟩) I.quiet hs
noncomputable def zSi(te:TE):TS:=fun D σ H=>te σ H D.rt
theorem zQK(he:PE X e te):PS X (.Return (some e) pos) (zSi te):=by
 intro pins s σ H D I h
 exact wpAny_Return_some (yi (he pins s σ H _ I h) fun v s1 ⟨x,H1,I1,r1,q1⟩=>⟨x,σ,H1,I1,r1,q1⟩)
noncomputable def zSj(c:TT)(t u:TS):TS:=fun D σ H=>c σ H fun b H1=>if b=true then t D σ H1 else u D σ H1
theorem zRo{c:Expr}{a b:List Stmt}{tc:TT}(hc:PT X c tc)(ha:PSs X a t)(hb:PSs X b u):PS X (.If c a b pos) (zSj tc t u):=by
 intro pins s σ H D I h
 refine wpAny_If (yi (hc pins s σ H _ I h) fun d s1 ⟨H1,I1,q1⟩=>?_)
 cases d with
 | true=>exact ha pins s1 σ H1 D I1 q1
 | false=>exact hb pins s1 σ H1 D I1 q1
end
noncomputable abbrev TG:=V→St→Hp→(St→Hp→Prop)→Prop
noncomputable abbrev TGs:=List V→St→Hp→(St→Hp→Prop)→Prop
noncomputable def PG(X:Cx)(target:Expr)(t:TG):Prop :=
 ∀(pins:List (Addr×Obj)) (s:Shared) (σ:St) (H:Hp) (v:V) (u:Value) (Q:St→Hp→Prop),zX X pins σ H s→RelV v u→t v σ H Q →
  wpAny (model X.prog X.w) X.A (assign target X.env u) (fun u0 s'=>∃ σ' H',zX X pins σ' H' s'∧Q σ' H') X.xe s
noncomputable def PGs(X:Cx)(ts:List Expr)(t:TGs):Prop :=
 ∀(pins:List (Addr×Obj)) (s:Shared) (σ:St) (H:Hp) (vs:List V) (us:List Value) (Q:St→Hp→Prop),zX X pins σ H s→za vs us→t vs σ H Q →
  wpAny (model X.prog X.w) X.A (assignInOrder ((assignEach ts X.env).map (·.2)) us) (fun u0 s'=>∃ σ' H',zX X pins σ' H' s'∧Q σ' H') X.xe s
noncomputable abbrev zQL:=V→V→V→Hp→(Hp→Prop)→Prop
noncomputable def zRp(X:Cx)(t:zQL):Prop :=
 ∀(pins:List (Addr×Obj)) (s:Shared) (σ:St) (H:Hp) (o i v:V) (ov iv u:Value) (Q:Hp→Prop),zX X pins σ H s→RelV o ov→RelV i iv→RelV v u→t o i v H Q →
  wpAny (model X.prog X.w) X.A (setItem ov iv u) (fun u0 s'=>∃ H',zX X pins σ H' s'∧Q H') X.xe s
noncomputable abbrev TIp:=V→V→Hp→VK→Prop
noncomputable def PIp(X:Cx)(op:Operator)(t:TIp):Prop :=
 ∀(pins:List (Addr×Obj)) (s:Shared) (σ:St) (H:Hp) (x y:V) (v u:Value) (Q:VK),zX X pins σ H s→RelV x v→RelV y u→t x y H Q →
  wpAny (model X.prog X.w) X.A (inplaceOp op v u) (EP X pins σ Q) X.xe s
section
variable {X:Cx} {pos:Pos}
noncomputable def zHY(i:Nat):TG:=fun v σ H Q=>Q (σ.set i (some v)) H
theorem zC6{i:Nat}{x:Str}(hN:X.N.Nodup)(hi:X.N[i]?=some x)(hx:Loc X.env.scope x)(hf:X.fn x=true∨X.env.scope.names.lookup x=some .local:=by first | exact .inl rfl | exact .inr rfl | assumption):PG X (.Name x pos) (zHY i):=by
 intro pins s σ H v u Q I r h
 exact wpAny_assign_Name (zEi I hN hi hx r (fun s' I'=>⟨_,H,I',h⟩) hf)
noncomputable def zSk:TGs:=fun vs σ H Q=>vs=[]∧Q σ H
noncomputable def zRq(t:TG)(u:TGs):TGs:=fun vs σ H Q=>∃ v r,vs=v::r∧t v σ H fun σ' H'=>u r σ' H' Q
theorem zNv:PGs X [] zSk:=by
 intro pins s σ H vs us Q I r h
 obtain⟨e,h⟩:=h
 subst e
 cases r
 exact assignInOrder_nil ⟨σ,H,I,h⟩
theorem zHZ{e:Expr}{es:List Expr}{t:TG}{u:TGs}(h1:PG X e t)(h2:PGs X es u)
  (hs:(assignEach (e::es) X.env).map (·.2)=assign e X.env::(assignEach es X.env).map (·.2):=by rfl):PGs X (e::es) (zRq t u):=by
 intro pins s σ H vs us Q I r h
 obtain⟨v,vr,e1,h⟩:=h
 subst e1
 cases r with
 | cons r rr =>
  rw[hs]
  refine assignInOrder_cons (yi (h1 pins s σ H _ _ _ I r h) fun _ s1 ⟨σ1,H1,I1,q1⟩=>?_)
  exact h2 pins s1 σ1 H1 _ _ Q I1 rr q1
noncomputable def zSl(K:PySem.W.Frag)(n:Nat)(t:TGs):TG:=fun v σ H Q=>∃ a xs,v=.ref a∧SqT K H a xs∧xs.length=n∧t xs σ H Q
theorem zQM{es:List Expr}{k:Nat}{t:TGs}{n:Nat}(hc:X.calm=true)(h:PGs X es t)
  (hn:(assignEach es X.env).length=n:=by rfl) (hst:(assignEach es X.env).findIdx? (·.1)=none:=by rfl):PG X (.Tuple es k pos) (zSl X.K n t):=by
 intro pins s σ H v u Q I r hw
 obtain⟨a,xs,e1,hq,hl,hw⟩:=hw
 subst e1
 cases r
 obtain⟨its,rv,ht,hz⟩:=I.tuple hq
 refine assign_Tuple_tuple (I.ok.hd hc) ht (by simp[hn,← hl,rv.length]) hst fun h' hx=>?_
 have I1:zX X pins σ H { s with heap:=h' }:=I.kept (t':=s.toks) fun b o e=>hx b o (cJ (cc e)) e
 exact h pins _ σ H xs _ Q I1 (by simpa using rv) hw
noncomputable def zSm(to ti:TE)(t:zQL):TG:=fun v σ H Q=>to σ H fun o H1=>ti σ H1 fun i H2=>t o i v H2 fun H3=>Q σ H3
theorem zQN{o i:Expr}{to ti:TE}{t:zQL}(ho:PE X o to)(hi:PE X i ti)(hs:zRp X t)
  (ha:∀ v,assign (.Subscript o i pos) X.env v=(do
   let ov ← holding [v] (eval o X.env)
   let iv ← holding [v,ov] (eval i X.env)
   standAt pos
   holding [v,ov,iv] (setItem ov iv v)
   release [v,ov,iv] []):=by intro u0;rfl):PG X (.Subscript o i pos) (zSm to ti t):=by
 intro pins s σ H v u Q I r h
 rw[ha]
 refine bI (cY (yi (ho pins s σ H _ I h) fun ov s1 ⟨x,H1,I1,r1,q1⟩=>?_))
 refine bI (cY (yi (hi pins s1 σ H1 _ I1 q1) fun iv s2 ⟨y,H2,I2,r2,q2⟩=>?_))
 refine bI (wpAny_standAt (bI (cY (yi (hs pins s2 σ H2 x y v ov iv u _ I2 r1 r2 r q2) fun _ s3 ⟨H3,I3,q3⟩=>?_))))
 exact wpAny_release ⟨σ,H3,I3,q3⟩
noncomputable def zQO(te:TE)(g:TG):TS:=fun D σ H=>te σ H fun x H1=>g x σ H1 D.nx
theorem zQP{tg e:Expr}{te:TE}{g:TG}(he:PE X e te)(hg:PG X tg g)(hs:swapsWithSole [tg] e pos.line X.env=pure false:=by rfl)(hw:swappedStores [tg] e X.env=pure none:=by rfl)
  (h1:(assignEach [tg] X.env).map (·.2)=[assign tg X.env]:=by rfl):PS X (.Assign [tg] e pos) (zQO te g):=by
 intro pins s σ H D I h
 refine wpAny_Assign_stores (yi (he pins s σ H _ I h) fun v s1 ⟨x,H1,I1,r1,q1⟩=>?_) hs hw
 rw[h1]
 exact yi (hg pins s1 σ H1 x v _ I1 r1 q1) fun u0 s2 q=>q
theorem zQQ{i:Nat}{x:Str}{e:Expr}{te:TE}{pos':Pos}(hN:X.N.Nodup)(hi:X.N[i]?=some x)(hx:Loc X.env.scope x)(he:PE X e te)(hs:swapsWith e (some (.Name x pos')) pos.line X.env=pure false:=by rfl)(hf:X.fn x=true∨X.env.scope.names.lookup x=some .local:=by first | exact .inl rfl | exact .inr rfl | assumption) :
  PS X (.Assign [.Name x pos'] e pos) (zQO te (zHY i)):=by
 intro pins s σ H D I h
 refine wpAny_Assign_Name (yi (he pins s σ H _ I h) fun v s1 ⟨y,H1,I1,r1,q1⟩=>?_) hs
 exact zEi I1 hN hi hx r1 (fun s2 I2=>⟨_,H1,I2,q1⟩) hf
noncomputable def zSn(i:Nat)(te:TE)(ti:TIp):TS:=fun D σ H=>∃ x,σ[i]?=some (some x)∧te σ H fun y H1=>ti x y H1 fun z H2=>D.nx (σ.set i (some z)) H2
theorem zQR{i:Nat}{x:Str}{e:Expr}{te:TE}{op:Operator}{ti:TIp}{pos':Pos}(hN:X.N.Nodup)(hi:X.N[i]?=some x)(hx:Loc X.env.scope x)(he:PE X e te)(ho:PIp X op ti)(hf:X.fn x=true∨X.env.scope.names.lookup x=some .local:=by first | exact .inl rfl | exact .inr rfl | assumption) :
  PS X (.AugAssign (.Name x pos') op e pos) (zSn i te ti):=by
 intro pins s σ H D I h
 obtain⟨v,e1,h⟩:=h
 obtain⟨m,hn,hl⟩:=I.loc
 have vis:Vis X.env.scope x:=by rcases hx with k | k;exact .inl k;exact .inr (.inl k)
 obtain⟨u,r,l⟩:=hl i x v hi e1 vis
 refine wpAny_AugAssign_Name ?_
 have go:wpAny (model X.prog X.w) X.A (eval e X.env) (fun w s₂=>wpAny (model X.prog X.w) X.A (inplaceOp op u w) (fun r s₃=>wpAny (model X.prog X.w) X.A (storeName X.env x r) (fun u0=>SP X pins D .next) X.xe s₃) X.xe s₂) X.xe s:=by
  refine yi (he pins s σ H _ I h) fun w s1 ⟨y,H1,I1,r1,q1⟩=>?_
  refine yi (ho pins s1 σ H1 v y u w _ I1 r r1 q1) fun z s2 ⟨zv,H2,I2,r2,q2⟩=>?_
  exact zEi I2 hN hi hx r2 (fun s3 I3=>⟨_,H2,I3,q2⟩) hf
 rcases l with ⟨hk,hm⟩ | ⟨hk,c,hc,hcell⟩
 ·exact wpAny_loadName_local I.ok.kind hk hn hm go
 ·rcases hk with hk | hk
  ·exact wpAny_loadName_cell I.ok.kind hk hc hcell go
  ·rcases hx with k | k
   ·have:X.env.scope.names.lookup x=some .free:=hk
    rw[k] at this;cases this
   ·have:X.env.scope.names.lookup x=some .free:=hk
    rw[k] at this;cases this
noncomputable def ipI(f:Int→Int→Int):TIp:=fun x y H Q=>∃ i j,x=.int i∧y=.int j∧Q (.int (f i j)) H
theorem zQS:PIp X .Add (ipI fun i j=>i+j):=by
 intro pins s σ H x y v u Q I r1 r2 h
 obtain⟨i,j,e1,e2,q⟩:=h
 subst e1;subst e2
 obtain⟨t,rfl⟩:=r1
 obtain⟨t',rfl⟩:=r2
 exact iadd_int ⟨.int _,H,I.tok _,⟨_,rfl⟩,q⟩
noncomputable def zQT(c:TT)(tb:TS):TS:=fun D σ H=>∃ W:Nat→St→Hp→Prop,(∃ m,W m σ H)∧∀ m σ H,W m σ H →
 c σ H fun b H1=>if b=true then ∃ N:St→Hp→Prop,(∀ σ' H',N σ' H'→∃ m',m'<m∧W m' σ' H')∧tb { D with nx:=N,ct:=N,bk:=D.nx } σ H1 else D.nx σ H1
theorem zLp{c:Expr}{body:List Stmt}{tc:TT}{tb:TS}(hp:PassesOwn (model X.prog X.w) X.A X.env X.xe)(hc:PT X c tc)(hb:PSs X body tb):PS X (.While c body [] pos) (zQT tc tb):=by
 intro pins s σ H D I h
 obtain⟨W,⟨m0,w0⟩,turn⟩:=h
 refine wpAny_While (codeAny_whileLoop (fun n s'=>∃ σ' H',zX X pins σ' H' s'∧W n σ' H') ?_ m0 ⟨σ,H,I,w0⟩)
 rintro n s1 ⟨σ1,H1,I1,w1⟩
 refine eZ hp (yi (hc pins s1 σ1 H1 _ I1 (turn n σ1 H1 w1)) fun b s2 ⟨H2,I2,q2⟩=>?_)
 cases b with
 | true =>
  obtain⟨N,hN,q2⟩:=q2
  rw[if_pos rfl]
  refine eZ hp (yi (hb pins s2 σ1 H2 _ I2 q2) fun f s3 q3=>?_)
  cases f with
  | next =>
   obtain⟨σ3,H3,I3,n3⟩:=q3
   obtain⟨m',hm,w3⟩:=hN σ3 H3 n3
   exact⟨m',hm,σ3,H3,I3,w3⟩
  | cont =>
   obtain⟨σ3,H3,I3,n3⟩:=q3
   obtain⟨m',hm,w3⟩:=hN σ3 H3 n3
   exact⟨m',hm,σ3,H3,I3,w3⟩
  | brk=>exact q3
  | ret v=>exact q3
 | false =>
  rw[if_neg dD]
  exact wpAny_execs_nil ⟨σ1,H2,I2,q2⟩
end
structure It where
 go:Nat→Hp→Prop
 yld:Nat→Hp→V→Hp→Prop
 stop:Nat→Hp→Prop
noncomputable def zDi(X:Cx)(pins:List (Addr×Obj))(H:Hp)(b:Addr):Prop :=
 H b=none∧b≠X.env.locals∧b∉X.fs∧(b∈X.ex∨X.s₀.heap.objs.size≤b)∧(∀ x c,X.env.cells.lookup x=some c→c≠b)∧∀ p∈X.pn++pins,p.1≠b
theorem zX.fpOk{X:Cx}{pins:List (Addr×Obj)}{σ:St}{H H':Hp}{s:Shared}{b:Addr}(I:zX X pins σ H s)(hb:s.heap.objs.size≤b)(hn:H' b=none):zDi X pins H' b:=by
 refine⟨hn,Nat.ne_of_gt (cG I.lt hb),I.nofs hb,.inr (dh I.sz hb),fun x c e z=>?_,fun p hp z=>?_⟩
 ·obtain⟨v,q⟩:=I.cell x c e
  exact absurd (cG q.lt (by rw[z];exact hb)) (dG _)
 ·exact absurd (cG (cc (I.pin p hp).1) (by rw[z];exact hb)) (dG _)
structure Turn (P:Program) (w:World) (K:PySem.W.Frag) (tg:Expr) (J:It) (fp:List Addr) (it:Addr) (tn:Nat→Heap→Prop):Prop where
 mem:it∈fp
 obj:∀ i h,tn i h→∀ b∈fp,∃ o,h.get? b=some o∧∀ v,o.data≠.cell v
 keep:∀ i h h',tn i h→(∀ b∈fp,∀ o,h.get? b=some o→h'.get? b=some o)→tn i h'
 item:∀(X:Cx),X.prog=P→X.w=w→X.K=K→X.calm=true→∀(i:Nat) (pins:List (Addr×Obj)) (s:Shared) (σ:St) (H:Hp) (E:Value→Shared→Prop),zX X pins σ H s→(∀ b∈fp,zDi X pins H b)→tn i s.heap→J.go i H →
  wpAny (model P w) X.A (pyNext (.ref it)) (fun r s1=>∃ u,r=some u ∧
   wpAny (model P w) X.A (letOwnedTupleGo tg (.ref it) u) (fun u0 s2=>∃ x H',zX X pins σ H' s2∧RelV x u∧J.yld i H x H'∧tn (i+1) s2.heap∧∀ b∈fp,H' b=none) E s1) E s
 done:∀(X:Cx),X.prog=P→X.w=w→X.K=K→X.calm=true→∀(i:Nat) (pins:List (Addr×Obj)) (s:Shared) (σ:St) (H:Hp) (E:Value→Shared→Prop),zX X pins σ H s→(∀ b∈fp,zDi X pins H b)→tn i s.heap→J.stop i H →
  wpAny (model P w) X.A (pyNext (.ref it)) (fun r s1=>r=none∧zX X pins σ H s1) E s
 self:∀(A:Around) (i:Nat) (s:Shared) (Q:Value→Shared→Prop) (E:Value→Shared→Prop),tn i s.heap→Q (.ref it) s→wpAny (model P w) A (pyIter (.ref it)) Q E s
noncomputable abbrev TI:=St→Hp→(It→Hp→Prop)→Prop
noncomputable def PIE(X:Cx)(pins:List (Addr×Obj))(σ:St)(tg:Expr)(R:It→Hp→Prop)(itv:Value)(s2:Shared):Prop :=
 ∃(it:Addr) (fp:List Addr) (tn:Nat→Heap→Prop) (J:It) (H':Hp),itv=.ref it∧zX X pins σ H' s2∧Turn X.prog X.w X.K tg J fp it tn∧tn 0 s2.heap∧(∀ b∈fp,zDi X pins H' b)∧R J H'
noncomputable def PI(X:Cx)(tg iter:Expr)(wi:TI):Prop :=
 ∀(pins:List (Addr×Obj)) (s:Shared) (σ:St) (H:Hp) (R:It→Hp→Prop),zX X pins σ H s→wi σ H R →
  wpAny (model X.prog X.w) X.A (eval iter X.env) (fun v s1=>wpAny (model X.prog X.w) X.A (pyIter v) (PIE X pins σ tg R) X.xe s1) X.xe s
theorem zLq{M:Model}{A:Around}{E:Value→Shared→Prop}{s:Shared}{tg:Expr}{it:Addr}{u:Value}{o:Obj}{n:String}{vs:Array Value}{Q:Unit→Shared→Prop}(ho:s.heap.get? it=some o)(hc:o.cls=.type n)(hd:o.data=.fields vs)
    (hn:["enumerate","zip","dict_itemiterator","dict_reverseitemiterator","odict_iterator","itertools.zip_longest","itertools.pairwise"].contains n=false) (hQ:Q () s):wpAny M A (letOwnedTupleGo tg (.ref it) u) Q E s:=by
  unfold letOwnedTupleGo
  cases tg<;>first
    | exact bS hQ
    | (cases u<;>first
        | exact bS hQ
        | (refine bI (wpAny_load ho ?_)
           rw[hc,hd]
           show wpAny M A (if (["enumerate","zip","dict_itemiterator","dict_reverseitemiterator","odict_iterator","itertools.zip_longest","itertools.pairwise"].contains n&&vs[0]?==some (rawInt _))=true then _ else _) Q E s
           rw[if_neg (by intro h;rw[hn,Bool.false_and] at h;cases h)]
           exact bS hQ))
noncomputable def Itl(K:PySem.W.Frag)(a:Addr):It :=
 ⟨fun i H=>∃ xs x,SqL K H a xs∧xs[i]?=some x,fun i H x H'=>H'=H∧∀ xs,SqL K H a xs→xs[i]?=some x,fun i H=>∃ xs,SqL K H a xs∧xs.length≤i⟩
noncomputable def Itt(K:PySem.W.Frag)(a:Addr):It :=
 ⟨fun i H=>∃ xs x,SqT K H a xs∧xs[i]?=some x,fun i H x H'=>H'=H∧∀ xs,SqT K H a xs→xs[i]?=some x,fun i H=>∃ xs,SqT K H a xs∧xs.length≤i⟩
noncomputable def Itr(lo:Int)(n:Nat):It:=⟨fun i u0=>i<n,fun i H x H'=>H'=H∧x=.int (lo+i),fun i u0=>n≤i⟩
theorem zKR{P:Program}{w:World}{K:PySem.W.Frag}{tg:Expr}(a it:Addr):Turn P w K tg (Itl K a) [it] it (fun i h=>h.IsListIter it a i) where
 mem:=by simp
 obj:=fun i h st b hb=>by
  have e:b=it:=by simpa using hb
  subst e
  obtain⟨o,e,c,d⟩:=st
  exact⟨o,e,fun v z=>by rw[d] at z;cases z⟩
 keep:=fun i h h' st k=>st.at fun o e=>k it (by simp) o e
 item:=by
  intro X hP hw hK hc i pins s σ H E I hf st hg
  subst hP hw hK
  obtain⟨xs,x,hq,hx⟩:=hg
  obtain⟨its,rv,p,hz⟩:=I.list hq
  obtain⟨u,hu,ru⟩:=rv.get hx
  obtain⟨f0,f1,f2,f3,f4,f5⟩:=hf it (by simp)
  refine wpAny_pyNext_list_item st p.isList (x:=u) (by simpa using hu) fun h' st' sb=>?_
  have I1:zX X pins σ H { s with heap:=h' }:=I.turned (t':=s.toks) (fun b o hb e=>(sb.2 b hb).trans e) f0 f1 f3 f4 f5
  obtain⟨o,e,c,d⟩:=id st'
  exact⟨u,rfl,zLq (s:={ s with heap:=h' }) e c d (by decide) ⟨x,H,I1,ru,⟨rfl,fun ys hy=>by rw[I.list_inj hy hq];exact hx⟩,st',fun b hb=>(hf b hb).1⟩⟩
 done:=by
  intro X hP hw hK hc i pins s σ H E I hf st hg
  subst hP hw hK
  obtain⟨xs,hq,hx⟩:=hg
  obtain⟨its,rv,p,hz⟩:=I.list hq
  obtain⟨f0,f1,f2,f3,f4,f5⟩:=hf it (by simp)
  have hl:=rv.length
  exact wpAny_pyNext_list_end (I.ok.hd hc) st p.isList (by simp;omega) fun h' eb=>⟨rfl,I.turned (t':=s.toks) (fun b o hb e=>eb b o hb e) f0 f1 f3 f4 f5⟩
 self:=fun u0 u0 u0 u0 u0 st h=>wpAny_pyIter_listiter st h
theorem zIl{P:Program}{w:World}{K:PySem.W.Frag}{tg:Expr}(a it:Addr):Turn P w K tg (Itt K a) [it] it (fun i h=>h.IsTupleIter it a i) where
 mem:=by simp
 obj:=fun i h st b hb=>by
  have e:b=it:=by simpa using hb
  subst e
  obtain⟨o,e,c,d⟩:=st
  exact⟨o,e,fun v z=>by rw[d] at z;cases z⟩
 keep:=fun i h h' st k=>st.at fun o e=>k it (by simp) o e
 item:=by
  intro X hP hw hK hc i pins s σ H E I hf st hg
  subst hP hw hK
  obtain⟨xs,x,hq,hx⟩:=hg
  obtain⟨its,rv,p,hz⟩:=I.tuple hq
  obtain⟨u,hu,ru⟩:=rv.get hx
  obtain⟨f0,f1,f2,f3,f4,f5⟩:=hf it (by simp)
  refine wpAny_pyNext_tuple_item st (show s.heap.IsTuple a its.toArray from p) (x:=u) (by simpa using hu) fun h' st' sb=>?_
  have I1:zX X pins σ H { s with heap:=h' }:=I.turned (t':=s.toks) (fun b o hb e=>(sb.2 b hb).trans e) f0 f1 f3 f4 f5
  obtain⟨o,e,c,d⟩:=id st'
  exact⟨u,rfl,zLq (s:={ s with heap:=h' }) e c d (by decide) ⟨x,H,I1,ru,⟨rfl,fun ys hy=>by rw[I.tuple_inj hy hq];exact hx⟩,st',fun b hb=>(hf b hb).1⟩⟩
 done:=by
  intro X hP hw hK hc i pins s σ H E I hf st hg
  subst hP hw hK
  obtain⟨xs,hq,hx⟩:=hg
  obtain⟨its,rv,p,hz⟩:=I.tuple hq
  obtain⟨f0,f1,f2,f3,f4,f5⟩:=hf it (by simp)
  have hl:=rv.length
  exact wpAny_pyNext_tuple_end (I.ok.hd hc) st (show s.heap.IsTuple a its.toArray from p) (by simp;omega) fun h' eb=>⟨rfl,I.turned (t':=s.toks) (fun b o hb e=>eb b o hb e) f0 f1 f3 f4 f5⟩
 self:=fun u0 u0 u0 u0 u0 st h=>wpAny_pyIter_tupleiter st h
theorem zIm{P:Program}{w:World}{K:PySem.W.Frag}{tg:Expr}(it:Addr)(lo:Int)(n:Nat):Turn P w K tg (Itr lo n) [it] it (fun i h=>IsRangeIter h it (lo+(i:Nat)*1) ((n:Int)-(i:Nat)) 1) where
 mem:=by simp
 obj:=fun i h st b hb=>by
  have e:b=it:=by simpa using hb
  subst e
  exact⟨_,st,fun v z=>by
   have z':Data.fields _=Data.cell v:=z
   cases z'⟩
 keep:=fun i h h' st k=>k it (by simp) _ st
 item:=by
  intro X hP hw hK hc i pins s σ H E I hf st hg
  subst hP hw hK
  obtain⟨f0,f1,f2,f3,f4,f5⟩:=hf it (by simp)
  have W:=Walks.range (prog:=X.prog) (w:=X.w) (I.ok.hd hc) it lo 1 n
  refine W.item i s _ _ hg st fun v h' tk hv st' kk=>?_
  obtain⟨t,rfl⟩:=hv
  have I1:zX X pins σ H { s with heap:=h',toks:=tk }:=I.turned (fun b o hb e=>kk b o (by simpa using hb) e) f0 f1 f3 f4 f5
  refine⟨_,rfl,zLq (s:={ s with heap:=h',toks:=tk }) (n:="range_iterator") st' rfl rfl (by decide) ⟨.int (lo+i),H,I1,⟨t,?_⟩,⟨rfl,rfl⟩,st',fun b hb=>(hf b hb).1⟩⟩
  rw[Int.mul_one]
 done:=by
  intro X hP hw hK hc i pins s σ H E I hf st hg
  subst hP hw hK
  obtain⟨f0,f1,f2,f3,f4,f5⟩:=hf it (by simp)
  exact wpAny_pyNext_range_end (I.ok.hd hc) st (by have:n≤i:=hg;omega) fun h' eb=>⟨rfl,I.turned (t':=s.toks) (fun b o hb e=>eb b o hb e) f0 f1 f3 f4 f5⟩
 self:=fun u0 u0 u0 u0 u0 st h=>wpAny_pyIter_rangeiter st h
section
variable {X:Cx} {tg:Expr}
theorem zHa{pins:List (Addr×Obj)}{σ:St}{H:Hp}{s:Shared}{R:It→Hp→Prop}{E:Value→Shared→Prop}{lo hi:Int}{t u v:Tok}{tk:Nat}(I:zX X pins σ H s)(h1:-(2 ^ 62)≤lo)(h2:lo<2 ^ 62)(h3:-(2 ^ 62)≤hi)(h4:hi<2 ^ 62)
  (q:R (Itr lo (hi-lo).toNat) H):wpAny (model X.prog X.w) X.A (pyIter (.ref s.heap.objs.size)) (PIE X pins σ tg R) E { s with heap:=s.heap.push { cls:=.type "range",data:=.fields #[.int lo t,.int hi u,.int 1 v] },toks:=tk }:=by
 refine wpAny_pyIter_range (IsRange.new ..) (small_one h1 h2 h3 h4) ?_
 have I1:zX X pins σ H { s with heap:=s.heap.push { cls:=.type "range",data:=.fields #[.int lo t,.int hi u,.int 1 v] },toks:=tk }:=I.kept fun b o e=>bP _ e
 refine⟨(s.heap.push { cls:=.type "range",data:=.fields #[.int lo t,.int hi u,.int 1 v] }).objs.size,[(s.heap.push { cls:=.type "range",data:=.fields #[.int lo t,.int hi u,.int 1 v] }).objs.size],_,_,H,rfl,
  I1.kept (t':=tk) fun b o e=>bP _ e,zIm _ lo (hi-lo).toNat,?_,fun b hb=>?_,q⟩
 ·have e1:lo+((0:Nat):Int)*1=lo:=by simp
  have e2:(((hi-lo).toNat:Nat):Int)-((0:Nat):Int)=Builtin.Range.rangeSize lo hi 1:=by rw[rangeSize_one];split<;>omega
  show IsRangeIter _ _ (lo+((0:Nat):Int)*1) ((((hi-lo).toNat:Nat):Int)-((0:Nat):Int)) 1
  rw[e1,e2]
  exact cb _ rfl
 ·have e:b=(s.heap.push { cls:=.type "range",data:=.fields #[.int lo t,.int hi u,.int 1 v] }).objs.size:=by simpa using hb
  subst e
  exact I1.fpOk (bZ _) (I1.hok.fresh (bZ _))
noncomputable def zRr(ta:TA):TI:=fun σ H R=>ta σ H fun vs H1=>∃ j:Int,vs=[.int j]∧-(2 ^ 62)≤j∧j<2 ^ 62∧R (Itr 0 j.toNat) H1
noncomputable def zRs(ta:TA):TI:=fun σ H R=>ta σ H fun vs H1=>∃ i j:Int,vs=[.int i,.int j]∧(-(2 ^ 62)≤i∧i<2 ^ 62∧-(2 ^ 62)≤j∧j<2 ^ 62)∧R (Itr i (j-i).toNat) H1
theorem zKS{a:Expr}{ta:TA}{p pos:Pos}(hg:Gl X "range")(hm:X.mg "range"=none)(ha:PA X [a] ta)(hs:starEach [a] X.env=[(false,eval a X.env)]:=by rfl):PI X tg (.Call (.Name "range" p) [a] [] pos) (zRr ta):=by
 intro pins s σ H R I h
 refine Call_ (zBb I hg hm boot_range (PyProof.Rows.callWith_type1 (yi (ha pos pins s σ H _ I h) fun us s1 ⟨vs,H1,I1,r1,q1⟩=>?_) hs rfl))
 obtain⟨j,e,q1,q2,q⟩:=q1
 subst e
 cases r1 with
 | cons r rr =>
  cases rr
  obtain⟨t,rfl⟩:=r
  exact call_range_1 (zHa I1 (by omega) (by omega) q1 q2 (by simpa using q))
theorem zKT{a b:Expr}{ta:TA}{p pos:Pos}(hg:Gl X "range")(hm:X.mg "range"=none)(ha:PA X [a,b] ta)(hs:starEach [a,b] X.env=[(false,eval a X.env),(false,eval b X.env)]:=by rfl)(hs2:starEach [b] X.env=[(false,eval b X.env)]:=by rfl) :
  PI X tg (.Call (.Name "range" p) [a,b] [] pos) (zRs ta):=by
 intro pins s σ H R I h
 refine Call_ (zBb I hg hm boot_range (PyProof.Rows.callWith_type1 (yi (ha pos pins s σ H _ I h) fun us s1 ⟨vs,H1,I1,r1,q1⟩=>?_) (by rw[hs,hs2]) (by rw[hs2];rfl)))
 obtain⟨i,j,e,⟨q1,q2,q3,q4⟩,q⟩:=q1
 subst e
 cases r1 with
 | cons r rr =>
  cases rr with
  | cons r' rr =>
   cases rr
   obtain⟨t,rfl⟩:=r
   obtain⟨t',rfl⟩:=r'
   exact call_range_2 (zHa I1 q1 q2 q3 q4 q)
noncomputable def zSo(wi:TI)(g:TG)(tb:TS):TS:=fun D σ H=>wi σ H fun J H1=>∃ W:Nat→Nat→St→Hp→Prop,(∃ m,W 0 m σ H1)∧∀ i m σ H,W i m σ H →
 (J.stop i H∧D.nx σ H)∨(J.go i H∧∃ N:St→Hp→Prop,(∀ σ' H',N σ' H'→∃ m',m'<m∧W (i+1) m' σ' H')∧∀ x H',J.yld i H x H'→g x σ H' fun σ2 H2=>tb { D with nx:=N,ct:=N,bk:=D.nx } σ2 H2)
noncomputable def zEj(fp:List Addr)(h:Heap):List (Addr×Obj):=fp.filterMap fun b=>(h.get? b).map fun o=>(b,o)
theorem zBc{fp:List Addr}{h:Heap}{b:Addr}{o:Obj}(hb:b∈fp)(e:h.get? b=some o):(b,o)∈zEj fp h:=List.mem_filterMap.mpr ⟨b,hb,by rw[e];rfl⟩
theorem zKU{fp:List Addr}{h:Heap}{p:Addr×Obj}(hp:p∈zEj fp h):p.1∈fp∧h.get? p.1=some p.2:=by
 obtain⟨b,hb,e⟩:=List.mem_filterMap.mp hp
 cases q:h.get? b with
 | none=>rw[q] at e;cases e
 | some o =>
  rw[q] at e
  have e':(b,o)=p:=Option.some.inj e
  subst e'
  exact⟨hb,q⟩
theorem zX.pinned{pins:List (Addr×Obj)}{σ:St}{H:Hp}{s:Shared}{fp:List Addr}(I:zX X pins σ H s)(hf:∀ b∈fp,zDi X pins H b)(ho:∀ b∈fp,∃ o,s.heap.get? b=some o∧∀ v,o.data≠.cell v):zX X (pins++zEj fp s.heap) σ H s :=
 I.pins_of fun p hp=>(cH.mp hp).elim (fun z=>I.pin p (cS _ z)) fun z=>by
  obtain⟨hb,e⟩:=zKU z
  obtain⟨f0,f1,f2,u0⟩:=hf p.1 hb
  obtain⟨o,e',d⟩:=ho p.1 hb
  rw[e] at e';cases e'
  exact⟨e,f0,f1,f2,d⟩
theorem zX.unpinned{pins pl:List (Addr×Obj)}{σ:St}{H:Hp}{s:Shared}(I:zX X (pins++pl) σ H s):zX X pins σ H s:=I.pins_of fun p hp=>I.pin p (cS _ (dc _ hp))
theorem zQU{iter:Expr}{body:List Stmt}{wi:TI}{g:TG}{tb:TS}{pos:Pos}(hp:PassesOwn (model X.prog X.w) X.A X.env X.xe)(hc:X.calm=true)(hi:PI X tg iter wi)(hg:PG X tg g)(hb:PSs X body tb)
  (hs:∀ x,foldedSetIterable iter X.env x=pure x:=by intro u0;rfl):PS X (.For tg iter body [] pos) (zSo wi g tb):=by
 intro pins s σ H D I h
 refine wpAny_For (yi (hi pins s σ H _ I h) fun v s1 h1=>yi h1 fun itv s2 h2=>?_) hs
 obtain⟨it,fp,tn,J,H2,e,I2,T,st2,f2,W,⟨m0,w0⟩,turn⟩:=h2
 subst e
 -- what stays true of the iterator's objects through the loop
 have stat:∀ {H':Hp},(∀ b∈fp,H' b=none)→∀ b∈fp,zDi X pins H' b:=fun hn b hb=>⟨hn b hb,(f2 b hb).2⟩
 refine codeAny_forLoop_any (fun n s'=>∃ i σ' H',zX X pins σ' H' s'∧tn i s'.heap∧(∀ b∈fp,H' b=none)∧W i n σ' H') ?_ m0 ⟨0,σ,H2,I2,st2,fun b hb=>(f2 b hb).1,w0⟩
 rintro n s3 ⟨i,σ3,H3,I3,st3,fr3,w3⟩
 rcases turn i n σ3 H3 w3 with ⟨stop,qn⟩ | ⟨go,N,hN,step⟩
 ·refine eZ hp (yi (T.done X rfl rfl rfl hc i pins s3 σ3 H3 X.xe I3 (stat fr3) st3 stop) fun r s4 ⟨hr,I4⟩=>?_)
  subst hr
  exact wpAny_execs_nil ⟨σ3,H3,I4,qn⟩
 ·refine eZ hp (yi (T.item X rfl rfl rfl hc i pins s3 σ3 H3 X.xe I3 (stat fr3) st3 go) fun r s4 ⟨u,hr,h4⟩=>?_)
  subst hr
  refine eZ hp (yi h4 fun _ s5 ⟨x,H5,I5,r5,y5,st5,fr5⟩=>?_)
  have I5':=I5.pinned (stat fr5) (T.obj _ _ st5)
  refine eZ hp (yi (hg _ s5 σ3 H5 x u _ I5' r5 (step x H5 y5)) fun _ s6 ⟨σ6,H6,I6,q6⟩=>?_)
  refine eZ hp (yi (hb _ s6 σ6 H6 _ I6 q6) fun f s7 q7=>?_)
  have again:∀ {σ7:St} {H7:Hp},zX X (pins++zEj fp s5.heap) σ7 H7 s7→N σ7 H7→∃ m,m<n∧∃ i σ' H',zX X pins σ' H' s7∧tn i s7.heap∧(∀ b∈fp,H' b=none)∧W i m σ' H':=fun {σ7 H7} I7 n7=>by
   obtain⟨m',hm,w7⟩:=hN σ7 H7 n7
   refine⟨m',hm,i+1,σ7,H7,I7.unpinned,T.keep _ _ _ st5 fun b hb o e=>(I7.pin (b,o) (cS _ (cS _ (zBc hb e)))).1,fun b hb=>?_,w7⟩
   obtain⟨o,e,d⟩:=T.obj _ _ st5 b hb
   exact(I7.pin (b,o) (cS _ (cS _ (zBc hb e)))).2.1
  cases f with
  | next=>obtain⟨σ7,H7,I7,n7⟩:=q7;exact again I7 n7
  | cont=>obtain⟨σ7,H7,I7,n7⟩:=q7;exact again I7 n7
  | brk=>obtain⟨σ7,H7,I7,q7⟩:=q7;exact⟨σ7,H7,I7.unpinned,q7⟩
  | ret v=>obtain⟨x7,σ7,H7,I7,r7,q7⟩:=q7;exact⟨x7,σ7,H7,I7.unpinned,r7,q7⟩
end
noncomputable abbrev R2:=V→V→Hp→VK→Prop
noncomputable def OpR(X:Cx)(f:Value→Value→Sem Value)(r:R2):Prop :=
 ∀(pins:List (Addr×Obj)) (s:Shared) (σ:St) (H:Hp) (x y:V) (v u:Value) (Q:VK),zX X pins σ H s→RelV x v→RelV y u→r x y H Q →
  wpAny (model X.prog X.w) X.A (f v u) (EP X pins σ Q) X.xe s
noncomputable def UnR(X:Cx)(f:Value→Sem Value)(r:V→Hp→VK→Prop):Prop :=
 ∀(pins:List (Addr×Obj)) (s:Shared) (σ:St) (H:Hp) (x:V) (v:Value) (Q:VK),zX X pins σ H s→RelV x v→r x H Q →
  wpAny (model X.prog X.w) X.A (f v) (EP X pins σ Q) X.xe s
noncomputable def yg(X:Cx)(f:Value)(r:List V→Hp→VK→Prop):Prop :=
 ∀(pins:List (Addr×Obj)) (s:Shared) (σ:St) (H:Hp) (xs:List V) (us:List Value) (Q:VK),zX X pins σ H s→za xs us→r xs H Q →
  wpAny (model X.prog X.w) X.A (call f us) (EP X pins σ Q) X.xe s
noncomputable def tOp(r:R2)(ta tb:TE):TE:=fun σ H Q=>ta σ H fun x H1=>tb σ H1 fun y H2=>r x y H2 Q
noncomputable def tUn(r:V→Hp→VK→Prop)(ta:TE):TE:=fun σ H Q=>ta σ H fun x H1=>r x H1 Q
noncomputable def rI(C:Int→Int→Prop)(g:Int→Int→V):R2:=fun x y H Q=>∃ i j,x=.int i∧y=.int j∧C i j∧Q (g i j) H
noncomputable def rI0(g:Int→Int→V):R2:=fun x y H Q=>∃ i j,x=.int i∧y=.int j∧Q (g i j) H
noncomputable def rU(g:Int→V):V→Hp→VK→Prop:=fun x H Q=>∃ i,x=.int i∧Q (g i) H
section
variable {X:Cx} {a b c:Expr} {ta tb tc:TE} {pos:Pos}
theorem zQV(ha:PE X a ta)(hb:PE X b tb){pins:List (Addr×Obj)}{s:Shared}{σ:St}{H:Hp}{R:V→V→Hp→Prop}(I:zX X pins σ H s)
  (h:ta σ H fun x H1=>tb σ H1 fun y H2=>R x y H2) {Q:Value→Shared→Prop} {f:Value→Value→Sem Value}
  (hf:∀ v u s2 x y H2,zX X pins σ H2 s2→RelV x v→RelV y u→R x y H2→wpAny (model X.prog X.w) X.A (f v u) Q X.xe s2) :
  wpAny (model X.prog X.w) X.A (eval a X.env) (fun v s₁=>wpAny (model X.prog X.w) X.A (eval b X.env) (fun u s₂=>wpAny (model X.prog X.w) X.A (f v u) Q X.xe s₂) X.xe s₁) X.xe s:=by
 refine yi (ha pins s σ H _ I h) fun v s1 ⟨x,H1,I1,r1,q1⟩=>?_
 refine yi (hb pins s1 σ H1 _ I1 q1) fun u s2 ⟨y,H2,I2,r2,q2⟩=>?_
 exact hf v u s2 x y H2 I2 r1 r2 q2
theorem zPb{op:Operator}{r:R2}(ho:OpR X (binaryOp op) r)(ha:PE X a ta)(hb:PE X b tb):PE X (.BinOp a op b pos) (tOp r ta tb):=by
 intro pins s σ H Q I h
 exact wpAny_BinOp (zQV ha hb I h fun v u s2 x y H2 I2 rx ry q=>ho pins s2 σ H2 x y v u Q I2 rx ry q)
theorem zRt{op:UnaryOp}{r:V→Hp→VK→Prop}(ho:UnR X (unaryOp op) r)(ha:PE X a ta):PE X (.UnaryOp op a pos) (tUn r ta):=by
 intro pins s σ H Q I h
 exact UnaryOp_ (yi (ha pins s σ H _ I h) fun v s1 ⟨x,H1,I1,r1,q1⟩=>ho pins s1 σ H1 x v Q I1 r1 q1)
theorem opI{f:Value→Value→Sem Value}{C:Int→Int→Prop}{g:Int→Int→Int}
  (rule:∀(i j:Int) (t u:Tok) (s:Shared) (Q:Value→Shared→Prop) (E:Value→Shared→Prop),C i j→Q (.int (g i j) s.toks) { s with toks:=s.toks+1 }→wpAny (model X.prog X.w) X.A (f (.int i t) (.int j u)) Q E s) :
  OpR X f (rI C fun i j=>.int (g i j)):=by
 intro pins s σ H x y v u Q I rx ry h
 obtain⟨i,j,rfl,rfl,hc,q⟩:=h
 obtain⟨t,rfl⟩:=rx
 obtain⟨t',rfl⟩:=ry
 exact rule i j t t' s _ _ hc ⟨.int (g i j),H,I.tok _,⟨_,rfl⟩,q⟩
theorem zQW{f:Value→Value→Sem Value}{g:Int→Int→Int}
  (rule:∀(i j:Int) (t u:Tok) (s:Shared) (Q:Value→Shared→Prop) (E:Value→Shared→Prop),Q (.int (g i j) s.toks) { s with toks:=s.toks+1 }→wpAny (model X.prog X.w) X.A (f (.int i t) (.int j u)) Q E s) :
  OpR X f (rI0 fun i j=>.int (g i j)):=by
 intro pins s σ H x y v u Q I rx ry h
 obtain⟨i,j,rfl,rfl,q⟩:=h
 obtain⟨t,rfl⟩:=rx
 obtain⟨t',rfl⟩:=ry
 exact rule i j t t' s _ _ ⟨.int (g i j),H,I.tok _,⟨_,rfl⟩,q⟩
theorem zNw{f:Value→Value→Sem Value}{g:Int→Int→Bool}
  (rule:∀(i j:Int) (t u:Tok) (s:Shared) (Q:Value→Shared→Prop) (E:Value→Shared→Prop),Q (.bool (g i j)) s→wpAny (model X.prog X.w) X.A (f (.int i t) (.int j u)) Q E s) :
  OpR X f (rI0 fun i j=>.bl (g i j)):=by
 intro pins s σ H x y v u Q I rx ry h
 obtain⟨i,j,rfl,rfl,q⟩:=h
 obtain⟨t,rfl⟩:=rx
 obtain⟨t',rfl⟩:=ry
 exact rule i j t t' s _ _ ⟨.bl (g i j),H,I,rfl,q⟩
noncomputable def zFa(i j:Int):Prop:=0<j∧j<1073741824
noncomputable def zEC(i j:Int):Prop:=0≤j∧j≤1000000∧i.natAbs<2 ^ 64
noncomputable def zC7(i j:Int):Prop:=(-(2 ^ 64)<i∧i<2 ^ 64)∨(-(2 ^ 64)<j∧j<2 ^ 64)
theorem zC7.ok{i j:Int}(h:zC7 i j):IntMulOk i j:=by
 rcases h with ⟨h1,h2⟩ | ⟨h1,h2⟩
 ·exact .of_left (intBits_le_64 h1 h2)
 ·exact .of_right (intBits_le_64 h1 h2)
theorem zQX:OpR X (binaryOp .Add) (rI0 fun i j=>.int (i+j)):=zQW fun u0 u0 u0 u0 u0 u0 u0 q=>add_int q
theorem zQY:OpR X (binaryOp .Sub) (rI0 fun i j=>.int (i-j)):=zQW fun u0 u0 u0 u0 u0 u0 u0 q=>sub_int q
theorem zQZ:OpR X (binaryOp .Mult) (rI zC7 fun i j=>.int (i*j)):=opI fun u0 u0 u0 u0 u0 u0 u0 hc q=>mul_int q hc.ok
theorem zNx:OpR X (binaryOp .FloorDiv) (rI zFa fun i j=>.int (i / j)):=opI fun i j u0 u0 u0 u0 u0 hc q=>by
 have h1:(0:Int)<j:=hc.1
 have h2:j<1073741824:=hc.2
 exact floordiv_int (by omega) (by rw[Int.fdiv_eq_ediv_of_nonneg i (by omega)];exact q) (.inl (PyProof.noPylong_small (by omega)))
theorem zQa:OpR X (binaryOp .Mod) (rI (fun u0 j=>0<j) fun i j=>.int (i%j)):=opI fun i j u0 u0 u0 u0 u0 hc q=>by
 have h1:(0:Int)<j:=hc
 exact mod_int' (by omega) (by rw[Int.fmod_eq_emod_of_nonneg i (by omega)];exact q)
theorem zQb:OpR X (binaryOp .Pow) (rI zEC fun i j=>.int (i ^ j.toNat)):=opI fun u0 u0 u0 u0 u0 u0 u0 hc q=>pow_int_small hc.1 hc.2.1 hc.2.2 q
theorem zQc:OpR X (binaryOp .LShift) (rI zEC fun i j=>.int (i*2 ^ j.toNat)):=opI fun u0 u0 u0 u0 u0 u0 u0 hc q=>lshift_int_small hc.1 hc.2.1 hc.2.2 q
theorem zQd:OpR X (binaryOp .BitXor) (rI0 fun i j=>.int (Builtin.bitXor i j)):=zQW fun u0 u0 u0 u0 u0 u0 u0 q=>xor_int q
theorem unI{f:Value→Sem Value}{g:Int→Int}
  (rule:∀(i:Int) (t:Tok) (s:Shared) (Q:Value→Shared→Prop) (E:Value→Shared→Prop),Q (.int (g i) s.toks) { s with toks:=s.toks+1 }→wpAny (model X.prog X.w) X.A (f (.int i t)) Q E s) :
  UnR X f (rU fun i=>.int (g i)):=by
 intro pins s σ H x v Q I rx h
 obtain⟨i,rfl,q⟩:=h
 obtain⟨t,rfl⟩:=rx
 exact rule i t s _ _ ⟨.int (g i),H,I.tok _,⟨_,rfl⟩,q⟩
theorem zQe:UnR X (unaryOp .USub) (rU fun i=>.int (-i)):=unI fun u0 u0 u0 u0 u0 q=>neg_int q
theorem zQf{pins:List (Addr×Obj)}{σ:St}{H:Hp}{s:Shared}{Q:VK}{k k':Bool}(I:zX X pins σ H s)(q:Q (.bl k) H)(e:k=k'):EP X pins σ Q (.bool k') s:=by
 subst e
 exact⟨.bl k,H,I,rfl,q⟩
theorem zRu:OpR X (compareOp .Lt) (rI0 fun i j=>.bl (decide (i<j))):=zNw fun u0 u0 u0 u0 u0 u0 u0 q=>lt_int q
theorem zPc:OpR X (compareOp .LtE) (rI0 fun i j=>.bl (decide (i≤j))):=zNw fun u0 u0 u0 u0 u0 u0 u0 q=>le_int q
theorem zRv:OpR X (compareOp .Gt) (rI0 fun i j=>.bl (decide (j<i))):=zNw fun u0 u0 u0 u0 u0 u0 u0 q=>gt_int q
theorem zRw:OpR X (compareOp .GtE) (rI0 fun i j=>.bl (decide (j≤i))):=zNw fun u0 u0 u0 u0 u0 u0 u0 q=>ge_int q
theorem zIn:OpR X (compareOp .Is) (fun x y H Q=>y=.non∧Q (.bl (decide (x=.non))) H):=by
 intro pins s σ H x y v u Q I rx ry h
 obtain⟨rfl,q⟩:=h
 cases ry
 refine is_none_gen (zQf I q ?_)
 cases x<;>first
  | (cases rx;rfl)
  | (obtain⟨t,rfl⟩:=rx;rfl)
theorem OpR.or{f:Value→Value→Sem Value}{r r':R2}(h:OpR X f r)(h':OpR X f r'):OpR X f (fun x y H Q=>r x y H Q∨r' x y H Q):=by
 intro pins s σ H x y v u Q I rx ry q
 rcases q with q | q
 ·exact h pins s σ H x y v u Q I rx ry q
 ·exact h' pins s σ H x y v u Q I rx ry q
theorem zAC(b:Expr){op:CmpOp}(h:op≠.In:=by decide)(h2:op≠.NotIn:=by decide):behindInMarks op b=false:=by
 have e1:(op==CmpOp.In)=false:=by cases op<;>first | rfl | exact absurd rfl h
 have e2:(op==CmpOp.NotIn)=false:=by cases op<;>first | rfl | exact absurd rfl h2
 cases b<;>simp[behindInMarks,e1,e2]
theorem zNy{op:CmpOp}{r:R2}(ho:OpR X (compareOp op) r)(ha:PE X a ta)(hb:PE X b tb)(hm:behindInMarks op b=false):PE X (.Compare a [op] [b] pos) (tOp r ta tb):=by
 intro pins s σ H Q I h
 exact wpAny_Compare1 (zQV ha hb I h fun v u s2 x y H2 I2 rx ry q=>ho pins s2 σ H2 x y v u Q I2 rx ry q) hm
noncomputable def zPd(t:TE):TT:=fun σ H Q=>t σ H fun x H'=>∃ k,x=.bl k∧Q k H'
theorem zNz{op:CmpOp}{r:R2}(ho:OpR X (compareOp op) r)(ha:PE X a ta)(hb:PE X b tb)(hm:behindInMarks op b=false):PT X (.Compare a [op] [b] pos) (zPd (tOp r ta tb)):=by
 intro pins s σ H Q I h
 refine wpAny_isTrue_Compare1 (yi (ha pins s σ H _ I h) fun v s1 ⟨x,H1,I1,r1,q1⟩=>yi (hb pins s1 σ H1 _ I1 q1) fun u s2 ⟨y,H2,I2,r2,q2⟩ =>
  yi (ho pins s2 σ H2 x y v u _ I2 r1 r2 q2) fun c s3 ⟨z,H3,I3,r3,k,e,q3⟩=>?_) hm
 subst e
 cases r3
 exact dR ⟨H3,I3,q3⟩
noncomputable def zLr(r r':R2)(ta tb tc:TE):TE:=fun σ H Q=>ta σ H fun x H1=>tb σ H1 fun y H2=>r x y H2 fun z H3=>∃ k,z=.bl k ∧
 (if k=true then tc σ H3 fun w' H4=>r' y w' H4 Q else Q (.bl false) H3)
theorem zLs{op op':CmpOp}{r r':R2}(ho:OpR X (compareOp op) r)(ho':OpR X (compareOp op') r')(ha:PE X a ta)(hb:PE X b tb)(hc:PE X c tc)
  (hm:lastMarks [op,op'] [b,c]=false:=by with_unfolding_all rfl):PT X (.Compare a [op,op'] [b,c] pos) (zPd (zLr r r' ta tb tc)):=by
 intro pins s σ H Q I h
 refine isTrue_chain (yi (ha pins s σ H _ I h) fun v s1 ⟨x,H1,I1,r1,q1⟩=>test_link (yi (hb pins s1 σ H1 _ I1 q1) fun u s2 ⟨y,H2,I2,r2,q2⟩ =>
  yi (ho pins s2 σ H2 x y v u _ I2 r1 r2 q2) fun d s3 ⟨z,H3,I3,r3,k,e,q3⟩=>?_)) hm
 subst e
 cases r3
 refine dR ?_
 cases k with
 | false =>
  obtain⟨k',e',q'⟩:=q3
  cases e'
  exact ite_ff ⟨H3,I3,q'⟩
 | true =>
  refine ite_tt (test_last (yi (hc pins s3 σ H3 _ I3 q3) fun w' s4 ⟨z',H4,I4,r4,q4⟩=>yi (ho' pins s4 σ H4 y z' u w' _ I4 r2 r4 q4) fun d' s5 ⟨z2,H5,I5,r5,k2,e2,q5⟩=>?_))
  subst e2
  cases r5
  exact dR ⟨H5,I5,q5⟩
theorem zEk:(sizeLine:Nat)<2 ^ 63:=by rw[sizeLine_eq];decide
theorem vals1{x:V}{us:List Value}(r:za [x] us):∃ u,us=[u]∧RelV x u:=by
 cases r with
 | cons r1 r2=>cases r2;exact⟨_,rfl,r1⟩
theorem vals2{x y:V}{us:List Value}(r:za [x,y] us):∃ u w',us=[u,w']∧RelV x u∧RelV y w':=by
 cases r with
 | cons r1 r2 =>
  cases r2 with
  | cons r3 r4=>cases r4;exact⟨_,_,rfl,r1,r3⟩
theorem zKV(hc:X.calm=true):yg X (.builtin "max") (fun xs H Q=>∃ i j,xs=[.int i,.int j]∧Q (.int (if j>i then j else i)) H):=by
 intro pins s σ H xs us Q I r h
 obtain⟨i,j,rfl,q⟩:=h
 obtain⟨u,w',rfl,⟨t,rfl⟩,⟨t',rfl⟩⟩:=vals2 r
 refine max_two_ints (I.ok.hd hc) fun h' tk k=>⟨_,H,I.kept k,?_,q⟩
 by_cases hj:j>i
 ·rw[if_pos hj,if_pos hj];exact⟨_,rfl⟩
 ·rw[if_neg hj,if_neg hj];exact⟨_,rfl⟩
theorem zKW(hc:X.calm=true):yg X (.builtin "min") (fun xs H Q=>∃ i j,xs=[.int i,.int j]∧Q (.int (if j<i then j else i)) H):=by
 intro pins s σ H xs us Q I r h
 obtain⟨i,j,rfl,q⟩:=h
 obtain⟨u,w',rfl,⟨t,rfl⟩,⟨t',rfl⟩⟩:=vals2 r
 refine min_two_ints (I.ok.hd hc) fun h' tk k=>⟨_,H,I.kept k,?_,q⟩
 by_cases hj:j<i
 ·rw[if_pos hj,if_pos hj];exact⟨_,rfl⟩
 ·rw[if_neg hj,if_neg hj];exact⟨_,rfl⟩
end
structure zN0 (h:Heap) (x dx C:Addr) (mA:Str→Option Value):Prop where
 obj:h.get? x=some (PySem.W.instObj C dx)
 ns:h.Ns1 dx mA
 ne:dx≠x
theorem zKX{h:Heap}{dx:Addr}{mA:Str→Option Value}(n:h.Ns1 dx mA):∃ od,h.get? dx=some od∧∀ name,PySem.W.lookIn name od=some (mA name):=by
 obtain⟨o,es,ep,ho,hd,hk,u0,hm⟩:=n
 refine⟨o,ho,fun name=>?_⟩
 have e:=hm name
 unfold nsFind findBy at e
 rw[← Array.find?_toList] at e
 unfold PySem.W.lookIn
 rw[hd]
 dsimp only
 split
 ·rename_i y q
  rw[q] at e
  exact congrArg some e
 ·rename_i q
  rw[q] at e
  have a:es.toList.any (·.refKey)=false:=by
   rw[List.any_eq_false]
   intro y hy
   obtain⟨z,t,hkey⟩:=hk y (de.mp hy)
   simp[DictEntry.refKey,hkey]
  have a':¬ es.toList.any (·.refKey)=true:=by rw[a];exact dD
  rw[if_neg a']
  exact congrArg some e
theorem zN0.look{h:Heap}{x dx C:Addr}{mA:Str→Option Value}(I:zN0 h x dx C mA):∃ od,PySem.W.InstAt h x (PySem.W.instObj C dx) C (some od)∧∀ name,PySem.W.lookIn name od=some (mA name) :=
 let ⟨od,ho,hl⟩:=zKX I.ns
 ⟨od,⟨I.obj,rfl,rfl,ho⟩,hl⟩
section
variable {prog:Program} {w:World} {A:Around} {E:Value→Shared→Prop} {s:Shared} {K:PySem.W.Frag} {x dx C f:Addr} {mA:Str→Option Value} {name:Str} {v:Value}
theorem zC8{expr:Bool}{Q:Value→Shared→Prop}(X:K.In s.heap)(I:zN0 s.heap x dx C mA)(hg:PySem.W.plainGet K C name=true)(hh:PySem.W.hasDictIn K C=true)
  (ha:PySem.W.findIn K (.ref C) name=some none) (hv:mA name=some v) (hv':PySem.W.handedIn v=true) (h:Q v { s with toks:=s.toks+1 }) :
  wpAny (model prog w) A (getAttr (.ref x) name expr) Q E s:=by
 obtain⟨od,J,hl⟩:=I.look
 exact PySem.W.get_value X J (PySem.W.plainGet_of hg).1 (PySem.W.findObj_own hh ha rfl (by rw[hl,hv])) hv' h
end
section
variable {P:Program} {w:World} {H H':Hp} {h h':Heap} {a C dx:Addr} {fs fs':List (Str×V)}
theorem zN1(hok:HOk P w H h)(e:H a=some (.ins C dx fs)):∃ mA,zN0 h a dx C mA∧(∀ f,zP9 (fs.lookup f) (mA f))∧PySem.Within mA (fs.map (·.1))∧fs.length≤1000∧H dx=some (.own a):=by
 obtain⟨d,z,ne,ob,mA,n,r,q⟩:=(show wZ P w H h a (.ins C dx fs) from hok a _ e)
 exact⟨mA,⟨ob,n,ne⟩,r,q,z,d⟩
end
structure Cls (K:PySem.W.Frag) (C:Addr):Prop where
 pg:PySem.W.plainGet K C Str.empty=true
 hd:PySem.W.hasDictIn K C=true
 po:PySem.W.plainOver K C=true
 sa:PySem.W.findIn K (.ref C) "__setattr__"=some (some (.builtin "object.__setattr__"))
theorem Cls.get{K:PySem.W.Frag}{C:Addr}(c:Cls K C)(f:Str):PySem.W.plainGet K C f=true:=c.pg
section
variable {X:Cx} {pins:List (Addr×Obj)} {σ:St} {H:Hp} {s:Shared} {a C dx:Addr} {fs:List (Str×V)} {f:Str} {v:V} {A:Around} {E:Value→Shared→Prop}
end
section
variable {X:Cx} {o e value:Expr} {f:Str} {pos pos' tpos:Pos} {ta tv:TE}
end
section
variable {X:Cx} {pins:List (Addr×Obj)} {σ:St} {H:Hp} {s:Shared} {A:Around} {E:Value→Shared→Prop} {Q:Value→Shared→Prop} {c:Value} {b:Bool}
set_option genInjectivity true in
inductive zED (K:PySem.W.Frag) (H:Hp):V→Value→Prop where
 | non:zED K H .non (.type "NoneType")
 | bl (x:Bool):zED K H (.bl x) (.type "bool")
 | int (i:Int):zED K H (.int i) (.type "int")
 | str (x:Str):zED K H (.str x) (.type "str")
 | flt (x:UInt64):zED K H (.flt x) (.type "float")
 | lst {a:Addr} {xs:List V} (e:H a=some (.lst xs)):zED K H (.ref a) (.type "list")
 | frz {a:Addr} {o:Obj} {xs:List V} (e:H a=some (.frz o (.lst xs))):zED K H (.ref a) (.type "list")
 | tup {a:Addr} {xs:List V} (e:H a=some (.tup xs)):zED K H (.ref a) (.type "tuple")
 | dK {a:Addr} {kvs:List (Key×V)} (e:H a=some (.dK kvs)):zED K H (.ref a) (.type "dict")
 | dT {a:Addr} {kvs:List (List Key×V)} (e:H a=some (.dT kvs)):zED K H (.ref a) (.type "dict")
 | ins {a C dx:Addr} {fs:List (Str×V)} (e:H a=some (.ins C dx fs)) (cl:Cls K C) (ha:PySem.W.findIn K (.ref C) "__class__"=some (some (.builtin "object.__class__")))
   (hn:PySem.W.specialIn K (.builtin "object.__class__") "__get__"=some (some (.builtin "getset_descriptor.__get__"))) (htk:PySem.W.takesIn K (.builtin "object.__class__")=some true)
   (hm:PySem.W.mroIn K C (.type "object")=some true):zED K H (.ref a) (.ref C)
theorem zCI{x:V}{u t:Value}(I:zX X pins σ H s)(rx:RelV x u)(ty:zED X.K H x t)(e:PySem.W.kitOne X.K t c=some b)(h:∀ tk,Q (.bool b) { s with toks:=tk }) :
  wpAny (model X.prog X.w) A (call (.builtin "isinstance") [u,c]) Q E s:=by
 cases ty with
 | non=>cases (show u=Value.none from rx);exact PySem.W.kia_one PySem.W.kitx_none I.kIn True.intro e (fun z=>nomatch z) h
 | bl y=>cases (show u=Value.bool y from rx);exact PySem.W.kia_one PySem.W.kitx_bool I.kIn True.intro e (fun z=>nomatch z) h
 | int i=>obtain⟨t,q⟩:=(show ∃ t,u=Value.int i t from rx);cases q;exact PySem.W.kia_one PySem.W.kitx_int I.kIn True.intro e (fun z=>nomatch z) h
 | str y=>obtain⟨t,q⟩:=(show ∃ t,u=Value.str y t from rx);cases q;exact PySem.W.kia_one PySem.W.kitx_str I.kIn True.intro e (fun z=>nomatch z) h
 | flt y=>obtain⟨t,q⟩:=(show ∃ t,u=Value.float y t from rx);cases q;exact PySem.W.kia_one PySem.W.kitx_float I.kIn True.intro e (fun z=>nomatch z) h
 | @lst a xs ea =>
  cases (show u=Value.ref a from rx)
  obtain⟨u0,u0,n,u0,h1⟩:=(show wZ X.prog X.w H s.heap a (.lst xs) from I.hok a _ ea)
  exact PySem.W.kia_one PySem.W.kitx_list I.kIn ⟨_,h1,rfl⟩ e (fun z=>nomatch z) h
 | @frz a ob xs ea =>
  cases (show u=Value.ref a from rx)
  obtain⟨u0,u0,u0,n,u0,h1⟩:=(show wZ X.prog X.w H s.heap a (.frz ob (.lst xs)) from I.hok a _ ea)
  exact PySem.W.kia_one PySem.W.kitx_list I.kIn ⟨_,h1,rfl⟩ e (fun z=>nomatch z) h
 | @tup a xs ea =>
  cases (show u=Value.ref a from rx)
  obtain⟨u0,u0,u0,p⟩:=(show wZ X.prog X.w H s.heap a (.tup xs) from I.hok a _ ea)
  obtain⟨o,h1,h2,u0⟩:=p
  exact PySem.W.kia_one PySem.W.kitx_tuple I.kIn ⟨o,h1,h2⟩ e (fun z=>nomatch z) h
 | @dK a kvs ea =>
  cases (show u=Value.ref a from rx)
  obtain⟨u0,u0,vs,u0,p⟩:=(show wZ X.prog X.w H s.heap a (.dK kvs) from I.hok a _ ea)
  obtain⟨o,es,ep,h1,h2,u0⟩:=p
  exact PySem.W.kia_one PySem.W.kitx_dict I.kIn ⟨o,h1,h2.1⟩ e (fun z=>nomatch z) h
 | @dT a kvs ea =>
  cases (show u=Value.ref a from rx)
  obtain⟨u0,u0,xs,u0,o,es,ep,h1,h2,u0⟩:=(show wZ X.prog X.w H s.heap a (.dT kvs) from I.hok a _ ea)
  exact PySem.W.kia_one PySem.W.kitx_dict I.kIn ⟨o,h1,h2.1⟩ e (fun z=>nomatch z) h
 | @ins a C dx fs ea cl ha hn htk hm =>
  cases (show u=Value.ref a from rx)
  obtain⟨mA,O,u0⟩:=zN1 I.hok ea
  obtain⟨od,J,u0⟩:=O.look
  exact PySem.W.kia_one (PySem.W.kitx_own (cl.get _) cl.hd ha hn htk hm) I.kIn J e (fun z=>nomatch z) h
end
structure wB (k:Nat) (A:Around):Prop where
 hd:A.handled=none
 dp:A.depth+3*k+5<recursionLimit
 un:A.units+16*k+200<cLine
theorem wB.mono{j k:Nat}{A:Around}(r:wB k A)(h:j≤k):wB j A:=⟨r.hd,by have:=r.dp;omega,by have:=r.un;omega⟩
theorem wB.deeper{k:Nat}{A:Around}(r:wB (k+1) A)(env:Env):wB k (A.deeper env) :=
 ⟨r.hd,by have:=r.dp;show A.depth+1+3*k+5<_;omega,by have:=r.un;show A.units+3+16*k+200<_;omega⟩
theorem wB.depth{k:Nat}{A:Around}(r:wB k A):A.depth<recursionLimit:=by have:=r.dp;omega
theorem wB.units{k:Nat}{A:Around}(r:wB k A):A.units+64<cLine:=by have:=r.un;omega
noncomputable def zRx:TA:=fun u0 H Q=>Q [] H
noncomputable def zPe(ta:TE)(tr:TA):TA:=fun σ H Q=>ta σ H fun x H1=>tr σ H1 fun xs H2=>Q (x::xs) H2
section
variable {X:Cx} {e:Expr} {es:List Expr} {te:TE} {t:TA} {pos:Pos}
theorem zBy:PA X [] zRx:=fun u0 u0 u0 u0 H Q I h=>Calls.spliced_nil ⟨[],H,I,.nil,h⟩
theorem zAk(ha:PE X e te)(hr:PA X es t)(hs:starEach (e::es) X.env=(false,eval e X.env)::starEach es X.env:=by rfl):PA X (e::es) (zPe te t):=by
 intro pos pins s σ H Q I h
 rw[hs]
 show wpAny _ _ (spliced ((false,eval e X.env)::backTo pos (starEach es X.env))) _ _ s
 refine Calls.spliced_cons (yi (ha pins s σ H _ I h) fun u s1 ⟨x,H1,I1,r1,q1⟩=>?_)
 exact yi (hr pos pins s1 σ H1 _ I1 q1) fun us s2 ⟨xs,H2,I2,r2,q2⟩=>⟨x::xs,H2,I2,.cons r1 r2,q2⟩
noncomputable def zSp(t:TA):TE:=fun σ H Q=>t σ H fun xs H1=>xs.length≤sizeLine∧∀ p,H1 p=none→Q (.ref p) (wj H1 p (.tup xs))
noncomputable def zSq(t:TA):TE:=fun σ H Q=>t σ H fun xs H1=>xs.length≤sizeLine∧∀ p,H1 p=none→Q (.ref p) (wj H1 p (.lst xs))
theorem zQg{x1}(h:PA X es t):PE X (.Tuple es x1 pos) (zSp t):=by
 intro pins s σ H Q I hq
 refine wpAny_Tuple_spliced (yi (h pos pins s σ H _ I hq) fun us s1 ⟨xs,H1,I1,r,z,q⟩=>⟨by rw[← r.length];exact z,?_⟩)
 have hf:H1 s1.heap.objs.size=none:=I1.hok.fresh (bZ _)
 refine⟨.ref s1.heap.objs.size,wj H1 s1.heap.objs.size (.tup xs),I1.laid (t':=s1.toks) (fun b u e=>bP _ e) (bZ _) ?_,rfl,q _ hf⟩
 exact⟨z,us,r,⟨_,cb _ rfl,rfl,⟨_,rfl⟩,rfl⟩⟩
theorem zQh(h:PA X es t):PE X (.List es pos) (zSq t):=by
 intro pins s σ H Q I hq
 refine wpAny_List_spliced (yi (h pos pins s σ H _ I hq) fun us s1 ⟨xs,H1,I1,r,z,q⟩=>⟨by rw[← r.length];exact z,?_⟩)
 have hf:H1 s1.heap.objs.size=none:=I1.hok.fresh (bZ _)
 refine⟨.ref s1.heap.objs.size,wj H1 s1.heap.objs.size (.lst xs),I1.laid (t':=s1.toks) (fun b u e=>bP _ e) (bZ _) ?_,rfl,q _ hf⟩
 exact⟨z,us,0,r,cb _ rfl⟩
end
noncomputable abbrev Sp:=List V→Hp→VK→XK→Prop
noncomputable abbrev CXT:=List Env→Hp→Shared→XK→Value→Shared→Prop
structure zN2 (P:Program) (w:World) (K:PySem.W.Frag) (mg:Str→Option Value) (base:Heap) (A:Around) (outer:List Env) (s:Shared) (H:Hp):Prop where
 frames:A.frames=some outer
 mod:Mod K mg base
 bs:∀ b o,base.get? b=some o→s.heap.get? b=some o∧H b=none
 bsz:base.objs.size≤s.heap.objs.size
 funs:s.heap.FunFrames base outer
 frf:∀ b∈frs outer,H b=none
 hok:HOk P w H s.heap
 bare:AllBare s.gens
 tb:TabsOk K H
noncomputable def CE(outer:List Env)(P:Program)(w:World)(H:Hp)(s:Shared)(Q:VK)(u:Value)(s':Shared):Prop :=
 ∃ v H',s'.os=s.os∧AllBare s'.gens∧Un (frs outer) [] H H' s.heap s'.heap∧HOk P w H' s'.heap∧RelV v u∧Q v H'
noncomputable def CR(CX:CXT)(outer:List Env)(P:Program)(w:World)(H:Hp)(s:Shared)(Q:VK)(E:XK)(r:Result)(s':Shared):Prop :=
 match r with
 | .ok (.ret u)=>CE outer P w H s Q u s'
 | .ok _=>False
 | .error e=>CX outer H s E e s'
structure zC9 (P:Program) (w:World) (K:PySem.W.Frag) (mg:Str→Option Value) (base:Heap) (CX:CXT) (k:Nat) (f:Addr) (fd:FuncData) (ps:List Str) (sp:Sp):Prop where
 len:∀ vs H Q E,sp vs H Q E→vs.length=ps.length
 run:∀(A:Around) (outer:List Env) (s:Shared) (H:Hp) (args:Args) (us:List Value) (vs:List V) (Q:VK) (E:XK),wB k A→zN2 P w K mg base A outer s H→BindsTo s fd args (ps.zip us)→za vs us→sp vs H Q E →
  codeAny (model P w) A (.call (.ref f) args) (CR CX outer P w H s Q E) s
theorem zC9.imp{P:Program}{w:World}{K:PySem.W.Frag}{mg:Str→Option Value}{base:Heap}{CX:CXT}{k:Nat}{f:Addr}{fd:FuncData}{ps:List Str}{sp sp':Sp}(F:zC9 P w K mg base CX k f fd ps sp)
  (h:∀ vs H Q E,sp' vs H Q E→sp vs H Q E):zC9 P w K mg base CX k f fd ps sp' :=
 ⟨fun vs H Q E q=>F.len vs H Q E (h _ _ _ _ q),fun A outer s H args us vs Q E hr he hb hv hs=>F.run A outer s H args us vs Q E hr he hb hv (h _ _ _ _ hs)⟩
section
variable {X:Cx} {pins:List (Addr×Obj)} {σ:St} {H:Hp} {s s':Shared}
theorem zX.env0(I:zX X pins σ H s):zN2 X.prog X.w X.K X.mg X.base X.A X.stack s H :=
 ⟨I.ok.frames,I.ok.mod,I.bs,dh I.ok.bsz I.sz,I.stack,I.stkFree,I.hok,I.bare,I.tabs⟩
theorem zX.after{Q:VK}{u:Value}(I:zX X pins σ H s)(h:CE X.stack X.prog X.w H s Q u s'):EP X pins σ Q u s':=by
 obtain⟨v,H',os,bare,un,hok,r,q⟩:=h
 obtain⟨hh,g,d,t,os'⟩:=s'
 obtain rfl:os'=s.os:=os
 exact⟨v,H',I.call (h':=hh) (g':=g) (d':=d) (t':=t) (ch:=[]) un hok bare (fun b z=>absurd z (by simp)),r,q⟩
end
noncomputable def zRy(sp:Sp)(dvs:List V)(E:XK)(t:TA):TE:=fun σ H Q=>t σ H fun vs H1=>sp (vs++dvs) H1 Q E
noncomputable def Binds(K:PySem.W.Frag)(fd:FuncData)(ps:List Str)(ds:List Value):Prop :=
 ∀(s:Shared) (us:List Value),K.In s.heap→(us++ds).length=ps.length→BindsTo s fd ⟨us,[]⟩ (ps.zip (us++ds))
theorem Binds.all{K:PySem.W.Frag}{fd:FuncData}{ps:List Str}(h:∀ us:List Value,us.length=ps.length→bindArgs fd ⟨us,[]⟩=pure (ps.zip us)):Binds K fd ps []:=fun s us u0 hl=>by
 rw[dY] at hl ⊢
 exact .of_eq (h us hl)
noncomputable def zIo(CX:CXT)(X:Cx)(E:XK):Prop:=∀(pins:List (Addr×Obj)) (σ:St) (H:Hp) (s:Shared) (e:Value) (s':Shared),zX X pins σ H s→CX X.stack H s E e s'→X.xe e s'
section
variable {X:Cx} {CX:CXT} {k:Nat} {f C:Addr} {fd:FuncData} {ps:List Str} {sp:Sp} {dvs:List V} {ds:List Value} {E:XK} {x m:Str} {p pos apos:Pos} {e o:Expr} {es:List Expr} {ta:TE} {t:TA}
theorem zQi{pins:List (Addr×Obj)}{σ:St}{H:Hp}{s:Shared}{Q:VK}{us:List Value}{vs:List V}(F:zC9 X.prog X.w X.K X.mg X.base CX k f fd ps sp)(hr:wB k X.A)(hb:Binds X.K fd ps ds)(hd:za dvs ds)(hx:zIo CX X E)
  (I:zX X pins σ H s) (r:za vs us) (h:sp (vs++dvs) H Q E):wpAny (model X.prog X.w) X.A (call (.ref f) us) (EP X pins σ Q) X.xe s:=by
 have r2:za (vs++dvs) (us++ds):=r.append hd
 have hl:(us++ds).length=ps.length:=by rw[← r2.length];exact F.len _ _ _ _ h
 refine wpAny_call (eh (F.run X.A X.stack s H ⟨us,[]⟩ (us++ds) (vs++dvs) Q E hr I.env0 (hb s us I.kIn hl) r2 h) fun r s' hq=>?_)
 cases r with
 | error e=>exact hx pins σ H s e s' I hq
 | ok fl =>
  cases fl with
  | ret u=>exact I.after hq
  | next=>exact False.elim hq
  | brk=>exact False.elim hq
  | cont=>exact False.elim hq
theorem zJf(F:zC9 X.prog X.w X.K X.mg X.base CX k f fd ps sp)(hr:wB k X.A)(hg:Gl X x)(hm:X.mg x=some (.ref f))(hk:PySem.W.keepIn X.K (.ref f)=true)(hb:Binds X.K fd ps ds)(hd:za dvs ds)(hx:zIo CX X E)
  (ha:PA X (e::es) t) (hdb:(x==("__debug__":Str))=false:=by decide) (he:starEach (e::es) X.env=(false,eval e X.env)::starEach es X.env:=by rfl) (hpl:(backTo pos (starEach es X.env)).any (·.1)=false:=by rfl) :
  PE X (.Call (.Name x p) (e::es) [] pos) (zRy sp dvs E t):=by
 intro pins s σ H Q I h
 refine eX (zJe I hg hm ?_ hdb)
 refine PySem.W.callWith_K (h₀:=X.base) I.ok.mod.kin hk (yi (ha pos pins s σ H _ I h) fun us s1 ⟨vs,H1,I1,r,q⟩=>⟨I1.kIn,?_⟩) he hpl
 exact zQi F hr hb hd hx I1 r q
end
section
variable {X:Cx} {CX:CXT} {k:Nat} {f C:Addr} {fd:FuncData} {ps ks:List Str} {sp:Sp} {E:XK} {x m:Str} {p pos apos kpos:Pos} {e o:Expr} {es:List Expr} {kws:List Keyword} {te ta:TE} {t tk:TA} {nm:Option Str}
variable {g:List Value→List Value→List Value} {gV:List V→List V→List V}
end
structure zY (N P:List Str) (sc:Scope):Prop where
 kind:sc.kind=.function
 co:sc.isCoroutine=false
 gen:sc.isGenerator=false
 nd:N.Nodup
 pre:N.take P.length=P
 par:∀ x∈P,sc.names.lookup x=some .local∨sc.names.lookup x=some .cell
 nofree:∀ y∈sc.names,y.2≠.free
theorem zFo{kindOf:Str→Option NameKind}{x:Str}:∀ {binds:List (Str×Value)} {m:Str→Option Value},(∀ v,(x,v)∉binds)→bindL kindOf binds m x=m x
 | [],_,_=>rfl
 | (n,v)::r,m,h=>by
  unfold bindL
  rw[zFo fun w hw=>h w (ck _ hw)]
  split
  ·have:x≠n:=by rintro rfl;exact h v cE
   simp[this]
  ·rfl
theorem zFp{kindOf:Str→Option NameKind}{x:Str}:∀ {binds:List (Str×Value)} {m:Str→Option Value},(∀ v,(x,v)∉binds)→bindC kindOf binds m x=m x
 | [],_,_=>rfl
 | (n,v)::r,m,h=>by
  unfold bindC
  rw[zFp fun w hw=>h w (ck _ hw)]
  split
  ·rfl
  ·have:x≠n:=by rintro rfl;exact h v cE
   simp[this]
theorem zFq{kindOf:Str→Option NameKind}{x:Str}{v:Value}:∀ {P:List Str} {vs:List Value} {i:Nat} {m:Str→Option Value},P.Nodup→P[i]?=some x→vs[i]?=some v→kindOf x=some .local →
  bindL kindOf (P.zip vs) m x=some v
 | [],_,_,_,_,h,_,_=>by simp at h
 | _::_,[],_,_,_,_,h,_=>by simp at h
 | p::P,w::vs,0,m,nd,h1,h2,hk=>by
  simp at h1 h2;subst h1;subst h2
  show bindL kindOf ((p,w)::P.zip vs) m p=_
  unfold bindL
  rw[zFo fun v hv=>(du.mp nd).1 (List.of_mem_zip hv).1,if_pos hk]
  simp
 | p::P,w::vs,i+1,m,nd,h1,h2,hk=>by
  show bindL kindOf ((p,w)::P.zip vs) m x=_
  unfold bindL
  exact zFq (i:=i) (du.mp nd).2 (by simpa using h1) (by simpa using h2) hk
theorem zFr{kindOf:Str→Option NameKind}{x:Str}{v:Value}:∀ {P:List Str} {vs:List Value} {i:Nat} {m:Str→Option Value},P.Nodup→P[i]?=some x→vs[i]?=some v→kindOf x≠some .local →
  bindC kindOf (P.zip vs) m x=some v
 | [],_,_,_,_,h,_,_=>by simp at h
 | _::_,[],_,_,_,_,h,_=>by simp at h
 | p::P,w::vs,0,m,nd,h1,h2,hk=>by
  simp at h1 h2;subst h1;subst h2
  show bindC kindOf ((p,w)::P.zip vs) m p=_
  unfold bindC
  rw[zFp fun v hv=>(du.mp nd).1 (List.of_mem_zip hv).1,if_neg hk]
  simp
 | p::P,w::vs,i+1,m,nd,h1,h2,hk=>by
  show bindC kindOf ((p,w)::P.zip vs) m x=_
  unfold bindC
  exact zFr (i:=i) (du.mp nd).2 (by simpa using h1) (by simpa using h2) hk
noncomputable def start(N:List Str)(vs:List V):St:=vs.map some++cq (N.length-vs.length) none
noncomputable def zGe(CX:CXT)(P:Program)(w:World)(K:PySem.W.Frag)(mg:Str→Option Value)(base:Heap)(N:List Str)(qual:Str)(scope:Scope)(f:Addr)(cd:Value)(A:Around)(outer:List Env)(s:Shared)(H:Hp)(E:XK):Cx where
 prog:=P
 w:=w
 K:=K
 mg:=mg
 base:=base
 A:=A.deeper (envOfC qual scope s.heap.objs.size f cd)
 N:=N
 s₀:=s
 H₀:=H
 env:=envOfC qual scope s.heap.objs.size f cd
 outer:=outer
 stack:=envOfC qual scope s.heap.objs.size f cd::outer
 ex:=[]
 calm:=true
 fn:=fun u0=>true
 pn:=[]
 xe:=fun e s'=>wpAny (model P w) (A.deeper (envOfC qual scope s.heap.objs.size f cd)) (leaving (envOfC qual scope s.heap.objs.size f cd) e) (fun u0 s''=>CX outer H s E e s'') (fun e' s''=>CX outer H s E e' s'') s'
theorem zHb{sc:Scope}{n:Nat}{x:Str}(h:sc.names.lookup x=some .cell):∃ c,(cellsFrom n sc.names []).lookup x=some c:=by
 have q:=PySem.W.cellsFrom_some sc.names n [] (.inl h)
 exact Option.isSome_iff_exists.mp q
theorem zKY{CX:CXT}{P:Program}{w:World}{K:PySem.W.Frag}{mg:Str→Option Value}{base:Heap}{N ps:List Str}{qual:Str}{scope:Scope}{f:Addr}{cd:Value}{A:Around}{outer:List Env}{s s1:Shared}{H:Hp}{E:XK}{us:List Value}{vs:List V}
  (S:zY N ps scope) (hd:A.handled=none) (e0:zN2 P w K mg base A outer s H) (hl:vs.length=ps.length) (r:za vs us)
  (x:InCallC s s.heap.objs.size (bindL (envOfC qual scope s.heap.objs.size f cd).kindOf (ps.zip us) fun u0=>none) (cellsFrom (s.heap.objs.size+1) scope.names []) (bindC (envOfC qual scope s.heap.objs.size f cd).kindOf (ps.zip us) fun u0=>none) s1) :
  zX (zGe CX P w K mg base N qual scope f cd A outer s H E) [] (start N vs) H s1:=by
 have hpl:ps.length≤N.length:=by have:=congrArg List.length S.pre;rw[cK] at this;omega
 obtain⟨h1,tk,rfl,hk⟩:=x.done
 have noA:∀ b:Addr,b∉(zGe CX P w K mg base N qual scope f cd A outer s H E).ex:=fun b z=>absurd (show b∈([]:List Addr) from z) (by simp)
 refine⟨⟨e0.mod,S.kind,rfl,rfl,bZ _,fun y z c h1 h2=>?_,fun y hy=>?_,fun y c u0 h=>?_,fun u0=>hd,Around.frames_deeper e0.frames,.inr ⟨rfl,rfl⟩,fun b z=>absurd z (noA b),e0.bs,e0.bsz,fun b u0 u0=>noA b,fun b z=>absurd z (noA b),e0.funs,e0.frf,e0.tb⟩,
  rfl,e0.bare,Un.kept hk,⟨_,x.toInCall.ns,fun i y v h1 h2 h3=>?_⟩,fun y c h=>⟨_,x.cell y c h⟩,e0.hok.fresh (bZ _),fun y c h=>?_,fun p hp=>absurd (show p∈([]:List (Addr×Obj)) from hp) (by simp),e0.hok.kept hk,?_⟩
 ·exact name_of_addr x.apart (PySem.mem_of_lookup h1) (PySem.mem_of_lookup h2)
 ·have hy:scope.names.lookup y=some .cell∨scope.names.lookup y=some .free:=hy
  rcases hy with hy | hy
  ·exact zHb hy
  ·exact absurd rfl (S.nofree _ (PySem.mem_of_lookup hy))
 ·exact ej (x.above y c (PySem.mem_of_lookup h))
 ·have hi:i<vs.length:=by
   unfold start at h2
   by_cases hi:i<vs.length
   ·exact hi
   ·rw[dq (by simpa using hi)] at h2
    rw[fm] at h2
    split at h2<;>cases h2
  have ha:vs[i]?=some v:=by
   unfold start at h2
   rw[cR (by simpa using hi),cC] at h2
   cases e:vs[i]? with
   | none=>rw[e] at h2;cases h2
   | some a=>rw[e] at h2;cases h2;rfl
  obtain⟨u,hu,rv⟩:=r.get ha
  have hp:ps[i]?=some y:=by
   rw[← S.pre,List.getElem?_take_of_lt (by omega)];exact h1
  have ndP:ps.Nodup:=by rw[← S.pre];exact S.nd.sublist (fA _ _)
  refine⟨u,rv,?_⟩
  rcases S.par y (cy hp) with k | k
  ·exact .inl ⟨k,zFq ndP hp hu k⟩
  ·obtain⟨c,e⟩:=zHb (n:=s.heap.objs.size+1) k
   refine .inr ⟨.inl k,c,e,?_⟩
   have q:=x.cell y c e
   rw[zFr ndP hp hu (by show scope.names.lookup y≠_;rw[k];decide)] at q
   exact q
 ·exact e0.hok.fresh (ej (x.above y c (PySem.mem_of_lookup h)))
 ·unfold start
  show _=N.length
  rw[ci,bU,List.length_replicate]
  omega
theorem zRz{CX:CXT}{P:Program}{w:World}{K:PySem.W.Frag}{mg:Str→Option Value}{base:Heap}{k:Nat}{f:Addr}{name qual:Str}{params:Arguments}{body:List Stmt}{scope:Scope}{dV kV doc pm cdv ct oc:Value}{an od:Option Addr}
  {osl:Array (Option Value)} {N ps:List Str} {sp:Sp} (lk:K.lookup f=some ⟨oc,od,.func (PySem.W.fnOf name qual params body scope dV kV doc pm an cdv ct),osl⟩) (hcd:PySem.W.codeIn K cdv qual=true) (S:zY N ps scope)
  (len:∀ vs H Q E,sp vs H Q E→vs.length=ps.length)
  (hbody:∀(A:Around) (outer:List Env) (s:Shared) (H:Hp) (vs:List V) (Q:VK) (E:XK),wB k (A.deeper (envOfC qual scope s.heap.objs.size f cdv))→sp vs H Q E →
   ∃ t,PSs (zGe CX P w K mg base N qual scope f cdv A outer s H E) body t∧t { nx:=fun u0 H'=>Q .non H',rt:=Q } (start N vs) H) :
  zC9 P w K mg base CX (k+1) f (PySem.W.fnOf name qual params body scope dV kV doc pm an cdv ct) ps sp:=by
 refine⟨len,fun A outer s H args us vs Q E hr e0 hb r hsp=>?_⟩
 have hl:=len _ _ _ _ hsp
 have KX:K.In s.heap:=e0.mod.kin.keeps fun b o e=>(e0.bs b o e).1
 have lim:s.heap.NoLimit:=e0.mod.nolimit.keeps fun b o e=>(e0.bs b o e).1
 have hkind:∀ y∈ps.zip us,scope.names.lookup y.1=some .local∨(scope.names.lookup y.1=some .cell∧((cellsFrom (s.heap.objs.size+1) scope.names []).lookup y.1).isSome=true):=fun⟨n,v⟩ hy=>by
  rcases S.par n (List.of_mem_zip hy).1 with q | q
  ·exact .inl q
  ·exact .inr ⟨q,PySem.W.cellsFrom_some _ _ _ (.inl q)⟩
 refine codeAny_call_function hr.depth (KX _ _ lk) rfl S.co S.gen rfl (PySem.W.codeRec_of KX hcd) (hb _ _ _ _ ?_)
 refine wpAny_newFunctionEnv_cells S.kind hkind fun env he s1 x=>?_
 subst he
 refine⟨lim.keeps x.toInCall.keep,codeAny_func ?_⟩
 obtain⟨t,ht,hq⟩:=hbody A outer s H vs Q E (hr.deeper _) hsp
 have I:zX (zGe CX P w K mg base N qual scope f cdv A outer s H E) [] (start N vs) H s1:=zKY S hr.hd e0 hl r x
 refine fw (ht [] s1 (start N vs) H _ I hq) (fun fl s' hs=>?_) fun e s' hs=>hs
 have fin:∀ {σ':St} {H':Hp} {v:V} {u:Value},zX (zGe CX P w K mg base N qual scope f cdv A outer s H E) [] σ' H' s'→RelV v u→Q v H'→CE outer P w H s Q u s' :=
  fun {σ' H' v u} J rv q=>⟨v,H',J.os,J.bare,J.base,J.hok,rv,q⟩
 cases fl with
 | ret u =>
  obtain⟨v,σ',H',J,rv,q⟩:=hs
  exact fin J rv q
 | next =>
  obtain⟨σ',H',J,q⟩:=hs
  exact fin (v:=V.non) (u:=Value.none) J rfl q
 | brk =>
  obtain⟨u0,u0,u0,q⟩:=hs
  exact False.elim q
 | cont =>
  obtain⟨u0,u0,u0,q⟩:=hs
  exact False.elim q
section
variable {X:Cx} {x:Str} {p pos:Pos} {e:Expr} {es:List Expr} {t:TA} {id T:String} {r:List V→Hp→VK→Prop}
noncomputable def tCB(r:List V→Hp→VK→Prop)(t:TA):TE:=fun σ H Q=>t σ H fun vs H1=>r vs H1 Q
theorem zBQ(hc:yg X (.builtin id) r)(hg:Gl X x)(hm:X.mg x=none)(hv:bootBuiltins x=some (.builtin id))(ha:PA X (e::es) t)(hn:x≠"__name__":=by decide)(hdb:(x==("__debug__":Str))=false:=by decide)
  (he:starEach (e::es) X.env=(false,eval e X.env)::starEach es X.env:=by rfl) (hpl:(backTo pos (starEach es X.env)).any (·.1)=false:=by rfl):PE X (.Call (.Name x p) (e::es) [] pos) (tCB r t):=by
 intro pins s σ H Q I h
 refine eX (zBb I hg hm hv ?_ hn hdb)
 exact PyProof.Rows.callWith_builtin1 (yi (ha pos pins s σ H _ I h) fun us s1 ⟨vs,H1,I1,r1,q1⟩=>hc pins s1 σ H1 vs us Q I1 r1 q1) he hpl
theorem zCJ(hc:yg X (.type T) r)(hg:Gl X x)(hm:X.mg x=none)(hv:bootBuiltins x=some (.type T))(ha:PA X (e::es) t)(hn:x≠"__name__":=by decide)(hdb:(x==("__debug__":Str))=false:=by decide)
  (he:starEach (e::es) X.env=(false,eval e X.env)::starEach es X.env:=by rfl) (hpl:(backTo pos (starEach es X.env)).any (·.1)=false:=by rfl):PE X (.Call (.Name x p) (e::es) [] pos) (tCB r t):=by
 intro pins s σ H Q I h
 refine eX (zBb I hg hm hv ?_ hn hdb)
 exact PyProof.Rows.callWith_type1 (yi (ha pos pins s σ H _ I h) fun us s1 ⟨vs,H1,I1,r1,q1⟩=>hc pins s1 σ H1 vs us Q I1 r1 q1) he hpl
end
end L2
namespace HT
open PySem PyProof.Rows
noncomputable def lexLt:List Int→List Int→Bool
 | [],[]=>false
 | [],_::_=>true
 | _::_,[]=>false
 | x::xs,y::ys=>if x=y then lexLt xs ys else decide (x<y)
theorem zIp(x y:Int)(xs ys:List Int):lexLt (x::xs) (y::ys)=if x=y then lexLt xs ys else decide (x<y):=rfl
theorem zFb:lexLt [] []=false:=rfl
theorem zEl(y:Int)(ys:List Int):lexLt [] (y::ys)=true:=rfl
theorem zEm(x:Int)(xs:List Int):lexLt (x::xs) []=false:=rfl
theorem zLt(A:Around)(s:Shared)(a:Int)(t:Tok)(c:Int)(u:Tok):∃ e,SeqAt.EqAt A s (.int a t) (.int c u) e∧(e=true↔a=c) :=
 ⟨(a==c),SeqAt.EqAt.int_int a t c u,by simp⟩
section
open PySem.SeqAt
open PySem.MeetsSeq PySem.MeetsSeq2 PySem.MeetsSeq3
end
section
variable {prog:Program} {w:World} {A:Around} {E:Value→Shared→Prop} {s:Shared}
theorem zN3{t b:Addr}{vs ws:List Value}{Q:Value→Shared→Prop}(ht:IsTup s.heap t vs.toArray)(hb:IsTup s.heap b ws.toArray)(hv:vs≠[])
  (h1:ws=[]→Q (.ref t) s) (h2:ws≠[]→Q (.ref s.heap.objs.size) { s with heap:=s.heap.push { cls:=.type "tuple",data:=.seq (vs++ws).toArray } })
  (hsz:vs.length+ws.length≤sizeLine):wpAny (model prog w) A (binaryOp .Add (.ref t) (.ref b)) Q E s:=by
 obtain⟨⟨cls,dd,data,sl⟩,ho,hc,n,hd⟩:=id ht
 obtain⟨⟨cls2,dd2,data2,sl2⟩,ho2,hc2,n2,hd2⟩:=id hb
 simp only at hc hd hc2 hd2
 subst hc hd hc2 hd2
 have e:vs.toArray++ws.toArray=(vs++ws).toArray:=by simp
 by_cases hw:ws=[]
 ·exact concat_meets ⟨_,ho,rfl⟩ ⟨_,ho2,rfl⟩ noFill_tuple_add seq_tuple_add PySem.F.slot_tuple_add PySem.F.entry_tuple_add (PySem.F.args_tuple_add_2 _ _)
   (tuple_addW1 t b vs.toArray ws.toArray n n2 dd dd2 sl sl2 (by simpa using hv) (by simp[hw])) ⟨ho,ho2,h1 hw⟩
 ·refine concat_meets ⟨_,ho,rfl⟩ ⟨_,ho2,rfl⟩ noFill_tuple_add seq_tuple_add PySem.F.slot_tuple_add PySem.F.entry_tuple_add (PySem.F.args_tuple_add_2 _ _)
   (tuple_addW2 t b vs.toArray ws.toArray n n2 dd dd2 sl sl2 (by simpa using hv) (by simpa using hw) (by rw[cj,cj];exact hsz)) ⟨ho,ho2,?_⟩
  rw[e]
  exact h2 hw
noncomputable def wM(n d:Nat):Option Int→Nat
 | none=>d
 | some v=>if v<0 then (v+(n:Int)).toNat else min v.toNat n
theorem zHc(n d:Nat):wM n d none=d:=rfl
theorem zCK(n d k:Nat):wM n d (some (k:Int))=min k n:=by
 show(if (k:Int)<0 then ((k:Int)+(n:Int)).toNat else min (k:Int).toNat n)=min k n
 rw[if_neg (by omega),Int.toNat_natCast]
theorem zQj(n d:Nat)(hd:d≤n)(o:Option Int):wM n d o≤n:=by
 cases o with
 | none=>exact hd
 | some v =>
  show(if v<0 then (v+(n:Int)).toNat else min v.toNat n)≤n
  by_cases hv:v<0
  ·rw[if_pos hv];omega
  ·rw[if_neg hv];exact Nat.min_le_right _ _
theorem zJg(v:Int)(n d:Nat):(if v<0 then max (v+(n:Int)) 0 else min v (n:Int))=((wM n d (some v):Nat):Int):=by
 show(if v<0 then max (v+(n:Int)) 0 else min v (n:Int))=(((if v<0 then (v+(n:Int)).toNat else min v.toNat n):Nat):Int)
 by_cases hv:v<0
 ·simp only[if_pos hv];omega
 ·simp only[if_neg hv];omega
theorem zIq(lo hi:Option Int)(n:Nat):Builtin.Slice.sliceAdjust lo hi 1 (n:Int)=(((wM n 0 lo:Nat):Int),((wM n n hi:Nat):Int)):=by
 have h1:¬ ((1:Int)<0):=by omega
 unfold Builtin.Slice.sliceAdjust
 simp only[h1,if_false]
 refine Prod.ext ?_ ?_
 ·cases lo with
  | none=>rfl
  | some v=>exact zJg v n 0
 ·cases hi with
  | none=>rfl
  | some v=>exact zJg v n n
theorem zIr(i j:Nat):Builtin.Slice.slicePlaces (i:Int) (j:Int) 1=j-i:=by
 unfold Builtin.Slice.slicePlaces
 have h1:(1:Int)>0:=by omega
 simp only[h1,if_true,Int.ediv_one]
 split<;>omega
theorem zEn{v:Value}{o:Option Int}{Q:Option Int→Shared→Prop}(p:IsPart v o)(h:Q o s):wpAny (model prog w) A (Builtin.Slice.slicePartIndex v) Q E s:=by
 cases p with
 | none=>exact slicePart_none h
 | int i t=>exact slicePart_int h
theorem zBR{sl:Addr}{vl vu:Value}{lo hi:Option Int}{n:Nat}{Q:Int×Int×Nat→Shared→Prop}(hs:s.heap.IsSliceOf sl vl vu .none)(pl:IsPart vl lo)(pu:IsPart vu hi)
  (h:Q (((wM n 0 lo:Nat):Int),1,wM n n hi-wM n 0 lo) s):wpAny (model prog w) A (Builtin.Slice.sliceApplied (.ref sl) (pure (n:Int))) Q E s:=by
 obtain⟨os,hos,hcs,hds⟩:=id hs
 unfold Builtin.Slice.sliceApplied Builtin.Slice.sliceFields
 refine bI (bI (wpAny_field hos hds (x:=vl) rfl (bI (wpAny_field hos hds (x:=vu) rfl (bI (wpAny_field hos hds (x:=.none) rfl (bS ?_)))))))
 refine bI (slicePart_none ?_)
 show wpAny _ _ (if ((1:Int)==0)=true then _ else _) _ _ s
 rw[if_neg (by decide)]
 refine bI (zEn pl (bI (zEn pu (bI (bS ?_)))))
 show wpAny _ _ (match Builtin.Slice.sliceAdjust lo hi 1 (n:Int) with | (lo,hi)=>pure (lo,(1:Int),Builtin.Slice.slicePlaces lo hi 1)) _ _ s
 rw[zIq lo hi n]
 show wpAny _ _ (pure (((wM n 0 lo:Nat):Int),(1:Int),Builtin.Slice.slicePlaces ((wM n 0 lo:Nat):Int) ((wM n n hi:Nat):Int) 1)) _ _ s
 rw[zIr]
 exact bS h
theorem zLu(xs:Array Value)(i k:Nat):((bQ k).filterMap fun(m:Nat)=>xs[((i:Int)+(m:Int)*1).toNat]?).toArray=((xs.toList.drop i).take k).toArray:=by
 have e:(fun(m:Nat)=>xs[((i:Int)+(m:Int)*1).toNat]?)=fun m=>xs[i+m]?:=by
  funext m
  have:((i:Int)+(m:Int)*1).toNat=i+m:=by omega
  rw[this]
 rw[e]
 have:=pick_run xs i k
 rw[List.filterMap_map] at this
 have e2:((fun x=>xs[x]?)∘fun x=>i+x)=fun m=>xs[i+m]?:=rfl
 rw[e2] at this
 rw[this]
theorem zDA{t sl:Addr}{items:Array Value}{vl vu:Value}{lo hi:Option Int}{Q:Value→Shared→Prop}(ht:IsTup s.heap t items)(hs:s.heap.IsSliceOf sl vl vu .none)(pl:IsPart vl lo)(pu:IsPart vu hi)
  (hw:¬ (wM items.size 0 lo=0∧wM items.size items.size hi=items.size))
  (h:Q (.ref s.heap.objs.size) { s with heap:=s.heap.push { cls:=.type "tuple",data:=.seq ((items.toList.drop (wM items.size 0 lo)).take (wM items.size items.size hi-wM items.size 0 lo)).toArray } })
  (hsz:items.size≤sizeLine):wpAny (model prog w) A (getItem (.ref t) (.ref sl)) Q E s:=by
 have htake:sizeOk (.seq ((items.toList.drop (wM items.size 0 lo)).take (wM items.size items.size hi-wM items.size 0 lo)).toArray):=by
  show((items.toList.drop (wM items.size 0 lo)).take (wM items.size items.size hi-wM items.size 0 lo)).toArray.size≤sizeLine
  rw[cj,cK,dF,cD]
  omega
 have hj:wM items.size items.size hi≤items.size:=zQj _ _ (bZ _) hi
 obtain⟨os,hos,hcs,hds⟩:=id hs
 have hTs:s.TypeIs (.ref sl) "slice":=⟨os,hos,hcs⟩
 unfold getItem
 try with_reducible refine cY ?_
 first | refine bI (bS ?_) | skip
 refine bI (wpAny_sequenceKey ht.typeIs (by decide) ?_)
 refine bI (wpAny_callSpecial?_slot (name:=Str.ofString "__getitem__") ht.typeIs PyProof.Rows.slot_tuple_getitem
  (dP PyProof.Rows.slot_tuple_getitem ht.typeIs entry_tuple_getitem ?_ (args_tuple_getitem _ _)))
 show wpAny _ _ (Builtin.Tuple.tupleItemsOf (.ref t)>>=_) _ _ s
 refine bI (tupleItemsOf_ ht ?_)
 refine bI (eS hTs ?_)
 rw[if_pos (by decide)]
 refine bI (zBR hs pl pu ?_)
 have hno:¬ ((((wM items.size 0 lo:Nat):Int)==0&&(1:Int)==1&&(wM items.size items.size hi-wM items.size 0 lo)==items.size)=true):=by
  intro q
  rw[dL,dL] at q
  have q1:((wM items.size 0 lo:Nat):Int)=0:=eq_of_beq q.1.1
  have q2:wM items.size items.size hi-wM items.size 0 lo=items.size:=eq_of_beq q.2
  exact hw ⟨by omega,by omega⟩
 show wpAny _ _ (if (((wM items.size 0 lo:Nat):Int)==0&&(1:Int)==1&&(wM items.size items.size hi-wM items.size 0 lo)==items.size)=true then _ else _) _ _ s
 rw[if_neg hno,zLu]
 first
  | exact bI (m:=Builtin.Tuple.tupleExact _) (df (bS ⟨_,rfl,bS h⟩) htake)
  | exact bI (m:=Builtin.Tuple.tupleExact _) (df (bI (bS (bS ⟨_,rfl,bS h⟩))) htake)
  | exact bI (bI (m:=Builtin.Tuple.tupleExact _) (df (bS (bS ⟨_,rfl,bS h⟩)) htake))
  | exact bI (bI (m:=Builtin.Tuple.tupleExact _) (df (bS ⟨_,rfl,bS h⟩) htake))
end
end HT
namespace L2
noncomputable abbrev TO:=St→Hp→(Option Int→Hp→Prop)→Prop
noncomputable def PO(X:Cx)(e:Option Expr)(t:TO):Prop :=
 ∀(pins:List (Addr×Obj)) (s:Shared) (σ:St) (H:Hp) (Q:Option Int→Hp→Prop),zX X pins σ H s→t σ H Q →
  wpAny (model X.prog X.w) X.A (evalPart e X.env) (fun u s'=>∃ o H',zX X pins σ H' s'∧IsPart u o∧Q o H') X.xe s
noncomputable def zN4:TO:=fun u0 H Q=>Q none H
noncomputable def zR0(t:TE):TO:=fun σ H Q=>t σ H fun x H1=>∃ i,x=.int i∧Q (some i) H1
theorem intsAre_of{ns:List Int}:∀ {us:List Value},za (ns.map V.int) us→IntsAre us ns:=by
 induction ns with
 | nil=>intro us r;rw[fC] at r;cases r;exact .nil
 | cons n ns ih =>
  intro us r
  rw[cM] at r
  cases r with
  | cons r1 r2 =>
   obtain⟨t,e⟩:=r1
   subst e
   exact .cons n t (ih r2)
section
variable {X:Cx} {e:Expr} {te:TE} {lo hi:Option Expr} {tl th:TO} {pos p2:Pos}
theorem zN5:PO X none zN4:=by
 intro pins s σ H Q I h
 rw[evalPart_none]
 exact bS ⟨none,H,I,.none,h⟩
theorem zN6(h:PE X e te):PO X (some e) (zR0 te):=by
 intro pins s σ H Q I hw
 rw[evalPart_some]
 refine yi (h pins s σ H _ I hw) fun u s1 ⟨x,H1,I1,r1,q1⟩=>?_
 obtain⟨i,rfl,q⟩:=q1
 obtain⟨t,rfl⟩:=r1
 exact⟨some i,H1,I1,.int i t,q⟩
noncomputable def SlR(X:Cx)(r:V→Option Int→Option Int→Hp→VK→Prop):Prop :=
 ∀(pins:List (Addr×Obj)) (s:Shared) (σ:St) (H:Hp) (x:V) (v vl vu:Value) (lo hi:Option Int) (sl:Addr) (Q:VK),zX X pins σ H s→RelV x v→s.heap.IsSliceOf sl vl vu .none→IsPart vl lo→IsPart vu hi→r x lo hi H Q →
  ∃ T id,typeLookup (.type T) "__getitem__"=pure (some (.builtin id))∧s.TypeIs v T∧wpAny (model X.prog X.w) X.A (getItem v (.ref sl)) (EP X pins σ Q) X.xe s
theorem SlR.or{r r':V→Option Int→Option Int→Hp→VK→Prop}(h:SlR X r)(h':SlR X r'):SlR X (fun x lo hi H Q=>r x lo hi H Q∨r' x lo hi H Q):=by
 intro pins s σ H x v vl vu lo hi sl Q I rx hs pl pu q
 rcases q with q | q
 ·exact h pins s σ H x v vl vu lo hi sl Q I rx hs pl pu q
 ·exact h' pins s σ H x v vl vu lo hi sl Q I rx hs pl pu q
noncomputable def tSl(r:V→Option Int→Option Int→Hp→VK→Prop)(te:TE)(tl th:TO):TE:=fun σ H Q=>te σ H fun x H1=>tl σ H1 fun l H2=>th σ H2 fun u H3=>r x l u H3 Q
theorem zHd{r:V→Option Int→Option Int→Hp→VK→Prop}(hr:SlR X r)(he:PE X e te)(hl:PO X lo tl)(hu:PO X hi th):PE X (.Subscript e (.Slice lo hi none p2) pos) (tSl r te tl th):=by
 intro pins s σ H Q I h
 refine Subscript_ (yi (he pins s σ H _ I h) fun v s1 ⟨x,H1,I1,r1,q1⟩=>?_)
 refine wpAny_Slice (yi (hl pins s1 σ H1 _ I1 q1) fun vl s2 ⟨l,H2,I2,pl,q2⟩=>yi (hu pins s2 σ H2 _ I2 q2) fun vu s3 ⟨u,H3,I3,pu,q3⟩=>?_)
 rw[evalPart_none]
 refine bS ?_
 have I4:zX X pins σ H3 { s3 with heap:=s3.heap.push { cls:=.type "slice",data:=.fields #[vl,vu,.none] } }:=I3.kept (t':=s3.toks) fun b ob q=>bP _ q
 obtain⟨T,id,hT,ht,hg⟩:=hr pins { s3 with heap:=s3.heap.push { cls:=.type "slice",data:=.fields #[vl,vu,.none] } } σ H3 x v vl vu l u s3.heap.objs.size Q I4 r1 (Heap.IsSliceOf.new ..) pl pu q3
 show wpAny (model X.prog X.w) X.A (subscriptTail e (.Slice lo hi none p2) v (.ref s3.heap.objs.size)) (EP X pins σ Q) X.xe { s3 with heap:=s3.heap.push { cls:=.type "slice",data:=.fields #[vl,vu,.none] } }
 exact tail_any (ops:=[.ref s3.heap.objs.size,v]) ht hT hg (by with_unfolding_all rfl)
noncomputable def zHe(xs:List V)(lo hi:Option Int):List V:=(xs.drop (HT.wM xs.length 0 lo)).take (HT.wM xs.length xs.length hi-HT.wM xs.length 0 lo)
theorem zDz(xs:List V)(lo hi:Option Int):(zHe xs lo hi).length≤xs.length:=by
 unfold zHe
 rw[cK,dF]
 omega
noncomputable def zSr(K:PySem.W.Frag):V→Option Int→Option Int→Hp→VK→Prop:=fun x lo hi H Q=>∃ a xs,x=.ref a∧SqT K H a xs ∧
 ¬ (HT.wM xs.length 0 lo=0∧HT.wM xs.length xs.length hi=xs.length)∧∀ p,H p=none→Q (.ref p) (wj H p (.tup (zHe xs lo hi)))
theorem zQk:SlR X (zSr X.K):=by
 intro pins s σ H x v vl vu lo hi sl Q I rx hs pl pu h
 obtain⟨a,xs,rfl,hx,hw,q⟩:=h
 cases rx
 obtain⟨its,r,ht,hz⟩:=I.tuple hx
 have hlen:its.toArray.size=xs.length:=by rw[cj];exact r.length.symm
 refine⟨"tuple",_,PyProof.Rows.slot_tuple_getitem.lookup,ht.typeIs,?_⟩
 refine HT.zDA ht hs pl pu (by rw[hlen];exact hw) ?_ (by rw[hlen];exact hz)
 rw[hlen]
 refine⟨.ref s.heap.objs.size,_,I.laid (t':=s.toks) (o:=.tup (zHe xs lo hi)) (fun b ob q=>bP _ q) (bZ _) ?_,rfl,q _ (I.hok.fresh (bZ _))⟩
 exact⟨dh (zDz xs lo hi) hz,_,(r.drop (HT.wM xs.length 0 lo)).take (HT.wM xs.length xs.length hi-HT.wM xs.length 0 lo),zEh.new _ _⟩
noncomputable def zPf(K:PySem.W.Frag):R2:=fun x y H Q=>∃ a b xs ys,x=.ref a∧y=.ref b∧SqT K H a xs∧SqT K H b ys∧xs≠[]∧xs.length+ys.length≤sizeLine ∧
 (ys=[]→Q (.ref a) H)∧(ys≠[]→∀ p,H p=none→Q (.ref p) (wj H p (.tup (xs++ys))))
theorem za.nil_iff{xs:List V}{us:List Value}(r:za xs us):us=[]↔xs=[]:=by
 cases r with
 | nil=>simp
 | cons _ _=>simp
theorem zN7:OpR X (binaryOp .Add) (zPf X.K):=by
 intro pins s σ H x y v u Q I rx ry h
 obtain⟨a,b,xs,ys,rfl,rfl,ha,hb,hx,hz,q1,q2⟩:=h
 cases rx
 cases ry
 obtain⟨its,r1,p1,u0⟩:=I.tuple ha
 obtain⟨its2,r2,p2,u0⟩:=I.tuple hb
 refine HT.zN3 p1 p2 (fun z=>hx (r1.nil_iff.mp z)) (fun z=>⟨.ref a,H,I,rfl,q1 (r2.nil_iff.mp z)⟩) (fun z=>?_) (by rw[← r1.length,← r2.length];exact hz)
 refine⟨.ref s.heap.objs.size,_,I.laid (t':=s.toks) (o:=.tup (xs++ys)) (fun b ob q=>bP _ q) (bZ _) ?_,rfl,q2 (fun w=>z (r2.nil_iff.mpr w)) _ (I.hok.fresh (bZ _))⟩
 exact⟨by rw[ci];exact hz,_,r1.append r2,zEh.new _ _⟩
end
noncomputable def ixN(n:Nat)(i:Int):Option Nat:=if 0≤i then (if i<n then some i.toNat else none) else if -(n:Int)≤i then some (i+n).toNat else none
noncomputable def atI{α:Type}(xs:List α)(i:Int):Option α:=(ixN xs.length i).bind fun j=>xs[j]?
theorem zJh{n:Nat}{i:Int}{j:Nat}(h:ixN n i=some j):seqIndex? i n=some j∧j<n∧-(n:Int)≤i∧i<n:=by
 unfold ixN at h
 by_cases h0:0≤i
 ·rw[if_pos h0] at h
  by_cases h1:i<n
  ·rw[if_pos h1] at h
   have e:i.toNat=j:=Option.some.inj h
   exact⟨by rw[seqIndex_of h0 h1,e],by omega,by omega,h1⟩
  ·rw[if_neg h1] at h;cases h
 ·rw[if_neg h0] at h
  by_cases h1:-(n:Int)≤i
  ·rw[if_pos h1] at h
   have e:(i+n).toNat=j:=Option.some.inj h
   exact⟨by rw[seqIndex_neg (by omega) h1,e],by omega,h1,by omega⟩
  ·rw[if_neg h1] at h;cases h
theorem zGf{α:Type}{xs:List α}{i:Int}{v:α}(h:atI xs i=some v):∃ j,seqIndex? i xs.length=some j∧xs[j]?=some v∧j<xs.length∧-(xs.length:Int)≤i∧i<xs.length:=by
 unfold atI at h
 cases e:ixN xs.length i with
 | none=>rw[e] at h;cases h
 | some j =>
  rw[e] at h
  obtain⟨h1,h2,h3,h4⟩:=zJh e
  exact⟨j,h1,h,h2,h3,h4⟩
theorem wS{α:Type}{xs:List α}{j:Nat}{v:α}(h:xs[j]?=some v):atI xs (j:Int)=some v:=by
 have hj:j<xs.length:=(bW.mp h).1
 have e:ixN xs.length (j:Int)=some j:=by
  unfold ixN
  rw[if_pos (by omega),if_pos (by omega)];simp
 unfold atI;rw[e];exact h
noncomputable def zGg(b:Expr):Prop:=∀ o i,subscripted b false o i=operate [o,i] (getItem o i)
noncomputable def IxR(X:Cx)(r:R2):Prop :=
 ∀(value slice:Expr) (pins:List (Addr×Obj)) (s:Shared) (σ:St) (H:Hp) (x y:V) (v u:Value) (Q:VK),zX X pins σ H s→RelV x v→RelV y u→r x y H Q →
  subscripted slice false v u=operate [v,u] (getItem v u)→wpAny (model X.prog X.w) X.A (subscriptTail value slice v u) (EP X pins σ Q) X.xe s
noncomputable def MtR(X:Cx)(id:String)(r:V→List V→Hp→VK→Prop):Prop :=
 ∀(pins:List (Addr×Obj)) (s:Shared) (σ:St) (H:Hp) (x:V) (xs:List V) (v:Value) (us:List Value) (Q:VK),zX X pins σ H s→RelV x v→za xs us→r x xs H Q →
  wpAny (model X.prog X.w) X.A (call (.builtin id) (v::us)) (EP X pins σ Q) X.xe s
section
variable {X:Cx} {a b:Expr} {ta tb:TE} {pos:Pos}
theorem IxR.or{r r':R2}(h:IxR X r)(h':IxR X r'):IxR X (fun x y H Q=>r x y H Q∨r' x y H Q):=by
 intro value slice pins s σ H x y v u Q I rx ry q hs
 rcases q with q | q
 ·exact h value slice pins s σ H x y v u Q I rx ry q hs
 ·exact h' value slice pins s σ H x y v u Q I rx ry q hs
theorem MtR.or{id:String}{r r':V→List V→Hp→VK→Prop}(h:MtR X id r)(h':MtR X id r'):MtR X id (fun x xs H Q=>r x xs H Q∨r' x xs H Q):=by
 intro pins s σ H x xs v us Q I rx rs q
 rcases q with q | q
 ·exact h pins s σ H x xs v us Q I rx rs q
 ·exact h' pins s σ H x xs v us Q I rx rs q
theorem zPg{r:R2}(hr:IxR X r)(ha:PE X a ta)(hb:PE X b tb)(hs:zGg b):PE X (.Subscript a b pos) (tOp r ta tb):=by
 intro pins s σ H Q I h
 exact Subscript_ (zQV ha hb I h fun v u s2 x y H2 I2 rx ry q=>hr a b pins s2 σ H2 x y v u Q I2 rx ry q (hs _ _))
noncomputable def zR1(K:PySem.W.Frag):R2:=fun x y H Q=>∃ p xs i v,x=.ref p∧y=.int i∧SqL K H p xs∧atI xs i=some v∧Q v H
noncomputable def zR2(K:PySem.W.Frag):R2:=fun x y H Q=>∃ p xs i v,x=.ref p∧y=.int i∧SqT K H p xs∧atI xs i=some v∧Q v H
noncomputable def zR3:R2:=fun x y H Q=>∃ z i c,x=.str z∧y=.int i∧z.length≤sizeLine∧atI z.cps.toList i=some c∧Q (.str ⟨#[c]⟩) H
theorem zN8:IxR X (zR1 X.K):=by
 intro value slice pins s σ H x y v u Q I rx ry h hs
 obtain⟨p,xs,i,z,rfl,rfl,hq,he,q⟩:=h
 cases rx
 obtain⟨t,rfl⟩:=ry
 obtain⟨its,r,pl,hz⟩:=I.list hq
 obtain⟨j,h1,h2,h3,h4,h5⟩:=zGf he
 obtain⟨w,ew,rw'⟩:=r.get h2
 have hl:=r.length
 have hn:=zEk
 have fin:EP X pins σ Q w s:=⟨z,H,I,rw',q⟩
 by_cases h0:0≤i
 ·have hj:i.toNat=j:=by
   rw[seqIndex_of h0 h5] at h1
   exact Option.some.inj h1
  exact item_listR pl.isList h0 (by omega) (by rw[hj];simpa using ew) fin hs
 ·have hj:(i+(its.toArray.size:Int)).toNat=j:=by
   rw[seqIndex_neg (by omega) h4] at h1
   rw[cj,← hl]
   exact Option.some.inj h1
  exact subscriptTail_builtinR (x:=w) pl.isList.typeIs slot_list_getitem.lookup
   (wpAny_getItem_list_neg (Q:=fun r s'=>r=w∧EP X pins σ Q r s') pl.isList (by omega) (by rw[cj]<;>omega) (by omega) (by rw[hj];simpa using ew) ⟨rfl,fin⟩) hs
theorem zQl:IxR X (zR2 X.K):=by
 intro value slice pins s σ H x y v u Q I rx ry h hs
 obtain⟨p,xs,i,z,rfl,rfl,hq,he,q⟩:=h
 cases rx
 obtain⟨t,rfl⟩:=ry
 obtain⟨its,r,pl,hz⟩:=I.tuple hq
 obtain⟨j,h1,h2,h3,h4,h5⟩:=zGf he
 obtain⟨w,ew,rw'⟩:=r.get h2
 have hl:=r.length
 have hn:=zEk
 have fin:EP X pins σ Q w s:=⟨z,H,I,rw',q⟩
 exact subscriptTail_builtinR (x:=w) pl.typeIs slot_tuple_getitem.lookup
  (getItem_tuple (j:=j) (Q:=fun r s'=>r=w∧EP X pins σ Q r s') pl (by omega) (by omega) (by rw[cj,← hl];exact h1) (by simpa using ew) ⟨rfl,fin⟩) hs
theorem zQm:IxR X zR3:=by
 intro value slice pins s σ H x y v u Q I rx ry h hs
 obtain⟨z,i,c,rfl,rfl,hz,he,q⟩:=h
 obtain⟨t,rfl⟩:=rx
 obtain⟨t',rfl⟩:=ry
 obtain⟨j,h1,h2,h3,h4,h5⟩:=zGf he
 have hl:z.cps.toList.length=z.length:=by simp[Str.length]
 rw[hl] at h1 h4 h5
 have hn:=zEk
 exact tail_any (typeIs_str s z t) slot_str_getitem.lookup (getItem_str (c:=c) (by
  have e1:decide (i < -(2 ^ 63:Int))=false:=decide_eq_false (by omega)
  have e2:decide (i≥2 ^ 63)=false:=decide_eq_false (by omega)
  rw[e1,e2,Bool.or_false]) (by rw[h1];simpa using h2) ⟨.str ⟨#[c]⟩,H,I.tok _,⟨_,rfl⟩,q⟩) hs
theorem zIs(its:List Value)(n j:Nat)(u:Value):Obj.mapSeq (·.setIfInBounds j u) { cls:=.type "list",data:=.seq its.toArray n }={ cls:=.type "list",data:=.seq (its.set j u).toArray n }:=by
 simp[Obj.mapSeq]
theorem zX.lst{pins:List (Addr×Obj)}{σ:St}{H:Hp}{s:Shared}{p:Addr}{xs:List V}(I:zX X pins σ H s)(h:H p=some (.lst xs)) :
  ∃(its:List Value) (n:Nat),za xs its∧s.heap.get? p=some { cls:=.type "list",data:=.seq its.toArray n }∧xs.length≤sizeLine:=by
 obtain⟨z,its,n,r,e⟩:=I.hok p _ h
 exact⟨its,n,r,e,z⟩
theorem zX.lstUpd{pins:List (Addr×Obj)}{σ:St}{H:Hp}{s:Shared}{p:Addr}{xs ys:List V}{its its':List Value}{n n':Nat}{f:Obj→Obj}(I:zX X pins σ H s)(h:H p=some (.lst xs))
  (ho:s.heap.get? p=some { cls:=.type "list",data:=.seq its.toArray n }) (hf:f { cls:=.type "list",data:=.seq its.toArray n }={ cls:=.type "list",data:=.seq its'.toArray n' }) (r:za ys its') (hz:ys.length≤sizeLine) (t:Nat) :
  zX X pins σ (wj H p (.lst ys)) { s with heap:=s.heap.update p f,toks:=t }:=by
 have e:(s.heap.update p f).get? p=some { cls:=.type "list",data:=.seq its'.toArray n' }:=by
  rw[eC f ho (by rw[hf]<;>rfl),hf]
 refine I.write (x:=p) (e:=p) (by rw[h];trivial) (.inl rfl) (fun b u hb q=>(dC _ _ (Ne.symm hb)).trans q) ⟨_,e⟩ ?_
 exact⟨hz,its',n',r,e⟩
noncomputable def zR4:V→V→V→Hp→(Hp→Prop)→Prop:=fun o i v H Q=>∃ p xs k j,o=.ref p∧i=.int k∧H p=some (.lst xs)∧ixN xs.length k=some j∧Q (wj H p (.lst (xs.set j v)))
theorem set_list:zRp X zR4:=by
 intro pins s σ H o i v ov iv u Q I ro ri rv h
 obtain⟨p,xs,k,j,rfl,rfl,hp,hj,q⟩:=h
 cases ro
 obtain⟨t,rfl⟩:=ri
 obtain⟨its,n,r,ho,hz⟩:=I.lst hp
 obtain⟨h1,h2,h3,h4⟩:=zJh hj
 have hl:=r.length
 have hn:=zEk
 have I':zX X pins σ (wj H p (.lst (xs.set j v))) { s with heap:=s.heap.update p (Obj.mapSeq (·.setIfInBounds j u)) } :=
  I.lstUpd hp ho (zIs its n j u) (r.set rv j) (by rw[List.length_set];exact hz) s.toks
 by_cases h0:0≤k
 ·have hk:k.toNat=j:=by
   rw[seqIndex_of h0 h4] at h1
   exact Option.some.inj h1
  exact PySem.W.ki_setAt ho h0 (by omega) (by rw[cj,← hl];exact h4) (by rw[hk];exact⟨_,I',q⟩)
 ·have hk:(k+(its.toArray.size:Int)).toNat=j:=by
   rw[seqIndex_neg (by omega) h3] at h1
   rw[cj,← hl]
   exact Option.some.inj h1
  exact PySem.W.ki_setBack ho (by omega) (by rw[cj,← hl];exact h3) (by omega) (by rw[hk];exact⟨_,I',q⟩)
theorem zGh(lo hi:Option Int)(n:Nat):(sliceBounds lo hi none n).1=((HT.wM n 0 lo:Nat):Int)∧(sliceBounds lo hi none n).2.1=((HT.wM n n hi:Nat):Int)∧(sliceBounds lo hi none n).2.2=1:=by
 refine⟨?_,?_,rfl⟩
 ·cases lo with
  | none=>simp[sliceBounds,HT.wM]
  | some i =>
   simp only[sliceBounds,HT.wM,Option.getD_none,show(1:Int)>0 by decide,if_true]
   by_cases h:i<0
   ·simp only[h,if_true]<;>omega
   ·simp only[h,if_false]<;>omega
 ·cases hi with
  | none=>simp[sliceBounds,HT.wM]
  | some i =>
   simp only[sliceBounds,HT.wM,Option.getD_none,show(1:Int)>0 by decide,if_true]
   by_cases h:i<0
   ·simp only[h,if_true]<;>omega
   ·simp only[h,if_false]<;>omega
theorem zFc(its:List Value)(lo hi:Option Int):slicePick its.toArray lo hi none=((its.drop (HT.wM its.length 0 lo)).take (HT.wM its.length its.length hi-HT.wM its.length 0 lo)).toArray:=by
 obtain⟨h1,h2,h3⟩:=zGh lo hi its.toArray.size
 unfold slicePick
 rw[h1,h2,h3]
 simp only[sliceRange_one,pick_run,cj]<;>rfl
noncomputable def zSs(K:PySem.W.Frag):V→Option Int→Option Int→Hp→VK→Prop:=fun x lo hi H Q=>∃ a xs,x=.ref a∧SqL K H a xs∧∀ p,H p=none→Q (.ref p) (wj H p (.lst (zHe xs lo hi)))
theorem zN9:SlR X (zSs X.K):=by
 intro pins s σ H x v vl vu lo hi sl Q I rx hs pl pu h
 obtain⟨a,xs,rfl,hx,q⟩:=h
 cases rx
 obtain⟨its,r,ht,hz⟩:=I.list hx
 have hlen:=r.length
 refine⟨"list",_,slot_list_getitem.lookup,ht.isList.typeIs,?_⟩
 refine wpAny_getItem_list_slice ht.isList hs pl pu .none (by simp) ?_ (by rw[cj]<;>omega)
 rw[zFc,← hlen]
 refine⟨.ref s.heap.objs.size,_,I.laid (t':=s.toks) (o:=.lst (zHe xs lo hi)) (fun b ob q=>bP _ q) (bZ _) ?_,rfl,q _ (I.hok.fresh (bZ _))⟩
 exact⟨dh (zDz xs lo hi) hz,_,0,(r.drop (HT.wM xs.length 0 lo)).take (HT.wM xs.length xs.length hi-HT.wM xs.length 0 lo),cb _ rfl⟩
noncomputable def zJi:V→Bool
 | .non=>true
 | .bl _=>true
 | .int _=>true
 | .str _=>true
 | _=>false
noncomputable def eqV:V→V→Bool
 | .non,.non=>true
 | .bl a,.bl b=>a==b
 | .bl a,.int b=>(if a then 1 else 0)==b
 | .int a,.bl b=>a==(if b then 1 else 0)
 | .int a,.int b=>a==b
 | .str a,.str b=>a==b
 | _,_=>false
theorem zLv{A:Around}{s:Shared}{y x:V}{u v:Value}(ry:RelV y u)(rx:RelV x v)(fy:zJi y=true)(fx:zJi x=true):SeqAt.EqAt A s u v (eqV y x):=by
 cases y with
 | non =>
  cases ry
  cases x with
  | non=>cases rx;exact SeqAt.EqAt.same _
  | bl b=>cases rx;exact SeqAt.EqAt.none_bool b
  | int b=>obtain⟨t,rfl⟩:=rx;exact SeqAt.EqAt.none_int b t
  | str b=>obtain⟨t,rfl⟩:=rx;exact SeqAt.EqAt.none_str b t
  | _=>exact absurd (show false=true from fx) dD
 | bl a =>
  cases ry
  cases x with
  | non=>cases rx;exact SeqAt.EqAt.bool_none a
  | bl b=>cases rx;exact SeqAt.EqAt.bool_bool a b
  | int b=>obtain⟨t,rfl⟩:=rx;exact SeqAt.EqAt.bool_int a b t
  | str b=>obtain⟨t,rfl⟩:=rx;exact SeqAt.EqAt.bool_str a b t
  | _=>exact absurd (show false=true from fx) dD
 | int a =>
  obtain⟨t',rfl⟩:=ry
  cases x with
  | non=>cases rx;exact SeqAt.EqAt.int_none a t'
  | bl b=>cases rx;exact SeqAt.EqAt.int_bool a t' b
  | int b=>obtain⟨t,rfl⟩:=rx;exact SeqAt.EqAt.int_int a t' b t
  | str b=>obtain⟨t,rfl⟩:=rx;exact SeqAt.EqAt.int_str a t' b t
  | _=>exact absurd (show false=true from fx) dD
 | str a =>
  obtain⟨t',rfl⟩:=ry
  cases x with
  | non=>cases rx;exact SeqAt.EqAt.str_none a t'
  | bl b=>cases rx;exact SeqAt.EqAt.str_bool a t' b
  | int b=>obtain⟨t,rfl⟩:=rx;exact SeqAt.EqAt.str_int a t' b t
  | str b=>obtain⟨t,rfl⟩:=rx;exact SeqAt.EqAt.str_str a t' b t
  | _=>exact absurd (show false=true from fx) dD
 | _=>exact absurd (show false=true from fy) dD
theorem zGi:yg X (.builtin "len") (fun xs H Q=>∃ p ys,xs=[.ref p]∧(SqL X.K H p ys∨SqT X.K H p ys)∧Q (.int ys.length) H):=by
 intro pins s σ H xs us Q I r h
 obtain⟨p,ys,rfl,hq,q⟩:=h
 obtain⟨u,rfl,rx⟩:=vals1 r
 cases rx
 have hn:=zEk
 rcases hq with hq | hq
 ·obtain⟨its,r',pl,hz⟩:=I.list hq
  have hlen:=r'.length
  exact Calls.call_len_list pl.isList (by simp only[cj]<;>omega) ⟨.int ys.length,H,I.tok _,⟨s.toks+1,by rw[cj,hlen]⟩,q⟩
 ·obtain⟨its,r',pl,hz⟩:=I.tuple hq
  have hlen:=r'.length
  exact len_tuple pl (by simp only[cj]<;>omega) ⟨.int ys.length,H,I.tok _,⟨s.toks+1,by rw[cj,hlen]⟩,q⟩
theorem yg.or{f:Value}{r r':List V→Hp→VK→Prop}(h:yg X f r)(h':yg X f r'):yg X f (fun xs H Q=>r xs H Q∨r' xs H Q):=by
 intro pins s σ H xs us Q I rs q
 rcases q with q | q
 ·exact h pins s σ H xs us Q I rs q
 ·exact h' pins s σ H xs us Q I rs q
theorem zCg:yg X (.type "tuple") (fun xs H Q=>∃ p ys,xs=[.ref p]∧((SqL X.K H p ys∧∀ l,H l=none→Q (.ref l) (wj H l (.tup ys)))∨(SqT X.K H p ys∧Q (.ref p) H))):=by
 intro pins s σ H xs us Q I r h
 obtain⟨p,ys,rfl,h⟩:=h
 obtain⟨u,rfl,rx⟩:=vals1 r
 cases rx
 rcases h with ⟨hq,q⟩ | ⟨hq,q⟩
 ·obtain⟨its,r',pl,hz⟩:=I.list hq
  have hlen:=r'.length
  refine call_tuple_list pl.isList (fun h' kp=>?_) (by simp only[cj]<;>omega)
  have I1:zX X pins σ H { s with heap:=h' }:=I.kept (t':=s.toks) kp
  have I2:zX X pins σ (wj H h'.objs.size (.tup ys)) { s with heap:=h'.push { cls:=.type "tuple",data:=.seq its.toArray } } :=
   I1.laid (t':=s.toks) (fun b o e=>bP _ e) (bZ _) (show wZ X.prog X.w _ _ _ (.tup ys) from⟨hz,its,r',zEh.new _ _⟩)
  exact⟨.ref h'.objs.size,_,I2,rfl,q _ (I1.hok.fresh (bZ _))⟩
 ·obtain⟨its,r',pl,hz⟩:=I.tuple hq
  exact call_tuple_same pl ⟨.ref p,H,I,rfl,q⟩
noncomputable def tyV(K:PySem.W.Frag)(T:String)(x:V)(H:Hp):Prop:=match x with
 | .str _=>T="str"
 | .int _=>T="int"
 | .ref p=>(T="list"∧∃ xs,SqL K H p xs)∨(T="tuple"∧∃ xs,SqT K H p xs) ∨
   (T="dict"∧((∃ kvs,H p=some (.dK kvs))∨∃ kvs,H p=some (.dT kvs)))∨(T="set"∧∃ S n,H p=some (.set S n))
 | _=>False
theorem zLw{pins:List (Addr×Obj)}{σ:St}{H:Hp}{s:Shared}{T:String}{x:V}{v:Value}(I:zX X pins σ H s)(r:RelV x v)(ty:tyV X.K T x H) :
  s.TypeIs v T∧∀ a,v=.ref a→∃ ob,s.heap.get? a=some ob∧ob.dict=none:=by
 cases x with
 | str z =>
  obtain⟨t,rfl⟩:=r
  cases (show T="str" from ty)
  exact⟨typeIs_str s z t,fun u0 e=>nomatch e⟩
 | int i =>
  obtain⟨t,rfl⟩:=r
  cases (show T="int" from ty)
  exact⟨typeIs_int s i t,fun u0 e=>nomatch e⟩
 | ref p =>
  cases r
  rcases ty with ⟨rfl,xs,hq⟩ | ⟨rfl,xs,hq⟩ | ⟨rfl,hk⟩ | ⟨rfl,S,n,hk⟩
  ·obtain⟨its,u0,pl,u0⟩:=I.list hq
   refine⟨pl.isList.typeIs,fun a e=>?_⟩
   cases e
   obtain⟨o,n,e,c,hd,u0⟩:=pl
   exact⟨o,e,hd⟩
  ·obtain⟨h1,o,h2,h3⟩:=I.noDict hq
   refine⟨h1,fun a e=>?_⟩
   cases e
   exact⟨o,h2,h3⟩
  ·have z:∃ o,s.heap.get? p=some o∧o.ExactDict:=by
    rcases hk with ⟨kvs,hk⟩ | ⟨kvs,hk⟩
    ·obtain⟨u0,u0,u0,u0,o,u0,u0,e,ex,u0⟩:=I.hok p _ hk
     exact⟨o,e,ex⟩
    ·obtain⟨u0,u0,u0,u0,o,u0,u0,e,ex,u0⟩:=I.hok p _ hk
     exact⟨o,e,ex⟩
   obtain⟨o,e,ex⟩:=z
   refine⟨⟨o,e,ex.1⟩,fun a e2=>?_⟩
   cases e2
   exact⟨o,e,ex.2.1⟩
  ·obtain⟨o,u0,u0,u0,e,ex,u0⟩:=I.hok p _ hk
   refine⟨⟨o,e,ex.1⟩,fun a e2=>?_⟩
   cases e2
   exact⟨o,e,ex.2.1⟩
 | _=>exact False.elim ty
noncomputable def tBM(K:PySem.W.Frag)(T:String)(r:V→List V→Hp→VK→Prop)(to:TE)(t:TA):TE:=fun σ H Q=>to σ H fun x H1=>tyV K T x H1∧t σ H1 fun xs H2=>r x xs H2 Q
variable {o e:Expr} {es:List Expr} {to:TE} {t:TA} {name:Str} {apos cpos:Pos} {T id:String} {r:V→List V→Hp→VK→Prop}
theorem zJj(pa:PlainAttrs T)(slot:Slot T name id)(hty:typeOf (.builtin id)=pure (.type "method_descriptor"))(hm:MtR X id r)(ho:PE X o to)(ha:PA X (e::es) t)
  (hbase:attributeBase o name X.env (eval o X.env)=eval o X.env:=by rfl)
  (hfew:((backTo cpos (starEach (e::es) X.env)).all (fun x=>!x.1)&&(backToKw cpos (keywordEach [] X.env)).all (fun x=>x.1.isSome)
   && decide ((e::es).length+([]:List Keyword).length+(if ([]:List Keyword).isEmpty then 0 else 1)<30))=true:=by rfl)
  (hline:(apos.endLine==cpos.line)=true:=by rfl) (hs:starEach (e::es) X.env=(false,eval e X.env)::starEach es X.env:=by rfl) (hplain:(backTo cpos (starEach es X.env)).any (·.1)=false:=by rfl) :
  PE X (.Call (.Attribute o name apos) (e::es) [] cpos) (tBM X.K T r to t):=by
 intro pins s σ H Q I h
 refine wpAny_Call_method_late hbase hfew hline rfl (yi (ho pins s σ H _ I h) fun v s1 ⟨x,H1,I1,r1,ty,q1⟩=>?_)
 obtain⟨h1,h2⟩:=zLw I1 r1 ty
 refine⟨T,id,pa,slot,hty,h1,h2,?_⟩
 have hA:=ha cpos pins s1 σ H1 _ I1 q1
 rw[hs] at hA ⊢
 refine Calls.callWith_builtin (by show(false||(backTo cpos (starEach es X.env)).any (·.1))=false;rw[hplain]<;>rfl) (Calls.evalArgs_plain ?_)
 exact yi hA fun us s2 ⟨vs,H2,I2,r2,q2⟩=>hm pins s2 σ H2 x vs v us Q I2 r1 r2 q2
end
noncomputable def MtM(X:Cx)(id:String)(r:V→List V→Hp→VK→Prop):Prop :=
 ∀(pins:List (Addr×Obj)) (s:Shared) (σ:St) (H:Hp) (x:V) (xs:List V) (v:Value) (us:List Value) (Q:VK),zX X pins σ H s→RelV x v→za xs us→r x xs H Q →
  wpAny (model X.prog X.w) X.A (call (.builtin id) (v::us)) (EP X pins σ Q) X.xe s
theorem za.one:∀ {x:V} {us:List Value},za [x] us→∃ u,us=[u]∧RelV x u
 | _,_,.cons r .nil=>⟨_,rfl,r⟩
theorem za.zero:∀ {us:List Value},za [] us→us=[]
 | _,.nil=>rfl
theorem za.eraseIdx:∀ {xs:List V} {us:List Value} (i:Nat),za xs us→za (xs.eraseIdx i) (us.eraseIdx i)
 | _,_,_,.nil=>.nil
 | _,_,0,.cons _ t=>t
 | _,_,i+1,.cons r t=>.cons r (za.eraseIdx i t)
theorem za.reverse{xs:List V}{us:List Value}(h:za xs us):za xs.reverse us.reverse:=by
 induction h with
 | nil=>exact .nil
 | cons r t ih=>rw[eK,eK];exact za.append ih (.cons r .nil)
theorem za.rep{xs:List V}{us:List Value}(h:za xs us):∀ k:Nat,za (cq k xs).flatten (cq k us).flatten
 | 0=>.nil
 | k+1=>by
  rw[bM,bM,el,el]
  exact za.append h (za.rep h k)
theorem zFs{α:Type}:∀(l:List α) (i:Nat),(l.eraseIdx i).length≤l.length
 | [],_=>bZ _
 | _::_,0=>eE _
 | _::r,i+1=>Nat.succ_le_succ (zFs r i)
theorem foldl_rep(its:List Value):∀(k:Nat) (acc:List Value),
  List.foldl (fun x1 x2=>x1++x2) acc.toArray (cq k its.toArray)=(acc++(cq k its).flatten).toArray
 | 0,acc=>by simp
 | k+1,acc=>by
  have e:acc.toArray++its.toArray=(acc++its).toArray:=by simp
  have e2:(acc++its)++(cq k its).flatten=acc++(cq (k+1) its).flatten:=by
   rw[bM,el,dg]
  rw[← e2,← foldl_rep its k (acc++its),← e,bM,List.foldl_cons]
section
variable {X:Cx} {pins:List (Addr×Obj)} {σ:St} {H:Hp} {s:Shared} {l b:Addr} {xs ys zs:List V}
theorem zX.lset{its its':List Value}{n:Nat}{f:Array Value→Array Value}{t':Nat}(I:zX X pins σ H s)(hH:H l=some (.lst xs))
  (e:s.heap.get? l=some { cls:=.type "list",data:=.seq its.toArray n }) (hf:f its.toArray=its'.toArray) (hv:za ys its') (hz:ys.length≤sizeLine) :
  zX X pins σ (wj H l (.lst ys)) { s with heap:=s.heap.update l (Obj.mapSeq f),toks:=t' }:=by
 have q:=PySem.IsL.update e f
 rw[hf] at q
 refine I.write (x:=l) (e:=l) (by rw[hH];exact trivial) (.inl rfl) (fun b' u hb hu=>(dC s.heap (Obj.mapSeq f) (Ne.symm hb)).trans hu) ⟨_,q⟩ ?_
 exact⟨hz,its',_,hv,q⟩
theorem zX.lnew{its:List Value}{t':Nat}(I:zX X pins σ H s)(hv:za ys its)(hz:ys.length≤sizeLine) :
  zX X pins σ (wj H s.heap.objs.size (.lst ys)) { s with heap:=s.heap.push { cls:=.type "list",data:=.seq its.toArray },toks:=t' } :=
 I.laid (fun u0 u0 q=>bP _ q) (bZ _) ⟨hz,its,0,hv,cb _ rfl⟩
theorem zX.fresh(I:zX X pins σ H s):H s.heap.objs.size=none:=I.hok.fresh (bZ _)
theorem zX.lstM(I:zX X pins σ H s)(hH:H l=some (.lst xs)):xs.length≤sizeLine∧∃(its:List Value) (n:Nat),za xs its∧xs.length=its.length∧s.heap.get? l=some { cls:=.type "list",data:=.seq its.toArray n }:=by
 obtain⟨z,its,n,r,e⟩:=I.hok l _ hH
 exact⟨z,its,n,r,r.length,e⟩
theorem zHf{n:Nat}(h:n≤sizeLine):Builtin.List.listTooLong n=false:=by
 unfold Builtin.List.listTooLong
 exact decide_eq_false (by omega)
end
section
variable {X:Cx}
noncomputable def zOA:V→List V→Hp→VK→Prop:=fun x vs H Q=>∃ l xs y,x=.ref l∧vs=[y]∧H l=some (.lst xs)∧xs.length<sizeLine∧Q .non (wj H l (.lst (xs++[y])))
theorem zFt:MtM X "list.append" zOA:=by
 intro pins s σ H x vs v us Q I rx rv h
 obtain⟨l,xs,y,rfl,rfl,hH,hz,q⟩:=h
 cases rx
 obtain⟨u,rfl,ru⟩:=rv.one
 obtain⟨z,its,n,r,hl,e⟩:=I.lstM hH
 refine call_meets F.slot_list_append ⟨_,e,rfl⟩ F.entry_list_append (F.args_list_append_2 _ _) (PySem.list_append l its.toArray n u (by rw[cj];omega)) ⟨e,?_⟩
 refine⟨.non,_,I.lset (its':=its++[u]) hH e (by simp) (r.append (.cons ru .nil)) ?_,rfl,q⟩
 rw[ci,List.length_singleton]
 omega
noncomputable def zOB:V→List V→Hp→VK→Prop:=fun x vs H Q=>∃ l b xs zs,x=.ref l∧vs=[.ref b]∧H l=some (.lst xs)∧H b=some (.lst zs)∧xs.length+zs.length≤sizeLine∧Q .non (wj H l (.lst (xs++zs)))
theorem zKZ:MtM X "list.extend" zOB:=by
 intro pins s σ H x vs v us Q I rx rv h
 obtain⟨l,b,xs,zs,rfl,rfl,hH,hB,hz,q⟩:=h
 cases rx
 obtain⟨u,rfl,ru⟩:=rv.one
 cases ru
 obtain⟨z,its,n,r,hl,e⟩:=I.lstM hH
 obtain⟨z2,its2,n2,r2,hl2,e2⟩:=I.lstM hB
 have hsz:its.toArray.size+its2.toArray.size≤sizeLine:=by rw[cj,cj];omega
 have hlong:¬ (!its.toArray.isEmpty&&Builtin.List.listTooLong (its.toArray.size+its2.toArray.size))=true:=by
  rw[zHf hsz,Bool.and_false]
  exact dD
 refine call_meets F.slot_list_extend ⟨_,e,rfl⟩ F.entry_list_extend (F.args_list_extend_2 _ _)
  (AutoSeq1.list_extend_list_list_0 l its.toArray n b its2.toArray n2 hlong (by rw[cj];omega) (by omega)) ⟨e,e2,?_⟩
 refine⟨.non,_,I.lset (its':=its++its2) hH e (by simp) (r.append r2) ?_,rfl,q⟩
 rw[ci]
 omega
noncomputable def zQn:V→List V→Hp→VK→Prop:=fun x vs H Q=>∃ l xs i k y,x=.ref l∧vs=[.int i]∧H l=some (.lst xs)∧-(2 ^ 63)≤i∧i<2 ^ 63∧seqIndex? i xs.length=some k∧xs[k]?=some y∧Q y (wj H l (.lst (xs.eraseIdx k)))
theorem zLx:MtM X "list.pop" zQn:=by
 intro pins s σ H x vs v us Q I rx rv h
 obtain⟨l,xs,i,k,y,rfl,rfl,hH,h1,h2,hk,hy,q⟩:=h
 cases rx
 obtain⟨u,rfl,ru⟩:=rv.one
 obtain⟨t,rfl⟩:=ru
 obtain⟨z,its,n,r,hl,e⟩:=I.lstM hH
 obtain⟨w,hw,rw'⟩:=r.get hy
 refine call_meets F.slot_list_pop ⟨_,e,rfl⟩ F.entry_list_pop (F.args_list_pop_2 _ _)
  (MeetsSeq.list_pop_at l its.toArray n i t k w (fitsIndex_both h1 h2) (by rw[cj,← hl];exact hk) (by rw[← Array.getElem?_toList];exact hw) (by rw[cj];omega)) ⟨e,?_⟩
 refine⟨y,_,I.lset (its':=its.eraseIdx k) hH e ?_ (r.eraseIdx k) ?_,rw',q⟩
 ·show its.toArray.eraseIdxIfInBounds k=(its.eraseIdx k).toArray
  rw[List.eraseIdxIfInBounds_toArray]
 ·have:=zFs xs k
  omega
noncomputable def zSt:R2:=fun x y H Q=>∃ l k xs,x=.ref l∧y=.int k∧H l=some (.lst xs)∧-(2 ^ 63)≤k∧k<2 ^ 63∧xs.length*k.toNat≤sizeLine ∧
 ∀ p,H p=none→Q (.ref p) (wj H p (.lst (cq k.toNat xs).flatten))
theorem len_rep{α:Type}(xs:List α)(k:Nat):(cq k xs).flatten.length=k*xs.length:=by
 induction k with
 | zero=>simp
 | succ k ih=>rw[bM,el,ci,ih,Nat.succ_mul,Nat.add_comm]
theorem zQo:OpR X (binaryOp .Mult) zSt:=by
 intro pins s σ H x y v u Q I rx ry h
 obtain⟨l,k,xs,rfl,rfl,hH,h1,h2,hz,q⟩:=h
 cases rx
 obtain⟨t,rfl⟩:=ry
 obtain⟨z,its,n,r,hl,e⟩:=I.lstM hH
 have hlen:its.toArray.size*k.toNat≤sizeLine:=by rw[cj,← hl];exact hz
 have hcap:¬ its.toArray.size*k.toNat>(2 ^ 63-1) / 8:=by
  have:(sizeLine:Nat)≤(2 ^ 63-1) / 8:=by decide
  omega
 have hfit:¬ (!Builtin.List.listFitsIndex k)=true:=by
  rw[fitsIndex_both h1 h2]
  exact dD
 have hlong:¬ Builtin.List.listTooLong (its.toArray.size*k.toNat)=true:=by
  rw[zHf hlen]
  exact dD
 have hnew:List.foldl (fun x1 x2=>x1++x2) #[] (cq (if its.toArray.isEmpty=true then 0 else k.toNat) its.toArray)=(cq k.toNat its).flatten.toArray:=by
  have f0:∀ m:Nat,List.foldl (fun x1 x2=>x1++x2) #[] (cq m its.toArray)=(cq m its).flatten.toArray:=fun m=>by
   have:=foldl_rep its m []
   rw[bV] at this
   exact this
  rw[f0]
  cases its with
  | nil=>simp
  | cons a r'=>rw[if_neg (by simp)]
 refine wpAny_binaryOp_repeat_ref (T:="list") (U:="int") (by decide) ⟨_,e,rfl⟩ (fun s'=>typeIs_int s' k t) noFill_list_mul F.fills_int_mul F.slot_int_rmul repeat_list F.slot_int_index.lookup
  (call_meets F.slot_int_rmul (typeIs_int s k t) F.entry_int_rmul (F.args_int_rmul_2 _ _) (int___rmul___int_list k t l its.toArray n)
   ⟨e,rfl,⟨_,e,rfl⟩,call_meets F.slot_list_mul ⟨_,e,rfl⟩ F.entry_list_mul (F.args_list_mul_2 _ _) (AutoListH.list___mul___list_int_3 l its.toArray n k t hfit hcap hlong) ⟨e,?_⟩⟩)
 rw[hnew]
 exact⟨.ref _,_,I.lnew (t':=s.toks) (r.rep k.toNat) (by rw[len_rep,Nat.mul_comm];exact hz),rfl,q _ I.fresh⟩
end
section
variable {prog:Program} {w:World} {A:Around} {E:Value→Shared→Prop} {s:Shared}
end
section
variable {X:Cx}
end
end L2
namespace Att
open PySem PySem.W PySem.Calls PyProof.Rows
theorem zEE{P:Params}{h:Heap}:∀(ns:List Int) (vs:List Value),WellAll P h vs (ns.map WData.int)→IntsAre vs ns:=by
 intro ns
 induction ns with
 | nil =>
  intro vs w
  rw[fC] at w
  cases w
  exact .nil
 | cons n ns ih =>
  intro vs w
  rw[cM] at w
  cases w with
  | cons a b =>
   cases a
   exact .cons _ _ (ih _ b)
theorem zKa{l:OpenLaw}{n:Nat}(hn:l.most=some n){P:Params}{h:Heap}{args:List WData}{vals:List Value}
  (hpre:l.row.toRowW.claim.pre args=true) (hwl:WellAll P h vals args) :
  ∃ a vs ns,vals=[Value.ref a]∧args=[WData.list (ns.map WData.int)]∧h.get? a=some { cls:=.type "list",data:=.seq vs.toArray }∧IntsAre vs ns∧ns.length≤n:=by
 have hsh:WShape.hasAll [] args [.list .int]=true:=(pre_splitW hpre).1
 have hc:l.pre.holds [] { args:=args }=true:=(pre_splitW hpre).2
 obtain⟨d,r,rfl,h1,h2⟩:=hasAllW_cons hsh
 obtain rfl:=hasAllW_nil h2
 obtain⟨xs,rfl,h3⟩:=hasW_list h1
 obtain⟨ns,rfl⟩:=items_int h3
 have hlen:ns.length≤n:=by
  unfold OpenLaw.pre at hc
  have h4:(WTm.not (.lt (.lit (.int (n:Int))) (.len (.arg 0)))).holds [] { args:=[.list (ns.map .int)] }=true:=by
   have h4:=(holds_andW hc).1
   rw[hn] at h4
   exact h4
  have h5:=condW_of h4 (w_not (w_lt w_lit (w_len_list (w_arg rfl))))
  rw[bU] at h5
  refine Nat.le_of_not_lt fun q=>?_
  have q':(n:Int)<((ns.length:Nat):Int):=by omega
  first
   | (rw[decide_eq_true q'] at h5;exact absurd h5 (by decide))
   | (simp at h5;omega)
 cases hwl with
 | cons w1 w2 =>
  cases w2
  cases w1 with
  | list ho hall=>exact⟨_,_,ns,rfl,rfl,ho,zEE ns _ hall,hlen⟩
theorem zKb(l:OpenLaw)(args:List WData):l.row.toRowW.claim.post args (.bool true) args=true :=
 postW_of (r:=l.row.toRowW) (X:=(true==true))
  (show WShape.has [] (.bool true) .bool=true by first | rfl | decide | simp[WShape.has,WShape.arms,WShape.armsAll])
  (show(WTm.eq .res (.lit (.bool true))).value [] { args:=args,res:=some (.bool true),after:=args }=some (.bool (true==true)) from w_eq_bool (w_res rfl) w_lit) rfl
theorem zHg{l:OpenLaw}{n:Nat}{q:Program}{loose:List Str}{XP:(Str→Option Value)→Heap→Prop}{YP:World→Heap→Prop}{d:DefRec}
  (hn:l.most=some n) (hdf:d.params.defaults=[])
  (call:∀(w:World) (s₀ s₁:Shared) (mg mb:Str→Option Value) (fa:Addr) (o:Obj) (pm cd doc:Value) (a:Addr) (vs:List Value) (ns:List Int),
   Ground q loose [] XP w s₀ mg mb s₁.heap→YP w s₁.heap →
   s₁.heap.get? fa=some o→o.data=.func (docDef d.name d.params d.body d.scope pm cd doc)→s₁.heap.CodeRec cd d.name→mg d.name=some (.ref fa) →
   s₁.heap.get? a=some { cls:=.type "list",data:=.seq vs.toArray }→IntsAre vs ns→ns.length≤n→s₁.gens=#[] →
   codeAny (model l.prog w) callerA (.call (.ref fa) ⟨[.ref a],[]⟩) (fun r s'=>r=.ok (.ret (.bool true))∧OldK s₁.heap s'.heap∧s'.os=s₁.os∧AllBare s'.gens) s₁) :
  WalkO q loose XP YP l.row.toRowW d [] (fun f vs=>PySem.call f vs):=by
 intro w s₀ s₁ mg mb G Y fa o pm cd doc dV kV ho hd hcd hD hmg hg args vals as hpre hlay hrd hwl hlo
 obtain rfl:dV=.none:=Dflts.none hD hdf
 obtain rfl:kV=.none:=Dflts.noKw hD
 obtain⟨a,vs,ns,rfl,rfl,hobj,hints,hlen⟩:=zKa hn hpre hwl
 refine enter_call (eh (call w s₀ s₁ mg mb fa o pm cd doc a vs ns G Y ho (fd_plain hd) hcd hmg hobj hints hlen hg) fun r s' hq=>?_)
 obtain⟨rfl,h2,h3,h4⟩:=hq
 exact⟨.inl ⟨.bool true,.bool true,[],rfl,fun u0=>rfl,.bool true,zKb l _,fun u0=>⟨dW.nil,fun u0 hm=>(nomatch hm)⟩⟩,h2,h3,h4⟩
section
variable {prog:Program} {w:World} {A:Around} {E:Value→Shared→Prop} {s:Shared} {K:Frag}
end
end Att
namespace L2
theorem zCL:∀ {vs:List Value} {ns:List Int},IntsAre vs ns→za (ns.map V.int) vs
 | _,_,.nil=>.nil
 | _,_,.cons n t h=>.cons ⟨t,rfl⟩ (zCL h)
noncomputable def zOC(H:Hp):Prop:=∀ b,H b=none∨(∃ o xs,H b=some (.frz o (.lst xs)))∨∃ ps,H b=some (.tbl ps)
structure TabsAt (K:PySem.W.Frag) (h:Heap) (ts:List Addr) (qn:Addr→Str):Prop where
 obj:∀ P∈ts,h.get? P=some (PySem.W.tabObj #[])
 out:∀ P∈ts,K.lookup P=none
 code:∀ P∈ts,isCodeTable h P
 name:∀ x∈zJd,∀ c b,PySem.W.tabIn K x=some (c,b)→b∈ts∧qn b=x++".<locals>.<lambda>"
theorem zLy{P':Program}{w:World}{K:PySem.W.Frag}{mg mb:Str→Option Value}{CX:CXT}{k:Nat}{fa a:Addr}{fd:FuncData}{x:Str}{sp:Sp}{s₁:Shared}{vs:List Value}{ns:List Int}{ts:List Addr}{qn:Addr→Str}
  (TB:TabsAt K s₁.heap ts qn) (KX:K.In s₁.heap) (hns:s₁.heap.Ns mainGlobals mg) (hb:s₁.heap.Ns builtinsNs mb) (hbb:∀ x:Str,x≠"__name__"→mb x=bootBuiltins x) (hlim:s₁.heap.NoLimit) (hg:s₁.gens=#[])
  (ha:s₁.heap.get? a=some { cls:=.type "list",data:=.seq vs.toArray }) (hi:IntsAre vs ns) (hl:ns.length≤sizeLine) (hr:wB k callerA)
  (F:∀ base:Heap,K.In base→base.Ns mainGlobals mg→zC9 P' w K mg base CX k fa fd [x] sp) (hbind:∀(s:Shared) (u:Value),BindsTo s fd ⟨[u],[]⟩ [(x,u)])
  (hsp:∀ H:Hp,zOC H→SqL K H a (ns.map V.int)→sp [.ref a] H (fun v u0=>v=.bl true) fun u0 u0 u0=>False)
  (hCX:∀ H e s',CX [] H s₁ (fun u0 u0 u0=>False) e s'→False) :
  codeAny (model P' w) callerA (.call (.ref fa) ⟨[.ref a],[]⟩) (fun r s'=>r=.ok (.ret (.bool true))∧OldK s₁.heap s'.heap∧s'.os=s₁.os∧AllBare s'.gens) s₁:=by
 have rv:=zCL hi
 have lenV:=hi.length
 -- from an abstract heap in which nothing but the script may be tracked
 have core:∀ H:Hp,zOC H→SqL K H a (ns.map V.int)→HOk P' w H s₁.heap→(∀ b,H b≠none→b=a∨b∈ts)→(H a≠none→K.lookup a=none)→(∀ P∈ts,H P=some (.tbl #[.str (qn P) 0])) →
   codeAny (model P' w) callerA (.call (.ref fa) ⟨[.ref a],[]⟩) (fun r s'=>r=.ok (.ret (.bool true))∧OldK s₁.heap s'.heap∧s'.os=s₁.os∧AllBare s'.gens) s₁:=by
  intro H hO hS hok hA hK hT
  have base_of:∀ {b:Addr} {o:Obj},s₁.heap.get? b=some o→H b=none→(zGd s₁.heap H).get? b=some o:=fun e n=>zLm e n
  have noA:∀ {b:Addr} {o:Obj} {es:Array DictEntry} {ep:Nat},s₁.heap.get? b=some o→o.data=.dict es ep→H b=none:=fun {b o es ep} e d=>by
   cases q:H b with
   | none=>rfl
   | some u =>
    rcases hA b (by rw[q];simp) with e' | e'
    ·subst e'
     rw[ha] at e;cases e
     have d':Data.seq vs.toArray _=Data.dict es ep:=d
     cases d'
    ·rw[TB.obj b e'] at e;cases e
     have d':Data.fields #[]=Data.dict es ep:=d
     cases d'
  have nsK:∀ {b:Addr} {m:Str→Option Value},s₁.heap.Ns b m→(zGd s₁.heap H).Ns b m:=fun {b m} ⟨o,es,ep,e,d,r⟩=>⟨o,es,ep,base_of e (noA e d),d,r⟩
  have hKb:K.In (zGd s₁.heap H):=fun b o e=>base_of (KX b o e) (by
   cases q:H b with
   | none=>rfl
   | some u =>
    rcases hA b (by rw[q];simp) with e' | e'
    ·subst e'
     rw[hK (by rw[q];simp)] at e;cases e
    ·rw[TB.out b e'] at e;cases e)
  have hM:Mod K mg (zGd s₁.heap H):=⟨hKb,nsK hns,⟨mb,nsK hb,hbb⟩,let ⟨mc,h1,h2⟩:=hlim;⟨mc,nsK h1,h2⟩⟩
  have e0:zN2 P' w K mg (zGd s₁.heap H) callerA [] s₁ H:=⟨rfl,hM,fun b o e=>zNn e,Nat.le_of_eq (zKQ _ _),trivial,fun b hb=>absurd (show b∈([]:List Addr) from hb) (by simp),hok,.of_eq hg,fun x hx c b e=>by
   obtain⟨z1,z2⟩:=TB.name x hx c b e
   exact⟨0,by rw[← z2];exact hT b z1⟩⟩
  refine eh ((F _ hKb (nsK hns)).run callerA [] s₁ H ⟨[.ref a],[]⟩ [.ref a] [.ref a] _ _ hr e0 (hbind s₁ (.ref a)) (.cons rfl .nil) (hsp H hO hS)) fun r s' h=>?_
  cases r with
  | error e=>exact(hCX H e s' h).elim
  | ok fl =>
   cases fl with
   | next=>exact False.elim h
   | brk=>exact False.elim h
   | cont=>exact False.elim h
   | ret u =>
    obtain⟨v,H',os,bare,un,hok',r',q⟩:=h
    have q':v=.bl true:=q
    subst q'
    obtain rfl:u=Value.bool true:=r'
    have K1:∀ b o,b∉ts→s₁.heap.get? b=some o→s'.heap.get? b=some o:=fun b o hb e=>by
     cases q:H b with
     | none=>exact un.keep b o e q (by intro z;exact absurd (show b∈([]:List Addr) from z) (by simp)) (by simp)
     | some u =>
      rcases hO b with z | ⟨ob,xs,z⟩ | ⟨ps,z⟩
      ·rw[q] at z;cases z
      ·have z2:=un.frzs b ob _ z
       obtain⟨e1,u0⟩:=hok b _ z
       obtain⟨e2,u0⟩:=hok' b _ z2
       rw[e] at e1;cases e1
       exact e2
      ·rcases hA b (by rw[q];simp) with e' | e'
       ·obtain⟨u0,u0,u0,u0,w1,u0⟩:=hok b _ z
        rw[e',ha] at w1;cases w1
       ·exact absurd e' hb
    have K2:∀ b,b∈ts→∃ vs,s'.heap.get? b=some (PySem.W.tabObj vs):=fun b hb=>by
     have z2:=un.tbls b _ (hT b hb)
     obtain⟨u0,u0,vs,u0,w1,u0⟩:=hok' b _ z2
     exact⟨vs,w1⟩
    refine⟨rfl,⟨fun b o e=>?_,fun b o e=>?_⟩,os,bare⟩
    ·by_cases hb:b∈ts
     ·obtain⟨vs,w1⟩:=K2 b hb
      rw[TB.obj b hb] at e
      cases e
      exact .inr (.inl ⟨TB.code b hb,rfl,#[],vs,rfl,by simpa using w1⟩)
     ·exact .inl (K1 b o hb e)
    ·by_cases hb:b∈ts
     ·obtain⟨vs,w1⟩:=K2 b hb
      exact⟨_,w1⟩
     ·exact⟨o,K1 b o hb e⟩
 have naT:∀ P∈ts,P≠a:=fun P hP z=>by
  have e:=TB.obj P hP
  rw[z,ha] at e;cases e
 have tok:∀(H:Hp),∀ P∈ts,wZ P' w H s₁.heap P (.tbl #[.str (qn P) 0]):=fun H P hP=>⟨qn P,0,#[],rfl,TB.obj P hP,trivial,fun pos cv e=>by cases e⟩
 cases hk:K.lookup a with
 | some o =>
  -- the script is one of the module's own objects
  have e:=KX a o hk
  rw[ha] at e
  cases e
  refine core (fun b=>if b∈ts then some (.tbl #[.str (qn b) 0]) else none) (fun b=>?_) (.inr ⟨_,vs.toArray,_,hk,rfl,rfl,rfl,by rw[cj,lenV];exact hl,by simpa using rv⟩) (fun b u z=>?_) (fun b z=>?_) (fun z=>?_) fun P hP=>if_pos hP
  ·by_cases hb:b∈ts
   ·exact .inr (.inr ⟨_,if_pos hb⟩)
   ·exact .inl (if_neg hb)
  ·by_cases hb:b∈ts
   ·have z':=(if_pos hb).symm.trans z
    cases z'
    exact tok _ b hb
   ·have z':=(if_neg hb).symm.trans z
    cases z'
  ·by_cases hb:b∈ts
   ·exact .inr hb
   ·exact absurd (if_neg hb) z
  ·by_cases hb:a∈ts
   ·exact absurd rfl (naT a hb)
   ·exact absurd (if_neg hb) z
 | none =>
  refine core (fun b=>if b=a then some (.frz { cls:=.type "list",data:=.seq vs.toArray } (.lst (ns.map V.int))) else if b∈ts then some (.tbl #[.str (qn b) 0]) else none) (fun b=>?_) (.inl (.inr ⟨{ cls:=.type "list",data:=.seq vs.toArray },if_pos rfl⟩)) (fun b u z=>?_) (fun b z=>?_) (fun u0=>hk) fun P hP=>?_
  ·by_cases hb:b=a
   ·exact .inr (.inl ⟨_,_,if_pos hb⟩)
   ·by_cases hb2:b∈ts
    ·exact .inr (.inr ⟨_,(if_neg hb).trans (if_pos hb2)⟩)
    ·exact .inl ((if_neg hb).trans (if_neg hb2))
  ·by_cases hb:b=a
   ·have z':=(if_pos hb).symm.trans z
    cases z'
    subst hb
    exact⟨ha,by rw[bU];exact hl,vs,_,rv,ha⟩
   ·by_cases hb2:b∈ts
    ·have z':=((if_neg hb).trans (if_pos hb2)).symm.trans z
     cases z'
     exact tok _ b hb2
    ·have z':=((if_neg hb).trans (if_neg hb2)).symm.trans z
     cases z'
  ·by_cases hb:b=a
   ·exact .inl hb
   ·by_cases hb2:b∈ts
    ·exact .inr hb2
    ·exact absurd ((if_neg hb).trans (if_neg hb2)) z
  ·exact(if_neg (naT P hP)).trans (if_pos hP)
theorem zOD{l:PySem.W.OpenLaw}{n k:Nat}{q:Program}{loose:List Str}{XP:(Str→Option Value)→Heap→Prop}{YP:World→Heap→Prop}{d:DefRec}{K:Params→PySem.W.Frag}{CX:World→CXT}{sp:World→Sp}{x:Str}
  (hn:l.most=some n) (hn2:n≤sizeLine) (hdf:d.params.defaults=[]) (hr:wB k callerA)
  (hY:∀(w:World) (h:Heap),YP w h→(K w.params).In h∧∃ ts qn,TabsAt (K w.params) h ts qn)
  (F:∀(w:World) (mg:Str→Option Value) (fa:Addr) (h:Heap),(K w.params).In h→h.Ns mainGlobals mg→mg d.name=some (.ref fa) →
   ∃ fd:FuncData,(∀(s:Shared) (u:Value),BindsTo s fd ⟨[u],[]⟩ [(x,u)]) ∧
    ∀ base:Heap,(K w.params).In base→base.Ns mainGlobals mg→zC9 l.prog w (K w.params) mg base (CX w) k fa fd [x] (sp w))
  (hsp:∀(w:World) (H:Hp) (a:Addr) (ns:List Int),ns.length≤n→zOC H→SqL (K w.params) H a (ns.map V.int)→sp w [.ref a] H (fun v u0=>v=.bl true) fun u0 u0 u0=>False)
  (hCX:∀(w:World) (H:Hp) (s:Shared) (e:Value) (s':Shared),CX w [] H s (fun u0 u0 u0=>False) e s'→False) :
  PySem.W.WalkO q loose XP YP l.row.toRowW d [] (fun f vs=>PySem.call f vs):=by
 refine Att.zHg hn hdf fun w s₀ s₁ mg mb fa o pm cd doc a vs ns G Y ho hd hcd hmg hobj hints hlen hg=>?_
 obtain⟨KX,ts,qn,TB⟩:=hY w _ Y
 obtain⟨fd,hb,hF⟩:=F w mg fa _ KX G.T.g hmg
 exact zLy TB KX G.T.g G.T.b G.T.builtins G.T.nolimit hg hobj hints (dh hlen hn2) hr hF hb (fun H hO hS=>hsp w H a ns hlen hO hS) fun H e s'=>hCX w H s₁ e s'
noncomputable def zZ(s:Stmt):Arguments:=match s with
 | .FunctionDef _ a _ _ _ _ _ _ _ _=>a
 | _=>{ posonlyargs:=[],args:=[],vararg:=none,kwonlyargs:=[],kw_defaults:=[],kwarg:=none,defaults:=[] }
noncomputable def zW(s:Stmt):List Stmt:=match s with
 | .FunctionDef _ _ b _ _ _ _ _ _ _=>b
 | _=>[]
noncomputable def zG(s:Stmt):Scope:=match s with
 | .FunctionDef _ _ _ _ _ _ sc _ _ _=>sc
 | _=>{ kind:=.function,names:=[],isGenerator:=false,isCoroutine:=false }
noncomputable abbrev CX0:CXT:=fun u0 u0 u0 u0 u0 u0=>False
noncomputable abbrev E0:XK:=fun u0 u0 u0=>False
theorem zPh{X:Cx}:zIo CX0 X E0:=fun u0 u0 u0 u0 u0 u0 u0 h=>h.elim
structure Fun (K:PySem.W.Frag) (x qual:Str) (st:Stmt) (f:Addr) (fd:FuncData):Prop where
 ex:∃(oc:Value) (od:Option Addr) (kV doc pm:Value) (an:Option Addr) (cdv ct:Value) (osl:Array (Option Value)),
  fd=PySem.W.fnOf x qual (zZ st) (zW st) (zG st) .none kV doc pm an cdv ct∧K.lookup f=some ⟨oc,od,.func fd,osl⟩∧PySem.W.codeIn K cdv qual=true
 kp:PySem.W.keepIn K (.ref f)=true
section
variable {P:Program} {w:World} {K:PySem.W.Frag} {mg:Str→Option Value} {base:Heap}
theorem Fun.ok{x qual:Str}{st:Stmt}{f:Addr}{fd:FuncData}{N ps:List Str}{k:Nat}{sp:Sp}(F:Fun K x qual st f fd)(S:zY N ps (zG st))(len:∀ vs H Q E,sp vs H Q E→vs.length=ps.length)
  (hbody:∀(cdv:Value) (A:Around) (outer:List Env) (s:Shared) (H:Hp) (vs:List V) (Q:VK) (E:XK),wB k (A.deeper (envOfC qual (zG st) s.heap.objs.size f cdv))→sp vs H Q E →
   ∃ t,PSs (zGe CX0 P w K mg base N qual (zG st) f cdv A outer s H E).nox (zW st) t∧t { nx:=fun u0 H'=>Q .non H',rt:=Q } (start N vs) H):zC9 P w K mg base CX0 (k+1) f fd ps sp:=by
 obtain⟨oc,od,kV,doc,pm,an,cdv,ct,osl,rfl,lk,hcd⟩:=F.ex
 refine zRz lk hcd S len fun A outer s H vs Q E hr hsp=>?_
 obtain⟨t,h,q⟩:=hbody cdv A outer s H vs Q E hr hsp
 exact⟨t,h.nox,q⟩
theorem Fun.binds{x qual:Str}{st:Stmt}{f:Addr}{fd:FuncData}{ps:List Str}(F:Fun K x qual st f fd)
  (h:∀(kV doc pm:Value) (an:Option Addr) (cdv ct:Value) (us:List Value),us.length=ps.length→bindArgs (PySem.W.fnOf x qual (zZ st) (zW st) (zG st) .none kV doc pm an cdv ct) ⟨us,[]⟩=pure (ps.zip us)):Binds K fd ps []:=by
 obtain⟨oc,od,kV,doc,pm,an,cdv,ct,osl,rfl,lk,hcd⟩:=F.ex
 exact .all (h kV doc pm an cdv ct)
theorem zf{x qual:Str}{st:Stmt}{f:Addr}{oc:Value}{od an:Option Addr}{osl:Array (Option Value)}{kV doc pm cdv ct:Value}(l:K.lookup f=some ⟨oc,od,.func (PySem.W.fnOf x qual (zZ st) (zW st) (zG st) .none kV doc pm an cdv ct),osl⟩)
  (c:PySem.W.codeIn K cdv qual=true) (k:PySem.W.keepIn K (.ref f)=true):Fun K x qual st f (PySem.W.fnOf x qual (zZ st) (zW st) (zG st) .none kV doc pm an cdv ct):=⟨⟨oc,od,kV,doc,pm,an,cdv,ct,osl,rfl,l,c⟩,k⟩
end
section
variable {X:Cx}
theorem pv(i:Nat){x:Str}{pos:Pos}(hN:X.N[i]?=some x:=by rfl)(hv:Vis X.env.scope x:=by first | exact Or.inl rfl | exact Or.inr (Or.inl rfl) | exact Or.inr (Or.inr rfl))(hd:(x==("__debug__":Str))=false:=by decide)
  (hcd:(x==("__classdict__":Str))=false:=by decide):PE X (.Name x pos) (zRh i):=zLn hN hv hd hcd
end
end L2
namespace K
end K
set_option maxHeartbeats 4000000
namespace L2
noncomputable def zDj(env:Env):List (Str×NameKind)→List (Str×Addr)→List (Str×Addr)
 | [],cs=>cs
 | (n,k)::r,cs=>zDj env r (if k==.free then match env.cells.lookup n with | some a=>(n,a)::cs | none=>cs else cs)
noncomputable def zKc(sc:Scope)(env:Env):List (Str×Addr):=zDj env sc.names []
theorem zFu{env:Env}:∀ {ns:List (Str×NameKind)} {cs:List (Str×Addr)} {x:Str} {c:Addr},(∀ y a,cs.lookup y=some a→env.cells.lookup y=some a)→(zDj env ns cs).lookup x=some c→env.cells.lookup x=some c
 | [],_,_,_,h,e=>h _ _ e
 | (n,k)::r,cs,x,c,h,e=>by
  unfold zDj at e
  refine zFu (ns:=r) (fun y a q=>?_) e
  by_cases hk:(k==NameKind.free)=true
  ·rw[if_pos hk] at q
   cases hc:env.cells.lookup n with
   | none=>rw[hc] at q;exact h y a q
   | some d =>
    rw[hc] at q
    cases hy:y==n with
    | true =>
     simp only[cV,hy] at q
     have:y=n:=by simpa using hy
     rw[this,hc];exact q
    | false =>
     simp only[cV,hy] at q
     exact h y a q
  ·rw[if_neg hk] at q;exact h y a q
theorem zKd{sc:Scope}{env:Env}{x:Str}{c:Addr}(e:(zKc sc env).lookup x=some c):env.cells.lookup x=some c :=
 zFu (fun u0 u0 q=>by simp at q) e
theorem zEo{env:Env}:∀ {ns:List (Str×NameKind)} {cs:List (Str×Addr)} {x:Str},(∀ y∈ns,y.2=.free→∃ c,env.cells.lookup y.1=some c)→((∃ c,cs.lookup x=some c)∨(x,NameKind.free)∈ns)→∃ c,(zDj env ns cs).lookup x=some c
 | [],cs,x,_,h=>by
  rcases h with h | h
  ·exact h
  ·cases h
 | (n,k)::r,cs,x,hh,h=>by
  unfold zDj
  refine zEo (ns:=r) (fun y hy=>hh y (ck _ hy)) ?_
  by_cases hk:k=.free
  ·subst hk
   obtain⟨c,hc⟩:=hh (n,.free) cE rfl
   have hc':env.cells.lookup n=some c:=hc
   simp only[beq_self_eq_true,if_true,hc']
   cases hx:x==n with
   | true=>exact .inl ⟨c,by simp[cV,hx]⟩
   | false =>
    rcases h with ⟨d,h⟩ | h
    ·exact .inl ⟨d,by simp[cV,hx,h]⟩
    ·rcases cI.mp h with e | h
     ·injection e with e1 _
      subst e1;simp at hx
     ·exact .inr h
  ·have hb:(k==NameKind.free)=false:=by simpa using hk
   simp only[hb,bJ,if_false]
   rcases h with h | h
   ·exact .inl h
   ·rcases cI.mp h with e | h
    ·injection e with _ e2
     exact absurd e2.symm hk
    ·exact .inr h
theorem zHh{env:Env}:∀ {ns:List (Str×NameKind)} {cs:List (Str×Addr)},(∀ y∈ns,y.2=.free→∃ c,env.cells.lookup y.1=some c) →
  (forIn ns cs fun(x:Str×NameKind) (r:List (Str×Addr))=>if (x.2==NameKind.free)=true then (do let a ← cellOf env x.1;pure (ForInStep.yield ((x.1,a)::r)):Sem _) else pure (ForInStep.yield r))=(pure (zDj env ns cs):Sem _)
 | [],_,_=>rfl
 | (n,k)::r,cs,hh=>by
  rw[List.forIn_cons]
  have ih:=fun cs'=>zHh (env:=env) (ns:=r) (cs:=cs') fun y hy=>hh y (ck _ hy)
  by_cases hk:k=.free
  ·subst hk
   obtain⟨c,hc⟩:=hh (n,.free) cE rfl
   have hc':env.cells.lookup n=some c:=hc
   have e:cellOf env n=pure c:=by unfold cellOf;rw[hc']
   simp only[beq_self_eq_true,if_true,e,pure_bind]
   rw[ih]
   have q:zDj env ((n,NameKind.free)::r) cs=zDj env r ((n,c)::cs):=by simp only[zDj,beq_self_eq_true,if_true,hc']
   rw[q]
  ·have hb:(k==NameKind.free)=false:=by simpa using hk
   simp only[hb,bJ,if_false,pure_bind]
   rw[ih]
   have q:zDj env ((n,k)::r) cs=zDj env r cs:=by simp only[zDj,hb,bJ,if_false]
   rw[q]
theorem zCh{sc:Scope}{env:Env}(hh:∀ y∈sc.names,y.2=.free→∃ c,env.cells.lookup y.1=some c):closureFor sc env=pure (zKc sc env):=by
 have e:=zHh (env:=env) (ns:=sc.names) (cs:=[]) hh
 unfold closureFor
 show(forIn sc.names [] (fun(x:Str×NameKind) (r:List (Str×Addr))=>(match x with | (name,kind)=>if (kind==NameKind.free)=true then (do let a ← cellOf env name;pure (ForInStep.yield ((name,a)::r))) else pure (ForInStep.yield r):Sem (ForInStep (List (Str×Addr)))))>>=fun s=>pure s)=_
 have hb:(fun(x:Str×NameKind) (r:List (Str×Addr))=>(match x with | (name,kind)=>if (kind==NameKind.free)=true then (do let a ← cellOf env name;pure (ForInStep.yield ((name,a)::r))) else pure (ForInStep.yield r):Sem (ForInStep (List (Str×Addr))))) =
   fun(x:Str×NameKind) (r:List (Str×Addr))=>if (x.2==NameKind.free)=true then (do let a ← cellOf env x.1;pure (ForInStep.yield ((x.1,a)::r)):Sem _) else pure (ForInStep.yield r):=by
  funext x r
  obtain⟨n,k⟩:=x
  rfl
 rw[hb,e]
 rfl
noncomputable def Cx.comp(X:Cx)(N':List Str)(sc:Scope)(C:Addr)(s:Shared)(H:Hp)(fp:List Addr)(pins:List (Addr×Obj)):Cx :=
 { X with N:=N',s₀:=s,H₀:=H,env:=compEnvC sc (zKc sc X.env) C X.env,outer:=X.stack,ex:=fp,fn:=fun u0=>false,pn:=X.pn++pins,xe:=fun u0 u0=>False }
noncomputable def PTs(X:Cx)(ifs:List Expr)(t:TT):Prop :=
 ∀(pins:List (Addr×Obj)) (s:Shared) (σ:St) (H:Hp) (Q:Bool→Hp→Prop),zX X pins σ H s→t σ H Q →
  wpAny (model X.prog X.w) X.A (forIn ifs true fun c r=>if r=true then do let ok ← isTrue c X.env (eval c X.env);pure (ForInStep.yield ok) else pure (ForInStep.yield r)) (TP X pins σ Q) X.xe s
noncomputable def zSu:TT:=fun u0 H Q=>Q true H
theorem zOE{X:Cx}:PTs X [] zSu:=fun u0 u0 u0 H u0 I h=>wpAny_tests_nil ⟨H,I,h⟩
theorem zOF{X:Cx}{c:Expr}{t:TT}(h:PT X c t):PTs X [c] t:=fun pins s σ H Q I hq=>wpAny_tests_one (h pins s σ H Q I hq)
noncomputable def zLz(n0:Nat)(wi:TI)(g:TG)(tc:TT)(te:TE):TE:=fun σ H Q=>wi σ H fun J H1=>∀ D,H1 D=none→∃ W:Nat→Nat→Hp→Prop,(∃ m,W 0 m (wj H1 D (.lst []))) ∧
 ∀ i m H2,W i m H2→(J.stop i H2∧Q (.ref D) H2) ∨
  (J.go i H2∧∀ x H3,J.yld i H2 x H3→g x (σ++cq n0 none) H3 fun σ4 H4=>σ4.take σ.length=σ∧σ4.length=σ.length+n0∧tc σ4 H4 fun b H5 =>
   if b=true then te σ4 H5 fun v H6=>∃ acc,H6 D=some (.lst acc)∧acc.length<sizeLine∧∃ m',m'<m∧W (i+1) m' (wj H6 D (.lst (acc++[v]))) else ∃ m',m'<m∧W (i+1) m' H5)
theorem PE.mono{X:Cx}{e:Expr}{t t':TE}(h:PE X e t)(hm:∀ σ H Q,t' σ H Q→t σ H Q):PE X e t':=fun pins s σ H Q I q=>h pins s σ H Q I (hm σ H Q q)
theorem PT.mono{X:Cx}{e:Expr}{t t':TT}(h:PT X e t)(hm:∀ σ H Q,t' σ H Q→t σ H Q):PT X e t':=fun pins s σ H Q I q=>h pins s σ H Q I (hm σ H Q q)
theorem PS.mono{X:Cx}{e:Stmt}{t t':TS}(h:PS X e t)(hm:∀ D σ H,t' D σ H→t D σ H):PS X e t':=fun pins s σ H D I q=>h pins s σ H D I (hm D σ H q)
section
variable {X:Cx} {tg elt iter:Expr} {ifs:List Expr} {sc:Scope} {pos:Pos} {N0 own:List Str} {wi:TI} {g:TG} {tc:TT} {te:TE}
structure zDk (X:Cx) (sc:Scope) (N0:List Str):Prop where
 kind:sc.kind=.function
 cell:∀ y∈sc.names,y.2≠.cell
 names:∀ y∈sc.names,y.2=.local→sc.names.lookup y.1=some .local
 cap:∀ y∈sc.names,y.2=.free→X.env.kindOf y.1=some .cell∨X.env.kindOf y.1=some .free
 len:N0.length=X.N.length
 vis:∀(i:Nat) (x:Str),N0[i]?=some x→Vis (relabel sc X.env) x→X.N[i]?=some x∧sc.names.lookup x=some .free
theorem zA9{env:Env}:∀ {names:List (Str×NameKind)} {x:Str},(∀ y∈names,y.2≠.cell) →
    ((names.map fun(n,k)=>if (k==NameKind.free&&env.scope.kind==.function&&env.kindOf n==some .cell) then (n,NameKind.cell) else (n,k)).lookup x=some .cell ∨
     (names.map fun(n,k)=>if (k==NameKind.free&&env.scope.kind==.function&&env.kindOf n==some .cell) then (n,NameKind.cell) else (n,k)).lookup x=some .free)→names.lookup x=some .free
  | [],_,_,h=>by rcases h with h | h<;>simp at h
  | (n,k)::r,x,hc,h=>by
    have ih:=@zA9 env r x fun y hy=>hc y (ck _ hy)
    have hk:k≠.cell:=hc (n,k) cE
    have hd:∀(z:NameKind),(((n,k)::r).map fun(n,k)=>if (k==NameKind.free&&env.scope.kind==.function&&env.kindOf n==some .cell) then (n,NameKind.cell) else (n,k)).lookup x=some z →
        if (x==n)=true then (if (k==NameKind.free&&env.scope.kind==.function&&env.kindOf n==some .cell)=true then z=.cell else z=k) else (r.map fun(n,k)=>if (k==NameKind.free&&env.scope.kind==.function&&env.kindOf n==some .cell) then (n,NameKind.cell) else (n,k)).lookup x=some z:=by
      intro z e
      have e':List.lookup x ((if (k==NameKind.free&&env.scope.kind==.function&&env.kindOf n==some .cell)=true then (n,NameKind.cell) else (n,k))::(r.map fun(n,k)=>if (k==NameKind.free&&env.scope.kind==.function&&env.kindOf n==some .cell) then (n,NameKind.cell) else (n,k)))=some z:=e
      cases hx:x==n with
      | true =>
        rw[if_pos rfl]
        by_cases hq:(k==NameKind.free&&env.scope.kind==.function&&env.kindOf n==some .cell)=true
        · rw[if_pos hq] at e' ⊢
          simp only[cV,hx] at e'
          exact(Option.some.inj e').symm
        · rw[if_neg hq] at e' ⊢
          simp only[cV,hx] at e'
          exact(Option.some.inj e').symm
      | false =>
        rw[if_neg (by simp)]
        by_cases hq:(k==NameKind.free&&env.scope.kind==.function&&env.kindOf n==some .cell)=true
        · rw[if_pos hq] at e';simpa only[cV,hx] using e'
        · rw[if_neg hq] at e';simpa only[cV,hx] using e'
    cases hx:x==n with
    | true =>
      simp only[cV,hx]
      rcases h with h | h
      · have q:=hd _ h
        rw[if_pos hx] at q
        by_cases hq:(k==NameKind.free&&env.scope.kind==.function&&env.kindOf n==some .cell)=true
        · have:(k==NameKind.free)=true:=by
            cases hk':k==NameKind.free with
            | true=>rfl
            | false=>simp[hk'] at hq
          have:k=.free:=by simpa using this
          rw[this]
        · rw[if_neg hq] at q;exact absurd q.symm hk
      · have q:=hd _ h
        rw[if_pos hx] at q
        by_cases hq:(k==NameKind.free&&env.scope.kind==.function&&env.kindOf n==some .cell)=true
        · rw[if_pos hq] at q;cases q
        · rw[if_neg hq] at q;rw[← q]
    | false =>
      simp only[cV,hx]
      refine ih ?_
      rcases h with h | h
      · have q:=hd _ h
        rw[if_neg (by simp[hx])] at q;exact .inl q
      · have q:=hd _ h
        rw[if_neg (by simp[hx])] at q;exact .inr q
theorem zKe{X':Cx}{σ:St}{it D:Addr}{fp:List Addr}{tn:Nat→Heap→Prop}{J:It}{Q:VK}{W:Nat→Nat→Hp→Prop}{Z:Hp→Shared→Prop}{H0:Hp}{s₅:Shared}{m0:Nat}(hc:X'.calm=true)(hx:∀ v s,X'.xe v s→False)(Tn:Turn X'.prog X'.w X'.K tg J fp it tn)
  (hg:PG X' tg g) (ht:PTs X' ifs tc) (he:PE X' elt te)
  (turn:∀ i m H2,W i m H2→(J.stop i H2∧Q (.ref D) H2) ∨
    (J.go i H2∧∀ x H3,J.yld i H2 x H3→g x (σ++cq own.length none) H3 fun σ4 H4=>σ4.take σ.length=σ∧σ4.length=σ.length+own.length∧tc σ4 H4 fun b H5 =>
     if b=true then te σ4 H5 fun v H6=>∃ acc,H6 D=some (.lst acc)∧acc.length<sizeLine∧∃ m',m'<m∧W (i+1) m' (wj H6 D (.lst (acc++[v]))) else ∃ m',m'<m∧W (i+1) m' H5))
  (fpX:∀ {H:Hp},(∀ b∈fp,H b=none)→∀ b∈fp,zDi X' [] H b) (back:∀ {σ':St} {H':Hp} {s':Shared},zX X' [] σ' H' s'→Z H' s')
  (I4:zX X' [] (σ++cq own.length none) H0 s₅) (st4:tn 0 s₅.heap) (fpD:∀ b∈fp,H0 b=none) (w0:W 0 m0 H0) :
  codeAny (model X'.prog X'.w) X'.A (.compLoop (.ListComp elt [⟨tg,iter,ifs,0⟩] sc pos) 0 (.ref it) (.ref D) X'.env) (fun r s'=>∃ H',r=.ok .next∧Z H' s'∧Q (.ref D) H') s₅:=by
  refine codeAny_loop rfl (fun n s'=>∃ i H',zX X' [] (σ++cq own.length none) H' s'∧tn i s'.heap∧(∀ b∈fp,H' b=none)∧W i n H') (fun n s6=>?_) m0 ⟨0,_,I4,st4,fpD,w0⟩
  rintro⟨i,H6,I6,st6,fr6,w6⟩
  show wpAny _ X'.A ((compTurn (.ListComp elt [⟨tg,iter,ifs,0⟩] sc pos) 0 (.ref it) (.ref D) X'.env).onRaise (fun x=>do noteFrame x X'.env;theTreesLotGoes x)) _ _ s6
  refine wpAny_noted ?_
  rw[compTurn_list]
  have nox:∀ {α:Type} {t:Sem α} {Q:α→Shared→Prop} {E':Value→Shared→Prop} {s:Shared},wpAny (model X'.prog X'.w) X'.A t Q X'.xe s→wpAny (model X'.prog X'.w) X'.A t Q E' s:=fun h=>fw h (fun u0 u0 q=>q) fun v s z=>(hx v s z).elim
  refine bI (wpAny_standAt (bI ?_))
  rcases turn i n H6 w6 with ⟨stop,qn⟩ | ⟨go,step⟩
  ·refine nox (yi (Tn.done X' rfl rfl rfl hc i [] s6 _ H6 _ I6 (fpX fr6) st6 stop) fun r s7 ⟨hr,I7⟩=>?_)
   subst hr
   exact bS ⟨H6,rfl,back I7,qn⟩
  ·refine nox (yi (Tn.item X' rfl rfl rfl hc i [] s6 _ H6 _ I6 (fpX fr6) st6 go) fun r s7 ⟨u,hr,h7⟩=>?_)
   subst hr
   refine bI (nox (yi h7 fun _ s8 ⟨x,H8,I8,r8,y8,st8,fr8⟩=>?_))
   have I8':=I8.pinned (fpX fr8) (Tn.obj _ _ st8)
   refine bI (nox (yi (hg _ s8 _ H8 x u _ I8' r8 (step x H8 y8)) fun _ s9 ⟨σ9,H9,I9,q1,q2,q9⟩=>?_))
   have again:∀ {s':Shared} {H':Hp},zX X' ([]++zEj fp s8.heap) σ9 H' s'→(∃ m',m'<n∧W (i+1) m' H')→∃ m,m<n∧∃ i H',zX X' [] (σ++cq own.length none) H' s'∧tn i s'.heap∧(∀ b∈fp,H' b=none)∧W i m H':=by
    intro s' H' J ⟨m',hm,w'⟩
    refine⟨m',hm,i+1,H',?_,Tn.keep _ _ _ st8 fun b hb o e=>(J.pin (b,o) (cS _ (cS _ (zBc hb e)))).1,fun b hb=>?_,w'⟩
    ·refine(J.unpinned).weak ?_ fun j v e=>?_
     ·rw[q2,ci,List.length_replicate]
     ·have hj:j<σ.length:=by
       by_cases hj:j<σ.length
       ·exact hj
       ·rw[dq (by omega),fm] at e
        split at e<;>cases e
      rw[cR hj] at e
      rw[← q1,List.getElem?_take_of_lt hj] at e
      exact e
    ·obtain⟨o,e,d⟩:=Tn.obj _ _ st8 b hb
     exact(J.pin (b,o) (cS _ (cS _ (zBc hb e)))).2.1
   refine bI (nox (yi (ht _ s9 σ9 H9 _ I9 q9) fun ok s10 ⟨H10,I10,q10⟩=>?_))
   cases ok with
   | false=>exact bS ⟨rfl,again I10 q10⟩
   | true =>
    refine bI (bI (nox (yi (he _ s10 σ9 H10 _ I10 q10) fun uv s11 ⟨v,H11,I11,r11,acc,hD11,hz,q11⟩=>?_)))
    refine bI (nox (yi (zFt _ s11 σ9 H11 (.ref D) [v] (.ref D) [uv] (fun u0 H12=>H12=wj H11 D (.lst (acc++[v]))) I11 rfl (.cons r11 .nil) ⟨_,acc,v,rfl,rfl,hD11,hz,rfl⟩) fun _ s12 ⟨_,H12,I12,_,q12⟩=>?_))
    subst q12
    exact bS (bS ⟨rfl,again I12 q11⟩)
theorem zEp{pins:List (Addr×Obj)}{σ:St}{s₂:Shared}{itv:Value}{Q:VK}{E:Value→Shared→Prop}(hc:X.calm=true)(T:zDk X sc N0)
  (hg:∀ C s H fp pins,PG (X.comp (N0++own) sc C s H fp pins) tg g) (ht:∀ C s H fp pins,PTs (X.comp (N0++own) sc C s H fp pins) ifs tc) (he:∀ C s H fp pins,PE (X.comp (N0++own) sc C s H fp pins) elt te)
  (h:PIE X pins σ tg (fun J H1=>∀ D,H1 D=none→∃ W:Nat→Nat→Hp→Prop,(∃ m,W 0 m (wj H1 D (.lst []))) ∧
   ∀ i m H2,W i m H2→(J.stop i H2∧Q (.ref D) H2) ∨
    (J.go i H2∧∀ x H3,J.yld i H2 x H3→g x (σ++cq own.length none) H3 fun σ4 H4=>σ4.take σ.length=σ∧σ4.length=σ.length+own.length∧tc σ4 H4 fun b H5 =>
     if b=true then te σ4 H5 fun v H6=>∃ acc,H6 D=some (.lst acc)∧acc.length<sizeLine∧∃ m',m'<m∧W (i+1) m' (wj H6 D (.lst (acc++[v]))) else ∃ m',m'<m∧W (i+1) m' H5)) itv s₂) :
  wpAny (model X.prog X.w) X.A (newList []) (fun acc s₃=>wpAny (model X.prog X.w) X.A (newFunctionEnv sc X.env.globals (zKc sc X.env) [] X.env.qual none .none (some X.env)) (fun cenv s₄ =>
   codeAny (model X.prog X.w) X.A (.compStart (.ListComp elt [⟨tg,iter,ifs,0⟩] sc pos) 0 itv acc { cenv with scope:=relabel sc X.env })
    (fun r s'=>∃ D H' m,r=.ok .next∧acc=.ref D∧zX X pins σ H' s'∧zDi X pins H' cenv.locals∧s'.heap.Ns cenv.locals m∧Q (.ref D) H') s₄) E s₃) E s₂:=by
 obtain⟨it,fp,tn,J,H1,rfl,I2,Tn,st2,f2,hR⟩:=h
 refine df (wpAny_newFunctionEnv T.cell (by intro y hy;simp at hy) (fun h₁ hns₁ hsb₁=>?_) T.kind)
 dsimp only at hns₁ hsb₁ ⊢
 generalize hH2:s₂.heap.push { cls:=.type "list",dict:=none,data:=.seq ([]:List Value).toArray }=h3 at hns₁ hsb₁ ⊢
 have hC:h3.objs.size=s₂.heap.objs.size+1:=by rw[← hH2,eG]
 -- the list
 have I3:zX X pins σ (wj H1 s₂.heap.objs.size (.lst [])) { s₂ with heap:=h3 }:=by
  rw[← hH2]
  exact I2.laid (t':=s₂.toks) (fun b u e=>bP _ e) (bZ _) ⟨by simp,[],0,.nil,cb _ rfl⟩
 have fD:H1 s₂.heap.objs.size=none:=I2.hok.fresh (bZ _)
 obtain⟨W,⟨m0,w0⟩,turn⟩:=hR _ fD
 have kp:∀ b o,h3.get? b=some o→h₁.get? b=some o:=fun b o e=>hsb₁.extBut b o (cJ (cc e)) (bP _ e)
 have fp2:∀ b∈fp,b<s₂.heap.objs.size:=fun b hb=>by
  obtain⟨o,e,u0⟩:=Tn.obj _ _ st2 b hb
  exact cc e
 -- the block's context
 have CK:∀ x c,(zKc sc X.env).lookup x=some c→X.env.cells.lookup x=some c:=fun x c e=>zKd e
 have nofs:∀ {b:Addr},h3.objs.size≤b→b∉frs X.stack:=fun {b} hb z=>by
  rcases cI.mp (I3.stkSub b z) with e | z
  ·exact absurd (cG I3.lt (show h3.objs.size≤X.env.locals by rw[← e];exact hb)) (dG _)
  ·exact I3.nofs (a:=b) hb z
 have fpS:∀ b∈fp,b∉frs X.stack:=fun b hb z=>by
  rcases cI.mp (I3.stkSub b z) with e | z
  ·exact(f2 b hb).2.1 e
  ·exact(f2 b hb).2.2.1 z
 have fpD:∀ b∈fp,wj H1 s₂.heap.objs.size (.lst []) b=none:=fun b hb=>by rw[yN (cJ (fp2 b hb))];exact(f2 b hb).1
 have pinS:∀ p∈X.pn++pins,p.1∉frs X.stack:=fun p hp z=>by
  obtain⟨u0,u0,n1,n2,u0⟩:=I3.pin p hp
  rcases cI.mp (I3.stkSub p.1 z) with e | z
  ·exact n1 e
  ·exact n2 z
 let X':=X.comp (N0++own) sc h3.objs.size { s₂ with heap:=h3 } (wj H1 s₂.heap.objs.size (.lst [])) fp pins
 have cells':∀ x,(X'.env.kindOf x=some .cell∨X'.env.kindOf x=some .free)→sc.names.lookup x=some .free:=fun x hx=>zA9 T.cell hx
 have hfree:∀ y∈sc.names,y.2=.free→∃ c,X.env.cells.lookup y.1=some c:=fun y hy hf=>I2.ok.has _ (T.cap y hy hf)
 have ok':X'.Ok:=by
  refine⟨I3.ok.mod,?_,I3.ok.glob,I3.ok.blt,bZ _,fun x y c e1 e2=>I3.ok.inj x y c (CK _ _ e1) (CK _ _ e2),fun x hx=>?_,fun x c z=>(by cases z),I3.ok.hd,I3.ok.frames,.inl rfl,fun b hb=>⟨?_,fun x c e=>?_⟩,I3.bs,dh I3.ok.bsz I3.sz,fun b o e hb=>?_,fpS,I3.stack,I3.stkFree,I3.tabs⟩
  ·exact T.kind
  ·have hx':=cells' x hx
   exact zEo hfree (.inr (PySem.mem_of_lookup hx'))
  ·exact cJ (cG (fp2 b hb) (by show s₂.heap.objs.size≤h3.objs.size;rw[hC];exact eE _))
  ·exact(f2 b hb).2.2.2.2.1 x c (CK x c e)
  ·have:=(I3.bs b o e).1
   rcases(f2 b hb).2.2.2.1 with z | z
   ·exact I3.ok.noex b o e z
   ·have:=cG (cc e) I3.ok.bsz
    exact absurd (cG this z) (dG _)
 have hlook:∀(i:Nat) (x:Str) (v:V),(N0++own)[i]?=some x→(σ++cq own.length none)[i]?=some (some v)→Vis (relabel sc X.env) x→∃ c u,RelV v u∧X'.env.cells.lookup x=some c∧(X'.env.kindOf x=some .cell∨X'.env.kindOf x=some .free)∧h3.IsCell c (some u):=by
  intro i x v e1 e2 e3
  have hi:i<σ.length:=by
   by_cases hi:i<σ.length
   ·exact hi
   ·rw[dq (by omega),fm] at e2
    split at e2<;>cases e2
  have e2':σ[i]?=some (some v):=by rw[cR hi] at e2;exact e2
  have hi0:i<N0.length:=by rw[T.len,← I3.len];exact hi
  have e1':N0[i]?=some x:=by rw[cR hi0] at e1;exact e1
  obtain⟨n1,n2⟩:=T.vis i x e1' e3
  have cp:=T.cap _ (PySem.mem_of_lookup n2) rfl
  obtain⟨m,hn,hl⟩:=I3.loc
  have vis:Vis X.env.scope x:=by
   rcases cp with z | z
   ·exact .inr (.inl z)
   ·exact .inr (.inr z)
  obtain⟨u,r,l⟩:=hl i x v n1 e2' vis
  obtain⟨c',hc'⟩:=zEo (env:=X.env) (ns:=sc.names) (cs:=[]) (x:=x) hfree (.inr (PySem.mem_of_lookup n2))
  have hc2:(zKc sc X.env).lookup x=some c':=hc'
  rcases l with ⟨z,u0⟩ | ⟨u0,c,e,q⟩
  ·rcases cp with z' | z'<;>(rw[z] at z';cases z')
  ·have:c=c':=by
    have:=CK _ _ hc2
    rw[e] at this;exact Option.some.inj this
   subst this
   refine⟨c,u,r,hc2,?_,q⟩
   rcases e3 with z | z | z
   ·exfalso
    have:=lookup_relabel_local (env:=X.env) (names:=sc.names) (x:=x)
    -- a free name is not relabelled local
    have nl:∀ {names:List (Str×NameKind)},names.lookup x=some .free→(names.map fun(n,k)=>if (k==NameKind.free&&X.env.scope.kind==.function&&X.env.kindOf n==some .cell) then (n,NameKind.cell) else (n,k)).lookup x≠some .local:=by
     intro names
     induction names with
     | nil=>intro h;simp at h
     | cons p r ih =>
      obtain⟨n,k⟩:=p
      intro h
      show List.lookup x ((if (k==NameKind.free&&X.env.scope.kind==.function&&X.env.kindOf n==some .cell)=true then (n,NameKind.cell) else (n,k))::_)≠_
      cases hx:x==n with
      | true =>
       simp only[cV,hx] at h
       cases h
       by_cases hq:(NameKind.free==NameKind.free&&X.env.scope.kind==.function&&X.env.kindOf n==some .cell)=true
       ·rw[if_pos hq];simp[cV,hx]
       ·rw[if_neg hq];simp[cV,hx]
      | false =>
       simp only[cV,hx] at h
       by_cases hq:(k==NameKind.free&&X.env.scope.kind==.function&&X.env.kindOf n==some .cell)=true
       ·rw[if_pos hq];simp only[cV,hx];exact ih h
       ·rw[if_neg hq];simp only[cV,hx];exact ih h
    exact nl n2 z
   ·exact .inl z
   ·exact .inr z
 have σl:(σ++cq own.length none).length=(N0++own).length:=by
  rw[ci,ci,List.length_replicate,T.len,← I3.len]
 have I4:zX X' [] (σ++cq own.length none) (wj H1 s₂.heap.objs.size (.lst [])) { s₂ with heap:=h₁,toks:=s₂.toks+([]:List (Str×Value)).length }:=by
  refine⟨ok',rfl,I3.bare,Un.kept kp,⟨_,hns₁,fun i x v e1 e2 e3=>?_⟩,fun x c e=>?_,I3.hok.fresh (bZ _),fun x c e=>I3.freeC x c (CK x c e),fun p hp=>?_,I3.hok.kept kp,σl⟩
  ·obtain⟨c,u,r,q1,q2,q3⟩:=hlook i x v e1 e2 e3
   obtain⟨o,ho,hd⟩:=q3
   exact⟨u,r,.inr ⟨q2,c,q1,o,kp c o ho,hd⟩⟩
  ·obtain⟨v,o,ho,hd⟩:=I3.cell x c (CK x c e)
   exact⟨v,o,kp c o ho,hd⟩
  ·have hp':p∈X.pn++pins:=by
    have:p∈(X.pn++pins)++[]:=hp
    simpa using this
   obtain⟨e,n,ne,nf,d⟩:=I3.pin p hp'
   exact⟨kp _ _ e,n,cJ (cc e),pinS p hp',d⟩
 have fpX:∀ {H:Hp},(∀ b∈fp,H b=none)→∀ b∈fp,zDi X' [] H b:=fun {H} hn b hb=>by
  refine⟨hn b hb,(ok'.exf b hb).1,fpS b hb,.inl hb,(ok'.exf b hb).2,fun p hp=>?_⟩
  have hp':p∈X.pn++pins:=by
   have:p∈(X.pn++pins)++[]:=hp
   simpa using this
  exact(f2 b hb).2.2.2.2.2 p hp'
 have st4:tn 0 h₁:=Tn.keep 0 s₂.heap h₁ st2 fun b hb o e=>kp b o (hH2▸bP _ e)
 -- back to the context around
 have back:∀ {σ':St} {H':Hp} {s':Shared},zX X' [] σ' H' s'→zX X pins σ H' s'∧zDi X pins H' h3.objs.size∧∃ m,s'.heap.Ns h3.objs.size m:=fun {σ' H' s'} J=>by
  have u:Un (frs X.stack) fp (wj H1 s₂.heap.objs.size (.lst [])) H' h3 s'.heap:=J.base
  have J3:zX X pins σ H' s':=I3.call' J.os u J.hok J.bare fun b hb=>⟨(f2 b hb).2.2.2.1,(f2 b hb).2.1,(f2 b hb).2.2.2.2.1,(f2 b hb).2.2.2.2.2⟩
  obtain⟨m,hn,u0⟩:=J.loc
  refine⟨J3,?_,m,hn⟩
  refine⟨J.free,Nat.ne_of_gt I3.lt,I3.nofs (bZ _),.inr I3.sz,fun x c e z=>?_,fun p hp z=>?_⟩
  ·obtain⟨v,q⟩:=I3.cell x c e
   exact absurd (cG q.lt (by rw[z];exact bZ _)) (dG _)
  ·exact absurd (cG (cc (I3.pin p hp).1) (by rw[z];exact bZ _)) (dG _)
 have loop:∀ s₅:Shared,s₅={ s₂ with heap:=h₁,toks:=s₂.toks+([]:List (Str×Value)).length } →
   codeAny (model X.prog X.w) X.A (.compLoop (.ListComp elt [⟨tg,iter,ifs,0⟩] sc pos) 0 (.ref it) (.ref s₂.heap.objs.size) X'.env)
    (fun r s'=>∃ D H' m,r=.ok .next∧Value.ref s₂.heap.objs.size=.ref D∧zX X pins σ H' s'∧zDi X pins H' h3.objs.size∧s'.heap.Ns h3.objs.size m∧Q (.ref D) H') s₅:=by
  rintro s₅ rfl
  exact eh (zKe (X':=X') (Z:=fun H' s'=>zX X pins σ H' s'∧zDi X pins H' h3.objs.size∧∃ m,s'.heap.Ns h3.objs.size m) hc (fun u0 u0 z=>z) Tn (hg _ _ _ _ _) (ht _ _ _ _ _) (he _ _ _ _ _) turn fpX back I4 st4 fpD w0) fun r s' ⟨H',e,⟨b1,b2,m,b3⟩,q⟩=>⟨_,H',m,e,rfl,b1,b2,b3,q⟩
 exact codeAny_compStart_list (loop _ rfl) (Tn.self _ 0 _ _ _ st4 (loop _ rfl))
theorem zOG(hc:X.calm=true)(T:zDk X sc N0)(hi:PI X tg iter wi)
  (hg:∀ C s H fp pins,PG (X.comp (N0++own) sc C s H fp pins) tg g) (ht:∀ C s H fp pins,PTs (X.comp (N0++own) sc C s H fp pins) ifs tc) (he:∀ C s H fp pins,PE (X.comp (N0++own) sc C s H fp pins) elt te)
  (hs:∀ x,foldedSetIterable iter X.env x=pure x:=by intro u0;rfl):PE X (.ListComp elt [⟨tg,iter,ifs,0⟩] sc pos) (zLz own.length wi g tc te):=by
 intro pins s σ H Q I h
 rw[eval_ListComp]
 refine wpAny_comprehension_free (use:=none) rfl hs (zCh fun y hy hf=>I.ok.has _ (T.cap y hy hf)) T.kind T.names ?_
 refine yi (hi pins s σ H _ I h) fun xv s₁ h₁=>yi h₁ fun it s₂ h₂=>?_
 refine yi (zEp (iter:=iter) (pos:=pos) (E:=X.xe) (Q:=Q) hc T hg ht he h₂) fun acc s₃ h₃=>yi h₃ fun cenv s₄ h₄=>eh h₄ fun r s' hr=>?_
 obtain⟨D,H',m,rfl,rfl,J,f,hn,q⟩:=hr
 refine⟨m,hn,fun h' hs'=>⟨.ref D,H',?_,rfl,q⟩⟩
 exact J.turned (t':=s'.toks) (fun b o hb e=>(hs'.2 b hb).trans e) f.1 f.2.1 f.2.2.2.1 f.2.2.2.2.1 f.2.2.2.2.2
theorem zIt{i:Nat}{y:Str}{py spos:Pos}(hc:X.calm=true)(T:zDk X sc N0)(hi:PI X tg iter wi)
  (hg:∀ C s H fp pins,PG (X.comp (N0++own) sc C s H fp pins) tg g) (ht:∀ C s H fp pins,PTs (X.comp (N0++own) sc C s H fp pins) ifs tc) (he:∀ C s H fp pins,PE (X.comp (N0++own) sc C s H fp pins) elt te)
  (hN:X.N.Nodup) (hy:X.N[i]?=some y) (hl:X.env.scope.names.lookup y=some .local)
  (hsw:swapsWith (.ListComp elt [⟨tg,iter,ifs,0⟩] sc pos) (some (.Name y py)) spos.line X.env=pure true)
  (hs:∀ x,foldedSetIterable iter X.env x=pure x:=by intro u0;rfl):PS X (.Assign [.Name y py] (.ListComp elt [⟨tg,iter,ifs,0⟩] sc pos) spos) (fun D σ H=>zLz own.length wi g tc te σ H fun v H1=>D.nx (σ.set i (some v)) H1):=by
 intro pins s σ H D I h
 rw[exec_Assign_Name_used _ _ _ _ hsw]
 refine bI (wpAny_standAt (bI ?_))
 show wpAny _ X.A (do let _ ← comprehension (.ListComp elt [⟨tg,iter,ifs,0⟩] sc pos) sc X.env _ (newList []) false (eval iter X.env) (some (assign (.Name y py) X.env))) _ _ s
 refine bI (fw (wpAny_comprehension_free (use:=some (assign (.Name y py) X.env)) (Q:=fun u0 s'=>SP X pins D .next s') rfl hs (zCh fun y hy hf=>I.ok.has _ (T.cap y hy hf)) T.kind T.names
  (yi (hi pins s σ H _ I h) fun xv s₁ h₁=>yi h₁ fun it s₂ h₂=>?_)) (fun u0 s' hq=>bS (bS hq)) fun u0 u0 e=>e)
 refine yi (zEp (iter:=iter) (pos:=pos) (E:=X.xe) (Q:=fun v H1=>D.nx (σ.set i (some v)) H1) hc T hg ht he h₂) fun acc s₃ h₃=>yi h₃ fun cenv s₄ h₄=>eh h₄ fun r s' hr=>?_
 obtain⟨A,H',m,rfl,rfl,J,f,hn,q⟩:=hr
 show wpAny _ X.A (assign (.Name y py) X.env (.ref A)) _ _ _
 refine wpAny_assign_Name (zFn J hN hy (.inl hl) (v:=.ref A) rfl (fun s'' J' ⟨a,sb,ha⟩=>?_) (.inr hl))
 have hCa:cenv.locals≠a:=by
  rcases ha with z | z
  ·rw[z];exact f.2.1
  ·exact fun e=>f.2.2.2.2.1 y a z e.symm
 refine⟨m,hn.sameBut sb hCa,fun h' hs'=>⟨_,H',?_,q⟩⟩
 exact J'.turned (t':=s''.toks) (fun b o hb e=>(hs'.2 b hb).trans e) f.1 f.2.1 f.2.2.2.1 f.2.2.2.2.1 f.2.2.2.2.2
end
end L2
namespace L3
open L2
set_option genInjectivity true in
inductive D where
 | non | bl (b:Bool) | int (i:Int) | str (x:Str) | tup (ds:List D) | adr (a:Addr) | dic (a:Addr)
mutual
noncomputable def zQ(K:PySem.W.Frag)(H:Hp):D→V→Prop
 | .non,v=>v=V.non
 | .bl b,v=>v=V.bl b
 | .int i,v=>v=V.int i
 | .str x,v=>v=V.str x
 | .adr a,v=>v=V.ref a
 | .dic a,v=>v=V.ref a∧∃ o x,H a=some (.frz o (.own x))∧o.cls=.type "dict"
 | .tup ds,v=>∃ a xs,v=V.ref a∧SqT K H a xs∧Dens K H ds xs
noncomputable def Dens(K:PySem.W.Frag)(H:Hp):List D→List V→Prop
 | [],xs=>xs=[]
 | d::ds,xs=>∃ x r,xs=x::r∧zQ K H d x∧Dens K H ds r
end
structure Gp where
 m:Addr→Option (List D)
 ro:Addr→Option (List D)
noncomputable def zU(G:Gp)(a:Addr)(o:List D):Gp:={ G with m:=fun b=>if b=a then some o else G.m b }
theorem zK{G:Gp}{a:Addr}{o:List D}:(zU G a o).m a=some o:=if_pos rfl
theorem ze{G:Gp}{a b:Addr}{o:List D}(h:b≠a):(zU G a o).m b=G.m b:=if_neg h
theorem zCM{G:Gp}{a:Addr}{o u:List D}:zU (zU G a o) a u=zU G a u:=by
 unfold zU
 congr 1
 funext b;by_cases h:b=a
 ·simp only[if_pos h]
 ·simp only[if_neg h]
theorem gne{G:Gp}{a b:Addr}{o:List D}(h:G.m a=some o)(h':G.m b=none):a≠b:=fun e=>by rw[e,h'] at h;cases h
structure Sub (G G':Gp):Prop where
 m:∀ a o,G.m a=some o→G'.m a=some o
 ro:∀ a o,G.ro a=some o→G'.ro a=some o
theorem Sub.refl(G:Gp):Sub G G:=⟨fun u0 u0 h=>h,fun u0 u0 h=>h⟩
theorem Sub.trans{G G1 G2:Gp}(h:Sub G G1)(h':Sub G1 G2):Sub G G2:=⟨fun a o e=>h'.m a o (h.m a o e),fun a o e=>h'.ro a o (h.ro a o e)⟩
theorem Sub.new{G:Gp}{p:Addr}{o:List D}(h:G.m p=none):Sub G (zU G p o):=⟨fun a u e=>by rw[ze (gne e h)];exact e,fun u0 u0 e=>e⟩
noncomputable def Ls(G:Gp)(a:Addr)(ds:List D):Prop:=G.m a=some ds∨G.ro a=some ds
theorem Ls.sub{G G':Gp}{a:Addr}{ds:List D}(h:Ls G a ds)(s:Sub G G'):Ls G' a ds:=by
 rcases h with h | h
 ·exact .inl (s.m a ds h)
 ·exact .inr (s.ro a ds h)
theorem Ls.own{G:Gp}{a:Addr}{ds:List D}:Ls (zU G a ds) a ds:=.inl zK
noncomputable def RoL(K:PySem.W.Frag)(H:Hp)(a:Addr)(xs:List V):Prop :=
 (∃ o,H a=some (.frz o (.lst xs)))∨∃(o:Obj) (its:Array Value) (n:Nat),K.lookup a=some o∧o.cls=.type "list"∧o.dict=none∧o.data=.seq its n∧its.size≤sizeLine∧za xs its.toList
theorem RoL.sq{K:PySem.W.Frag}{H:Hp}{a:Addr}{xs:List V}(h:RoL K H a xs):SqL K H a xs:=by
 rcases h with h | h
 ·exact .inl (.inr h)
 ·exact .inr h
structure yK (K:PySem.W.Frag) (G:Gp) (H:Hp):Prop where
 m:∀ a ds,G.m a=some ds→∃ xs,H a=some (.lst xs)∧Dens K H ds xs
 ro:∀ a ds,G.ro a=some ds→∃ xs,RoL K H a xs∧Dens K H ds xs
structure yB (H H':Hp):Prop where
 tups:∀ a xs,H a=some (.tup xs)→H' a=some (.tup xs)
 frzs:∀ a o u,H a=some (.frz o u)→H' a=some (.frz o u)
section
variable {K:PySem.W.Frag} {H H' H'':Hp} {G G':Gp}
theorem yB.refl(H:Hp):yB H H:=⟨fun u0 u0 h=>h,fun u0 u0 u0 h=>h⟩
theorem yB.trans(a:yB H H')(b:yB H' H''):yB H H'':=⟨fun c xs h=>b.tups c xs (a.tups c xs h),fun c o u h=>b.frzs c o u (a.frzs c o u h)⟩
theorem yB.fresh{p:Addr}{o:HO}(h:H p=none):yB H (wj H p o):=⟨fun a xs e=>by rw[yN (yh e h)];exact e,fun a o u e=>by rw[yN (yh e h)];exact e⟩
theorem yB.lst{p:Addr}{xs:List V}{o:HO}(h:H p=some (.lst xs)):yB H (wj H p o) :=
 ⟨fun a ys e=>by rw[yN (zPa e h (by intro z;cases z))];exact e,fun a o u e=>by rw[yN (zPa e h (by intro z;cases z))];exact e⟩
theorem yB.sqT(g:yB H H'){a:Addr}{xs:List V}(h:SqT K H a xs):SqT K H' a xs:=by
 rcases h with (h | ⟨o,h⟩) | h
 ·exact .inl (.inl (g.tups _ _ h))
 ·exact .inl (.inr ⟨o,g.frzs _ _ _ h⟩)
 ·exact .inr h
theorem yB.roL(g:yB H H'){a:Addr}{xs:List V}(h:RoL K H a xs):RoL K H' a xs:=by
 rcases h with ⟨o,h⟩ | h
 ·exact .inl ⟨o,g.frzs _ _ _ h⟩
 ·exact .inr h
mutual
theorem zQ.grow(g:yB H H'):∀ {d:D} {v:V},zQ K H d v→zQ K H' d v
 | .non,_,h=>by unfold zQ at h ⊢;exact h
 | .bl _,_,h=>by unfold zQ at h ⊢;exact h
 | .int _,_,h=>by unfold zQ at h ⊢;exact h
 | .str _,_,h=>by unfold zQ at h ⊢;exact h
 | .adr _,_,h=>by unfold zQ at h ⊢;exact h
 | .dic _,_,h=>by unfold zQ at h ⊢;obtain⟨e,o,x,q,c⟩:=h;exact⟨e,o,x,g.frzs _ _ _ q,c⟩
 | .tup ds,v,h=>by
  unfold zQ at h ⊢
  obtain⟨a,xs,e,s,r⟩:=h
  exact⟨a,xs,e,g.sqT s,Dens.grow g r⟩
theorem Dens.grow(g:yB H H'):∀ {ds:List D} {xs:List V},Dens K H ds xs→Dens K H' ds xs
 | [],_,h=>by unfold Dens at h ⊢;exact h
 | d::ds,xs,h=>by
  unfold Dens at h ⊢
  obtain⟨x,r,e,h1,h2⟩:=h
  exact⟨x,r,e,zQ.grow g h1,Dens.grow g h2⟩
end
theorem Dens.length:∀ {ds:List D} {xs:List V},Dens K H ds xs→ds.length=xs.length
 | [],xs,h=>by unfold Dens at h;rw[h];rfl
 | d::ds,xs,h=>by
  unfold Dens at h
  obtain⟨x,r,rfl,u0,h2⟩:=h
  simp[Dens.length h2]
theorem Dens.get:∀ {ds:List D} {xs:List V} {i:Nat} {d:D},Dens K H ds xs→ds[i]?=some d→∃ x,xs[i]?=some x∧zQ K H d x
 | [],_,_,_,_,e=>by simp at e
 | d::ds,xs,0,d',h,e=>by
  unfold Dens at h
  obtain⟨x,r,rfl,h1,u0⟩:=h
  simp at e;subst e
  exact⟨x,rfl,h1⟩
 | d::ds,xs,i+1,d',h,e=>by
  unfold Dens at h
  obtain⟨x,r,rfl,u0,h2⟩:=h
  obtain⟨y,e1,e2⟩:=Dens.get (i:=i) (d:=d') h2 (by simpa using e)
  exact⟨y,by simpa using e1,e2⟩
theorem Dens.got:∀ {ds:List D} {xs:List V} {i:Nat} {x:V},Dens K H ds xs→xs[i]?=some x→∃ d,ds[i]?=some d∧zQ K H d x
 | ds,xs,i,x,h,e=>by
  have hl:=h.length
  have hi:i<ds.length:=by rw[hl];exact(bW.mp e).1
  obtain⟨y,e1,e2⟩:=h.get (i:=i) (d:=ds[i]) (by simp[hi])
  rw[e] at e1;cases e1
  exact⟨ds[i],by simp[hi],e2⟩
theorem Dens.nil:Dens K H [] []:=by unfold Dens;rfl
theorem Dens.cons{d:D}{ds:List D}{x:V}{xs:List V}(h:zQ K H d x)(h':Dens K H ds xs):Dens K H (d::ds) (x::xs):=by unfold Dens;exact⟨x,xs,rfl,h,h'⟩
theorem Dens.append:∀ {ds es:List D} {xs ys:List V},Dens K H ds xs→Dens K H es ys→Dens K H (ds++es) (xs++ys)
 | [],_,xs,_,h,h'=>by unfold Dens at h;rw[h];exact h'
 | d::ds,_,xs,_,h,h'=>by
  unfold Dens at h
  obtain⟨x,r,rfl,h1,h2⟩:=h
  exact Dens.cons h1 (Dens.append h2 h')
theorem Dens.of_get:∀ {ds:List D} {xs:List V},ds.length=xs.length→(∀(i:Nat) d x,ds[i]?=some d→xs[i]?=some x→zQ K H d x)→Dens K H ds xs
 | [],[],_,_=>.nil
 | [],_::_,h,_=>by simp at h
 | _::_,[],h,_=>by simp at h
 | d::ds,x::xs,h,g=>.cons (g 0 d x rfl rfl) (Dens.of_get (by simpa using h) fun i d' x' e1 e2=>g (i+1) d' x' (by simpa using e1) (by simpa using e2))
theorem Dens.take{n:Nat}{ds:List D}{xs:List V}(h:Dens K H ds xs):Dens K H (ds.take n) (xs.take n) :=
 .of_get (by simp[h.length]) fun i d x e1 e2=>by
  rw[List.getElem?_take] at e1 e2
  split at e1
  ·rename_i hi
   rw[if_pos hi] at e2
   obtain⟨y,e,r⟩:=h.get e1
   rw[e2] at e;cases e;exact r
  ·cases e1
theorem Dens.drop{n:Nat}{ds:List D}{xs:List V}(h:Dens K H ds xs):Dens K H (ds.drop n) (xs.drop n) :=
 .of_get (by simp[h.length]) fun i d x e1 e2=>by
  rw[List.getElem?_drop] at e1 e2
  obtain⟨y,e,r⟩:=h.get e1
  rw[e2] at e;cases e;exact r
theorem Dens.set{ds:List D}{xs:List V}{d:D}{x:V}(i:Nat)(h:Dens K H ds xs)(hd:zQ K H d x):Dens K H (ds.set i d) (xs.set i x) :=
 .of_get (by simp[h.length]) fun j d' x' e1 e2=>by
  by_cases hj:i=j
  ·subst hj
   have hi:i<ds.length:=by
    have:=(bW.mp e1).1;simpa using this
   rw[eu hi] at e1
   rw[eu (by rw[← h.length];exact hi)] at e2
   cases e1;cases e2;exact hd
  ·rw[fe hj] at e1 e2
   obtain⟨y,e,r⟩:=h.get e1
   rw[e2] at e;cases e;exact r
theorem Dens.eraseIdx:∀ {ds:List D} {xs:List V} (i:Nat),Dens K H ds xs→Dens K H (ds.eraseIdx i) (xs.eraseIdx i)
 | [],xs,i,h=>by unfold Dens at h;subst h;exact .nil
 | d::ds,xs,0,h=>by
  unfold Dens at h
  obtain⟨x,r,rfl,h1,h2⟩:=h
  exact h2
 | d::ds,xs,i+1,h=>by
  unfold Dens at h
  obtain⟨x,r,rfl,h1,h2⟩:=h
  exact .cons h1 (Dens.eraseIdx i h2)
theorem Dens.reverse:∀ {ds:List D} {xs:List V},Dens K H ds xs→Dens K H ds.reverse xs.reverse
 | [],xs,h=>by unfold Dens at h;subst h;exact .nil
 | d::ds,xs,h=>by
  unfold Dens at h
  obtain⟨x,r,rfl,h1,h2⟩:=h
  rw[eK,eK]
  exact(Dens.reverse h2).append (.cons h1 .nil)
theorem Dens.ints(ns:List Int):Dens K H (ns.map D.int) (ns.map V.int):=by
 induction ns with
 | nil=>exact .nil
 | cons n r ih=>exact .cons (by unfold zQ;rfl) ih
theorem yK.fresh{p:Addr}{o:HO}(h:H p=none)(r:yK K G H):yK K G (wj H p o) :=
  ⟨fun a ds e=>by
    obtain⟨xs,e1,e2⟩:=r.m a ds e
    exact⟨xs,by rw[yN (yh e1 h)];exact e1,e2.grow (.fresh h)⟩,
   fun a ds e=>by
    obtain⟨xs,e1,e2⟩:=r.ro a ds e
    exact⟨xs,(yB.fresh h).roL e1,e2.grow (.fresh h)⟩⟩
theorem yK.free{p:Addr}(r:yK K G H)(h:H p=none):G.m p=none:=by
 cases q:G.m p with
 | none=>rfl
 | some ds=>obtain⟨xs,e1,u0⟩:=r.m p _ q;rw[h] at e1;cases e1
theorem yK.own{l:Addr}{ds:List D}{xs:List V}(r:yK K G H)(e:H l=some (.lst xs))(d:Dens K H ds xs):yK K (zU G l ds) H :=
  ⟨fun b u q=>by
    by_cases hb:b=l
    · subst hb;rw[zK] at q;cases q;exact⟨xs,e,d⟩
    · rw[ze hb] at q;exact r.m b u q,
   r.ro⟩
theorem yK.new{p:Addr}{ds:List D}{xs:List V}(h:H p=none)(r:yK K G H)(d:Dens K H ds xs):yK K (zU G p ds) (wj H p (.lst xs)) :=
 (r.fresh h).own zu (d.grow (.fresh h))
theorem yK.put{p:Addr}{ds':List D}{xs xs':List V}(h:H p=some (.lst xs))(r:yK K G H)(d:Dens K H ds' xs'):yK K (zU G p ds') (wj H p (.lst xs')) :=
  ⟨fun a u e=>by
    by_cases ha:a=p
    · subst ha
      rw[zK] at e;cases e
      exact⟨xs',zu,d.grow (.lst h)⟩
    · rw[ze ha] at e
      obtain⟨ys,e1,e2⟩:=r.m a u e
      exact⟨ys,by rw[yN ha];exact e1,e2.grow (.lst h)⟩,
   fun a u e=>by
    obtain⟨ys,e1,e2⟩:=r.ro a u e
    exact⟨ys,(yB.lst h).roL e1,e2.grow (.lst h)⟩⟩
theorem yK.sub(s:Sub G G')(r:yK K G' H):yK K G H:=⟨fun a u e=>r.m a u (s.m a u e),fun a u e=>r.ro a u (s.ro a u e)⟩
theorem yK.sq{a:Addr}{ds:List D}(r:yK K G H)(e:Ls G a ds):∃ xs,SqL K H a xs∧Dens K H ds xs:=by
 rcases e with e | e
 ·obtain⟨xs,e1,e2⟩:=r.m a _ e
  exact⟨xs,.of e1,e2⟩
 ·obtain⟨xs,e1,e2⟩:=r.ro a _ e
  exact⟨xs,e1.sq,e2⟩
end
noncomputable abbrev S2:=List (Option D)
noncomputable abbrev zk:=S2→Gp→(D→Gp→Prop)→Prop
noncomputable abbrev TT2:=S2→Gp→(Bool→Gp→Prop)→Prop
noncomputable abbrev wN:=S2→Gp→(List D→Gp→Prop)→Prop
structure yO where
 nx:S2→Gp→Prop
 rt:D→Gp→Prop
 bk:S2→Gp→Prop:=fun u0 u0=>False
 ct:S2→Gp→Prop:=fun u0 u0=>False
noncomputable abbrev ye:=yO→S2→Gp→Prop
noncomputable def look:S2→Nat→Option D
 | [],_=>none
 | o::_,0=>o
 | _::r,i+1=>look r i
theorem zEq:∀ {σ:S2} {i:Nat} {d:D},look σ i=some d→σ[i]?=some (some d)
 | [],_,_,e=>by cases e
 | o::_,0,d,e=>by simp[look] at e;simp[e]
 | _::r,i+1,d,e=>by simpa using zEq (σ:=r) (i:=i) (d:=d) e
structure Rel (K:PySem.W.Frag) (σ:S2) (G:Gp) (σ1:L2.St) (H:Hp):Prop where
 g:yK K G H
 len:σ.length=σ1.length
 val:∀(i:Nat) d,σ[i]?=some (some d)→∃ v,σ1[i]?=some (some v)∧zQ K H d v
theorem Rel.to{K:PySem.W.Frag}{σ:S2}{G G':Gp}{σ1:L2.St}{H H':Hp}(r:Rel K σ G σ1 H)(g:yB H H')(r':yK K G' H'):Rel K σ G' σ1 H' :=
 ⟨r',r.len,fun i d e=>by obtain⟨v,e1,e2⟩:=r.val i d e;exact⟨v,e1,e2.grow g⟩⟩
theorem Rel.set{K:PySem.W.Frag}{σ:S2}{G:Gp}{σ1:L2.St}{H:Hp}(r:Rel K σ G σ1 H)(i:Nat){d:D}{v:V}(h:zQ K H d v):Rel K (σ.set i (some d)) G (σ1.set i (some v)) H :=
 ⟨r.g,by simp[r.len],fun j d' e=>by
  by_cases hj:i=j
  ·subst hj
   have hi:i<σ.length:=by
    have:=(bW.mp e).1;simpa using this
   rw[eu hi] at e
   cases e
   exact⟨v,by rw[eu (by rw[← r.len];exact hi)],h⟩
  ·rw[fe hj] at e
   obtain⟨u,e1,e2⟩:=r.val j d' e
   exact⟨u,by rw[fe hj];exact e1,e2⟩⟩
noncomputable def lE(K:PySem.W.Frag)(t:zk):TE:=fun σ1 H Q=>∃ σ G R,Rel K σ G σ1 H∧t σ G R∧∀ d G',R d G'→∀ v H',yB H H'→yK K G' H'→zQ K H' d v→Q v H'
noncomputable def lT(K:PySem.W.Frag)(t:TT2):TT:=fun σ1 H Q=>∃ σ G R,Rel K σ G σ1 H∧t σ G R∧∀ b G',R b G'→∀ H',yB H H'→yK K G' H'→Q b H'
noncomputable def lA(K:PySem.W.Frag)(t:wN):TA:=fun σ1 H Q=>∃ σ G R,Rel K σ G σ1 H∧t σ G R∧∀ ds G',R ds G'→∀ vs H',yB H H'→yK K G' H'→Dens K H' ds vs→Q vs H'
structure ER (K:PySem.W.Frag) (H:Hp) (D2:yO) (E:Ends):Prop where
 nx:∀ σ G,D2.nx σ G→∀ σ1 H',yB H H'→Rel K σ G σ1 H'→E.nx σ1 H'
 bk:∀ σ G,D2.bk σ G→∀ σ1 H',yB H H'→Rel K σ G σ1 H'→E.bk σ1 H'
 ct:∀ σ G,D2.ct σ G→∀ σ1 H',yB H H'→Rel K σ G σ1 H'→E.ct σ1 H'
 rt:∀ d G,D2.rt d G→∀ v H',yB H H'→yK K G H'→zQ K H' d v→E.rt v H'
theorem ER.to{K:PySem.W.Frag}{H H':Hp}{D2:yO}{E:Ends}(e:ER K H D2 E)(g:yB H H'):ER K H' D2 E :=
 ⟨fun σ G h σ1 H1 g1=>e.nx σ G h σ1 H1 (g.trans g1),fun σ G h σ1 H1 g1=>e.bk σ G h σ1 H1 (g.trans g1),fun σ G h σ1 H1 g1=>e.ct σ G h σ1 H1 (g.trans g1),fun d G h v H1 g1=>e.rt d G h v H1 (g.trans g1)⟩
noncomputable def lS(K:PySem.W.Frag)(t:ye):TS:=fun E σ1 H=>∃ σ G D2,Rel K σ G σ1 H∧t D2 σ G∧ER K H D2 E
noncomputable def E2(X:Cx)(e:Expr)(t:zk):Prop:=PE X e (lE X.K t)
noncomputable def T2(X:Cx)(e:Expr)(t:TT2):Prop:=PT X e (lT X.K t)
noncomputable def A2(X:Cx)(es:List Expr)(t:wN):Prop:=PA X es (lA X.K t)
noncomputable def P2(X:Cx)(st:Stmt)(t:ye):Prop:=PS X st (lS X.K t)
noncomputable def Ps2(X:Cx)(st:List Stmt)(t:ye):Prop:=PSs X st (lS X.K t)
section
variable {X:Cx} {a b c e o:Expr} {es:List Expr} {pos p:Pos} {ta tb tc te:zk}
noncomputable def zB(i:Nat):zk:=fun σ G R=>match look σ i with | some d=>R d G | none=>False
noncomputable def xC(d:D):zk:=fun u0 G R=>R d G
theorem zD(i:Nat){x:Str}(hN:X.N[i]?=some x:=by rfl)(hv:Vis X.env.scope x:=by first | exact Or.inl rfl | exact Or.inr (Or.inl rfl) | exact Or.inr (Or.inr rfl))(hd:(x==("__debug__":Str))=false:=by decide)
  (hcd:(x==("__classdict__":Str))=false:=by decide):E2 X (.Name x pos) (zB i):=by
 refine PE.mono (zLn hN hv hd hcd) ?_
 rintro σ1 H Q ⟨σ,G,R,r,t,k⟩
 unfold zB at t
 cases q:look σ i with
 | none=>rw[q] at t;exact t.elim
 | some d =>
  rw[q] at t
  obtain⟨v,e1,e2⟩:=r.val i d (zEq q)
  exact⟨v,e1,k d G t v H (.refl H) r.g e2⟩
theorem zN{i j}:E2 X (.Constant (.int i) j pos) (xC (.int i)):=by
 refine PE.mono zQA ?_
 rintro σ1 H Q ⟨σ,G,R,r,t,k⟩
 exact k _ G t _ H (.refl H) r.g (by unfold zQ;rfl)
theorem zDB{i j}:E2 X (.Constant (.bool i) j pos) (xC (.bl i)):=by
 refine PE.mono zRi ?_
 rintro σ1 H Q ⟨σ,G,R,r,t,k⟩
 exact k _ G t _ H (.refl H) r.g (by unfold zQ;rfl)
theorem zJk{i j}:E2 X (.Constant (.str i) j pos) (xC (.str i)):=by
 refine PE.mono zQC ?_
 rintro σ1 H Q ⟨σ,G,R,r,t,k⟩
 exact k _ G t _ H (.refl H) r.g (by unfold zQ;rfl)
theorem zBS{j}:E2 X (.Constant .none j pos) (xC .non):=by
 refine PE.mono zQB ?_
 rintro σ1 H Q ⟨σ,G,R,r,t,k⟩
 exact k _ G t _ H (.refl H) r.g (by unfold zQ;rfl)
noncomputable abbrev Q2:=D→Gp→Prop
noncomputable def Fit(K:PySem.W.Frag)(r:R2)(f:D→D→Gp→Q2→Prop):Prop :=
 ∀ dx dy G R x y H Q,f dx dy G R→yK K G H→zQ K H dx x→zQ K H dy y→(∀ d G',R d G'→∀ v H',yB H H'→yK K G' H'→zQ K H' d v→Q v H')→r x y H Q
noncomputable def zO(f:D→D→Gp→Q2→Prop)(ta tb:zk):zk:=fun σ G R=>ta σ G fun x G1=>tb σ G1 fun y G2=>f x y G2 R
theorem zHi{K:PySem.W.Frag}{r:R2}{f:D→D→Gp→Q2→Prop}(hf:Fit K r f){σ1:L2.St}{H:Hp}{Q:VK}(h:lE K (zO f ta tb) σ1 H Q):tOp r (lE K ta) (lE K tb) σ1 H Q:=by
 obtain⟨σ,G,R,rl,t,k⟩:=h
 refine⟨σ,G,_,rl,t,fun dx G1 t1 x H1 g1 r1 d1=>?_⟩
 refine⟨σ,G1,_,rl.to g1 r1,t1,fun dy G2 t2 y H2 g2 r2 d2=>?_⟩
 exact hf dx dy G2 R x y H2 Q t2 r2 (d1.grow g2) d2 fun d G' q v H' g' r' d'=>k d G' q v H' ((g1.trans g2).trans g') r' d'
theorem zHj{op:Operator}{r:R2}{f:D→D→Gp→Q2→Prop}(ho:OpR X (binaryOp op) r)(hf:Fit X.K r f)(ha:E2 X a ta)(hb:E2 X b tb):E2 X (.BinOp a op b pos) (zO f ta tb) :=
 PE.mono (zPb ho ha hb) fun σ1 H Q h=>zHi hf h
theorem zFv{op:CmpOp}{r:R2}{f:D→D→Gp→Q2→Prop}(ho:OpR X (compareOp op) r)(hf:Fit X.K r f)(ha:E2 X a ta)(hb:E2 X b tb)(hm:behindInMarks op b=false):E2 X (.Compare a [op] [b] pos) (zO f ta tb) :=
 PE.mono (zNy ho ha hb hm) fun σ1 H Q h=>zHi hf h
noncomputable def xB(t:zk):TT2:=fun σ G R=>t σ G fun d G1=>match d with | .bl b=>R b G1 | _=>False
theorem zCi{op:CmpOp}{r:R2}{f:D→D→Gp→Q2→Prop}(ho:OpR X (compareOp op) r)(hf:Fit X.K r f)(ha:E2 X a ta)(hb:E2 X b tb)(hm:behindInMarks op b=false):T2 X (.Compare a [op] [b] pos) (xB (zO f ta tb)):=by
 refine PT.mono (zNz ho ha hb hm) ?_
 rintro σ1 H Q ⟨σ,G,R,rl,t,k⟩
 refine zHi hf ⟨σ,G,_,rl,t,fun d G' q v H' g' r' d'=>?_⟩
 cases d with
 | bl b =>
  unfold zQ at d'
  exact⟨b,d',k b G' q H' g' r'⟩
 | _=>exact q.elim
noncomputable def fII(g:Int→Int→D):D→D→Gp→Q2→Prop:=fun x y G R=>match x,y with | .int i,.int j=>R (g i j) G | _,_=>False
noncomputable def zL0:D→Bool
 | .tup _=>false
 | .adr _=>false
 | .dic _=>false
 | _=>true
noncomputable def vOf:D→V
 | .non=>.non | .bl b=>.bl b | .int i=>.int i | .str x=>.str x | .tup _=>.non | .adr a=>.ref a | .dic a=>.ref a
theorem zJl{K:PySem.W.Frag}{H:Hp}{d:D}(h:zL0 d=true):zQ K H d (vOf d):=by
 cases d<;>first | (cases h;done) | (unfold zQ;rfl)
theorem zCu{K:PySem.W.Frag}{gv:Int→Int→V}{g:Int→Int→D}(hg:∀ i j,zL0 (g i j)=true∧gv i j=vOf (g i j)):Fit K (rI0 gv) (fII g):=by
 intro dx dy G R x y H Q h r d1 d2 k
 unfold fII at h
 cases dx with
 | int i =>
  cases dy with
  | int j =>
   unfold zQ at d1 d2
   subst d1 d2
   exact⟨i,j,rfl,rfl,k _ G h _ H (.refl H) r (by rw[(hg i j).2];exact zJl (hg i j).1)⟩
  | _=>exact h.elim
 | _=>exact h.elim
noncomputable def yY(C:Int→Int→Prop)(g:Int→Int→D):D→D→Gp→Q2→Prop:=fun x y G R=>match x,y with | .int i,.int j=>C i j∧R (g i j) G | _,_=>False
theorem zDC{K:PySem.W.Frag}{C:Int→Int→Prop}{gv:Int→Int→V}{g:Int→Int→D}(hg:∀ i j,zL0 (g i j)=true∧gv i j=vOf (g i j)):Fit K (rI C gv) (yY C g):=by
 intro dx dy G R x y H Q h r d1 d2 k
 unfold yY at h
 cases dx with
 | int i =>
  cases dy with
  | int j =>
   unfold zQ at d1 d2
   subst d1 d2
   exact⟨i,j,rfl,rfl,h.1,k _ G h.2 _ H (.refl H) r (by rw[(hg i j).2];exact zJl (hg i j).1)⟩
  | _=>exact h.elim
 | _=>exact h.elim
noncomputable abbrev TL2:=S2→Gp→(List D→Gp→Prop)→Prop
noncomputable def lL(K:PySem.W.Frag)(t:TL2):TE:=fun σ1 H Q=>∃ σ G R,Rel K σ G σ1 H∧t σ G R∧∀ ds G',R ds G'→∀ l xs H',yB H H'→yK K G' H'→G'.m l=none→H' l=some (.lst xs)→Dens K H' ds xs→Q (.ref l) H'
noncomputable def F2(X:Cx)(e:Expr)(t:TL2):Prop:=PE X e (lL X.K t)
noncomputable def yJ(t:TL2):zk:=fun σ G R=>t σ G fun ds G'=>∀ l,G'.m l=none→R (.adr l) (zU G' l ds)
theorem yc{t:TL2}(h:F2 X e t):E2 X e (yJ t):=by
 refine PE.mono h ?_
 rintro σ1 H Q ⟨σ,G,R,r,q,k⟩
 exact⟨σ,G,_,r,q,fun ds G' q' l xs H' g r' n e' d=>k _ _ (q' l n) _ H' g (r'.own e' d) (by unfold zQ;rfl)⟩
noncomputable def zH:wN:=fun u0 G R=>R [] G
noncomputable def zA(ta:zk)(tr:wN):wN:=fun σ G R=>ta σ G fun x G1=>tr σ G1 fun xs G2=>R (x::xs) G2
theorem zI:A2 X [] zH:=by
 intro pos pins s σ1 H Q I h
 refine zBy pos pins s σ1 H Q I ?_
 obtain⟨σ,G,R,r,q,k⟩:=h
 exact k [] G q [] H (.refl H) r.g .nil
theorem zC{tr:wN}(ha:E2 X e ta)(hr:A2 X es tr)(hs:starEach (e::es) X.env=(false,eval e X.env)::starEach es X.env:=by rfl):A2 X (e::es) (zA ta tr):=by
 intro pos pins s σ1 H Q I h
 refine zAk ha hr hs pos pins s σ1 H Q I ?_
 obtain⟨σ,G,R,r,q,k⟩:=h
 refine⟨σ,G,_,r,q,fun d G1 q1 v H1 g1 r1 d1=>?_⟩
 refine⟨σ,G1,_,r.to g1 r1,q1,fun ds G2 q2 vs H2 g2 r2 d2=>?_⟩
 exact k _ G2 q2 _ H2 (g1.trans g2) r2 (.cons (d1.grow g2) d2)
noncomputable def yZ(t:wN):zk:=fun σ G R=>t σ G fun ds G1=>ds.length≤sizeLine∧R (.tup ds) G1
theorem wp{t:wN}{x1}(h:A2 X es t):E2 X (.Tuple es x1 pos) (yZ t):=by
 refine PE.mono (zQg h) ?_
 rintro σ1 H Q ⟨σ,G,R,r,q,k⟩
 refine⟨σ,G,_,r,q,fun ds G1 q1 vs H1 g1 r1 d1=>⟨by rw[← d1.length];exact q1.1,fun p hp=>?_⟩⟩
 refine k _ G1 q1.2 _ _ (g1.trans (.fresh hp)) (r1.fresh hp) ?_
 unfold zQ
 exact⟨p,vs,rfl,.of zu,d1.grow (.fresh hp)⟩
noncomputable def wq(t:wN):TL2:=fun σ G R=>t σ G fun ds G1=>ds.length≤sizeLine∧R ds G1
theorem zAv{t:wN}(h:A2 X es t):F2 X (.List es pos) (wq t):=by
 refine PE.mono (zQh h) ?_
 rintro σ1 H Q ⟨σ,G,R,r,q,k⟩
 refine⟨σ,G,_,r,q,fun ds G1 q1 vs H1 g1 r1 d1=>⟨by rw[← d1.length];exact q1.1,fun p hp=>?_⟩⟩
 exact k ds G1 q1.2 p vs _ (g1.trans (.fresh hp)) (r1.fresh hp) (r1.free hp) zu (d1.grow (.fresh hp))
noncomputable abbrev wm:=List D→Gp→Q2→Prop
noncomputable def lSp(K:PySem.W.Frag)(sp:wm):Sp:=fun vs H Q u0=>∃ ds G R,Dens K H ds vs∧yK K G H∧sp ds G R∧∀ d G',R d G'→∀ v H',yB H H'→yK K G' H'→zQ K H' d v→Q v H'
noncomputable def Df(P:Program)(w:World)(K:PySem.W.Frag)(mg:Str→Option Value)(base:Heap)(k:Nat)(x:Str)(ps:List Str)(sp:wm):Prop :=
 ∃ f fd,zC9 P w K mg base CX0 k f fd ps (lSp K sp)∧mg x=some (.ref f)∧PySem.W.keepIn K (.ref f)=true∧Binds K fd ps []
noncomputable def zJ(sp:wm)(t:wN):zk:=fun σ G R=>t σ G fun ds G1=>sp ds G1 R
theorem zV{sp:wm}{t:wN}{k k':Nat}{x:Str}{ps:List Str}(F:Df X.prog X.w X.K X.mg X.base k x ps sp)(hr:wB k' X.A)(hk:k≤k')(hg:Gl X x)(ha:A2 X (e::es) t)
  (hdb:(x==("__debug__":Str))=false:=by decide) (he:starEach (e::es) X.env=(false,eval e X.env)::starEach es X.env:=by rfl) (hpl:(backTo pos (starEach es X.env)).any (·.1)=false:=by rfl) :
  E2 X (.Call (.Name x p) (e::es) [] pos) (zJ sp t):=by
 obtain⟨f,fd,F,hm,hkp,hb⟩:=F
 refine PE.mono (zJf (dvs:=[]) F (hr.mono hk) hg hm hkp hb .nil zPh ha hdb he hpl) ?_
 rintro σ1 H Q ⟨σ,G,R,r,q,kk⟩
 refine⟨σ,G,_,r,q,fun ds G1 q1 vs H1 g1 r1 d1=>?_⟩
 show lSp X.K _ (vs++[]) H1 Q E0
 rw[dY]
 exact⟨ds,G1,R,d1,r1,q1,fun d G' q' v H' g'=>kk d G' q' v H' (g1.trans g')⟩
noncomputable def spL(sp:List D→Gp→(List D→Gp→Prop)→Prop):wm:=fun ds G R=>sp ds G fun ls G'=>∀ l,G'.m l=none→R (.adr l) (zU G' l ls)
noncomputable def zx(sp:List D→Gp→(List D→Gp→Prop)→Prop)(t:wN):TL2:=fun σ G R=>t σ G fun ds G1=>sp ds G1 R
theorem zAb{sp:List D→Gp→(List D→Gp→Prop)→Prop}{t:wN}{k k':Nat}{x:Str}{ps:List Str}(F:Df X.prog X.w X.K X.mg X.base k x ps (spL sp))(hmono:∀ ds G R R',(∀ ls G',R ls G'→R' ls G')→sp ds G R→sp ds G R')(hr:wB k' X.A)(hk:k≤k')(hg:Gl X x)(ha:A2 X (e::es) t)
  (hdb:(x==("__debug__":Str))=false:=by decide) (he:starEach (e::es) X.env=(false,eval e X.env)::starEach es X.env:=by rfl) (hpl:(backTo pos (starEach es X.env)).any (·.1)=false:=by rfl) :
  F2 X (.Call (.Name x p) (e::es) [] pos) (zx sp t):=by
 obtain⟨f,fd,F,hm,hkp,hb⟩:=F
 refine PE.mono (zJf (dvs:=[]) F (hr.mono hk) hg hm hkp hb .nil zPh ha hdb he hpl) ?_
 rintro σ1 H Q ⟨σ,G,R,r,q,kk⟩
 refine⟨σ,G,_,r,q,fun ds G1 q1 vs H1 g1 r1 d1=>?_⟩
 show lSp X.K _ (vs++[]) H1 Q E0
 rw[dY]
 refine⟨ds,G1,fun d G'=>∃ l ls G0,d=.adr l∧G0.m l=none∧G'=zU G0 l ls∧R ls G0,d1,r1,hmono _ _ _ _ (fun ls G' q l n=>⟨l,ls,G',rfl,n,rfl,q⟩) q1,?_⟩
 rintro d G' ⟨l,ls,G0,rfl,n,rfl,q'⟩ v H' g' r' dv
 unfold zQ at dv
 subst dv
 obtain⟨xs,e1,e2⟩:=r'.m l ls zK
 exact kk ls G0 q' l xs H' (g1.trans g') (r'.sub (.new n)) n e1 e2
section
variable {st:Stmt} {rest:List Stmt} {t u:ye}
noncomputable def zy:ye:=fun E σ G=>E.nx σ G
noncomputable def zT(t u:ye):ye:=fun E σ G=>t { E with nx:=u E } σ G
theorem yT:Ps2 X [] zy:=by
 intro pins s σ1 H E I h
 refine zNs pins s σ1 H E I ?_
 obtain⟨σ,G,D2,r,q,k⟩:=h
 exact k.nx σ G q σ1 H (.refl H) r
theorem zL(h1:P2 X st t)(h2:Ps2 X rest u):Ps2 X (st::rest) (zT t u):=by
 intro pins s σ1 H E I h
 refine zLo h1 h2 pins s σ1 H E I ?_
 obtain⟨σ,G,D2,r,q,k⟩:=h
 refine⟨σ,G,_,r,q,⟨fun σ' G' q' σ1' H' g' r'=>⟨σ',G',D2,r',q',k.to g'⟩,k.bk,k.ct,k.rt⟩⟩
theorem zP(h1:P2 X st t):Ps2 X [st] t:=zNt h1
noncomputable def zl(te:zk):ye:=fun E σ G=>te σ G E.rt
theorem zm(he:E2 X e te):P2 X (.Return (some e) pos) (zl te):=by
 refine PS.mono (L2.zQK he) ?_
 rintro E σ1 H ⟨σ,G,D2,r,q,k⟩
 exact⟨σ,G,_,r,q,fun d G' q' v H' g' r' d'=>k.rt d G' q' v H' g' r' d'⟩
noncomputable def wC(te:zk):ye:=fun E σ G=>te σ G fun u0 G1=>E.nx σ G1
theorem zBJ(he:E2 X e te)(hs:swapsWith e none pos.line X.env=pure false:=by rfl):P2 X (.Expr e pos) (wC te):=by
 refine PS.mono (L2.zNu he hs) ?_
 rintro E σ1 H ⟨σ,G,D2,r,q,k⟩
 exact⟨σ,G,_,r,q,fun d G' q' v H' g' r' d'=>k.nx σ G' q' σ1 H' g' (r.to g' r')⟩
noncomputable def xIf(c:TT2)(t u:ye):ye:=fun E σ G=>c σ G fun b G1=>if b=true then t E σ G1 else u E σ G1
theorem zA8{x y:List Stmt}{tc:TT2}(hc:T2 X c tc)(ha:Ps2 X x t)(hb:Ps2 X y u):P2 X (.If c x y pos) (xIf tc t u):=by
 refine PS.mono (L2.zRo hc ha hb) ?_
 rintro E σ1 H ⟨σ,G,D2,r,q,k⟩
 refine⟨σ,G,_,r,q,fun b G' q' H' g' r'=>?_⟩
 cases b with
 | true=>exact⟨σ,G',D2,r.to g' r',q',k.to g'⟩
 | false=>exact⟨σ,G',D2,r.to g' r',q',k.to g'⟩
noncomputable abbrev TG2:=D→S2→Gp→(S2→Gp→Prop)→Prop
noncomputable def lG(K:PySem.W.Frag)(g:TG2):TG:=fun v σ1 H Q=>∃ σ G d R,Rel K σ G σ1 H∧zQ K H d v∧g d σ G R∧∀ σ' G',R σ' G'→∀ σ1' H',yB H H'→Rel K σ' G' σ1' H'→Q σ1' H'
noncomputable def G2(X:Cx)(tg:Expr)(g:TG2):Prop:=PG X tg (lG X.K g)
theorem PG.mono{tg:Expr}{t t':TG}(h:PG X tg t)(hm:∀ v σ H Q,t' v σ H Q→t v σ H Q):PG X tg t':=fun pins s σ H v u Q I r q=>h pins s σ H v u Q I r (hm v σ H Q q)
noncomputable def gN(i:Nat):TG2:=fun d σ G R=>R (σ.set i (some d)) G
theorem zAw(i:Nat){x:Str}(hN:X.N.Nodup)(hi:X.N[i]?=some x:=by rfl)(hx:Loc X.env.scope x:=by first | exact Or.inl rfl | exact Or.inr rfl)(hf:X.fn x=true∨X.env.scope.names.lookup x=some .local:=by first | exact .inl rfl | exact .inr rfl | assumption):G2 X (.Name x pos) (gN i):=by
 refine PG.mono (zC6 hN hi hx hf) ?_
 rintro v σ1 H Q ⟨σ,G,d,R,r,dv,q,k⟩
 exact k _ G q _ H (.refl H) (r.set i dv)
noncomputable def gNN(i j:Nat):TG2:=fun d σ G R=>match d with | .tup [a,b]=>R ((σ.set i (some a)).set j (some b)) G | _=>False
theorem zR5(i j:Nat){x y:Str}{px py:Pos}{kk:Nat}(hc:X.calm=true)(hN:X.N.Nodup)(hi:X.N[i]?=some x:=by rfl)(hj:X.N[j]?=some y:=by rfl)(hx:Loc X.env.scope x:=by first | exact Or.inl rfl | exact Or.inr rfl)(hy:Loc X.env.scope y:=by first | exact Or.inl rfl | exact Or.inr rfl)
  (hf:X.fn x=true∨X.env.scope.names.lookup x=some .local:=by first | exact .inl rfl | exact .inr rfl | assumption) (hf':X.fn y=true∨X.env.scope.names.lookup y=some .local:=by first | exact .inl rfl | exact .inr rfl | assumption) :
  G2 X (.Tuple [.Name x px,.Name y py] kk pos) (gNN i j):=by
 refine PG.mono (zQM (n:=2) hc (zHZ (zC6 hN hi hx hf) (zHZ (zC6 hN hj hy hf') zNv))) ?_
 rintro v σ1 H Q ⟨σ,G,d,R,r,dv,q,k⟩
 unfold gNN at q
 split at q
 ·rename_i d1 d2
  unfold zQ at dv
  obtain⟨a,xs,rfl,hs,hd⟩:=dv
  unfold Dens at hd
  obtain⟨x1,r1,rfl,h1,hd⟩:=hd
  unfold Dens at hd
  obtain⟨x2,r2,rfl,h2,hd⟩:=hd
  unfold Dens at hd
  subst hd
  exact⟨a,[x1,x2],rfl,hs,rfl,x1,[x2],rfl,x2,[],rfl,rfl,k _ G q _ H (.refl H) ((r.set i h1).set j h2)⟩
 ·exact q.elim
noncomputable def zq(te:zk)(g:TG2):ye:=fun E σ G=>te σ G fun d G1=>g d σ G1 E.nx
theorem zL1{g:TG2}{E:Ends}{σ1:L2.St}{H:Hp}{K:PySem.W.Frag}(h:lS K (zq te g) E σ1 H):zQO (lE K te) (lG K g) E σ1 H:=by
 obtain⟨σ,G,D2,r,q,k⟩:=h
 refine⟨σ,G,_,r,q,fun d G' q' v H' g' r' d'=>⟨σ,G',d,_,r.to g' r',d',q',fun σ' G'' q'' σ1' H'' g'' r''=>k.nx σ' G'' q'' σ1' H'' (g'.trans g'') r''⟩⟩
theorem zt(i:Nat){x:Str}{pos':Pos}(hN:X.N.Nodup)(he:E2 X e te)(hi:X.N[i]?=some x:=by rfl)(hx:Loc X.env.scope x:=by first | exact Or.inl rfl | exact Or.inr rfl)(hs:swapsWith e (some (.Name x pos')) pos.line X.env=pure false:=by rfl)(hf:X.fn x=true∨X.env.scope.names.lookup x=some .local:=by first | exact .inl rfl | exact .inr rfl | assumption) :
  P2 X (.Assign [.Name x pos'] e pos) (zq te (gN i)):=by
 refine PS.mono (L2.zQQ hN hi hx he hs hf) fun E σ1 H h=>?_
 obtain⟨σ,G,D2,r,q,k⟩:=h
 refine⟨σ,G,_,r,q,fun d G' q' v H' g' r' d'=>?_⟩
 exact k.nx _ G' q' _ H' g' ((r.to g' r').set i d')
theorem zPi{tg:Expr}{g:TG2}(he:E2 X e te)(hg:G2 X tg g)(hs:swapsWithSole [tg] e pos.line X.env=pure false:=by rfl)(hw:swappedStores [tg] e X.env=pure none:=by rfl)
  (h1:(assignEach [tg] X.env).map (·.2)=[assign tg X.env]:=by rfl):P2 X (.Assign [tg] e pos) (zq te g) :=
 PS.mono (L2.zQP he hg hs hw h1) fun u0 u0 u0 h=>zL1 h
noncomputable def gIx(to ti:zk):TG2:=fun d σ G R=>to σ G fun o G1=>ti σ G1 fun i G2=>match o,i with
 | .adr l,.int k=>match G2.m l with
  | some ds=>match ixN ds.length k with | some j=>R σ (zU G2 l (ds.set j d)) | none=>False
  | none=>False
 | _,_=>False
theorem zR6{i:Expr}{to ti:zk}(ho:E2 X o to)(hi:E2 X i ti)
  (ha:∀ v,assign (.Subscript o i pos) X.env v=(do
   let ov ← holding [v] (eval o X.env)
   let iv ← holding [v,ov] (eval i X.env)
   standAt pos
   holding [v,ov,iv] (setItem ov iv v)
   release [v,ov,iv] []):=by intro u0;rfl):G2 X (.Subscript o i pos) (gIx to ti):=by
 refine PG.mono (zQN ho hi set_list ha) ?_
 rintro v σ1 H Q ⟨σ,G,d,R,r,dv,q,k⟩
 refine⟨σ,G,_,r,q,fun dx G1 q1 x H1 g1 r1 d1=>⟨σ,G1,_,r.to g1 r1,q1,fun dy G2' q2 y H2 g2 r2 d2=>?_⟩⟩
 cases dx with
 | adr l =>
  cases dy with
  | int j =>
   dsimp only at q2
   cases e1:G2'.m l with
   | none=>rw[e1] at q2;exact q2.elim
   | some ds =>
    rw[e1] at q2
    dsimp only at q2
    cases e2:ixN ds.length j with
    | none=>rw[e2] at q2;exact q2.elim
    | some jj =>
     rw[e2] at q2
     dsimp only at q2
     have d1':=d1.grow g2
     unfold zQ at d1' d2
     subst d1' d2
     obtain⟨xs,h1,h2⟩:=r2.m l ds e1
     refine⟨l,xs,j,jj,rfl,rfl,h1,by rw[← h2.length];exact e2,?_⟩
     have g3:yB H2 (wj H2 l (.lst (xs.set jj v))):=.lst h1
     exact k _ _ q2 _ _ ((g1.trans g2).trans g3) ((r.to (g1.trans g2) r2).to g3 (r2.put h1 (h2.set jj (dv.grow (g1.trans g2)))))
  | _=>exact q2.elim
 | _=>exact q2.elim
end
end
noncomputable abbrev TI2:=S2→Gp→(List D→(Gp→Prop)→Gp→Prop)→Prop
structure Walk (K:PySem.W.Frag) (H0:Hp) (ds:List D) (gd:Gp→Prop) (J:It):Prop where
 go:∀ i G H,gd G→yK K G H→yB H0 H→i<ds.length→J.go i H
 stop:∀ G H,gd G→yK K G H→yB H0 H→J.stop ds.length H
 yld:∀ i G H x H',gd G→yK K G H→yB H0 H→i<ds.length→J.yld i H x H'→yB H H'∧yK K G H'∧∃ d,ds[i]?=some d∧zQ K H' d x
noncomputable def lI(K:PySem.W.Frag)(wi:TI2):TI:=fun σ1 H R=>∃ σ G R2,Rel K σ G σ1 H∧wi σ G R2∧∀ ds gd G',R2 ds gd G'→∀ J H',yB H H'→yK K G' H'→Walk K H' ds gd J→ds.length≤sizeLine→R J H'
noncomputable def I2(X:Cx)(tg iter:Expr)(wi:TI2):Prop:=PI X tg iter (lI X.K wi)
theorem PI.mono{X:Cx}{tg iter:Expr}{t t':TI}(h:PI X tg iter t)(hm:∀ σ H R,t' σ H R→t σ H R):PI X tg iter t':=fun pins s σ H R I q=>h pins s σ H R I (hm σ H R q)
section
variable {X:Cx} {tg:Expr} {a b c e o l iter elt:Expr} {es:List Expr} {pos p:Pos} {ta tb te:zk}
theorem zL2{l:Expr}{tl:TE}(hl:PE X l tl):PI X tg l (fun σ H R=>tl σ H fun x H1=>∃ a xs,x=.ref a∧((SqL X.K H1 a xs∧(xs.length≤sizeLine→R (Itl X.K a) H1))∨(SqT X.K H1 a xs∧(xs.length≤sizeLine→R (Itt X.K a) H1)))):=by
 intro pins s σ H R I h
 refine yi (hl pins s σ H _ I h) fun v s1 ⟨x,H1,I1,r1,q1⟩=>?_
 obtain⟨a,xs,e,q⟩:=q1
 subst e
 cases r1
 have fpk:∀ b∈[s1.heap.objs.size],zDi X pins H1 b:=fun b hb=>by
  have e:b=s1.heap.objs.size:=by simpa using hb
  subst e
  exact I1.fpOk (bZ _) (I1.hok.fresh (bZ _))
 rcases q with ⟨hq,q⟩ | ⟨hq,q⟩
 ·obtain⟨its,rv,p,hz⟩:=I1.list hq
  refine fu p.isList ?_
  exact⟨s1.heap.objs.size,[s1.heap.objs.size],_,_,H1,rfl,I1.kept (t':=s1.toks) fun b o e=>bP _ e,zKR a _,⟨_,cb _ rfl,rfl,rfl⟩,fpk,q hz⟩
 ·obtain⟨its,rv,p,hz⟩:=I1.tuple hq
  refine wpAny_pyIter_tuple (show s1.heap.IsTuple a its.toArray from p) ?_
  exact⟨s1.heap.objs.size,[s1.heap.objs.size],_,_,H1,rfl,I1.kept (t':=s1.toks) fun b o e=>bP _ e,zIl a _,⟨_,cb _ rfl,rfl,rfl⟩,fpk,q hz⟩
theorem zFw{K:PySem.W.Frag}{H0:Hp}{a:Addr}{ds:List D}:Walk K H0 ds (fun G=>Ls G a ds) (Itl K a) where
 go:=fun i G H g r u0 hi=>by
  obtain⟨xs,h1,h2⟩:=r.sq g
  exact⟨xs,xs[i]'(by rw[← h2.length];exact hi),h1,by simp⟩
 stop:=fun G H g r u0=>by
  obtain⟨xs,h1,h2⟩:=r.sq g
  exact⟨xs,h1,Nat.le_of_eq h2.length.symm⟩
 yld:=fun i G H x H' g r u0 hi y=>by
  obtain⟨xs,h1,h2⟩:=r.sq g
  obtain⟨e,y⟩:=y
  subst e
  obtain⟨d,e1,e2⟩:=h2.got (y xs h1)
  exact⟨.refl _,r,d,e1,e2⟩
theorem zL3{K:PySem.W.Frag}{H0:Hp}{a:Addr}{xs:List V}{ds:List D}(h:SqT K H0 a xs)(hd:Dens K H0 ds xs):Walk K H0 ds (fun u0=>True) (Itt K a) where
 go:=fun i G H u0 r g hi=>⟨xs,xs[i]'(by rw[← hd.length];exact hi),g.sqT h,by simp⟩
 stop:=fun G H u0 r g=>⟨xs,g.sqT h,Nat.le_of_eq hd.length.symm⟩
 yld:=fun i G H x H' u0 r g hi y=>by
  obtain⟨e,y⟩:=y
  subst e
  obtain⟨d,e1,e2⟩:=(hd.grow g).got (y xs (g.sqT h))
  exact⟨.refl _,r,d,e1,e2⟩
noncomputable def yG(lo:Int)(n:Nat):List D:=(bQ n).map fun(k:Nat)=>D.int (lo+(k:Int))
theorem wV(lo:Int)(n:Nat):(yG lo n).length=n:=by simp[yG]
theorem zEr{lo:Int}{n i:Nat}(h:i<n):(yG lo n)[i]?=some (.int (lo+i)):=by simp[yG,h]
theorem zEs{K:PySem.W.Frag}{H0:Hp}{lo:Int}{n:Nat}:Walk K H0 (yG lo n) (fun u0=>True) (Itr lo n) where
 go:=fun i G H u0 u0 u0 hi=>by rw[wV] at hi;exact hi
 stop:=fun G H u0 u0 u0=>by rw[wV];exact bZ _
 yld:=fun i G H x H' u0 r u0 hi y=>by
  rw[wV] at hi
  obtain⟨e,rfl⟩:=y
  subst e
  exact⟨.refl _,r,_,zEr hi,by unfold zQ;rfl⟩
noncomputable def iV(t:zk):TI2:=fun σ G R=>t σ G fun d G1=>match d with
 | .tup ds=>R ds (fun u0=>True) G1
 | .adr a=>∃ ds,Ls G1 a ds∧R ds (fun G=>Ls G a ds) G1
 | _=>False
theorem zBz(h:E2 X l ta):I2 X tg l (iV ta):=by
 refine PI.mono (zL2 h) ?_
 rintro σ1 H R ⟨σ,G,R2,r,q,k⟩
 refine⟨σ,G,_,r,q,fun d G1 q1 v H1 g1 r1 d1=>?_⟩
 cases d with
 | tup ds =>
  unfold zQ at d1
  obtain⟨a,xs,rfl,h1,h2⟩:=d1
  exact⟨a,xs,rfl,.inr ⟨h1,fun hz=>k ds _ G1 q1 _ H1 g1 r1 (zL3 h1 h2) (by rw[h2.length];exact hz)⟩⟩
 | adr a =>
  unfold zQ at d1
  subst d1
  obtain⟨ds,e,q1⟩:=q1
  obtain⟨xs,h1,h2⟩:=r1.sq e
  exact⟨a,xs,rfl,.inl ⟨h1,fun hz=>k ds _ G1 q1 _ H1 g1 r1 zFw (by rw[h2.length];exact hz)⟩⟩
 | _=>exact q1.elim
noncomputable def iF(t:TL2):TI2:=fun σ G R=>t σ G fun ds G1=>∀ a,G1.m a=none→R ds (fun G=>Ls G a ds) (zU G1 a ds)
theorem zEt{t:TL2}(h:F2 X l t):I2 X tg l (iF t):=by
 refine PI.mono (zL2 h) ?_
 rintro σ1 H R ⟨σ,G,R2,r,q,k⟩
 refine⟨σ,G,_,r,q,fun ds G1 q1 a xs H1 g1 r1 n e1 d1=>?_⟩
 exact⟨a,xs,rfl,.inl ⟨.of e1,fun hz=>k ds _ _ (q1 a n) _ H1 g1 (r1.own e1 d1) zFw (by rw[d1.length];exact hz)⟩⟩
noncomputable def iR1(t:wN):TI2:=fun σ G R=>t σ G fun ds G1=>match ds with | [.int j]=>(-1000000≤j∧j≤1000000)∧R (yG 0 j.toNat) (fun u0=>True) G1 | _=>False
noncomputable def iR2(t:wN):TI2:=fun σ G R=>t σ G fun ds G1=>match ds with | [.int i,.int j]=>((-1000000≤i∧i≤1000000)∧-1000000≤j∧j≤1000000)∧R (yG i (j-i).toNat) (fun u0=>True) G1 | _=>False
theorem yu{t:wN}(hg:Gl X "range")(hm:X.mg "range"=none)(ha:A2 X [a] t)(hs:starEach [a] X.env=[(false,eval a X.env)]:=by rfl):I2 X tg (.Call (.Name "range" p) [a] [] pos) (iR1 t):=by
 refine PI.mono (zKS hg hm ha hs) ?_
 rintro σ1 H R ⟨σ,G,R2,r,q,k⟩
 refine⟨σ,G,_,r,q,fun ds G1 q1 vs H1 g1 r1 d1=>?_⟩
 split at q1
 ·rename_i j
  unfold Dens at d1
  obtain⟨x,r',rfl,d1,d2⟩:=d1
  unfold zQ at d1
  unfold Dens at d2
  subst d1 d2
  refine⟨j,rfl,by omega,by omega,k _ _ G1 q1.2 _ H1 g1 r1 zEs ?_⟩
  rw[wV,sizeLine_eq];omega
 ·exact q1.elim
theorem zDD{t:wN}(hg:Gl X "range")(hm:X.mg "range"=none)(ha:A2 X [a,b] t)(hs:starEach [a,b] X.env=[(false,eval a X.env),(false,eval b X.env)]:=by rfl)(hs2:starEach [b] X.env=[(false,eval b X.env)]:=by rfl):I2 X tg (.Call (.Name "range" p) [a,b] [] pos) (iR2 t):=by
 refine PI.mono (zKT hg hm ha hs hs2) ?_
 rintro σ1 H R ⟨σ,G,R2,r,q,k⟩
 refine⟨σ,G,_,r,q,fun ds G1 q1 vs H1 g1 r1 d1=>?_⟩
 split at q1
 ·rename_i i j
  unfold Dens at d1
  obtain⟨x,r',rfl,d1,d2⟩:=d1
  unfold Dens at d2
  obtain⟨y,r',rfl,d2,d3⟩:=d2
  unfold zQ at d1 d2
  unfold Dens at d3
  subst d1 d2 d3
  refine⟨i,j,rfl,⟨by omega,by omega,by omega,by omega⟩,k _ _ G1 q1.2 _ H1 g1 r1 zEs ?_⟩
  rw[wV,sizeLine_eq];omega
 ·exact q1.elim
structure zAc (σ σ':S2):Prop where
 len:σ.length=σ'.length
 val:∀(i:Nat) d,σ[i]?=some (some d)→σ'[i]?=some (some d)
theorem zAc.refl(σ:S2):zAc σ σ:=⟨rfl,fun u0 u0 h=>h⟩
noncomputable def Fg(P:S2→Gp→Prop):S2→Gp→Prop:=fun σ G=>∃ σ' G',zAc σ' σ∧Sub G' G∧P σ' G'
theorem Fg.of{P:S2→Gp→Prop}{σ:S2}{G:Gp}(h:P σ G):Fg P σ G:=⟨σ,G,.refl σ,.refl G,h⟩
theorem Rel.sub{K:PySem.W.Frag}{σ σ':S2}{G G':Gp}{σ1:L2.St}{H:Hp}(r:Rel K σ G σ1 H)(s:zAc σ' σ)(g:Sub G' G):Rel K σ' G' σ1 H :=
 ⟨r.g.sub g,s.len.trans r.len,fun i d e=>r.val i d (s.val i d e)⟩
noncomputable def zR7(wi:TI2)(g:TG2)(tb:ye):ye:=fun E σ G=>wi σ G fun ds gd G1=>∃ Pv:Nat→S2→Gp→Prop,Pv 0 σ G1∧(∀ i σ G,i≤ds.length→Pv i σ G→gd G) ∧
 (∀ i x σ G,ds[i]?=some x→Pv i σ G→g x σ G fun σ2 G2=>tb { E with nx:=Fg (Pv (i+1)),ct:=Fg (Pv (i+1)),bk:=E.nx } σ2 G2)∧∀ σ G,Pv ds.length σ G→E.nx σ G
theorem zR8{wi:TI2}{g:TG2}{tb:ye}{body:List Stmt}(hp:PassesOwn (model X.prog X.w) X.A X.env X.xe)(hc:X.calm=true)(hi:I2 X tg iter wi)(hg:G2 X tg g)(hb:Ps2 X body tb)
  (hs:∀ x,foldedSetIterable iter X.env x=pure x:=by intro u0;rfl):P2 X (.For tg iter body [] pos) (zR7 wi g tb):=by
 refine PS.mono (L2.zQU hp hc hi hg hb hs) ?_
 rintro E σ1 H ⟨σ,G,D2,r,q,k⟩
 refine⟨σ,G,_,r,q,fun ds gd G1 q1 J H1 g1 r1 W hz=>?_⟩
 obtain⟨Pv,p0,pg,pt,pd⟩:=q1
 refine⟨fun i m σ1' H'=>m=ds.length-i∧i≤ds.length∧yB H1 H'∧∃ σ' G',Rel X.K σ' G' σ1' H'∧Pv i σ' G',⟨ds.length,by simp,cW _,.refl _,σ,G1,r.to g1 r1,p0⟩,?_⟩
 rintro i m σ1' H' ⟨rfl,hi',g',σ',G',r',p'⟩
 have gd':=pg i σ' G' hi' p'
 by_cases hlt:i<ds.length
 ·refine .inr ⟨W.go i G' H' gd' r'.g g' hlt,fun σ1'' H''=>yB H1 H''∧∃ σ'' G'',Rel X.K σ'' G'' σ1'' H''∧Pv (i+1) σ'' G'',fun σ1'' H'' ⟨a1,σ'',G'',a2,a3⟩=>⟨ds.length-(i+1),by omega,rfl,hlt,a1,σ'',G'',a2,a3⟩,fun x H'' y=>?_⟩
  obtain⟨gy,ry,d,e1,e2⟩:=W.yld i G' H' x H'' gd' r'.g g' hlt y
  replace g':=g'.trans gy
  refine⟨σ',G',d,_,r'.to gy ry,e2,pt i d σ' G' e1 p',fun σ2 G2 q2 σ12 H2 g2 r2=>⟨σ2,G2,_,r2,q2,?_⟩⟩
  have back:∀ σ3 G3,Fg (Pv (i+1)) σ3 G3→∀ σ13 H3,yB H2 H3→Rel X.K σ3 G3 σ13 H3→yB H1 H3∧∃ σ'' G'',Rel X.K σ'' G'' σ13 H3∧Pv (i+1) σ'' G'':=by
   rintro σ3 G3 ⟨σ4,G4,a1,a2,a3⟩ σ13 H3 g3 r3
   exact⟨(g'.trans g2).trans g3,σ4,G4,r3.sub a1 a2,a3⟩
  exact⟨back,fun σ3 G3 q3 σ13 H3 g3 r3=>k.nx σ3 G3 q3 σ13 H3 (((g1.trans g').trans g2).trans g3) r3,back,fun d3 G3 q3 v3 H3 g3 r3 dv=>k.rt d3 G3 q3 v3 H3 (((g1.trans g').trans g2).trans g3) r3 dv⟩
 ·have e:i=ds.length:=by omega
  subst e
  exact .inl ⟨W.stop G' H' gd' r'.g g',k.nx σ' G' (pd σ' G' p') σ1' H' (g1.trans g') r'⟩
noncomputable def FgG(P:Gp→Prop):Gp→Prop:=fun G=>∃ G',Sub G' G∧P G'
theorem FgG.of{P:Gp→Prop}{G:Gp}(h:P G):FgG P G:=⟨G,.refl G,h⟩
noncomputable def yA(wi:TI2)(bd:D→Option (List D))(tc:TT2)(te:zk):TL2:=fun σ G R=>wi σ G fun ds gd G1=>∀ A,G1.m A=none→∃ Pv:Nat→List D→Gp→Prop,Pv 0 [] (zU G1 A [])∧(∀ i acc G,i≤ds.length→Pv i acc G→gd G∧G.m A=some acc∧acc.length≤i) ∧
 (∀ i x acc G,ds[i]?=some x→Pv i acc G→match bd x with
  | some us=>tc (σ++us.map some) G fun b G3=>if b=true then te (σ++us.map some) G3 fun d G4=>G4.m A=some acc∧FgG (Pv (i+1) (acc++[d])) (zU G4 A (acc++[d])) else FgG (Pv (i+1) acc) G3
  | none=>False)∧∀ acc G,Pv ds.length acc G→∃ G',G'.m A=none∧Sub G' G∧R acc G'
noncomputable def Ts2(X:Cx)(ifs:List Expr)(t:TT2):Prop:=PTs X ifs (lT X.K t)
noncomputable def zBw:TT2:=fun u0 G R=>R true G
theorem zBK:Ts2 X [] zBw:=by
 intro pins s σ1 H Q I h
 refine zOE pins s σ1 H Q I ?_
 obtain⟨σ,G,R,r,q,k⟩:=h
 exact k true G q H (.refl H) r.g
theorem zAd{t:TT2}(h:T2 X c t):Ts2 X [c] t:=zOF h
theorem Rel.app{K:PySem.W.Frag}{σ:S2}{G:Gp}{σ1:L2.St}{H:Hp}(r:Rel K σ G σ1 H){ds:List D}{vs:List V}(h:Dens K H ds vs):Rel K (σ++ds.map some) G (σ1++vs.map some) H :=
 ⟨r.g,by simp[r.len,h.length],fun i d e=>by
  by_cases hi:i<σ.length
  ·rw[cR hi] at e
   obtain⟨v,e1,e2⟩:=r.val i d e
   exact⟨v,by rw[cR (by rw[← r.len];exact hi)];exact e1,e2⟩
  ·rw[dq (by omega),cC] at e
   cases q:ds[i-σ.length]? with
   | none=>rw[q] at e;cases e
   | some d' =>
    rw[q] at e;cases e
    obtain⟨v,e1,e2⟩:=h.get q
    exact⟨v,by rw[dq (by rw[← r.len];omega),cC,← r.len,e1];rfl,e2⟩⟩
theorem zFx{K:PySem.W.Frag}{wi:TI2}{bd:D→Option (List D)}{tc:TT2}{te:zk}{n:Nat}{g:TG}{N:Nat}
  (hb:∀(σ1:L2.St) (H:Hp) (d:D) (v:V) (us:List D) (Q:L2.St→Hp→Prop),σ1.length=N→zQ K H d v→bd d=some us→us.length=n→(∀ vs,Dens K H us vs→Q (σ1++vs.map some) H)→g v (σ1++cq n none) H Q)
  (hn:∀ d us,bd d=some us→us.length=n)
  {σ1:L2.St} {H:Hp} {Q:VK} (hl:σ1.length=N) (h:lL K (yA wi bd tc te) σ1 H Q):zLz n (lI K wi) g (lT K tc) (lE K te) σ1 H Q:=by
 obtain⟨σ,G,R,r,q,k⟩:=h
 refine⟨σ,G,_,r,q,fun ds gd G1 q1 J H1 g1 r1 W hz A hA=>?_⟩
 obtain⟨Pv,p0,pg,pt,pd⟩:=q1 A (r1.free hA)
 refine⟨fun i m H2=>m=ds.length-i∧i≤ds.length∧yB H1 H2∧∃ as G2,yK K G2 H2∧Pv i as G2,⟨ds.length,by simp,cW _,.fresh hA,[],zU G1 A [],r1.new hA .nil,p0⟩,?_⟩
 rintro i m H2 ⟨rfl,hi',g2,as,G2,r2,p2⟩
 obtain⟨gd2,al,hlen⟩:=pg i as G2 hi' p2
 by_cases hlt:i<ds.length
 ·refine .inr ⟨W.go i G2 H2 gd2 r2 g2 hlt,fun x H3 y=>?_⟩
  obtain⟨gy,ry,d,e3,dv⟩:=W.yld i G2 H2 x H3 gd2 r2 g2 hlt y
  replace g2:=g2.trans gy
  replace r2:=ry
  have q3:=pt i d as G2 e3 p2
  cases eb:bd d with
  | none=>rw[eb] at q3;exact q3.elim
  | some us =>
   rw[eb] at q3
   dsimp only at q3
   have hus:=hn d us eb
   refine hb σ1 H3 d x us _ hl dv eb hus fun vs hv=>⟨?_,?_,?_⟩
   ·rw[List.take_append_of_le_length (bZ _),e8]
   ·rw[ci,bU,← hv.length,hus]
   ·have rr:Rel K (σ++us.map some) G2 (σ1++vs.map some) H3:=(r.to (g1.trans g2) r2).app hv
    refine⟨σ++us.map some,G2,_,rr,q3,fun b G4 q4 H4 g4 r4=>?_⟩
    cases b with
    | false =>
     obtain⟨G5,s5,p5⟩:=q4
     exact⟨ds.length-(i+1),by omega,rfl,hlt,g2.trans g4,as,G5,r4.sub s5,p5⟩
    | true =>
     refine⟨σ++us.map some,G4,_,rr.to g4 r4,q4,fun d5 G5 q5 v H5 g5 r5 d5v=>?_⟩
     obtain⟨a5,G6,s6,p6⟩:=q5
     obtain⟨acc,e6,d6⟩:=r5.m A as a5
     refine⟨acc,e6,by rw[← d6.length];omega,ds.length-(i+1),by omega,rfl,hlt,((g2.trans g4).trans g5).trans (.lst e6),as++[d5],G6,?_,p6⟩
     exact(r5.put e6 (d6.append (.cons d5v .nil))).sub s6
 ·have e:i=ds.length:=by omega
  subst e
  obtain⟨G',n',s',q'⟩:=pd as G2 p2
  obtain⟨acc,e6,d6⟩:=r2.m A as al
  exact .inl ⟨W.stop G2 H2 gd2 r2 g2,k as G' q' A acc H2 (g1.trans g2) (r2.sub s') n' e6 d6⟩
noncomputable def bd1:D→Option (List D):=fun d=>some [d]
section
variable {ifs:List Expr} {sc:Scope} {N0:List Str} {wi:TI2} {tc:TT2}
theorem PE.at{t t':TE}(h:PE X e t)(hm:∀ σ H Q,σ.length=X.N.length→t' σ H Q→t σ H Q):PE X e t':=fun pins s σ H Q I q=>h pins s σ H Q I (hm σ H Q I.len q)
theorem PS.at{st:Stmt}{t t':TS}(h:PS X st t)(hm:∀ E σ H,σ.length=X.N.length→t' E σ H→t E σ H):PS X st t':=fun pins s σ H E I q=>h pins s σ H E I (hm E σ H I.len q)
theorem zL4(s t:List (Option V))(x:Option V):List.set (s++t) (List.length s) x=s++t.set 0 x:=by
 rw[List.set_append_right _ _ (bZ _),Nat.sub_self]
theorem bind1{K:PySem.W.Frag}{N:Nat}(σ1:L2.St)(H:Hp)(d:D)(v:V)(us:List D)(Q:L2.St→Hp→Prop)(hl:σ1.length=N)(dv:zQ K H d v)(eb:bd1 d=some us)(hus:us.length=1)(h:∀ vs,Dens K H us vs→Q (σ1++vs.map some) H):zHY N v (σ1++cq 1 none) H Q:=by
 cases eb
 have:=h [v] (.cons dv .nil)
 show Q (List.set (σ1++[none]) N (some v)) H
 rw[← hl,zL4]
 exact this
theorem zOH(x:Str){px:Pos}(hc:X.calm=true)(T:zDk X sc N0)(hi:I2 X (.Name x px) iter wi)
  (hnd:(N0++[x]).Nodup) (hx:(relabel sc X.env).names.lookup x=some .local)
  (ht:∀ C s H fp pins,Ts2 (X.comp (N0++[x]) sc C s H fp pins) ifs tc) (he:∀ C s H fp pins,E2 (X.comp (N0++[x]) sc C s H fp pins) elt te)
  (hs:∀ x,foldedSetIterable iter X.env x=pure x:=by intro u0;rfl):F2 X (.ListComp elt [⟨.Name x px,iter,ifs,0⟩] sc pos) (yA wi bd1 tc te):=by
 refine PE.at (zOG (own:=[x]) (g:=zHY X.N.length) (tc:=lT X.K tc) (te:=lE X.K te) hc T hi (fun C s H fp pins=>zC6 (X:=X.comp (N0++[x]) sc C s H fp pins) hnd (by
  show(N0++[x])[X.N.length]?=some x
  rw[← T.len];simp) (.inl hx) (.inr hx)) ht he hs) fun σ H Q hl h=>?_
 exact zFx (n:=1) (N:=X.N.length) bind1 (fun d us e=>by cases e;rfl) hl h
noncomputable def zAx(i:Nat)(t:TL2):ye:=fun E σ G=>t σ G fun ds G'=>∀ l,G'.m l=none→E.nx (σ.set i (some (.adr l))) (zU G' l ds)
theorem zIu(i:Nat)(x:Str){y:Str}{px py spos:Pos}(hc:X.calm=true)(T:zDk X sc N0)(hi:I2 X (.Name x px) iter wi)
  (hnd:(N0++[x]).Nodup) (hx:(relabel sc X.env).names.lookup x=some .local)
  (ht:∀ C s H fp pins,Ts2 (X.comp (N0++[x]) sc C s H fp pins) ifs tc) (he:∀ C s H fp pins,E2 (X.comp (N0++[x]) sc C s H fp pins) elt te)
  (hN:X.N.Nodup) (hy:X.N[i]?=some y) (hl:X.env.scope.names.lookup y=some .local)
  (hsw:swapsWith (.ListComp elt [⟨.Name x px,iter,ifs,0⟩] sc pos) (some (.Name y py)) spos.line X.env=pure true)
  (hs:∀ x,foldedSetIterable iter X.env x=pure x:=by intro u0;rfl):P2 X (.Assign [.Name y py] (.ListComp elt [⟨.Name x px,iter,ifs,0⟩] sc pos) spos) (zAx i (yA wi bd1 tc te)):=by
 refine PS.at (zIt (own:=[x]) (g:=zHY X.N.length) (tc:=lT X.K tc) (te:=lE X.K te) hc T hi (fun C s H fp pins=>zC6 (X:=X.comp (N0++[x]) sc C s H fp pins) hnd (by
  show(N0++[x])[X.N.length]?=some x
  rw[← T.len];simp) (.inl hx) (.inr hx)) ht he hN hy hl hsw hs) fun E σ1 H hl h=>?_
 obtain⟨σ,G,D2,r,q,k⟩:=h
 refine zFx (n:=1) (N:=X.N.length) bind1 (fun d us e=>by cases e;rfl) hl ⟨σ,G,_,r,q,fun ds G' q' l xs H' g' r' n e d=>?_⟩
 exact k.nx _ _ (q' l n) _ H' g' ((r.to g' (r'.own e d)).set i (by unfold zQ;rfl))
end
end
section
variable {X:Cx} {a b c e o:Expr} {es:List Expr} {pos p:Pos} {ta tb te:zk}
noncomputable def zIv(ta tb:zk):zk:=fun σ G R=>ta σ G fun x G1=>match x with | .bl c=>if c=true then tb σ G1 R else R (.bl false) G1 | _=>False
noncomputable def zQp(ta:zk):zk:=fun σ G R=>ta σ G fun x G1=>match x with | .bl c=>R (.bl (!c)) G1 | _=>False
theorem zJm{op}(h:E2 X a ta):E2 X (.BoolOp op [a] pos) ta:=zQH h
theorem zJn{rest:List Expr}(ha:E2 X a ta)(hb:E2 X (.BoolOp .And (b::rest) pos) tb):E2 X (.BoolOp .And (a::b::rest) pos) (zIv ta tb):=by
 refine PE.mono (zQI ha hb) ?_
 rintro σ1 H Q ⟨σ,G,R,r,q,k⟩
 refine⟨σ,G,_,r,q,fun d G1 q1 v H1 g1 r1 d1=>?_⟩
 cases d with
 | bl c =>
  unfold zQ at d1
  refine⟨c,d1,?_⟩
  cases c with
  | true=>exact⟨σ,G1,R,r.to g1 r1,q1,fun d G' q' v H' g'=>k d G' q' v H' (g1.trans g')⟩
  | false=>exact k _ G1 q1 _ H1 g1 r1 (by unfold zQ;rfl)
 | _=>exact q1.elim
theorem zR9(ha:E2 X a ta):E2 X (.UnaryOp .Not a pos) (zQp ta):=by
 refine PE.mono (zQJ ha) ?_
 rintro σ1 H Q ⟨σ,G,R,r,q,k⟩
 refine⟨σ,G,_,r,q,fun d G1 q1 v H1 g1 r1 d1=>?_⟩
 cases d with
 | bl c =>
  unfold zQ at d1
  exact⟨c,d1,k _ G1 q1 _ H1 g1 r1 (by unfold zQ;rfl)⟩
 | _=>exact q1.elim
theorem zDE(h:E2 X e te)(he:∀ whole,isTrue e X.env whole=(do let v ← whole;standAt e.pos;holding [v] (truthy v)):=by intro u0;rfl):T2 X e (xB te):=by
 refine PT.mono (zQD h he) ?_
 rintro σ1 H Q ⟨σ,G,R,r,q,k⟩
 refine⟨σ,G,_,r,q,fun d G1 q1 v H1 g1 r1 d1=>?_⟩
 cases d with
 | bl c =>
  unfold zQ at d1
  exact⟨c,d1,k _ G1 q1 H1 g1 r1⟩
 | _=>exact q1.elim
section
variable {t u:TT2} {rest:List Expr}
noncomputable def W2(X:Cx)(e:Expr)(t:TT2):Prop:=PW X e (lT X.K t)
theorem W2.test(h:W2 X e t):T2 X e t:=PW.pt h
noncomputable def zBr(t u:TT2):TT2:=fun σ G R=>t σ G fun c G1=>if c=true then u σ G1 R else R false G1
noncomputable def zB0(t u:TT2):TT2:=fun σ G R=>t σ G fun c G1=>if c=true then R true G1 else u σ G1 R
noncomputable def zAU(t:TT2):TT2:=fun σ G R=>t σ G fun c G1=>R (!c) G1
theorem PW.mono{t t':TT}(h:PW X e t)(hm:∀ σ H Q,t' σ H Q→t σ H Q):PW X e t':=fun w pins s σ H Q I q=>h w pins s σ H Q I (hm σ H Q q)
theorem zL5(ha:T2 X a t):W2 X (.BoolOp .And [a] pos) t:=zNr ha
theorem zJo(ha:T2 X a t):W2 X (.BoolOp .Or [a] pos) t:=zQE ha
theorem w_and(ha:T2 X a t)(hb:W2 X (.BoolOp .And (b::rest) pos) u):W2 X (.BoolOp .And (a::b::rest) pos) (zBr t u):=by
 refine PW.mono (zQF ha hb) ?_
 rintro σ1 H Q ⟨σ,G,R,r,q,k⟩
 refine⟨σ,G,_,r,q,fun c G1 q1 H1 g1 r1=>?_⟩
 cases c with
 | true=>exact⟨σ,G1,R,r.to g1 r1,q1,fun b G' q' H' g'=>k b G' q' H' (g1.trans g')⟩
 | false=>exact k _ G1 q1 H1 g1 r1
theorem w_or(ha:T2 X a t)(hb:W2 X (.BoolOp .Or (b::rest) pos) u):W2 X (.BoolOp .Or (a::b::rest) pos) (zB0 t u):=by
 refine PW.mono (zRj ha hb) ?_
 rintro σ1 H Q ⟨σ,G,R,r,q,k⟩
 refine⟨σ,G,_,r,q,fun c G1 q1 H1 g1 r1=>?_⟩
 cases c with
 | true=>exact k _ G1 q1 H1 g1 r1
 | false=>exact⟨σ,G1,R,r.to g1 r1,q1,fun b G' q' H' g'=>k b G' q' H' (g1.trans g')⟩
theorem zHk(ha:T2 X a t):T2 X (.UnaryOp .Not a pos) (zAU t):=by
 refine PT.mono (zQG ha) ?_
 rintro σ1 H Q ⟨σ,G,R,r,q,k⟩
 exact⟨σ,G,_,r,q,fun c G1 q1 H1 g1 r1=>k _ G1 q1 H1 g1 r1⟩
end
theorem zPj(ha:E2 X a ta)(hb:E2 X b tb):E2 X (.BinOp a .Sub b pos) (zO (fII fun i j=>.int (i-j)) ta tb):=zHj zQY (zCu fun u0 u0=>⟨rfl,rfl⟩) ha hb
theorem zB1(ha:E2 X a ta)(hb:E2 X b tb):E2 X (.BinOp a .Mult b pos) (zO (yY zC7 fun i j=>.int (i*j)) ta tb):=zHj zQZ (zDC fun u0 u0=>⟨rfl,rfl⟩) ha hb
theorem zDl(ha:E2 X a ta)(hb:E2 X b tb):E2 X (.BinOp a .FloorDiv b pos) (zO (yY zFa fun i j=>.int (i / j)) ta tb):=zHj zNx (zDC fun u0 u0=>⟨rfl,rfl⟩) ha hb
theorem zFy(ha:E2 X a ta)(hb:E2 X b tb):E2 X (.BinOp a .Mod b pos) (zO (yY (fun u0 j=>0<j) fun i j=>.int (i%j)) ta tb):=zHj zQa (zDC fun u0 u0=>⟨rfl,rfl⟩) ha hb
theorem zPk(ha:E2 X a ta)(hb:E2 X b tb):E2 X (.BinOp a .Pow b pos) (zO (yY zEC fun i j=>.int (i ^ j.toNat)) ta tb):=zHj zQb (zDC fun u0 u0=>⟨rfl,rfl⟩) ha hb
theorem zOI(ha:E2 X a ta)(hb:E2 X b tb):T2 X (.Compare a [.Lt] [b] pos) (xB (zO (fII fun i j=>.bl (decide (i<j))) ta tb)):=zCi zRu (zCu fun u0 u0=>⟨rfl,rfl⟩) ha hb (zAC _)
theorem zSv(ha:E2 X a ta)(hb:E2 X b tb):T2 X (.Compare a [.Gt] [b] pos) (xB (zO (fII fun i j=>.bl (decide (j<i))) ta tb)):=zCi zRv (zCu fun u0 u0=>⟨rfl,rfl⟩) ha hb (zAC _)
theorem zSw(ha:E2 X a ta)(hb:E2 X b tb):T2 X (.Compare a [.GtE] [b] pos) (xB (zO (fII fun i j=>.bl (decide (j≤i))) ta tb)):=zCi zRw (zCu fun u0 u0=>⟨rfl,rfl⟩) ha hb (zAC _)
mutual
noncomputable def wP:D→D→Bool
 | .non,.non=>true
 | .bl a,.bl b=>a==b
 | .int a,.int b=>a==b
 | .bl a,.int b=>(if a then 1 else 0)==b
 | .int a,.bl b=>a==(if b then 1 else 0)
 | .str a,.str b=>a==b
 | .tup a,.tup b=>eqDs a b
 | _,_=>false
noncomputable def eqDs:List D→List D→Bool
 | [],[]=>true
 | x::xs,y::ys=>wP x y&&eqDs xs ys
 | _,_=>false
end
noncomputable def flat:Nat→D→Bool
 | _,.non=>true
 | _,.bl _=>true
 | _,.int _=>true
 | _,.str _=>true
 | _,.adr _=>false
 | _,.dic _=>false
 | 0,.tup _=>false
 | n+1,.tup ds=>ds.all (flat n)
theorem zEu:∀(xs ys:List D),eqDs xs ys=((bQ (min xs.length ys.length)).all (fun j=>wP (xs.getD j .non) (ys.getD j .non))&&xs.length==ys.length)
 | [],[]=>by simp[eqDs]
 | [],y::ys=>by simp[eqDs]
 | x::xs,[]=>by simp[eqDs]
 | x::xs,y::ys=>by
  unfold eqDs
  rw[zEu xs ys]
  have e1:min (x::xs).length (y::ys).length=min xs.length ys.length+1:=by simp only[bO];omega
  rw[e1,List.range_succ_eq_map,List.all_cons,List.all_map]
  have e2:((x::xs).length==(y::ys).length)=(xs.length==ys.length):=by
   rw[cF];simp
  rw[e2,Bool.and_assoc]
  rfl
mutual
theorem zB2:∀ d:D,(∀ n,flat n d=true→wP d d=true)
 | .non,_,_=>rfl
 | .bl b,_,_=>by show(b==b)=true;simp
 | .int b,_,_=>by show(b==b)=true;simp
 | .str b,_,_=>by show(b==b)=true;simp
 | .adr _,n,h=>by cases n<;>simp[flat] at h
 | .dic _,n,h=>by cases n<;>simp[flat] at h
 | .tup ds,0,h=>by simp[flat] at h
 | .tup ds,n+1,h=>by
  show eqDs ds ds=true
  exact eqDs_refl ds n (by simpa[flat] using h)
theorem eqDs_refl:∀ ds:List D,(∀ n,(∀ d∈ds,flat n d=true)→eqDs ds ds=true)
 | [],_,_=>rfl
 | d::ds,n,h=>by
  show(wP d d&&eqDs ds ds)=true
  rw[zB2 d n (h d cE),eqDs_refl ds n fun x hx=>h x (ck _ hx)]
  rfl
end
section
variable {pins:List (Addr×Obj)} {σ1:L2.St} {H:Hp} {s:Shared}
mutual
theorem zQ.inj(I:zX X pins σ1 H s):∀ {d d':D} {v:V} {n n':Nat},zQ X.K H d v→zQ X.K H d' v→flat n d=true→flat n' d'=true→d=d' 
 | .non,d',v,n,n',h,h',f,f'=>by
  unfold zQ at h;subst h
  cases d' with
  | tup _=>unfold zQ at h';obtain⟨u0,u0,e,u0⟩:=h';cases e
  | dic _=>unfold zQ at h';cases h'.1
  | _=>unfold zQ at h';first | rfl | cases h'
 | .bl b,d',v,n,n',h,h',f,f'=>by
  unfold zQ at h;subst h
  cases d' with
  | tup _=>unfold zQ at h';obtain⟨u0,u0,e,u0⟩:=h';cases e
  | dic _=>unfold zQ at h';cases h'.1
  | _=>unfold zQ at h';first | cases h';rfl | cases h'
 | .int b,d',v,n,n',h,h',f,f'=>by
  unfold zQ at h;subst h
  cases d' with
  | tup _=>unfold zQ at h';obtain⟨u0,u0,e,u0⟩:=h';cases e
  | dic _=>unfold zQ at h';cases h'.1
  | _=>unfold zQ at h';first | cases h';rfl | cases h'
 | .str b,d',v,n,n',h,h',f,f'=>by
  unfold zQ at h;subst h
  cases d' with
  | tup _=>unfold zQ at h';obtain⟨u0,u0,e,u0⟩:=h';cases e
  | dic _=>unfold zQ at h';cases h'.1
  | _=>unfold zQ at h';first | cases h';rfl | cases h'
 | .adr _,d',v,n,n',h,h',f,f'=>by cases n<;>simp[flat] at f
 | .dic _,d',v,n,n',h,h',f,f'=>by cases n<;>simp[flat] at f
 | .tup ds,d',v,n,n',h,h',f,f'=>by
  unfold zQ at h
  obtain⟨a,xs,rfl,hs,hd⟩:=h
  cases d' with
  | tup ds' =>
   unfold zQ at h'
   obtain⟨a',xs',e,hs',hd'⟩:=h'
   cases e
   have:=I.tuple_inj hs hs'
   subst this
   cases n with
   | zero=>simp[flat] at f
   | succ n =>
    cases n' with
    | zero=>simp[flat] at f'
    | succ n'=>rw[Dens.inj I hd hd' (by simpa[flat] using f) (by simpa[flat] using f')]
  | adr _=>cases n'<;>simp[flat] at f'
  | dic _=>cases n'<;>simp[flat] at f'
  | _=>unfold zQ at h';cases h'
theorem Dens.inj(I:zX X pins σ1 H s):∀ {ds ds':List D} {xs:List V} {n n':Nat},Dens X.K H ds xs→Dens X.K H ds' xs→(∀ d∈ds,flat n d=true)→(∀ d∈ds',flat n' d=true)→ds=ds'
 | [],ds',xs,n,n',h,h',f,f'=>by
  unfold Dens at h;subst h
  cases ds' with
  | nil=>rfl
  | cons _ _=>unfold Dens at h';obtain⟨u0,u0,e,u0⟩:=h';cases e
 | d::ds,ds',xs,n,n',h,h',f,f'=>by
  unfold Dens at h
  obtain⟨x,r,rfl,h1,h2⟩:=h
  cases ds' with
  | nil=>unfold Dens at h';cases h'
  | cons d' ds' =>
   unfold Dens at h'
   obtain⟨x',r',e,h1',h2'⟩:=h'
   cases e
   rw[zQ.inj I h1 h1' (f d cE) (f' d' cE),Dens.inj I h2 h2' (fun z hz=>f z (ck _ hz)) fun z hz=>f' z (ck _ hz)]
end
theorem in1_units{A:Around}:A.in1.units=A.units+1:=rfl
theorem zIw(I:zX X pins σ1 H s):∀(n:Nat) (d d':D) (v v':V) (u u':Value) (A:Around),zQ X.K H d v→zQ X.K H d' v'→RelV v u→RelV v' u'→flat n d=true→flat n d'=true→A.units+n<cLine→SeqAt.EqAt A s u u' (wP d d'):=by
 intro n
 induction n with
 | zero =>
  intro d d' v v' u u' A h h' r r' f f' hu
  have fv:∀ {d:D} {v:V},flat 0 d=true→zQ X.K H d v→zJi v=true∧v=vOf d:=fun {d v} f h=>by
   cases d<;>first | (simp[flat] at f;done) | (unfold zQ at h;subst h;exact⟨rfl,rfl⟩)
  obtain⟨f1,e1⟩:=fv f h
  obtain⟨f2,e2⟩:=fv f' h'
  have q:=zLv (A:=A) (s:=s) r r' f1 f2
  have e:eqV v v'=wP d d':=by
   rw[e1,e2]
   cases d<;>first | (simp[flat] at f;done) | (cases d'<;>first | (simp[flat] at f';done) | rfl)
  rw[← e];exact q
 | succ n ih =>
  intro d d' v v' u u' A h h' r r' f f' hu
  by_cases hs:flat 0 d=true∧flat 0 d'=true
  ·have fv:∀ {d:D} {v:V},flat 0 d=true→zQ X.K H d v→zJi v=true∧v=vOf d:=fun {d v} f h=>by
    cases d<;>first | (simp[flat] at f;done) | (unfold zQ at h;subst h;exact⟨rfl,rfl⟩)
   obtain⟨f1,e1⟩:=fv hs.1 h
   obtain⟨f2,e2⟩:=fv hs.2 h'
   have q:=zLv (A:=A) (s:=s) r r' f1 f2
   have e:eqV v v'=wP d d':=by
    rw[e1,e2]
    cases d<;>first | (simp[flat] at hs;done) | (cases d'<;>first | (simp[flat] at hs;done) | rfl)
   rw[← e];exact q
  ·have hu0:A.units<cLine:=by omega
   cases d with
   | tup ds =>
    unfold zQ at h
    obtain⟨a,xs,rfl,hsq,hd⟩:=h
    cases r
    obtain⟨its,rv,tp,u0⟩:=I.tuple hsq
    have tp':s.heap.IsTuple a its.toArray:=tp
    cases d' with
    | tup ds' =>
     unfold zQ at h'
     obtain⟨a',xs',rfl,hsq',hd'⟩:=h'
     cases r'
     obtain⟨its',rv',tp2,u0⟩:=I.tuple hsq'
     by_cases ha:a=a'
     ·subst ha
      have:=I.tuple_inj hsq hsq'
      subst this
      have hds:ds=ds':=Dens.inj I hd hd' (by simpa[flat] using f) (by simpa[flat] using f')
      subst hds
      have e:wP (.tup ds) (.tup ds)=true:=zB2 _ _ f
      rw[e]
      exact SeqAt.EqAt.same _
     ·have q:=SeqAt.EqAt.of_refs ha (SeqAt.RcAt.tuples (A:=A) (s:=s) (e:=fun j=>wP (ds.getD j .non) (ds'.getD j .non)) tp' (show s.heap.IsTuple a' its'.toArray from tp2) hu0 fun j h1 h2=>by
       have h1':j<its.length:=by simpa using h1
       have h2':j<its'.length:=by simpa using h2
       have l1:=hd.length
       have l2:=rv.length
       have l3:=hd'.length
       have l4:=rv'.length
       obtain⟨x,ex,dx⟩:=hd.get (i:=j) (d:=ds[j]'(by omega)) (by simp)
       obtain⟨y,ey,dy⟩:=hd'.get (i:=j) (d:=ds'[j]'(by omega)) (by simp)
       obtain⟨ux,eux,rx⟩:=rv.get ex
       obtain⟨uy,euy,ry⟩:=rv'.get ey
       have e1:its.toArray[j]=ux:=by
        have:=(bW.mp eux).2
        simpa using this
       have e2:its'.toArray[j]=uy:=by
        have:=(bW.mp euy).2
        simpa using this
       have g1:ds.getD j .non=ds[j]'(by omega):=by simp[cP,(show j<ds.length by omega)]
       have g2:ds'.getD j .non=ds'[j]'(by omega):=by simp[cP,(show j<ds'.length by omega)]
       rw[e1,e2]
       show SeqAt.EqAt A.in1 s ux uy (wP (ds.getD j .non) (ds'.getD j .non))
       rw[g1,g2]
       refine ih _ _ x y ux uy A.in1 dx dy rx ry ?_ ?_ (by rw[in1_units];omega)
       ·have:∀ d∈ds,flat n d=true:=by simpa[flat] using f
        exact this _ (cZ _)
       ·have:∀ d∈ds',flat n d=true:=by simpa[flat] using f'
        exact this _ (cZ _))
      have e:wP (.tup ds) (.tup ds')=((bQ (min its.toArray.size its'.toArray.size)).all (fun j=>wP (ds.getD j .non) (ds'.getD j .non))&&its.toArray.size==its'.toArray.size):=by
       show eqDs ds ds'=_
       rw[zEu]
       simp[hd.length,rv.length,hd'.length,rv'.length]
      rw[e];exact q
    | adr _=>simp[flat] at f'
    | dic _=>simp[flat] at f'
    | non=>unfold zQ at h';subst h';cases r';exact SeqAt.EqAt.tuple_none tp' hu0
    | bl _=>unfold zQ at h';subst h';cases r';exact SeqAt.EqAt.tuple_bool _ tp' hu0
    | int _=>unfold zQ at h';subst h';obtain⟨t,rfl⟩:=r';exact SeqAt.EqAt.tuple_int _ _ tp' hu0
    | str _=>unfold zQ at h';subst h';obtain⟨t,rfl⟩:=r';exact SeqAt.EqAt.tuple_str _ _ tp' hu0
   | adr _=>simp[flat] at f
   | dic _=>simp[flat] at f
   | non =>
    cases d' with
    | tup ds' =>
     unfold zQ at h h';subst h;cases r
     obtain⟨a',xs',rfl,hsq',hd'⟩:=h'
     cases r'
     obtain⟨its',rv',tp2,u0⟩:=I.tuple hsq'
     exact SeqAt.EqAt.none_tuple (show s.heap.IsTuple a' its'.toArray from tp2) hu0
    | adr _=>simp[flat] at f'
    | dic _=>simp[flat] at f'
    | _=>exact absurd ⟨rfl,rfl⟩ hs
   | bl _ =>
    cases d' with
    | tup ds' =>
     unfold zQ at h h';subst h;cases r
     obtain⟨a',xs',rfl,hsq',hd'⟩:=h'
     cases r'
     obtain⟨its',rv',tp2,u0⟩:=I.tuple hsq'
     exact SeqAt.EqAt.bool_tuple _ (show s.heap.IsTuple a' its'.toArray from tp2) hu0
    | adr _=>simp[flat] at f'
    | dic _=>simp[flat] at f'
    | _=>exact absurd ⟨rfl,rfl⟩ hs
   | int _ =>
    cases d' with
    | tup ds' =>
     unfold zQ at h h';subst h;obtain⟨t,rfl⟩:=r
     obtain⟨a',xs',rfl,hsq',hd'⟩:=h'
     cases r'
     obtain⟨its',rv',tp2,u0⟩:=I.tuple hsq'
     exact SeqAt.EqAt.int_tuple _ _ (show s.heap.IsTuple a' its'.toArray from tp2) hu0
    | adr _=>simp[flat] at f'
    | dic _=>simp[flat] at f'
    | _=>exact absurd ⟨rfl,rfl⟩ hs
   | str _ =>
    cases d' with
    | tup ds' =>
     unfold zQ at h h';subst h;obtain⟨t,rfl⟩:=r
     obtain⟨a',xs',rfl,hsq',hd'⟩:=h'
     cases r'
     obtain⟨its',rv',tp2,u0⟩:=I.tuple hsq'
     exact SeqAt.EqAt.str_tuple _ _ (show s.heap.IsTuple a' its'.toArray from tp2) hu0
    | adr _=>simp[flat] at f'
    | dic _=>simp[flat] at f'
    | _=>exact absurd ⟨rfl,rfl⟩ hs
end
end
section
variable {X:Cx} {pins:List (Addr×Obj)} {σ1:L2.St} {H:Hp} {s:Shared} {A:Around}
theorem zEL(I:zX X pins σ1 H s){n:Nat}{ds ds':List D}{xs xs':List V}{its its':List Value}(hd:Dens X.K H ds xs)(hd':Dens X.K H ds' xs')(rv:za xs its)(rv':za xs' its')
  (f:∀ d∈ds,flat n d=true) (f':∀ d∈ds',flat n d=true) (hu:A.units+n<cLine) (j:Nat) (h1:j<its.toArray.size) (h2:j<its'.toArray.size) :
  SeqAt.EqAt A s its.toArray[j] its'.toArray[j] (wP (ds.getD j .non) (ds'.getD j .non)):=by
 have h1':j<its.length:=by simpa using h1
 have h2':j<its'.length:=by simpa using h2
 have l1:=hd.length
 have l2:=rv.length
 have l3:=hd'.length
 have l4:=rv'.length
 obtain⟨x,ex,dx⟩:=hd.get (i:=j) (d:=ds[j]'(by omega)) (by simp)
 obtain⟨y,ey,dy⟩:=hd'.get (i:=j) (d:=ds'[j]'(by omega)) (by simp)
 obtain⟨ux,eux,rx⟩:=rv.get ex
 obtain⟨uy,euy,ry⟩:=rv'.get ey
 have e1:its.toArray[j]=ux:=by
  have:=(bW.mp eux).2
  simpa using this
 have e2:its'.toArray[j]=uy:=by
  have:=(bW.mp euy).2
  simpa using this
 have g1:ds.getD j .non=ds[j]'(by omega):=by simp[cP,(show j<ds.length by omega)]
 have g2:ds'.getD j .non=ds'[j]'(by omega):=by simp[cP,(show j<ds'.length by omega)]
 rw[e1,e2,g1,g2]
 exact zIw I n _ _ x y ux uy A dx dy rx ry (f _ (cZ _)) (f' _ (cZ _)) hu
theorem zBd{ds ds':List D}{n n':Nat}(h:ds.length=n)(h':ds'.length=n'):eqDs ds ds'=((bQ (min n n')).all (fun j=>wP (ds.getD j .non) (ds'.getD j .non))&&n==n'):=by
 rw[zEu,h,h']
theorem zQq(I:zX X pins σ1 H s){n:Nat}{d d':D}{v v':V}{u u':Value}(h:zQ X.K H d v)(h':zQ X.K H d' v')(r:RelV v u)(r':RelV v' u')(f:flat n d=true)(f':flat n d'=true)(hu:A.units+n+1<cLine) :
  SeqAt.RcAt A s u u' (wP d d'):=by
 have hu0:A.units<cLine:=by omega
 have tupI:∀ {d:D} {v:V} {u:Value} {ds:List D},d=.tup ds→zQ X.K H d v→RelV v u→∃ a xs its,u=.ref a∧Dens X.K H ds xs∧za xs its∧s.heap.IsTuple a its.toArray:=fun {d v u ds} e h r=>by
  subst e
  unfold zQ at h
  obtain⟨a,xs,rfl,hs,hd⟩:=h
  cases r
  obtain⟨its,rv,tp,u0⟩:=I.tuple hs
  exact⟨a,xs,its,rfl,hd,rv,tp⟩
 cases d with
 | tup ds =>
  obtain⟨a,xs,its,rfl,hd,rv,tp⟩:=tupI rfl h r
  cases d' with
  | tup ds' =>
   obtain⟨a',xs',its',rfl,hd',rv',tp'⟩:=tupI rfl h' r'
   cases n with
   | zero=>simp[flat] at f
   | succ n =>
    have q:=SeqAt.RcAt.tuples (A:=A) (s:=s) tp tp' hu0 (zEL (A:=A.in1) I hd hd' rv rv' (by simpa[flat] using f) (by simpa[flat] using f') (by rw[in1_units];omega))
    have e:wP (.tup ds) (.tup ds')=((bQ (min its.toArray.size its'.toArray.size)).all (fun j=>wP (ds.getD j .non) (ds'.getD j .non))&&its.toArray.size==its'.toArray.size) :=
     zBd (by simp[hd.length,rv.length]) (by simp[hd'.length,rv'.length])
    rw[e];exact q
  | adr _=>cases n<;>simp[flat] at f'
  | dic _=>cases n<;>simp[flat] at f'
  | non=>unfold zQ at h';subst h';cases r';exact SeqAt.RcAt.tuple_none tp hu0
  | bl _=>unfold zQ at h';subst h';cases r';exact SeqAt.RcAt.tuple_bool _ tp hu0
  | int _=>unfold zQ at h';subst h';obtain⟨t,rfl⟩:=r';exact SeqAt.RcAt.tuple_int _ _ tp hu0
  | str _=>unfold zQ at h';subst h';obtain⟨t,rfl⟩:=r';exact SeqAt.RcAt.tuple_str _ _ tp hu0
 | adr _=>cases n<;>simp[flat] at f
 | dic _=>cases n<;>simp[flat] at f
 | non =>
  unfold zQ at h;subst h;cases r
  cases d' with
  | tup ds'=>obtain⟨a',xs',its',rfl,hd',rv',tp'⟩:=tupI rfl h' r';exact SeqAt.RcAt.none_tuple tp' hu0
  | adr _=>cases n<;>simp[flat] at f'
  | dic _=>cases n<;>simp[flat] at f'
  | non=>unfold zQ at h';subst h';cases r';exact SeqAt.RcAt.none_none
  | bl _=>unfold zQ at h';subst h';cases r';exact SeqAt.RcAt.none_bool _
  | int _=>unfold zQ at h';subst h';obtain⟨t,rfl⟩:=r';exact SeqAt.RcAt.none_int _ _
  | str _=>unfold zQ at h';subst h';obtain⟨t,rfl⟩:=r';exact SeqAt.RcAt.none_str _ _
 | bl _ =>
  unfold zQ at h;subst h;cases r
  cases d' with
  | tup ds'=>obtain⟨a',xs',its',rfl,hd',rv',tp'⟩:=tupI rfl h' r';exact SeqAt.RcAt.bool_tuple _ tp' hu0
  | adr _=>cases n<;>simp[flat] at f'
  | dic _=>cases n<;>simp[flat] at f'
  | non=>unfold zQ at h';subst h';cases r';exact SeqAt.RcAt.bool_none _
  | bl _=>unfold zQ at h';subst h';cases r';exact SeqAt.RcAt.bool_bool _ _
  | int _=>unfold zQ at h';subst h';obtain⟨t,rfl⟩:=r';exact SeqAt.RcAt.bool_int _ _ _
  | str _=>unfold zQ at h';subst h';obtain⟨t,rfl⟩:=r';exact SeqAt.RcAt.bool_str _ _ _
 | int _ =>
  unfold zQ at h;subst h;obtain⟨t,rfl⟩:=r
  cases d' with
  | tup ds'=>obtain⟨a',xs',its',rfl,hd',rv',tp'⟩:=tupI rfl h' r';exact SeqAt.RcAt.int_tuple _ _ tp' hu0
  | adr _=>cases n<;>simp[flat] at f'
  | dic _=>cases n<;>simp[flat] at f'
  | non=>unfold zQ at h';subst h';cases r';exact SeqAt.RcAt.int_none _ _
  | bl _=>unfold zQ at h';subst h';cases r';exact SeqAt.RcAt.int_bool _ _ _
  | int _=>unfold zQ at h';subst h';obtain⟨t,rfl⟩:=r';exact SeqAt.RcAt.int_int _ _ _ _
  | str _=>unfold zQ at h';subst h';obtain⟨t,rfl⟩:=r';exact SeqAt.RcAt.int_str _ _ _ _
 | str _ =>
  unfold zQ at h;subst h;obtain⟨t,rfl⟩:=r
  cases d' with
  | tup ds'=>obtain⟨a',xs',its',rfl,hd',rv',tp'⟩:=tupI rfl h' r';exact SeqAt.RcAt.str_tuple _ _ tp' hu0
  | adr _=>cases n<;>simp[flat] at f'
  | dic _=>cases n<;>simp[flat] at f'
  | non=>unfold zQ at h';subst h';cases r';exact SeqAt.RcAt.str_none _ _
  | bl _=>unfold zQ at h';subst h';cases r';exact SeqAt.RcAt.str_bool _ _ _
  | int _=>unfold zQ at h';subst h';obtain⟨t,rfl⟩:=r';exact SeqAt.RcAt.str_int _ _ _ _
  | str _=>unfold zQ at h';subst h';obtain⟨t,rfl⟩:=r';exact SeqAt.RcAt.str_str _ _ _ _
theorem zQr(I:zX X pins σ1 H s){n:Nat}{ds ds':List D}{xs xs':List V}{a a':Addr}(hs:SqL X.K H a xs)(hd:Dens X.K H ds xs)(hs':SqL X.K H a' xs')(hd':Dens X.K H ds' xs')(f:∀ d∈ds,flat n d=true)(f':∀ d∈ds',flat n d=true)(hu:A.units+n+1<cLine) :
  SeqAt.RcAt A s (.ref a) (.ref a') (eqDs ds ds'):=by
 have hu0:A.units<cLine:=by omega
 obtain⟨its,rv,pl,u0⟩:=I.list hs
 obtain⟨its',rv',pl',u0⟩:=I.list hs'
 have e:=zBd (ds:=ds) (ds':=ds') (n:=its.toArray.size) (n':=its'.toArray.size) (by simp[hd.length,rv.length]) (by simp[hd'.length,rv'.length])
 by_cases hl:its.toArray.size=its'.toArray.size
 ·have q:=SeqAt.RcAt.lists (A:=A) (s:=s) pl.isList pl'.isList hl hu0 (zEL (A:=A.in1) I hd hd' rv rv' f f' (by rw[in1_units];omega))
  have e':eqDs ds ds'=(bQ its.toArray.size).all (fun j=>wP (ds.getD j .non) (ds'.getD j .non)):=by
   rw[e,← hl];simp
  rw[e'];exact q
 ·have e':eqDs ds ds'=false:=by
   rw[e]
   have:(its.toArray.size==its'.toArray.size)=false:=by simpa using hl
   rw[this,Bool.and_false]
  rw[e']
  exact SeqAt.RcAt.lists_lengths pl.isList pl'.isList (by simpa using hl) hu0
noncomputable def zQs(K:PySem.W.Frag)(ng:Bool):R2:=fun x y H Q=>(∃ d d',zQ K H d x∧zQ K H d' y∧flat 8 d=true∧flat 8 d'=true∧Q (.bl (if ng then !wP d d' else wP d d')) H) ∨
 (∃ a a' xs xs' ds ds',x=.ref a∧y=.ref a'∧SqL K H a xs∧SqL K H a' xs'∧Dens K H ds xs∧Dens K H ds' xs'∧(∀ d∈ds,flat 8 d=true)∧(∀ d∈ds',flat 8 d=true)∧Q (.bl (if ng then !eqDs ds ds' else eqDs ds ds')) H)
theorem zL6(hu:X.A.units+10<cLine):OpR X (compareOp .Eq) (zQs X.K false):=by
 intro pins s σ H x y v u Q I rx ry h
 rcases h with ⟨d,d',h1,h2,f1,f2,q⟩ | ⟨a,a',xs,xs',ds,ds',rfl,rfl,h1,h2,h3,h4,f1,f2,q⟩
 ·exact zQq (A:=X.A) I h1 h2 rx ry f1 f2 (by omega) X.prog X.w X.xe _ ⟨.bl _,H,I,rfl,q⟩
 ·cases rx;cases ry
  exact zQr (A:=X.A) I h1 h3 h2 h4 f1 f2 (by omega) X.prog X.w X.xe _ ⟨.bl _,H,I,rfl,q⟩
theorem zQt(I:zX X pins σ1 H s){n:Nat}{d d':D}{v v':V}{u u':Value}(h:zQ X.K H d v)(h':zQ X.K H d' v')(r:RelV v u)(r':RelV v' u')(f:flat n d=true)(f':flat n d'=true)(hu:A.units+n+1<cLine) :
  SeqAt.RcNeAt A s u u' (!wP d d'):=by
 have hu0:A.units<cLine:=by omega
 have tupI:∀ {d:D} {v:V} {u:Value} {ds:List D},d=.tup ds→zQ X.K H d v→RelV v u→∃ a xs its,u=.ref a∧Dens X.K H ds xs∧za xs its∧s.heap.IsTuple a its.toArray:=fun {d v u ds} e h r=>by
  subst e
  unfold zQ at h
  obtain⟨a,xs,rfl,hs,hd⟩:=h
  cases r
  obtain⟨its,rv,tp,u0⟩:=I.tuple hs
  exact⟨a,xs,its,rfl,hd,rv,tp⟩
 cases d with
 | tup ds =>
  obtain⟨a,xs,its,rfl,hd,rv,tp⟩:=tupI rfl h r
  cases d' with
  | tup ds' =>
   obtain⟨a',xs',its',rfl,hd',rv',tp'⟩:=tupI rfl h' r'
   cases n with
   | zero=>simp[flat] at f
   | succ n =>
    have q:=SeqAt.RcNeAt.tuples (A:=A) (s:=s) tp tp' hu0 (zEL (A:=A.in1) I hd hd' rv rv' (by simpa[flat] using f) (by simpa[flat] using f') (by rw[in1_units];omega))
    have e:wP (.tup ds) (.tup ds')=((bQ (min its.toArray.size its'.toArray.size)).all (fun j=>wP (ds.getD j .non) (ds'.getD j .non))&&its.toArray.size==its'.toArray.size) :=
     zBd (by simp[hd.length,rv.length]) (by simp[hd'.length,rv'.length])
    rw[e];exact q
  | adr _=>cases n<;>simp[flat] at f'
  | dic _=>cases n<;>simp[flat] at f'
  | non=>unfold zQ at h';subst h';cases r';exact SeqAt.RcNeAt.tuple_none tp hu0
  | bl _=>unfold zQ at h';subst h';cases r';exact SeqAt.RcNeAt.tuple_bool _ tp hu0
  | int _=>unfold zQ at h';subst h';obtain⟨t,rfl⟩:=r';exact SeqAt.RcNeAt.tuple_int _ _ tp hu0
  | str _=>unfold zQ at h';subst h';obtain⟨t,rfl⟩:=r';exact SeqAt.RcNeAt.tuple_str _ _ tp hu0
 | adr _=>cases n<;>simp[flat] at f
 | dic _=>cases n<;>simp[flat] at f
 | non =>
  unfold zQ at h;subst h;cases r
  cases d' with
  | tup ds'=>obtain⟨a',xs',its',rfl,hd',rv',tp'⟩:=tupI rfl h' r';exact SeqAt.RcNeAt.none_tuple tp' hu0
  | adr _=>cases n<;>simp[flat] at f'
  | dic _=>cases n<;>simp[flat] at f'
  | non=>unfold zQ at h';subst h';cases r';exact SeqAt.RcNeAt.none_none
  | bl _=>unfold zQ at h';subst h';cases r';exact SeqAt.RcNeAt.none_bool _
  | int _=>unfold zQ at h';subst h';obtain⟨t,rfl⟩:=r';exact SeqAt.RcNeAt.none_int _ _
  | str _=>unfold zQ at h';subst h';obtain⟨t,rfl⟩:=r';exact SeqAt.RcNeAt.none_str _ _
 | bl _ =>
  unfold zQ at h;subst h;cases r
  cases d' with
  | tup ds'=>obtain⟨a',xs',its',rfl,hd',rv',tp'⟩:=tupI rfl h' r';exact SeqAt.RcNeAt.bool_tuple _ tp' hu0
  | adr _=>cases n<;>simp[flat] at f'
  | dic _=>cases n<;>simp[flat] at f'
  | non=>unfold zQ at h';subst h';cases r';exact SeqAt.RcNeAt.bool_none _
  | bl _=>unfold zQ at h';subst h';cases r';exact SeqAt.RcNeAt.bool_bool _ _
  | int _=>unfold zQ at h';subst h';obtain⟨t,rfl⟩:=r';exact SeqAt.RcNeAt.bool_int _ _ _
  | str _=>unfold zQ at h';subst h';obtain⟨t,rfl⟩:=r';exact SeqAt.RcNeAt.bool_str _ _ _
 | int _ =>
  unfold zQ at h;subst h;obtain⟨t,rfl⟩:=r
  cases d' with
  | tup ds'=>obtain⟨a',xs',its',rfl,hd',rv',tp'⟩:=tupI rfl h' r';exact SeqAt.RcNeAt.int_tuple _ _ tp' hu0
  | adr _=>cases n<;>simp[flat] at f'
  | dic _=>cases n<;>simp[flat] at f'
  | non=>unfold zQ at h';subst h';cases r';exact SeqAt.RcNeAt.int_none _ _
  | bl _=>unfold zQ at h';subst h';cases r';exact SeqAt.RcNeAt.int_bool _ _ _
  | int _=>unfold zQ at h';subst h';obtain⟨t,rfl⟩:=r';exact SeqAt.RcNeAt.int_int _ _ _ _
  | str _=>unfold zQ at h';subst h';obtain⟨t,rfl⟩:=r';exact SeqAt.RcNeAt.int_str _ _ _ _
 | str _ =>
  unfold zQ at h;subst h;obtain⟨t,rfl⟩:=r
  cases d' with
  | tup ds'=>obtain⟨a',xs',its',rfl,hd',rv',tp'⟩:=tupI rfl h' r';exact SeqAt.RcNeAt.str_tuple _ _ tp' hu0
  | adr _=>cases n<;>simp[flat] at f'
  | dic _=>cases n<;>simp[flat] at f'
  | non=>unfold zQ at h';subst h';cases r';exact SeqAt.RcNeAt.str_none _ _
  | bl _=>unfold zQ at h';subst h';cases r';exact SeqAt.RcNeAt.str_bool _ _ _
  | int _=>unfold zQ at h';subst h';obtain⟨t,rfl⟩:=r';exact SeqAt.RcNeAt.str_int _ _ _ _
  | str _=>unfold zQ at h';subst h';obtain⟨t,rfl⟩:=r';exact SeqAt.RcNeAt.str_str _ _ _ _
theorem zQu(I:zX X pins σ1 H s){n:Nat}{ds ds':List D}{xs xs':List V}{a a':Addr}(hs:SqL X.K H a xs)(hd:Dens X.K H ds xs)(hs':SqL X.K H a' xs')(hd':Dens X.K H ds' xs')(f:∀ d∈ds,flat n d=true)(f':∀ d∈ds',flat n d=true)(hu:A.units+n+1<cLine) :
  SeqAt.RcNeAt A s (.ref a) (.ref a') (!eqDs ds ds'):=by
 have hu0:A.units<cLine:=by omega
 obtain⟨its,rv,pl,u0⟩:=I.list hs
 obtain⟨its',rv',pl',u0⟩:=I.list hs'
 have e:=zBd (ds:=ds) (ds':=ds') (n:=its.toArray.size) (n':=its'.toArray.size) (by simp[hd.length,rv.length]) (by simp[hd'.length,rv'.length])
 by_cases hl:its.toArray.size=its'.toArray.size
 ·have q:=SeqAt.RcNeAt.lists (A:=A) (s:=s) pl.isList pl'.isList hl hu0 (zEL (A:=A.in1) I hd hd' rv rv' f f' (by rw[in1_units];omega))
  have e':eqDs ds ds'=(bQ its.toArray.size).all (fun j=>wP (ds.getD j .non) (ds'.getD j .non)):=by
   rw[e,← hl];simp
  rw[e'];exact q
 ·have e':eqDs ds ds'=false:=by
   rw[e]
   have:(its.toArray.size==its'.toArray.size)=false:=by simpa using hl
   rw[this,Bool.and_false]
  rw[e']
  exact SeqAt.RcNeAt.lists_lengths pl.isList pl'.isList (by simpa using hl) hu0
theorem zL7(hu:X.A.units+10<cLine):OpR X (compareOp .NotEq) (zQs X.K true):=by
 intro pins s σ H x y v u Q I rx ry h
 rcases h with ⟨d,d',h1,h2,f1,f2,q⟩ | ⟨a,a',xs,xs',ds,ds',rfl,rfl,h1,h2,h3,h4,f1,f2,q⟩
 ·exact zQt (A:=X.A) I h1 h2 rx ry f1 f2 (by omega) X.prog X.w X.xe _ ⟨.bl _,H,I,rfl,q⟩
 ·cases rx;cases ry
  exact zQu (A:=X.A) I h1 h3 h2 h4 f1 f2 (by omega) X.prog X.w X.xe _ ⟨.bl _,H,I,rfl,q⟩
noncomputable def zQv(K:PySem.W.Frag)(ng:Bool):R2:=fun x y H Q=>∃ d ds a xs,zQ K H d x∧y=.ref a∧(SqL K H a xs∨SqT K H a xs)∧Dens K H ds xs∧flat 8 d=true∧(∀ z∈ds,flat 8 z=true)∧Q (.bl (if ng then !ds.any fun z=>wP z d else ds.any fun z=>wP z d)) H
theorem zFz{its:List Value}{ds:List D}(g:D→Bool)(hl:its.length=ds.length)(hinj:∀(i j:Nat) (u:Value) (z z':D),its[i]?=some u→its[j]?=some u→ds[i]?=some z→ds[j]?=some z'→z=z') :
  ∃ e:Value→Bool,(∀(j:Nat) (u:Value) (z:D),its[j]?=some u→ds[j]?=some z→e u=g z)∧its.any e=ds.any g:=by
 classical
 have key:∀(j:Nat) (u:Value) (z:D),its[j]?=some u→ds[j]?=some z→decide (∃(j:Nat) (z:D),its[j]?=some u∧ds[j]?=some z∧g z=true)=g z:=by
  intro j u z h1 h2
  cases hg:g z with
  | true=>exact decide_eq_true ⟨j,z,h1,h2,hg⟩
  | false =>
   refine decide_eq_false ?_
   rintro⟨j',z',h3,h4,h5⟩
   rw[hinj j j' u z z' h1 h3 h2 h4,h5] at hg
   cases hg
 refine⟨fun u=>decide (∃(j:Nat) (z:D),its[j]?=some u∧ds[j]?=some z∧g z=true),key,?_⟩
 rw[cF,fh,fh]
 constructor
 ·rintro⟨u,hu,he⟩
  obtain⟨j,z,h1,h2,h3⟩:=of_decide_eq_true he
  exact⟨z,cy h2,h3⟩
 ·rintro⟨z,hz,hg⟩
  obtain⟨j,hj⟩:=ec hz
  have hj':j<ds.length:=(bW.mp hj).1
  refine⟨its[j]'(by omega),cZ _,decide_eq_true ⟨j,z,by simp,hj,hg⟩⟩
theorem zEM(I:zX X pins σ1 H s){n:Nat}{ds:List D}{xs:List V}{its:List Value}{d:D}{v:V}{u:Value}(hd:Dens X.K H ds xs)(rv:za xs its)(h:zQ X.K H d v)(r:RelV v u)(f:∀ z∈ds,flat n z=true)(f':flat n d=true)(hu:A.units+n<cLine) :
  ∃ e:Value→Bool,(∀ y,y∈its.toArray→SeqAt.EqAt A s y u (e y))∧its.toArray.any e=ds.any fun z=>wP z d:=by
 have l1:=hd.length
 have l2:=rv.length
 obtain⟨e,h1,h2⟩:=zFz (its:=its) (ds:=ds) (fun z=>wP z d) (by omega) (by
  intro i j w z z' a1 a2 a3 a4
  obtain⟨x,b1,b2⟩:=hd.get a3
  obtain⟨x',b3,b4⟩:=hd.get a4
  obtain⟨w1,c1,c2⟩:=rv.get b1
  obtain⟨w2,c3,c4⟩:=rv.get b3
  rw[a1] at c1;cases c1
  rw[a2] at c3;cases c3
  have:=c2.inj c4
  subst this
  exact zQ.inj I b2 b4 (f z (cy a3)) (f z' (cy a4)))
 refine⟨e,fun y hy=>?_,by simpa using h2⟩
 have hy':y∈its:=by simpa using hy
 obtain⟨j,hj⟩:=ec hy'
 have hjl:j<its.length:=(bW.mp hj).1
 obtain⟨x,b1,b2⟩:=hd.get (i:=j) (d:=ds[j]'(by omega)) (by simp)
 obtain⟨w1,c1,c2⟩:=rv.get b1
 rw[hj] at c1;cases c1
 rw[h1 j _ (ds[j]'(by omega)) hj (by simp)]
 exact zIw I n _ _ x v _ u A b2 h c2 r (f _ (cZ _)) f' hu
theorem zL8(hu:X.A.units+10<cLine):OpR X (compareOp .In) (zQv X.K false):=by
 intro pins s σ H x y v u Q I rx ry h
 obtain⟨d,ds,a,xs,h1,rfl,h2,h3,f1,f2,q⟩:=h
 cases ry
 rcases h2 with h2 | h2
 ·obtain⟨its,rv,pl,u0⟩:=I.list h2
  obtain⟨e,e1,e2⟩:=zEM (A:=X.A.in1) I h3 rv h1 rx f2 f1 (by rw[in1_units];omega)
  exact SeqAt.in_listAt e pl.isList e1 ⟨.bl _,H,I,rfl,by rw[e2];exact q⟩
 ·obtain⟨its,rv,tp,u0⟩:=I.tuple h2
  obtain⟨e,e1,e2⟩:=zEM (A:=X.A.in1) I h3 rv h1 rx f2 f1 (by rw[in1_units];omega)
  exact SeqAt.in_tupleAt e (show s.heap.IsTuple a its.toArray from tp) e1 ⟨.bl _,H,I,rfl,by rw[e2];exact q⟩
theorem zKf(hu:X.A.units+10<cLine):OpR X (compareOp .NotIn) (zQv X.K true):=by
 intro pins s σ H x y v u Q I rx ry h
 obtain⟨d,ds,a,xs,h1,rfl,h2,h3,f1,f2,q⟩:=h
 cases ry
 rcases h2 with h2 | h2
 ·obtain⟨its,rv,pl,u0⟩:=I.list h2
  obtain⟨e,e1,e2⟩:=zEM (A:=X.A.in1) I h3 rv h1 rx f2 f1 (by rw[in1_units];omega)
  exact SeqAt.notIn_listAt e pl.isList e1 ⟨.bl _,H,I,rfl,by rw[e2];exact q⟩
 ·obtain⟨its,rv,tp,u0⟩:=I.tuple h2
  obtain⟨e,e1,e2⟩:=zEM (A:=X.A.in1) I h3 rv h1 rx f2 f1 (by rw[in1_units];omega)
  exact SeqAt.notIn_tupleAt e (show s.heap.IsTuple a its.toArray from tp) e1 ⟨.bl _,H,I,rfl,by rw[e2];exact q⟩
end
section
variable {X:Cx} {a b c e o:Expr} {es:List Expr} {pos p:Pos} {ta tb te:zk}
noncomputable def fEq(ng:Bool):D→D→Gp→Q2→Prop:=fun x y G R=>match x,y with
 | .adr l,.adr l'=>∃ ds ds',Ls G l ds∧Ls G l' ds'∧(∀ d∈ds,flat 8 d=true)∧(∀ d∈ds',flat 8 d=true)∧R (.bl (if ng then !eqDs ds ds' else eqDs ds ds')) G
 | x,y=>flat 8 x=true∧flat 8 y=true∧R (.bl (if ng then !wP x y else wP x y)) G
theorem zGj{K:PySem.W.Frag}{ng:Bool}:Fit K (zQs K ng) (fEq ng):=by
 intro dx dy G R x y H Q h r d1 d2 k
 unfold fEq at h
 split at h
 ·rename_i l l'
  obtain⟨ds,ds',e1,e2,f1,f2,h⟩:=h
  obtain⟨xs,s1,t1⟩:=r.sq e1
  obtain⟨xs',s2,t2⟩:=r.sq e2
  unfold zQ at d1 d2
  exact .inr ⟨l,l',xs,xs',ds,ds',d1,d2,s1,s2,t1,t2,f1,f2,k _ G h _ H (.refl H) r (by unfold zQ;rfl)⟩
 ·obtain⟨f1,f2,h⟩:=h
  exact .inl ⟨_,_,d1,d2,f1,f2,k _ G h _ H (.refl H) r (by unfold zQ;rfl)⟩
noncomputable def fIn(ng:Bool):D→D→Gp→Q2→Prop:=fun x y G R=>match y with
 | .adr l=>∃ ds,Ls G l ds∧flat 8 x=true∧(∀ d∈ds,flat 8 d=true)∧R (.bl (if ng then !ds.any fun z=>wP z x else ds.any fun z=>wP z x)) G
 | .tup ds=>flat 8 x=true∧(∀ d∈ds,flat 8 d=true)∧R (.bl (if ng then !ds.any fun z=>wP z x else ds.any fun z=>wP z x)) G
 | _=>False
theorem zIx{K:PySem.W.Frag}{ng:Bool}:Fit K (zQv K ng) (fIn ng):=by
 intro dx dy G R x y H Q h r d1 d2 k
 unfold fIn at h
 split at h
 ·rename_i l
  obtain⟨ds,e1,f1,f2,h⟩:=h
  obtain⟨xs,s1,t1⟩:=r.sq e1
  unfold zQ at d2
  exact⟨dx,ds,l,xs,d1,d2,.inl s1,t1,f1,f2,k _ G h _ H (.refl H) r (by unfold zQ;rfl)⟩
 ·rename_i ds
  obtain⟨f1,f2,h⟩:=h
  unfold zQ at d2
  obtain⟨l,xs,e,s1,t1⟩:=d2
  exact⟨dx,ds,l,xs,d1,e,.inr s1,t1,f1,f2,k _ G h _ H (.refl H) r (by unfold zQ;rfl)⟩
 ·exact h.elim
theorem zL9{k:Nat}(hr:wB k X.A)(ha:E2 X a ta)(hb:E2 X b tb):E2 X (.Compare a [.Eq] [b] pos) (zO (fEq false) ta tb):=zFv (zL6 (by have:=hr.units;omega)) zGj ha hb (zAC _)
theorem zSx{k:Nat}(hr:wB k X.A)(ha:E2 X a ta)(hb:E2 X b tb):E2 X (.Compare a [.NotEq] [b] pos) (zO (fEq true) ta tb):=zFv (zL7 (by have:=hr.units;omega)) zGj ha hb (zAC _)
theorem zSA{k:Nat}(hr:wB k X.A)(ha:E2 X a ta)(hb:E2 X b tb)(hm:behindInMarks .In b=false:=by rfl):E2 X (.Compare a [.In] [b] pos) (zO (fIn false) ta tb):=zFv (zL8 (by have:=hr.units;omega)) zIx ha hb hm
theorem zHl{k:Nat}(hr:wB k X.A)(ha:E2 X a ta)(hb:E2 X b tb):T2 X (.Compare a [.Eq] [b] pos) (xB (zO (fEq false) ta tb)):=zCi (zL6 (by have:=hr.units;omega)) zGj ha hb (zAC _)
theorem zMA{k:Nat}(hr:wB k X.A)(ha:E2 X a ta)(hb:E2 X b tb):T2 X (.Compare a [.NotEq] [b] pos) (xB (zO (fEq true) ta tb)):=zCi (zL7 (by have:=hr.units;omega)) zGj ha hb (zAC _)
theorem zSB{k:Nat}(hr:wB k X.A)(ha:E2 X a ta)(hb:E2 X b tb)(hm:behindInMarks .In b=false:=by rfl):T2 X (.Compare a [.In] [b] pos) (xB (zO (fIn false) ta tb)):=zCi (zL8 (by have:=hr.units;omega)) zIx ha hb hm
theorem zEN{k:Nat}(hr:wB k X.A)(ha:E2 X a ta)(hb:E2 X b tb)(hm:behindInMarks .NotIn b=false:=by rfl):T2 X (.Compare a [.NotIn] [b] pos) (xB (zO (fIn true) ta tb)):=zCi (zKf (by have:=hr.units;omega)) zIx ha hb hm
noncomputable def yS:D→D→Gp→Q2→Prop:=fun x y G R=>match x,y with
 | .adr l,.int k=>∃ ds d,Ls G l ds∧atI ds k=some d∧R d G
 | .tup ds,.int k=>match atI ds k with | some d=>R d G | none=>False
 | _,_=>False
theorem zHm{K:PySem.W.Frag}{H:Hp}{ds:List D}{xs:List V}{k:Int}{d:D}(h:Dens K H ds xs)(e:atI ds k=some d):∃ x,atI xs k=some x∧zQ K H d x:=by
 unfold atI at e ⊢
 rw[h.length] at e
 cases q:ixN xs.length k with
 | none=>rw[q] at e;cases e
 | some j =>
  rw[q] at e
  exact h.get e
theorem zQw{K:PySem.W.Frag}:Fit K (fun x y H Q=>zR1 K x y H Q∨zR2 K x y H Q) yS:=by
 intro dx dy G R x y H Q h r d1 d2 k
 unfold yS at h
 split at h
 ·rename_i l i
  obtain⟨ds,d,e1,e2,h⟩:=h
  obtain⟨xs,s1,t1⟩:=r.sq e1
  obtain⟨z,e3,t2⟩:=zHm t1 e2
  unfold zQ at d1 d2
  exact .inl ⟨l,xs,i,z,d1,d2,s1,e3,k _ G h _ H (.refl H) r t2⟩
 ·rename_i ds i
  split at h
  ·rename_i d e2
   unfold zQ at d1 d2
   obtain⟨l,xs,e,s1,t1⟩:=d1
   obtain⟨z,e3,t2⟩:=zHm t1 e2
   exact .inr ⟨l,xs,i,z,e,d2,s1,e3,k _ G h _ H (.refl H) r t2⟩
  ·exact h.elim
 ·exact h.elim
theorem yP(ha:E2 X a ta)(hb:E2 X b tb)(hs:zGg b:=by intro u0 u0;rfl):E2 X (.Subscript a b pos) (zO yS ta tb) :=
 PE.mono (zPg (zN8.or zQl) ha hb hs) fun σ1 H Q h=>zHi zQw h
noncomputable def zHn(K:PySem.W.Frag)(r:List V→Hp→VK→Prop)(f:wm):Prop :=
 ∀ ds G R vs H Q,f ds G R→yK K G H→Dens K H ds vs→(∀ d G',R d G'→∀ v H',yB H H'→yK K G' H'→zQ K H' d v→Q v H')→r vs H Q
theorem zF0{K:PySem.W.Frag}{r:List V→Hp→VK→Prop}{f:wm}{t:wN}(hf:zHn K r f){σ1:L2.St}{H:Hp}{Q:VK}(h:lE K (zJ f t) σ1 H Q):tCB r (lA K t) σ1 H Q:=by
 obtain⟨σ,G,R,rl,q,k⟩:=h
 exact⟨σ,G,_,rl,q,fun ds G1 q1 vs H1 g1 r1 d1=>hf ds G1 R vs H1 Q q1 r1 d1 fun d G' q' v H' g'=>k d G' q' v H' (g1.trans g')⟩
theorem zGk{id:String}{x:Str}{r:List V→Hp→VK→Prop}{f:wm}{t:wN}(hc:yg X (.builtin id) r)(hf:zHn X.K r f)(hg:Gl X x)(hm:X.mg x=none)(hv:bootBuiltins x=some (.builtin id))(ha:A2 X (e::es) t)(hn:x≠"__name__":=by decide)(hdb:(x==("__debug__":Str))=false:=by decide)
  (he:starEach (e::es) X.env=(false,eval e X.env)::starEach es X.env:=by rfl) (hpl:(backTo pos (starEach es X.env)).any (·.1)=false:=by rfl):E2 X (.Call (.Name x p) (e::es) [] pos) (zJ f t) :=
 PE.mono (zBQ hc hg hm hv ha hn hdb he hpl) fun σ1 H Q h=>zF0 hf h
theorem zEv{T:String}{x:Str}{r:List V→Hp→VK→Prop}{f:wm}{t:wN}(hc:yg X (.type T) r)(hf:zHn X.K r f)(hg:Gl X x)(hm:X.mg x=none)(hv:bootBuiltins x=some (.type T))(ha:A2 X (e::es) t)(hn:x≠"__name__":=by decide)(hdb:(x==("__debug__":Str))=false:=by decide)
  (he:starEach (e::es) X.env=(false,eval e X.env)::starEach es X.env:=by rfl) (hpl:(backTo pos (starEach es X.env)).any (·.1)=false:=by rfl):E2 X (.Call (.Name x p) (e::es) [] pos) (zJ f t) :=
 PE.mono (zCJ hc hg hm hv ha hn hdb he hpl) fun σ1 H Q h=>zF0 hf h
noncomputable def zBs(G:Gp):D→List D→Prop
 | .tup es,ds=>es=ds
 | .adr l,ds=>Ls G l ds
 | _,_=>False
theorem zEO{K:PySem.W.Frag}{G:Gp}{H:Hp}{d:D}{v:V}{ds:List D}(r:yK K G H)(h:zQ K H d v)(e:zBs G d ds):∃ l xs,v=.ref l∧(SqL K H l xs∨SqT K H l xs)∧Dens K H ds xs:=by
 cases d with
 | tup _ =>
  have e:_=ds:=e
  subst e
  unfold zQ at h
  obtain⟨l,xs,e,s1,t1⟩:=h
  exact⟨l,xs,e,.inr s1,t1⟩
 | adr l =>
  unfold zQ at h
  obtain⟨xs,s1,t1⟩:=r.sq (show Ls G l ds from e)
  exact⟨l,xs,h,.inl s1,t1⟩
 | _=>exact e.elim
theorem zAi{K:PySem.W.Frag}{H:Hp}{d:D}{vs:List V}(h:Dens K H [d] vs):∃ v,vs=[v]∧zQ K H d v:=by
 unfold Dens at h
 obtain⟨v,r,e,h1,h2⟩:=h
 unfold Dens at h2
 subst h2
 exact⟨v,e,h1⟩
theorem zPl{K:PySem.W.Frag}{H:Hp}{d d':D}{vs:List V}(h:Dens K H [d,d'] vs):∃ v v',vs=[v,v']∧zQ K H d v∧zQ K H d' v':=by
 unfold Dens at h
 obtain⟨v,r,e,h1,h2⟩:=h
 obtain⟨v',e2,h3⟩:=zAi h2
 subst e2
 exact⟨v,v',e,h1,h3⟩
noncomputable def zo:wm:=fun ds G R=>match ds with | [d]=>∃ l,zBs G d l∧R (.int l.length) G | _=>False
theorem zOJ:zHn X.K (fun xs H Q=>∃ p ys,xs=[.ref p]∧(SqL X.K H p ys∨SqT X.K H p ys)∧Q (.int ys.length) H) zo:=by
 intro ds G R vs H Q h r d k
 unfold zo at h
 split at h
 ·rename_i d0
  obtain⟨v,rfl,d1⟩:=zAi d
  obtain⟨l,e,h⟩:=h
  obtain⟨a,xs,rfl,s1,t1⟩:=zEO r d1 e
  exact⟨a,xs,rfl,s1,k _ G h _ H (.refl H) r (by rw[← t1.length];unfold zQ;rfl)⟩
 ·exact h.elim
theorem wO{t:wN}(hg:Gl X "len")(hm:X.mg "len"=none)(ha:A2 X [e] t)(he:starEach [e] X.env=(false,eval e X.env)::starEach [] X.env:=by rfl)(hpl:(backTo pos (starEach [] X.env)).any (·.1)=false:=by rfl):E2 X (.Call (.Name "len" p) [e] [] pos) (zJ zo t):=zGk zGi zOJ hg hm PySem.boot_len ha (by decide) (by decide) he hpl
noncomputable def zBA:wm:=fun ds G R=>match ds with | [.int i,.int j]=>R (.int (if j<i then j else i)) G | _=>False
noncomputable def zBT:wm:=fun ds G R=>match ds with | [.int i,.int j]=>R (.int (if j>i then j else i)) G | _=>False
theorem zMB{f:Int→Int→Int}{sp:wm}(hs:∀ ds G R,sp ds G R→∃ i j,ds=[.int i,.int j]∧R (.int (f i j)) G):zHn X.K (fun xs H Q=>∃ i j,xs=[.int i,.int j]∧Q (.int (f i j)) H) sp:=by
 intro ds G R vs H Q h r d k
 obtain⟨i,j,rfl,h'⟩:=hs ds G R h
 obtain⟨v,v',rfl,d1,d2⟩:=zPl d
 unfold zQ at d1 d2
 subst d1 d2
 exact⟨i,j,rfl,k _ G h' _ H (.refl H) r (by unfold zQ;rfl)⟩
theorem zPm{t:wN}{e':Expr}(hc:X.calm=true)(hg:Gl X "min")(hm:X.mg "min"=none)(ha:A2 X [e,e'] t)(he:starEach [e,e'] X.env=(false,eval e X.env)::starEach [e'] X.env:=by rfl)(hpl:(backTo pos (starEach [e'] X.env)).any (·.1)=false:=by rfl):E2 X (.Call (.Name "min" p) [e,e'] [] pos) (zJ zBA t):=zGk (zKW hc) (zMB fun ds G R h=>by unfold zBA at h;split at h;exact⟨_,_,rfl,h⟩;exact h.elim) hg hm (by decide +kernel) ha (by decide) (by decide) he hpl
theorem zPn{t:wN}{e':Expr}(hc:X.calm=true)(hg:Gl X "max")(hm:X.mg "max"=none)(ha:A2 X [e,e'] t)(he:starEach [e,e'] X.env=(false,eval e X.env)::starEach [e'] X.env:=by rfl)(hpl:(backTo pos (starEach [e'] X.env)).any (·.1)=false:=by rfl):E2 X (.Call (.Name "max" p) [e,e'] [] pos) (zJ zBT t):=zGk (zKV hc) (zMB fun ds G R h=>by unfold zBT at h;split at h;exact⟨_,_,rfl,h⟩;exact h.elim) hg hm (by decide +kernel) ha (by decide) (by decide) he hpl
end
section
variable {X:Cx} {a b c e o:Expr} {es:List Expr} {pos p p2:Pos} {ta tb te to:zk} {tl:TL2}
noncomputable def zOK(K:PySem.W.Frag)(r:List V→Hp→VK→Prop)(g:wm):Prop :=
 ∀ ds G R l xs H Q,g ds G R→yK K G H→H l=some (.lst xs)→Dens K H ds xs→(∀ d G',R d G'→∀ v H',yB H H'→yK K G' H'→zQ K H' d v→Q v H')→r [.ref l] H Q
noncomputable def zc(g:wm)(t:TL2):zk:=fun σ G R=>t σ G fun ds G1=>g ds G1 R
theorem zEw{K:PySem.W.Frag}{r:List V→Hp→VK→Prop}{g:wm}(hf:zOK K r g){σ1:L2.St}{H:Hp}{Q:VK}(h:lE K (zc g tl) σ1 H Q):tCB r (zPe (lL K tl) zRx) σ1 H Q:=by
 obtain⟨σ,G,R,rl,q,k⟩:=h
 exact⟨σ,G,_,rl,q,fun ds G1 q1 l xs H1 g1 r1 n e d1=>hf ds G1 R l xs H1 Q q1 r1 e d1 fun d G' q' v H' g'=>k d G' q' v H' (g1.trans g')⟩
theorem zKg{T:String}{x:Str}{r:List V→Hp→VK→Prop}{g:wm}(hc:yg X (.type T) r)(hf:zOK X.K r g)(hg:Gl X x)(hm:X.mg x=none)(hv:bootBuiltins x=some (.type T))(ha:F2 X e tl)(hn:x≠"__name__":=by decide)(hdb:(x==("__debug__":Str))=false:=by decide)
  (he:starEach [e] X.env=(false,eval e X.env)::starEach [] X.env:=by rfl) (hpl:(backTo pos (starEach [] X.env)).any (·.1)=false:=by rfl):E2 X (.Call (.Name x p) [e] [] pos) (zc g tl) :=
 PE.mono (zCJ hc hg hm hv (zAk ha zBy he) hn hdb he hpl) fun σ1 H Q h=>zEw hf h
theorem zDF{id:String}{x:Str}{r:List V→Hp→VK→Prop}{g:wm}(hc:yg X (.builtin id) r)(hf:zOK X.K r g)(hg:Gl X x)(hm:X.mg x=none)(hv:bootBuiltins x=some (.builtin id))(ha:F2 X e tl)(hn:x≠"__name__":=by decide)(hdb:(x==("__debug__":Str))=false:=by decide)
  (he:starEach [e] X.env=(false,eval e X.env)::starEach [] X.env:=by rfl) (hpl:(backTo pos (starEach [] X.env)).any (·.1)=false:=by rfl):E2 X (.Call (.Name x p) [e] [] pos) (zc g tl) :=
 PE.mono (zBQ hc hg hm hv (zAk ha zBy he) hn hdb he hpl) fun σ1 H Q h=>zEw hf h
noncomputable def zz:wm:=fun ds G R=>R (.tup ds) G
theorem zIy{K:PySem.W.Frag}:zOK K (fun xs H Q=>∃ p ys,xs=[.ref p]∧((SqL K H p ys∧∀ l,H l=none→Q (.ref l) (wj H l (.tup ys)))∨(SqT K H p ys∧Q (.ref p) H))) zz:=by
 intro ds G R l xs H Q h r e d k
 refine⟨l,xs,rfl,.inl ⟨.of e,fun l' n=>k _ G h _ _ (.fresh n) (r.fresh n) ?_⟩⟩
 unfold zQ
 exact⟨l',xs,rfl,.of zu,d.grow (.fresh n)⟩
theorem zAe(hg:Gl X "tuple")(hm:X.mg "tuple"=none)(ha:F2 X e tl)(he:starEach [e] X.env=(false,eval e X.env)::starEach [] X.env:=by rfl)(hpl:(backTo pos (starEach [] X.env)).any (·.1)=false:=by rfl) :
  E2 X (.Call (.Name "tuple" p) [e] [] pos) (zc zz tl):=zKg zCg zIy hg hm (by decide +kernel) ha (by decide) (by decide) he hpl
noncomputable def zDG:wm:=fun ds G R=>match ds with | [d]=>∃ l,zBs G d l∧R (.tup l) G | _=>False
theorem zKh{K:PySem.W.Frag}:zHn K (fun xs H Q=>∃ p ys,xs=[.ref p]∧((SqL K H p ys∧∀ l,H l=none→Q (.ref l) (wj H l (.tup ys)))∨(SqT K H p ys∧Q (.ref p) H))) zDG:=by
 intro ds G R vs H Q h r d k
 unfold zDG at h
 split at h
 ·rename_i d0
  obtain⟨v,rfl,d1⟩:=zAi d
  obtain⟨l,e,h⟩:=h
  obtain⟨a,xs,rfl,s1,t1⟩:=zEO r d1 e
  rcases s1 with s1 | s1
  ·refine⟨a,xs,rfl,.inl ⟨s1,fun l' n=>k _ G h _ _ (.fresh n) (r.fresh n) ?_⟩⟩
   unfold zQ
   exact⟨l',xs,rfl,.of zu,t1.grow (.fresh n)⟩
  ·refine⟨a,xs,rfl,.inr ⟨s1,k _ G h _ H (.refl H) r ?_⟩⟩
   unfold zQ
   exact⟨a,xs,rfl,s1,t1⟩
 ·exact h.elim
theorem zJp{t:wN}(hg:Gl X "tuple")(hm:X.mg "tuple"=none)(ha:A2 X [e] t)(he:starEach [e] X.env=(false,eval e X.env)::starEach [] X.env:=by rfl)(hpl:(backTo pos (starEach [] X.env)).any (·.1)=false:=by rfl) :
  E2 X (.Call (.Name "tuple" p) [e] [] pos) (zJ zDG t):=zEv zCg zKh hg hm (by decide +kernel) ha (by decide) (by decide) he hpl
theorem zB3:∀ {xs:List V} {us:List Value},xs.length=us.length→(∀(i:Nat) (x:V) (u:Value),xs[i]?=some x→us[i]?=some u→RelV x u)→za xs us
 | [],[],_,_=>.nil
 | [],_::_,h,_=>by cases h
 | _::_,[],h,_=>by cases h
 | x::xs,u::us,h,g=>.cons (g 0 x u rfl rfl) (zB3 (by simpa using h) fun i y w e1 e2=>g (i+1) y w (by simpa using e1) (by simpa using e2))
theorem zGl:yg X (.builtin "sorted") (fun xs H Q=>∃(p:Addr) (ns:List Int),xs=[.ref p]∧SqL X.K H p (ns.map V.int)∧ns.length<64∧∀(l:Addr) (ns':List Int),H l=none→ns'.Perm ns→ns'.Pairwise (·≤·)→Q (.ref l) (wj H l (.lst (ns'.map V.int)))):=by
 intro pins s σ H xs us Q I r h
 obtain⟨p,ns,rfl,hq,hz,q⟩:=h
 obtain⟨u,rfl,rx⟩:=vals1 r
 cases rx
 obtain⟨its,rv,pl,u0⟩:=I.list hq
 have hl:=rv.length
 rw[bU] at hl
 refine sorted_ints (vs:=its) (ns:=ns) pl.isList (intsAre_of rv) (by omega) fun out ns' i1 i2 i3=>?_
 obtain⟨e,he⟩:=sortedAll_at s.heap its out
 have hn:H (s.heap.objs.size+1)=none:=I.hok.fresh (eE _)
 refine⟨.ref (s.heap.objs.size+1),_,I.laid (t':=s.toks) (o:=.lst (ns'.map V.int)) (fun b u q=>sortedAll_old q) (eE _) ?_,rfl,q _ ns' hn i2 i3⟩
 have hp:=i2.length_eq
 refine⟨?_,out.toList,e,zCL i1,?_⟩
 ·rw[bU,hp,sizeLine_eq];omega
 ·rw[he]<;>rfl
noncomputable def intsOf:List D→Option (List Int)
 | []=>some []
 | .int i::r=>(intsOf r).map (i::·)
 | _::_=>none
theorem zEx:∀ ns:List Int,intsOf (ns.map D.int)=some ns
 | []=>rfl
 | n::r=>by simp[intsOf,zEx r]
theorem zF1:∀ {ds:List D} {ns:List Int},intsOf ds=some ns→ds=ns.map D.int
 | [],ns,h=>by simp[intsOf] at h;subst h;rfl
 | d::r,ns,h=>by
  cases d with
  | int i =>
   unfold intsOf at h
   cases q:intsOf r with
   | none=>rw[q] at h;cases h
   | some ms =>
    rw[q] at h
    cases h
    rw[zF1 q];rfl
  | _=>simp[intsOf] at h
theorem Dens.ints_inv{K:PySem.W.Frag}{H:Hp}:∀ {ns:List Int} {xs:List V},Dens K H (ns.map D.int) xs→xs=ns.map V.int
 | [],xs,h=>by unfold Dens at h;exact h
 | n::r,xs,h=>by
  rw[cM] at h
  unfold Dens at h
  obtain⟨x,y,rfl,h1,h2⟩:=h
  unfold zQ at h1
  rw[h1,Dens.ints_inv h2];rfl
noncomputable def zB4(t:TL2):TL2:=fun σ G R=>t σ G fun ds G1=>match intsOf ds with | some ns=>ns.length<64∧∀(ns':List Int),ns'.Perm ns→ns'.Pairwise (·≤·)→R (ns'.map D.int) G1 | none=>False
theorem zKi(hg:Gl X "sorted")(hm:X.mg "sorted"=none)(ha:F2 X e tl)(he:starEach [e] X.env=(false,eval e X.env)::starEach [] X.env:=by rfl)(hpl:(backTo pos (starEach [] X.env)).any (·.1)=false:=by rfl) :
  F2 X (.Call (.Name "sorted" p) [e] [] pos) (zB4 tl):=by
 refine PE.mono (zBQ zGl hg hm boot_sorted (zAk ha zBy he) (by decide) (by decide) he hpl) ?_
 rintro σ1 H Q ⟨σ,G,R,rl,q,k⟩
 refine⟨σ,G,_,rl,q,fun ds G1 q1 l xs H1 g1 r1 n e1 d1=>?_⟩
 cases q2:intsOf ds with
 | none=>rw[q2] at q1;exact q1.elim
 | some ns =>
  rw[q2] at q1
  have hds:=zF1 q2
  subst hds
  have hxs:=d1.ints_inv
  subst hxs
  refine⟨l,ns,rfl,.of e1,q1.1,fun l' ns' n' h1 h2=>?_⟩
  exact k _ G1 (q1.2 ns' h1 h2) l' _ _ (g1.trans (.fresh n')) (r1.fresh n') (r1.free n') zu (Dens.ints ns')
theorem zF2{t:TA}(hg:Gl X "range")(hm:X.mg "range"=none)(ha:PA X [a] t)(hs:starEach [a] X.env=[(false,eval a X.env)]:=by rfl) :
  PE X (.Call (.Name "range" p) [a] [] pos) (fun σ H Q=>t σ H fun vs H1=>∃ j:Int,vs=[.int j]∧∀ l,H1 l=none→Q (.ref l) (wj H1 l (.rng 0 j))):=by
 intro pins s σ H Q I h
 refine Call_ (zBb I hg hm boot_range (PyProof.Rows.callWith_type1 (yi (ha pos pins s σ H _ I h) fun us s1 ⟨vs,H1,I1,r1,q1⟩=>?_) hs rfl))
 obtain⟨j,e,q⟩:=q1
 subst e
 cases r1 with
 | cons r rr =>
  cases rr
  obtain⟨t,rfl⟩:=r
  refine call_range_1 ?_
  have hn:H1 s1.heap.objs.size=none:=I1.hok.fresh (bZ _)
  exact⟨.ref s1.heap.objs.size,_,I1.laid (o:=.rng 0 j) (fun b u e=>bP _ e) (bZ _) ⟨_,_,_,cb _ rfl⟩,rfl,q _ hn⟩
theorem zIz(hc:X.calm=true):yg X (.type "list") (fun xs H Q=>∃ p j,xs=[.ref p]∧H p=some (.rng 0 j)∧(0≤j∧j≤1000000)∧∀ l,H l=none→Q (.ref l) (wj H l (.lst ((bQ j.toNat).map fun(k:Nat)=>V.int k)))):=by
 intro pins s σ H xs us Q I r h
 obtain⟨p,j,rfl,hp,⟨h0,h1⟩,q⟩:=h
 obtain⟨u,rfl,rx⟩:=vals1 r
 cases rx
 obtain⟨t1,t2,t3,ho⟩:∃ t u v,s.heap.get? p=some { cls:=.type "range",data:=.fields #[.int 0 t,.int j u,.int 1 v] }:=I.hok p _ hp
 have hsz:Builtin.Range.rangeSize 0 j 1=((j.toNat:Nat):Int):=by rw[rangeSize_one];split<;>omega
 refine call_list_range (I.ok.hd hc) (show IsRange s.heap p 0 j 1 t1 t2 t3 from ho) (small_one (by omega) (by omega) (by omega) (by omega)) hsz (by omega) fun h' tk acc' c' kp e hacc=>?_
 have hn:H s.heap.objs.size=none:=I.hok.fresh (bZ _)
 refine⟨.ref s.heap.objs.size,_,I.laid (o:=.lst ((bQ j.toNat).map fun(k:Nat)=>V.int k)) kp (bZ _) ?_,rfl,q _ hn⟩
 refine⟨?_,acc'.toList,c',?_,by rw[e]⟩
 ·rw[bU,cz,sizeLine_eq];omega
 ·refine zB3 (by simp[hacc.1]) fun i x v e1 e2=>?_
  have e2':acc'[i]?=some v:=by simpa using e2
  obtain⟨t,rfl⟩:=hacc.2 i v e2'
  rw[cC] at e1
  cases q':(bQ j.toNat)[i]? with
  | none=>rw[q'] at e1;cases e1
  | some k =>
   rw[q'] at e1
   cases e1
   have hk:k=i:=by
    have:=(bW.mp q').2
    simpa using this.symm
   subst hk
   refine⟨t,?_⟩
   congr 1
   omega
noncomputable def zCv(t:wN):TL2:=fun σ G R=>t σ G fun ds G1=>match ds with | [.int j]=>(0≤j∧j≤1000000)∧R (yG 0 j.toNat) G1 | _=>False
theorem zGm{t:wN}{pos':Pos}(hc:X.calm=true)(hg:Gl X "list")(hm:X.mg "list"=none)(hg2:Gl X "range")(hm2:X.mg "range"=none)(ha:A2 X [a] t)(hs:starEach [a] X.env=[(false,eval a X.env)]:=by rfl)
  (he:starEach [.Call (.Name "range" p2) [a] [] pos] X.env=(false,eval (.Call (.Name "range" p2) [a] [] pos) X.env)::starEach [] X.env:=by rfl) (hpl:(backTo pos' (starEach [] X.env)).any (·.1)=false:=by rfl) :
  F2 X (.Call (.Name "list" p) [.Call (.Name "range" p2) [a] [] pos] [] pos') (zCv t):=by
 refine PE.mono (zCJ (zIz hc) hg hm (by decide +kernel) (zAk (zF2 hg2 hm2 ha hs) zBy he) (by decide) (by decide) he hpl) ?_
 rintro σ1 H Q ⟨σ,G,R,rl,q,k⟩
 refine⟨σ,G,_,rl,q,fun ds G1 q1 vs H1 g1 r1 d1=>?_⟩
 split at q1
 ·rename_i j
  obtain⟨v,rfl,d2⟩:=zAi d1
  unfold zQ at d2
  subst d2
  refine⟨j,rfl,fun l n=>⟨l,j,rfl,zu,q1.1,fun l' n'=>?_⟩⟩
  have g2:yB H1 (wj H1 l (.rng 0 j)):=.fresh n
  have r2:=r1.fresh (o:=.rng 0 j) n
  refine k _ G1 q1.2 l' _ _ ((g1.trans g2).trans (.fresh n')) (r2.fresh n') (r2.free n') zu ?_
  have:(bQ j.toNat).map (fun(k:Nat)=>V.int k)=((bQ j.toNat).map fun(k:Nat)=>(k:Int)).map V.int:=by simp
  rw[this]
  have e2:yG 0 j.toNat=((bQ j.toNat).map fun(k:Nat)=>(k:Int)).map D.int:=by simp[yG]
  rw[e2]
  exact Dens.ints _
 ·exact q1.elim
noncomputable def zQx(ta tb:zk):TL2:=fun σ G R=>ta σ G fun x G1=>tb σ G1 fun y G2=>match x,y with
 | .adr l,.int k=>match G2.m l with
  | some ds=>(0≤k∧k≤1000)∧ds.length≤1000∧R ((cq k.toNat ds).flatten) G2
  | none=>False
 | _,_=>False
theorem Dens.rep{K:PySem.W.Frag}{H:Hp}{ds:List D}{xs:List V}(h:Dens K H ds xs):∀ n:Nat,Dens K H (cq n ds).flatten (cq n xs).flatten
 | 0=>.nil
 | n+1=>by
  rw[bM,el,bM,el]
  exact h.append (Dens.rep h n)
theorem zSC(ha:E2 X a ta)(hb:E2 X b tb):F2 X (.BinOp a .Mult b pos) (zQx ta tb):=by
 refine PE.mono (zPb zQo ha hb) ?_
 rintro σ1 H Q ⟨σ,G,R,rl,q,k⟩
 refine⟨σ,G,_,rl,q,fun dx G1 q1 x H1 g1 r1 d1=>⟨σ,G1,_,rl.to g1 r1,q1,fun dy G2 q2 y H2 g2 r2 d2=>?_⟩⟩
 split at q2
 ·rename_i l i
  split at q2
  ·rename_i ds e
   obtain⟨⟨h0,h1⟩,hz,q3⟩:=q2
   have d1':=d1.grow g2
   unfold zQ at d1' d2
   subst d1' d2
   obtain⟨xs,e1,e2⟩:=r2.m l ds e
   have hlen:=e2.length
   refine⟨l,i,xs,rfl,rfl,e1,by omega,by omega,?_,fun l' n'=>?_⟩
   ·have h3:i.toNat≤1000:=by omega
    have h4:xs.length≤1000:=by omega
    have:=Nat.mul_le_mul h4 h3
    rw[sizeLine_eq];omega
   ·exact k _ G2 q3 l' _ _ ((g1.trans g2).trans (.fresh n')) (r2.fresh n') (r2.free n') zu ((e2.rep i.toNat).grow (.fresh n'))
  ·exact q2.elim
 ·exact q2.elim
noncomputable def zEF(to:zk)(t:wN):zk:=fun σ G R=>to σ G fun x G1=>match x with
 | .adr l=>match G1.m l with
  | some _=>t σ G1 fun ds G2=>match ds with
   | [d]=>(match G2.m l with | some xs=>xs.length≤1000000∧R .non (zU G2 l (xs++[d])) | none=>False)
   | _=>False
  | none=>False
 | _=>False
theorem zAy{t:wN}{apos:Pos}(ho:E2 X o to)(ha:A2 X [e] t)
  (hbase:attributeBase o "append" X.env (eval o X.env)=eval o X.env:=by rfl)
  (hfew:((backTo pos (starEach [e] X.env)).all (fun x=>!x.1)&&(backToKw pos (keywordEach [] X.env)).all (fun x=>x.1.isSome)
   && decide ([e].length+([]:List Keyword).length+(if ([]:List Keyword).isEmpty then 0 else 1)<30))=true:=by rfl)
  (hline:(apos.endLine==pos.line)=true:=by rfl) (hs:starEach [e] X.env=(false,eval e X.env)::starEach [] X.env:=by rfl) (hplain:(backTo pos (starEach [] X.env)).any (·.1)=false:=by rfl) :
  E2 X (.Call (.Attribute o "append" apos) [e] [] pos) (zEF to t):=by
 refine PE.mono (zJj PySem.F.plainAttrs_list PySem.F.slot_list_append PySem.F.type_list_append zFt ho ha hbase hfew hline hs hplain) ?_
 rintro σ1 H Q ⟨σ,G,R,rl,q,k⟩
 refine⟨σ,G,_,rl,q,fun dx G1 q1 x H1 g1 r1 d1=>?_⟩
 split at q1
 ·rename_i l
  split at q1
  ·rename_i ds0 e0
   unfold zQ at d1
   subst d1
   obtain⟨xs0,a1,a2⟩:=r1.m l ds0 e0
   refine⟨.inl ⟨rfl,xs0,.of a1⟩,σ,G1,_,rl.to g1 r1,q1,fun ds G2 q2 vs H2 g2 r2 d2=>?_⟩
   split at q2
   ·rename_i d
    split at q2
    ·rename_i xs e1
     obtain⟨v,rfl,d3⟩:=zAi d2
     obtain⟨ys,b1,b2⟩:=r2.m l xs e1
     have hlen:=b2.length
     refine⟨l,ys,v,rfl,rfl,b1,by rw[sizeLine_eq];omega,?_⟩
     exact k _ _ q2.2 _ _ ((g1.trans g2).trans (.lst b1)) (r2.put b1 (b2.append (.cons d3 .nil))) (by unfold zQ;rfl)
    ·exact q2.elim
   ·exact q2.elim
  ·exact q1.elim
 ·exact q1.elim
noncomputable def zOL(to:zk)(t:TL2):zk:=fun σ G R=>to σ G fun x G1=>match x with
 | .adr l=>match G1.m l with
  | some _=>t σ G1 fun zs G2=>match G2.m l with | some xs=>xs.length+zs.length≤1000000∧R .non (zU G2 l (xs++zs)) | none=>False
  | none=>False
 | _=>False
theorem zMC{apos:Pos}(ho:E2 X o to)(ha:F2 X e tl)
  (hbase:attributeBase o "extend" X.env (eval o X.env)=eval o X.env:=by rfl)
  (hfew:((backTo pos (starEach [e] X.env)).all (fun x=>!x.1)&&(backToKw pos (keywordEach [] X.env)).all (fun x=>x.1.isSome)
   && decide ([e].length+([]:List Keyword).length+(if ([]:List Keyword).isEmpty then 0 else 1)<30))=true:=by rfl)
  (hline:(apos.endLine==pos.line)=true:=by rfl) (hs:starEach [e] X.env=(false,eval e X.env)::starEach [] X.env:=by rfl) (hplain:(backTo pos (starEach [] X.env)).any (·.1)=false:=by rfl) :
  E2 X (.Call (.Attribute o "extend" apos) [e] [] pos) (zOL to tl):=by
 refine PE.mono (zJj PySem.F.plainAttrs_list PySem.F.slot_list_extend PySem.F.type_list_extend zKZ ho (zAk ha zBy hs) hbase hfew hline hs hplain) ?_
 rintro σ1 H Q ⟨σ,G,R,rl,q,k⟩
 refine⟨σ,G,_,rl,q,fun dx G1 q1 x H1 g1 r1 d1=>?_⟩
 split at q1
 ·rename_i l
  split at q1
  ·rename_i ds0 e0
   unfold zQ at d1
   subst d1
   obtain⟨xs0,a1,a2⟩:=r1.m l ds0 e0
   refine⟨.inl ⟨rfl,xs0,.of a1⟩,σ,G1,_,rl.to g1 r1,q1,fun zs G2 q2 l2 ys H2 g2 r2 n2 e2 d2=>?_⟩
   split at q2
   ·rename_i xs e1
    obtain⟨ws,b1,b2⟩:=r2.m l xs e1
    have hl1:=b2.length
    have hl2:=d2.length
    refine⟨l,l2,ws,ys,rfl,rfl,b1,e2,by rw[sizeLine_eq];omega,?_⟩
    exact k _ _ q2.2 _ _ ((g1.trans g2).trans (.lst b1)) (r2.put b1 (b2.append d2)) (by unfold zQ;rfl)
   ·exact q2.elim
  ·exact q1.elim
 ·exact q1.elim
noncomputable def zGn(to:zk)(t:wN):zk:=fun σ G R=>to σ G fun x G1=>match x with
 | .adr l=>match G1.m l with
  | some _=>t σ G1 fun ds G2=>match ds with
   | [.int i]=>(match G2.m l with
    | some xs=>(0≤i∧i<xs.length∧i≤1000000)∧(match xs[i.toNat]? with | some d=>R d (zU G2 l (xs.eraseIdx i.toNat)) | none=>False)
    | none=>False)
   | _=>False
  | none=>False
 | _=>False
theorem zJq{t:wN}{apos:Pos}(ho:E2 X o to)(ha:A2 X [e] t)
  (hbase:attributeBase o "pop" X.env (eval o X.env)=eval o X.env:=by rfl)
  (hfew:((backTo pos (starEach [e] X.env)).all (fun x=>!x.1)&&(backToKw pos (keywordEach [] X.env)).all (fun x=>x.1.isSome)
   && decide ([e].length+([]:List Keyword).length+(if ([]:List Keyword).isEmpty then 0 else 1)<30))=true:=by rfl)
  (hline:(apos.endLine==pos.line)=true:=by rfl) (hs:starEach [e] X.env=(false,eval e X.env)::starEach [] X.env:=by rfl) (hplain:(backTo pos (starEach [] X.env)).any (·.1)=false:=by rfl) :
  E2 X (.Call (.Attribute o "pop" apos) [e] [] pos) (zGn to t):=by
 refine PE.mono (zJj PySem.F.plainAttrs_list PySem.F.slot_list_pop PySem.F.type_list_pop zLx ho ha hbase hfew hline hs hplain) ?_
 rintro σ1 H Q ⟨σ,G,R,rl,q,k⟩
 refine⟨σ,G,_,rl,q,fun dx G1 q1 x H1 g1 r1 d1=>?_⟩
 split at q1
 ·rename_i l
  split at q1
  ·rename_i ds0 e0
   unfold zQ at d1
   subst d1
   obtain⟨xs0,a1,a2⟩:=r1.m l ds0 e0
   refine⟨.inl ⟨rfl,xs0,.of a1⟩,σ,G1,_,rl.to g1 r1,q1,fun ds G2 q2 vs H2 g2 r2 d2=>?_⟩
   split at q2
   ·rename_i i
    split at q2
    ·rename_i xs e1
     obtain⟨⟨h0,h1,h9⟩,q2⟩:=q2
     split at q2
     ·rename_i d e2
      obtain⟨v,rfl,d3⟩:=zAi d2
      unfold zQ at d3
      subst d3
      obtain⟨ys,b1,b2⟩:=r2.m l xs e1
      have hlen:=b2.length
      obtain⟨z,c1,c2⟩:=b2.get e2
      refine⟨l,ys,i,i.toNat,z,rfl,rfl,b1,by omega,by omega,?_,c1,?_⟩
      ·have hi:¬ i<0:=by omega
       unfold seqIndex?
       simp only[if_neg hi]
       rw[if_pos (by rw[dL];exact⟨decide_eq_true h0,decide_eq_true (by omega)⟩)]
      ·exact k _ _ q2 _ _ ((g1.trans g2).trans (.lst b1)) (r2.put b1 (b2.eraseIdx i.toNat)) (c2.grow (.lst b1))
     ·exact q2.elim
    ·exact q2.elim
   ·exact q2.elim
  ·exact q1.elim
 ·exact q1.elim
noncomputable def zHo:D→String→Bool
 | .tup _,T=>decide (T="tuple")
 | .bl _,T=>decide (T="bool"∨T="int")
 | .int _,T=>decide (T="int")
 | .str _,T=>decide (T="str")
 | .non,_=>false
 | .adr _,_=>false
 | .dic _,T=>decide (T="dict")
noncomputable def tys:List String:=["tuple","bool","int","str","list","dict"]
theorem zHp{T:String}(hT:T∈tys):yg X (.builtin "isinstance") (fun xs H Q=>∃ x d,xs=[x,.ty T]∧zQ X.K H d x∧((∀ l,d≠.adr l)∧Q (.bl (zHo d T)) H∨∃ l ys,d=.adr l∧SqL X.K H l ys∧Q (.bl (decide (T="list"))) H)):=by
 intro pins s σ H xs us Q I r h
 obtain⟨x,d,rfl,hd,q⟩:=h
 obtain⟨u,u',rfl,rx,ry⟩:=vals2 r
 obtain rfl:u'=Value.type T:=ry
 simp only[tys,cI,eA,or_false] at hT
 rcases q with ⟨hna,q⟩ | ⟨l,ys,rfl,hs,q⟩
 ·cases d with
  | tup _ =>
   unfold zQ at hd
   obtain⟨a,ys,rfl,hs,u0⟩:=hd
   cases (show u=Value.ref a from rx)
   obtain⟨u0,u0,⟨o,h1,h2,u0⟩,u0⟩:=I.tuple hs
   rcases hT with rfl | rfl | rfl | rfl | rfl | rfl<;>exact PySem.W.kia_one PySem.W.kitx_tuple I.kIn ⟨o,h1,h2⟩ (by rfl) (fun z=>nomatch z) fun tk=>⟨.bl _,H,I.tok _,rfl,q⟩
  | bl _ =>
   unfold zQ at hd
   subst hd
   rcases hT with rfl | rfl | rfl | rfl | rfl | rfl<;>exact zCI I rx (.bl _) (by rfl) fun tk=>⟨.bl _,H,I.tok _,rfl,q⟩
  | int _ =>
   unfold zQ at hd
   subst hd
   rcases hT with rfl | rfl | rfl | rfl | rfl | rfl<;>exact zCI I rx (.int _) (by rfl) fun tk=>⟨.bl _,H,I.tok _,rfl,q⟩
  | str _ =>
   unfold zQ at hd
   subst hd
   rcases hT with rfl | rfl | rfl | rfl | rfl | rfl<;>exact zCI I rx (.str _) (by rfl) fun tk=>⟨.bl _,H,I.tok _,rfl,q⟩
  | non =>
   unfold zQ at hd
   subst hd
   rcases hT with rfl | rfl | rfl | rfl | rfl | rfl<;>exact zCI I rx .non (by rfl) fun tk=>⟨.bl _,H,I.tok _,rfl,q⟩
  | dic a =>
   unfold zQ at hd
   obtain⟨rfl,o,y,hs,hc⟩:=hd
   cases (show u=Value.ref a from rx)
   have h1:=(I.hok a _ hs).1
   rcases hT with rfl | rfl | rfl | rfl | rfl | rfl<;>exact PySem.W.kia_one PySem.W.kitx_dict I.kIn ⟨o,h1,hc⟩ (by rfl) (fun z=>nomatch z) fun tk=>⟨.bl _,H,I.tok _,rfl,q⟩
  | adr l=>exact absurd rfl (hna l)
 ·unfold zQ at hd
  subst hd
  cases (show u=Value.ref l from rx)
  obtain⟨u0,u0,pl,u0⟩:=I.list hs
  obtain⟨o,h1,h2,u0⟩:=pl.isList
  rcases hT with rfl | rfl | rfl | rfl | rfl | rfl<;>exact PySem.W.kia_one PySem.W.kitx_list I.kIn ⟨o,h1,h2⟩ (by rfl) (fun z=>nomatch z) fun tk=>⟨.bl _,H,I.tok _,rfl,q⟩
noncomputable def zHq(T:String)(te:zk):zk:=fun σ G R=>te σ G fun d G1=>match d with
 | .adr l=>(∃ ds,Ls G1 l ds)∧R (.bl (decide (T="list"))) G1
 | d=>R (.bl (zHo d T)) G1
theorem zMD{T:String}{x:Str}(hg:Gl X "isinstance")(hm:X.mg "isinstance"=none)(hg2:Gl X x)(hm2:X.mg x=none)(hv:bootBuiltins x=some (.type T))(ha:E2 X e te)(hT:T∈tys:=by decide)
  (he:starEach [e,.Name x p2] X.env=(false,eval e X.env)::starEach [.Name x p2] X.env:=by rfl) (he2:starEach [.Name x p2] X.env=(false,eval (.Name x p2) X.env)::starEach [] X.env:=by rfl) (hpl:(backTo pos (starEach [.Name x p2] X.env)).any (·.1)=false:=by rfl)
  (hn:x≠"__name__":=by decide) (hdb:(x==("__debug__":Str))=false:=by decide) :
  E2 X (.Call (.Name "isinstance" p) [e,.Name x p2] [] pos) (zHq T te):=by
 refine PE.mono (zBQ (zHp (T:=T) hT) hg hm (by decide +kernel) (zAk ha (zAk (zNq (v:=.ty T) hg2 hm2 hv rfl hn hdb) zBy he2) he) (by decide) (by decide) he hpl) ?_
 rintro σ1 H Q ⟨σ,G,R,rl,q,k⟩
 refine⟨σ,G,_,rl,q,fun d G1 q1 v H1 g1 r1 d1=>?_⟩
 refine⟨v,d,rfl,d1,?_⟩
 cases d with
 | adr l =>
  obtain⟨⟨ds,hl⟩,q1⟩:=q1
  obtain⟨xs,hs,u0⟩:=r1.sq hl
  exact .inr ⟨l,xs,rfl,hs,k _ G1 q1 _ H1 g1 r1 (by unfold zQ;rfl)⟩
 | _=>exact .inl ⟨fun l z=>(by cases z),k _ G1 q1 _ H1 g1 r1 (by unfold zQ;rfl)⟩
noncomputable def zFd(i:Nat)(te:zk)(f:Int→Int→Int):ye:=fun E σ G=>match look σ i with
 | some (.int a)=>te σ G fun y G1=>match y with | .int b=>E.nx (σ.set i (some (.int (f a b)))) G1 | _=>False
 | _=>False
theorem zME(i:Nat){x:Str}{pos':Pos}(hN:X.N.Nodup)(he:E2 X e te)(hi:X.N[i]?=some x:=by rfl)(hx:Loc X.env.scope x:=by first | exact Or.inl rfl | exact Or.inr rfl)(hf:X.fn x=true∨X.env.scope.names.lookup x=some .local:=by first | exact .inl rfl | exact .inr rfl | assumption) :
  P2 X (.AugAssign (.Name x pos') .Add e pos) (zFd i te fun a b=>a+b):=by
 refine PS.mono (L2.zQR hN hi hx he zQS hf) ?_
 rintro E σ1 H ⟨σ,G,D2,r,q,k⟩
 unfold zFd at q
 split at q
 ·rename_i a e1
  obtain⟨v,e2,d2⟩:=r.val i _ (zEq e1)
  unfold zQ at d2
  subst d2
  refine⟨_,e2,σ,G,_,r,q,fun d G1 q1 v H1 g1 r1 d1=>?_⟩
  cases d with
  | int b =>
   unfold zQ at d1
   subst d1
   exact⟨a,b,rfl,rfl,k.nx _ G1 q1 _ H1 g1 ((r.to g1 r1).set i (by unfold zQ;rfl))⟩
  | _=>exact q1.elim
 ·exact q.elim
noncomputable def zMF(tc:TT2)(tb:ye):ye:=fun E σ G=>∃ Pv:Nat→S2→Gp→Prop,(∃ m,Pv m σ G)∧∀ m σ G,Pv m σ G→tc σ G fun b G1=>if b=true then tb { E with nx:=Fg fun σ' G'=>∃ m',m'<m∧Pv m' σ' G',ct:=Fg fun σ' G'=>∃ m',m'<m∧Pv m' σ' G',bk:=E.nx } σ G1 else E.nx σ G1
theorem zOM{tc:TT2}{tb:ye}{body:List Stmt}(hp:PassesOwn (model X.prog X.w) X.A X.env X.xe)(hc:T2 X c tc)(hb:Ps2 X body tb):P2 X (.While c body [] pos) (zMF tc tb):=by
 refine PS.mono (L2.zLp hp hc hb) ?_
 rintro E σ1 H ⟨σ,G,D2,r,⟨Pv,⟨m0,p0⟩,pt⟩,k⟩
 refine⟨fun m σ1' H'=>yB H H'∧∃ σ' G',Rel X.K σ' G' σ1' H'∧Pv m σ' G',⟨m0,.refl H,σ,G,r,p0⟩,?_⟩
 rintro m σ1' H' ⟨g',σ',G',r',p'⟩
 refine⟨σ',G',_,r',pt m σ' G' p',fun b G1 q1 H1 g1 r1=>?_⟩
 cases b with
 | false=>exact k.nx _ G1 q1 _ H1 (g'.trans g1) (r'.to g1 r1)
 | true =>
  refine⟨fun σ1'' H''=>∃ m',m'<m∧(yB H H''∧∃ σ'' G'',Rel X.K σ'' G'' σ1'' H''∧Pv m' σ'' G''),fun σ1'' H'' h=>h,σ',G1,_,r'.to g1 r1,q1,?_⟩
  have back:∀ σ3 G3,Fg (fun σ' G'=>∃ m',m'<m∧Pv m' σ' G') σ3 G3→∀ σ13 H3,yB H1 H3→Rel X.K σ3 G3 σ13 H3→∃ m',m'<m∧(yB H H3∧∃ σ'' G'',Rel X.K σ'' G'' σ13 H3∧Pv m' σ'' G''):=by
   rintro σ3 G3 ⟨σ4,G4,a1,a2,m',hm,a3⟩ σ13 H3 g3 r3
   exact⟨m',hm,(g'.trans g1).trans g3,σ4,G4,r3.sub a1 a2,a3⟩
  exact⟨back,fun σ3 G3 q3 σ13 H3 g3 r3=>k.nx σ3 G3 q3 σ13 H3 ((g'.trans g1).trans g3) r3,back,fun d3 G3 q3 v3 H3 g3 r3 dv=>k.rt d3 G3 q3 v3 H3 ((g'.trans g1).trans g3) r3 dv⟩
end
section
variable {P:Program} {w:World} {K:PySem.W.Frag} {mg:Str→Option Value} {base:Heap}
noncomputable def FgR(R:Q2):Q2:=fun d G=>∃ G',Sub G' G∧R d G'
theorem FgR.of{R:Q2}{d:D}{G:Gp}(h:R d G):FgR R d G:=⟨G,.refl G,h⟩
noncomputable def zR(N:List Str)(ds:List D):S2:=ds.map some++cq (N.length-ds.length) none
theorem zF3{N:List Str}{ds:List D}{vs:List V}{G:Gp}{H:Hp}(r:yK K G H)(d:Dens K H ds vs):Rel K (zR N ds) G (L2.start N vs) H :=
 ⟨r,by simp[zR,L2.start,d.length],fun i x e=>by
  unfold zR at e
  unfold L2.start
  by_cases hi:i<ds.length
  ·rw[cR (by simpa using hi),cC] at e
   cases q:ds[i]? with
   | none=>rw[q] at e;cases e
   | some y =>
    rw[q] at e;cases e
    obtain⟨v,e1,e2⟩:=d.get q
    refine⟨v,?_,e2⟩
    rw[cR (by rw[bU,← d.length];exact hi),cC,e1];rfl
  ·rw[dq (by simpa using hi),fm] at e
   split at e<;>cases e⟩
theorem zSD{x qual:Str}{st:Stmt}{f:Addr}{fd:FuncData}{N ps:List Str}{k:Nat}{sp:wm}(F:Fun K x qual st f fd)(S:zY N ps (zG st))(hm:mg x=some (.ref f))(hb:Binds K fd ps [])(len:∀ ds G R,sp ds G R→ds.length=ps.length)
  (hbody:∀(cdv:Value) (A:Around) (outer:List Env) (s:Shared) (H:Hp) (E:XK),wB k (A.deeper (envOfC qual (zG st) s.heap.objs.size f cdv)) →
   ∃ t,Ps2 (zGe CX0 P w K mg base N qual (zG st) f cdv A outer s H E).nox (zW st) t∧∀ ds G R,sp ds G R→t { nx:=fun u0 G'=>FgR R .non G',rt:=FgR R } (zR N ds) G):Df P w K mg base (k+1) x ps sp:=by
 refine⟨f,fd,F.ok S ?_ ?_,hm,F.kp,hb⟩
 ·rintro vs H Q E ⟨ds,G,R,d,r,h,u0⟩
  rw[← d.length]
  exact len ds G R h
 ·intro cdv A outer s H vs Q E hr h
  obtain⟨ds,G,R,d,r,h,kk⟩:=h
  obtain⟨t,ht,q⟩:=hbody cdv A outer s H E hr
  refine⟨_,ht,zR N ds,G,_,zF3 r d,q ds G R h,⟨?_,?_,?_,?_⟩⟩
  ·rintro σ G' ⟨G'',s',q'⟩ σ1 H' g' r'
   exact kk _ G'' q' _ H' g' (r'.g.sub s') (by unfold zQ;rfl)
  ·intro σ G' h;exact h.elim
  ·intro σ G' h;exact h.elim
  ·rintro d' G' ⟨G'',s',q'⟩ v H' g' r' dv
   exact kk _ G'' q' _ H' g' (r'.sub s') dv
noncomputable abbrev zg(R:Q2):yO:={ nx:=fun u0 G'=>FgR R .non G',rt:=FgR R }
theorem zr{x qual:Str}{st:Stmt}{f:Addr}{fd:FuncData}{N ps:List Str}{k:Nat}{sp:wm}(t:ye)(F:Fun K x qual st f fd)(S:zY N ps (zG st))(hm:mg x=some (.ref f))(hb:Binds K fd ps [])
  (ht:∀(cdv:Value) (A:Around) (outer:List Env) (s:Shared) (H:Hp) (E:XK),wB k (A.deeper (envOfC qual (zG st) s.heap.objs.size f cdv))→Ps2 (zGe CX0 P w K mg base N qual (zG st) f cdv A outer s H E).nox (zW st) t)
  (hs:∀ ds G R,sp ds G R→ds.length=ps.length∧t (zg R) (zR N ds) G):Df P w K mg base (k+1) x ps sp :=
 zSD F S hm hb (fun ds G R h=>(hs ds G R h).1) fun cdv A outer s H E hr=>⟨t,ht cdv A outer s H E hr,fun ds G R h=>(hs ds G R h).2⟩
theorem zQy{x qual:Str}{st:Stmt}{f:Addr}{fd:FuncData}{N ps:List Str}{k:Nat}{sp:wm}(t:ye)(F:Fun K x qual st f fd)(S:zY N ps (zG st))
  (ht:∀(cdv:Value) (A:Around) (outer:List Env) (s:Shared) (H:Hp) (E:XK),wB k (A.deeper (envOfC qual (zG st) s.heap.objs.size f cdv))→Ps2 (zGe CX0 P w K mg base N qual (zG st) f cdv A outer s H E).nox (zW st) t)
  (hs:∀ ds G R,sp ds G R→ds.length=ps.length∧t (zg R) (zR N ds) G):zC9 P w K mg base CX0 (k+1) f fd ps (lSp K sp):=by
 refine F.ok S ?_ ?_
 ·rintro vs H Q E ⟨ds,G,R,d,r,h,u0⟩
  rw[← d.length]
  exact(hs ds G R h).1
 ·intro cdv A outer s H vs Q E hr h
  obtain⟨ds,G,R,d,r,h,kk⟩:=h
  refine⟨_,ht cdv A outer s H E hr,zR N ds,G,_,zF3 r d,(hs ds G R h).2,⟨?_,?_,?_,?_⟩⟩
  ·rintro σ G' ⟨G'',s',q'⟩ σ1 H' g' r'
   exact kk _ G'' q' _ H' g' (r'.g.sub s') (by unfold zQ;rfl)
  ·intro σ G' h;exact h.elim
  ·intro σ G' h;exact h.elim
  ·rintro d' G' ⟨G'',s',q'⟩ v H' g' r' dv
   exact kk _ G'' q' _ H' g' (r'.sub s') dv
end
noncomputable def zF4(osc sc:Scope):List (Str×NameKind):=sc.names.map fun(n,k)=>if (k==NameKind.free&&osc.kind==.function&&osc.names.lookup n==some .cell) then (n,NameKind.cell) else (n,k)
noncomputable def zQz(ns:List (Str×NameKind))(x:Str):Bool:=match ns.lookup x with | some .local=>true | some .cell=>true | some .free=>true | _=>false
noncomputable def zPo(osc sc:Scope)(N N0 own:List Str):Bool :=
 decide (sc.kind=.function)&&sc.names.all (fun y=>decide (y.2≠.cell))&&sc.names.all (fun y=>decide (y.2=.local→sc.names.lookup y.1=some .local))
 && sc.names.all (fun y=>decide (y.2=.free→osc.names.lookup y.1=some .cell∨osc.names.lookup y.1=some .free))
 && decide (N0.length=N.length)&&(bQ N0.length).all (fun i=>match N0[i]? with | some x=>!zQz (zF4 osc sc) x||decide (N[i]?=some x∧sc.names.lookup x=some .free) | none=>true)
 && decide ((N0++own).Nodup)&&own.all (fun x=>decide ((zF4 osc sc).lookup x=some .local))
structure zMG (X:Cx) (sc:Scope) (N0 own:List Str):Prop where
 ok:zDk X sc N0
 nd:(N0++own).Nodup
 loc:∀ x∈own,(relabel sc X.env).names.lookup x=some .local
theorem zp{X:Cx}{osc sc:Scope}{N N0 own:List Str}(h:zPo osc sc N N0 own=true)(e1:X.env.scope=osc:=by rfl)(e2:X.N=N:=by rfl):zMG X sc N0 own:=by
 subst e1 e2
 unfold zPo at h
 simp only[dL,decide_eq_true_eq,eU] at h
 obtain⟨⟨⟨⟨⟨⟨⟨h1,h2⟩,h3⟩,h4⟩,h5⟩,h6⟩,h7⟩,h8⟩:=h
 refine⟨⟨h1,h2,h3,h4,h5,fun i x e v=>?_⟩,h7,h8⟩
 have hi:i<N0.length:=(bW.mp e).1
 have q:=h6 i (bX.mpr hi)
 rw[e] at q
 dsimp only at q
 have hv:zQz (zF4 X.env.scope sc) x=true:=by
  have v':(zF4 X.env.scope sc).lookup x=some .local∨(zF4 X.env.scope sc).lookup x=some .cell∨(zF4 X.env.scope sc).lookup x=some .free:=v
  unfold zQz
  rcases v' with v' | v' | v'<;>rw[v']
 rw[hv] at q
 simpa using q
section
variable {X:Cx} {elt iter:Expr} {pos:Pos} {te:zk} {ifs:List Expr} {sc:Scope} {N0:List Str} {wi:TI2} {tc:TT2}
theorem zB5(x:Str){px:Pos}(hc:X.calm=true)(T:zMG X sc N0 [x])(hi:I2 X (.Name x px) iter wi)
  (ht:∀ C s H fp pins,Ts2 (X.comp (N0++[x]) sc C s H fp pins) ifs tc) (he:∀ C s H fp pins,E2 (X.comp (N0++[x]) sc C s H fp pins) elt te)
  (hs:∀ x,foldedSetIterable iter X.env x=pure x:=by intro u0;rfl):F2 X (.ListComp elt [⟨.Name x px,iter,ifs,0⟩] sc pos) (yA wi bd1 tc te) :=
 zOH x hc T.ok hi T.nd (T.loc x (by simp)) ht he hs
theorem zDH(i:Nat)(x:Str){y:Str}{px py spos:Pos}(hc:X.calm=true)(T:zMG X sc N0 [x])(hi:I2 X (.Name x px) iter wi)
  (ht:∀ C s H fp pins,Ts2 (X.comp (N0++[x]) sc C s H fp pins) ifs tc) (he:∀ C s H fp pins,E2 (X.comp (N0++[x]) sc C s H fp pins) elt te)
  (hN:X.N.Nodup) (hy:X.N[i]?=some y:=by rfl) (hl:X.env.scope.names.lookup y=some .local:=by rfl)
  (hsw:swapsWith (.ListComp elt [⟨.Name x px,iter,ifs,0⟩] sc pos) (some (.Name y py)) spos.line X.env=pure true:=by rfl)
  (hs:∀ x,foldedSetIterable iter X.env x=pure x:=by intro u0;rfl):P2 X (.Assign [.Name y py] (.ListComp elt [⟨.Name x px,iter,ifs,0⟩] sc pos) spos) (zAx i (yA wi bd1 tc te)) :=
 zIu i x hc T.ok hi T.nd (T.loc x (by simp)) ht he hN hy hl hsw hs
end
structure Ext (G G':Gp):Prop where
 sub:Sub G G'
 ro:G'.ro=G.ro
theorem Ext.refl(G:Gp):Ext G G:=⟨.refl G,rfl⟩
theorem Ext.trans{G G1 G2:Gp}(h:Ext G G1)(h':Ext G1 G2):Ext G G2:=⟨h.sub.trans h'.sub,h'.ro.trans h.ro⟩
theorem Ext.new{G:Gp}{l:Addr}{o:List D}(h:G.m l=none):Ext G (zU G l o):=⟨.new h,rfl⟩
theorem Ext.ls{G G':Gp}(h:Ext G G'){a:Addr}{ds:List D}(e:Ls G a ds):Ls G' a ds:=e.sub h.sub
theorem Ext.own{G G':Gp}(h:Ext G G'){A:Addr}(n:G'.m A=none):G.m A=none:=by
 cases q:G.m A with
 | none=>rfl
 | some u=>rw[h.sub.m A u q] at n;cases n
noncomputable def zi(t:zk)(σ:S2)(G:Gp)(d:D):Prop:=∀ G2,Ext G G2→∀ R:D→Gp→Prop,R d G2→t σ G2 R
noncomputable def PuT(t:TT2)(σ:S2)(G:Gp)(b:Bool):Prop:=∀ G2,Ext G G2→∀ R:Bool→Gp→Prop,R b G2→t σ G2 R
noncomputable def PuL(t:TL2)(σ:S2)(G:Gp)(ds:List D):Prop:=∀ G2,Ext G G2→∀ R:List D→Gp→Prop,R ds G2→t σ G2 R
noncomputable def PuA(t:wN)(σ:S2)(G:Gp)(ds:List D):Prop:=∀ G2,Ext G G2→∀ R:List D→Gp→Prop,R ds G2→t σ G2 R
noncomputable def PuI(t:TI2)(σ:S2)(G:Gp)(ds:List D):Prop:=∀ G2,Ext G G2→∀ R:List D→(Gp→Prop)→Gp→Prop,(∀ gd G3,Ext G2 G3→(∀ G4,Ext G3 G4→gd G4)→R ds gd G3)→t σ G2 R
section
variable {σ:S2} {G:Gp}
theorem zE{i:Nat}{d:D}(h:look σ i=some d):zi (zB i) σ G d:=fun G2 u0 R q=>by unfold zB;rw[h];exact q
theorem yC{d:D}:zi (xC d) σ G d:=fun u0 u0 u0 q=>q
theorem zM:PuA zH σ G []:=fun u0 u0 u0 q=>q
theorem zF{ta:zk}{tr:wN}{d:D}{ds:List D}(h:zi ta σ G d)(h':PuA tr σ G ds):PuA (zA ta tr) σ G (d::ds):=fun G2 x R q=>h G2 x _ (h' G2 x _ q)
theorem zBe{t:wN}{ds:List D}(h:PuA t σ G ds)(hl:ds.length≤100000):zi (yZ t) σ G (.tup ds):=fun G2 x R q=>h G2 x _ ⟨by rw[sizeLine_eq];omega,q⟩
theorem yF{f:D→D→Gp→Q2→Prop}{ta tb:zk}{x y d:D}(ha:zi ta σ G x)(hb:zi tb σ G y)(h:∀ G2,Ext G G2→∀ R:D→Gp→Prop,R d G2→f x y G2 R):zi (zO f ta tb) σ G d:=fun G2 e R q=>ha G2 e _ (hb G2 e _ (h G2 e R q))
theorem zHr{g:Int→Int→D}{ta tb:zk}{i j:Int}(ha:zi ta σ G (.int i))(hb:zi tb σ G (.int j)):zi (zO (fII g) ta tb) σ G (g i j):=yF ha hb fun u0 u0 u0 q=>q
theorem zn{sp:wm}{t:wN}{ds:List D}{d:D}(ha:PuA t σ G ds)(h:∀ G2,Ext G G2→∀ R:D→Gp→Prop,R d G2→sp ds G2 R):zi (zJ sp t) σ G d:=fun G2 e R q=>ha G2 e _ (h G2 e R q)
theorem zDI{sp:List D→Gp→(List D→Gp→Prop)→Prop}{t:wN}{ds ls:List D}(ha:PuA t σ G ds)(h:∀ G2,Ext G G2→∀ R:List D→Gp→Prop,R ls G2→sp ds G2 R):PuL (zx sp t) σ G ls:=fun G2 e R q=>ha G2 e _ (h G2 e R q)
theorem wW{t:zk}{b:Bool}(h:zi t σ G (.bl b)):PuT (xB t) σ G b:=fun G2 e R q=>h G2 e _ q
theorem zQ0:PuT zBw σ G true:=fun u0 u0 u0 q=>q
theorem zQ1{t u:TT2}{b c:Bool}(h:PuT t σ G b)(h':b=false→PuT u σ G c):PuT (zB0 t u) σ G (b||c):=fun G2 e R q=>h G2 e _ (by
 cases b with
 | true=>simpa using q
 | false=>rw[if_neg (by simp)];exact h' rfl G2 e _ (by simpa using q))
theorem zCN{t:TT2}{b:Bool}(h:PuT t σ G b):PuT (zAU t) σ G (!b):=fun G2 e R q=>h G2 e _ q
theorem zBU{tl:TL2}{ds:List D}(h:PuL tl σ G ds):zi (zc zz tl) σ G (.tup ds):=fun G2 e R q=>h G2 e _ q
theorem zBV{t:zk}{ds:List D}(h:zi t σ G (.tup ds)):PuI (iV t) σ G ds:=fun G2 e R q=>h G2 e _ (q _ G2 (.refl _) fun u0 u0=>trivial)
theorem zCO{t:zk}{a:Addr}{ds:List D}(h:zi t σ G (.adr a))(hr:Ls G a ds):PuI (iV t) σ G ds:=fun G2 e R q=>h G2 e _ ⟨ds,e.ls hr,q _ G2 (.refl _) fun G4 e4=>e4.ls (e.ls hr)⟩
theorem zPp{t:TL2}{ds:List D}(h:PuL t σ G ds):PuI (iF t) σ G ds:=fun G2 e R q=>h G2 e _ fun a n=>q _ _ (.new n) fun G4 e4=>e4.ls .own
end
end L3
namespace HT
section
variable {prog:Program} {w:World} {A:Around} {E:Value→Shared→Prop} {s:Shared}
theorem zMH{t b:Addr}{ws:List Value}{Q:Value→Shared→Prop}(ht:IsTup s.heap t #[])(hb:IsTup s.heap b ws.toArray)(h:Q (.ref b) s):wpAny (model prog w) A (binaryOp .Add (.ref t) (.ref b)) Q E s:=by
 obtain⟨⟨cls,dd,data,sl⟩,ho,hc,n,hd⟩:=id ht
 obtain⟨⟨cls2,dd2,data2,sl2⟩,ho2,hc2,n2,hd2⟩:=id hb
 simp only at hc hd hc2 hd2
 subst hc hd hc2 hd2
 exact concat_meets ⟨_,ho,rfl⟩ ⟨_,ho2,rfl⟩ noFill_tuple_add seq_tuple_add PySem.F.slot_tuple_add PySem.F.entry_tuple_add (PySem.F.args_tuple_add_2 _ _)
   (tuple_addW0 t b #[] ws.toArray n n2 dd dd2 sl sl2 rfl) ⟨ho,ho2,h⟩
theorem zD0{l:Addr}{vs:List Value}{Q:List Value→Shared→Prop}(hl:IsTup s.heap l vs.toArray)
  (h:Q vs { s with heap:=(s.heap.push (seqObj "list" #[] 0)).update s.heap.objs.size (Obj.mapSeq (·++vs.toArray)) }) (hsz:vs.length≤sizeLine:=by size_fits) :
  wpAny (model prog w) A (collect (.ref l)) Q E s:=by
 obtain⟨o,ho,hc,n,hd⟩:=id hl
 unfold collect
 refine bI (wpAny_runValue (dt entry_proto_collect' ?_))
 show wpAny _ _ (do again (.builtin "list.__iadd__" ⟨[← newList [],.ref l],[]⟩)) _ _ s
 refine bI (wpAny_newList (bS ⟨Code.quiet_builtin _ (by decide +kernel),dt entry_list_iadd' ?_⟩))
 show wpAny _ _ (Builtin.List.listExtendWith (.ref s.heap.objs.size) (.ref l) (.ref s.heap.objs.size)) _ _ { s with heap:=s.heap.push (seqObj "list" #[] 0) }
 unfold Builtin.List.listExtendWith
 have ho':(s.heap.push (seqObj "list" #[] 0)).get? l=some o:=bP _ ho
 refine bI (eS (T:="tuple") ⟨o,ho',hc⟩ ?_)
 have ht:(Value.type "tuple"==Value.type "tuple")=true:=by rfl
 rw[if_pos (by rw[ht];simp)]
 refine bI (listItems_at ho' hd ?_)
 refine bI (listItems_at (xs:=#[]) (n:=0) (cb _ rfl) rfl ?_)
 rw[if_neg (by simp)]
 refine bI (listUpdate_at (xs:=#[]) (n:=0) (cb _ rfl) rfl ?_ (cW _) (by show(#[]++vs.toArray).size≤sizeLine+1;simp only[Array.size_append,cj,bR];omega))
 refine bS ?_
 show wpAny (model prog w) A (do
   let o ← load s.heap.objs.size
   match o.data with
   | .seq xs _=>pure xs.toList
   | _=>unsupported "internal:collect") Q E { s with heap:=(s.heap.push (seqObj "list" #[] 0)).update s.heap.objs.size (Obj.mapSeq (·++vs.toArray)) }
 refine bI (wpAny_load (get?_update_seq (cb _ rfl) _) ?_)
 show wpAny _ _ (pure ((#[]:Array Value)++vs.toArray).toList) Q E _
 rw[show((#[]:Array Value)++vs.toArray).toList=vs by simp]
 exact bS h
theorem zI0{l:Addr}{vs:List Value}{ns:List Int}{Q:Value→Shared→Prop}(hl:IsTup s.heap l vs.toArray)(hI:IntsAre vs ns)(h64:vs.length<64)
  (h:∀(out:Array Value) (ns':List Int),IntsAre out.toList ns'→ns'.Perm ns→ns'.Pairwise (·≤·)→Q (.ref (s.heap.objs.size+1)) { s with heap:=sortedAll s.heap vs out }) :
  wpAny (model prog w) A (call (.builtin "sorted") [.ref l]) Q E s:=by
 refine Calls.call_function_entry kind_sorted plain_sorted entry_sorted (args_sorted1 _) ?_
 unfold Builtin.«sorted»
 refine bI (m:=checkCount "sorted" 1 1 _) (bS ?_)
 refine bI (zD0 hl ?_)
 refine bI (wpAny_newList ?_)
 have hsz:((s.heap.push (seqObj "list" #[] 0)).update s.heap.objs.size (Obj.mapSeq (·++vs.toArray))).objs.size=s.heap.objs.size+1:=by
  rw[Heap.size_update,size_push']
 have hoL:(((s.heap.push (seqObj "list" #[] 0)).update s.heap.objs.size (Obj.mapSeq (·++vs.toArray))).push (seqObj "list" vs.toArray 0)).get? (s.heap.objs.size+1)=some (seqObj "list" vs.toArray 0):=by
  rw[← hsz];exact cb _ rfl
 show wpAny _ _ _ _ _ { s with heap:=((s.heap.push (seqObj "list" #[] 0)).update s.heap.objs.size (Obj.mapSeq (·++vs.toArray))).push (seqObj "list" vs.toArray 0) }
 rw[hsz]
 refine bI (cY (dP slot_list_sort ⟨_,hoL,rfl⟩ entry_list_sort (list_sort_tree hoL hI h64 fun out ns' a1 a2 a3=>⟨_,rfl,?_⟩) (args_list_sort _)))
 exact bS ⟨_,rfl,h out ns' a1 a2 a3⟩
theorem zFe{Q:List Value→Shared→Prop}{r:Addr}{a b c:Int}{t u v:Tok}{n:Nat}(hh:A.handled=none)(hr:IsRange s.heap r a b c t u v)(hsmall:Builtin.Range.small a b c=true)
  (hn:Builtin.Range.rangeSize a b c=n) (hlen:n≤2 ^ 24)
  (hQ:∀ h' tk acc,(∀ b o,s.heap.get? b=some o→h'.get? b=some o)→ItemsOf (fun i v=>∃ t,v=.int (a+i*c) t) acc n→Q acc.toList { s with heap:=h',toks:=tk }) :
  wpAny (model prog w) A (collect (.ref r)) Q E s:=by
 unfold collect
 refine bI (wpAny_runValue (dt PySem.F.entry_proto_collect ?_))
 rw[Around.under_plainId PySem.F.plain_proto_collect _]
 show wpAny _ A.in1 (newList []>>=fun l=>again (.builtin "list.__iadd__" ⟨[l,.ref r],[]⟩)) _ _ s
 refine bI (df ?_)
 refine bS ⟨plainId_quiet PySem.F.plain_list_iadd _,dt PySem.F.entry_list_iadd ?_⟩
 rw[Around.under_plainId PySem.F.plain_list_iadd _]
 show wpAny _ A.in1 (Builtin.List.listExtendWith (.ref s.heap.objs.size) (.ref r) (.ref s.heap.objs.size)) _ _ _
 have hS:(s.heap.push { cls:=.type "list",data:=.seq ([]:List Value).toArray }).get? s.heap.objs.size=some { cls:=.type "list",data:=.seq #[] 0 }:=cb _ rfl
 refine fw (wpAny_extend_range (A:=A) (R:=fun res s'=>∃ h' tk acc c',res=.ok (.ret (.ref s.heap.objs.size))∧s'={ s with heap:=h',toks:=tk }∧(∀ b o,s.heap.get? b=some o→h'.get? b=some o)∧h'.get? s.heap.objs.size=some { cls:=.type "list",dict:=none,data:=.seq acc c',slots:=#[] }∧ItemsOf (fun i v=>∃ t,v=.int (a+i*c) t) acc n)
  (s:={ s with heap:=s.heap.push { cls:=.type "list",data:=.seq ([]:List Value).toArray } }) hh (bP _ hr) hsmall hn hlen s.heap.objs.size (.ref s.heap.objs.size) 0 hS fun h' tk acc' c' hk hS' hacc=>?_) (fun fin s' h=>?_) (fun e s' h=>?_)
 ·exact⟨h',tk,acc',c',rfl,rfl,fun b o e=>hk b o (cJ (cc e)) (bP _ e),hS',hacc⟩
 ·have fin':∀ {r' s''},(∃ h' tk acc c',r'=(.ok (.ret (.ref s.heap.objs.size)):Result)∧s''={ s with heap:=h',toks:=tk }∧(∀ b o,s.heap.get? b=some o→h'.get? b=some o)∧h'.get? s.heap.objs.size=some { cls:=.type "list",dict:=none,data:=.seq acc c',slots:=#[] }∧ItemsOf (fun i v=>∃ t,v=.int (a+i*c) t) acc n) →
    wpAny (model prog w) A (match Value.ref s.heap.objs.size with
     | Value.ref a=>do
      match (← load a).data with
       | Data.seq xs _=>pure xs.toList
       | _=>unsupported "internal:collect"
     | _=>unsupported "internal:collect") Q E s'':=by
   rintro r' s'' ⟨h',tk,acc,c',rfl,rfl,hk,hS',hacc⟩
   show wpAny _ A (load s.heap.objs.size>>=_) _ _ _
   refine bI (wpAny_load hS' ?_)
   exact bS (hQ h' tk acc hk hacc)
  cases fin with
  | done f =>
   have hf:=h
   obtain⟨h',tk,acc,c',e,u0⟩:=h
   cases e
   exact fin' hf
  | again c'=>exact⟨h.1,eh h.2 fun r s'' hr=>by
    have hf:=hr
    obtain⟨h',tk,acc,c',e,u0⟩:=hr
    subst e
    exact fin' hf⟩
 ·obtain⟨u0,u0,u0,u0,e,u0⟩:=h
  cases e
theorem zBx(r:Addr)(a b c:Int)(t u v:Tok)(n:Nat)(hsmall:Builtin.Range.small a b c=true)(hn:Builtin.Range.rangeSize a b c=n)(hlen:n≤2 ^ 24) :
  Meets (Builtin.«tuple.__new__» ⟨[.type "tuple",.ref r],[]⟩)
   (fun A R s=>A.handled=none∧IsRange s.heap r a b c t u v∧∀(h':Heap) tk acc,(∀ b o',s.heap.get? b=some o'→h'.get? b=some o')→ItemsOf (fun i v=>∃ t,v=.int (a+i*c) t) acc n→R (.ok (.ret (.ref h'.objs.size))) { s with heap:=h'.push { cls:=.type "tuple",data:=.seq acc },toks:=tk }) :=
 .of_wp fun prog w A R s h=>by
  obtain⟨hp,g,d,tk,os⟩:=s;obtain⟨hh,ht,h⟩:=h
  have hsub:=sub_tuple_self
  have hinit:=init_tuple_lookup
  have hmh:=madeHere_tuple
  have hT:Shared.TypeIs ⟨hp,g,d,tk,os⟩ (.ref r) "range":=⟨_,ht,rfl⟩
  wp_walk using eS hT,zFe (A:=A.in1) hh ht hsmall hn hlen
  intro h' tk' acc hk hacc
  show wpAny _ _ (Builtin.Tuple.tupleExact acc.toList.toArray>>=fun v=>ret v) _ _ _
  unfold Builtin.Tuple.tupleExact
  refine bI (df ?_ (by show acc.toList.toArray.size≤sizeLine;simp only[Array.toArray_toList];rw[hacc.1,sizeLine_eq];omega))
  refine bS ⟨_,rfl,?_⟩
  have e:acc.toList.toArray=acc:=by simp
  rw[e]
  exact h h' tk' acc hk hacc
theorem zDm{Q:Value→Shared→Prop}{r:Addr}{a b c:Int}{t u v:Tok}{n:Nat}(hh:A.handled=none)(hr:IsRange s.heap r a b c t u v)(hsmall:Builtin.Range.small a b c=true)
  (hn:Builtin.Range.rangeSize a b c=n) (hlen:n≤2 ^ 24)
  (hQ:∀(h':Heap) tk acc,(∀ b o,s.heap.get? b=some o→h'.get? b=some o)→ItemsOf (fun i v=>∃ t,v=.int (a+i*c) t) acc n→Q (.ref h'.objs.size) { s with heap:=h'.push { cls:=.type "tuple",data:=.seq acc },toks:=tk }) :
  wpAny (model prog w) A (call (.type "tuple") [.ref r]) Q E s :=
 callType_new PySem.F.called_tuple (by decide) (PySem.F.typeCall_tuple_1 _) (PySem.F.newCall_tuple_1 _) (fun obj=>PySem.F.args_object_init_2 obj _) PySem.F.entry_tuple_new
  (zBx r a b c t u v n hsmall hn hlen) ⟨hh,hr,fun h' tk acc hk hacc=>⟨⟨_,cb _ rfl,rfl⟩,hQ h' tk acc hk hacc⟩⟩
theorem zCe{t sl:Addr}{items:Array Value}{vl vu:Value}{lo hi:Option Int}{Q:Value→Shared→Prop}(ht:IsTup s.heap t items)(hs:s.heap.IsSliceOf sl vl vu .none)(pl:IsPart vl lo)(pu:IsPart vu hi)
  (hw:wM items.size 0 lo=0∧wM items.size items.size hi=items.size)
  (h:Q (.ref t) s):wpAny (model prog w) A (getItem (.ref t) (.ref sl)) Q E s:=by
 obtain⟨os,hos,hcs,hds⟩:=id hs
 have hTs:s.TypeIs (.ref sl) "slice":=⟨os,hos,hcs⟩
 unfold getItem
 try with_reducible refine cY ?_
 first | refine bI (bS ?_) | skip
 refine bI (wpAny_sequenceKey ht.typeIs (by decide) ?_)
 refine bI (wpAny_callSpecial?_slot (name:=Str.ofString "__getitem__") ht.typeIs PyProof.Rows.slot_tuple_getitem
  (dP PyProof.Rows.slot_tuple_getitem ht.typeIs entry_tuple_getitem ?_ (args_tuple_getitem _ _)))
 show wpAny _ _ (Builtin.Tuple.tupleItemsOf (.ref t)>>=_) _ _ s
 refine bI (tupleItemsOf_ ht ?_)
 refine bI (eS hTs ?_)
 rw[if_pos (by decide)]
 refine bI (zBR hs pl pu ?_)
 have hyes:((((wM items.size 0 lo:Nat):Int)==0&&(1:Int)==1&&(wM items.size items.size hi-wM items.size 0 lo)==items.size)=true):=by
  rw[hw.1,hw.2];simp
 show wpAny _ _ (if (((wM items.size 0 lo:Nat):Int)==0&&(1:Int)==1&&(wM items.size items.size hi-wM items.size 0 lo)==items.size)=true then _ else _) _ _ s
 rw[if_pos hyes]
 unfold Builtin.Tuple.tupleIsExact
 refine bI (bI (eS ht.typeIs (bS ?_)))
 rw[if_pos (by rfl)]
 refine bI (wpAny_rule ?_)
 first
  | exact bS ⟨_,rfl,bS h⟩
  | exact bI (bS (bS ⟨_,rfl,bS h⟩))
end
noncomputable def zEP(items:Array Value)(x:Value):Nat→(Option PySem.Fin×Unit)→Sem (ForInStep (Option PySem.Fin×Unit)):=fun i u0=>match items[i]? with
 | some y=>do
  let b ← eqBool y x
  if b=true then do
   let r ← retInt i
   pure (ForInStep.done (some r,()))
  else pure (ForInStep.yield (none,()))
 | _=>pure (ForInStep.yield (none,()))
theorem zEy{prog:Program}{w:World}{A:Around}{E:Value→Shared→Prop}{s:Shared}{items:Array Value}{x:Value}{e:Value→Bool}{j:Nat}(hj:j<items.size)(hit:e items[j]=true)(he:∀ y,y∈items→SeqAt.EqAt A s y x (e y)){Q:(Option PySem.Fin×Unit)→Shared→Prop}
  (hQ:Q (some (.done (.ret (.int j s.toks))),()) { s with toks:=s.toks+1 }):∀(k lo:Nat),lo≤j→j<lo+k→(∀ m (hm:m<items.size),lo≤m→m<j→e items[m]=false) →
   wpAny (model prog w) A (forIn (List.range' lo k) (none,()) (zEP items x)) Q E s
 | 0,lo,h1,h2,_=>by omega
 | k+1,lo,h1,h2,hno=>by
  rw[List.range'_succ,List.forIn_cons]
  have hlo:lo<items.size:=by omega
  unfold zEP
  have ei:items[lo]?=some items[lo]:=by simp[hlo]
  rw[ei]
  dsimp only
  refine bI (bI (he _ (Array.getElem_mem hlo) prog w _ _ ?_))
  by_cases hl:lo=j
  ·subst hl
   rw[hit,if_pos rfl]
   obtain⟨hp,g,d,tk,os⟩:=s
   wp_walk
   exact hQ
  ·rw[hno lo hlo (bZ _) (by omega),if_neg (by simp)]
   refine bS ?_
   exact zEy hj hit he hQ k (lo+1) (by omega) (by omega) fun m hm a b=>hno m hm (by omega) b
theorem zGo(l:Addr)(items:Array Value)(n:Nat)(dd:Option Addr)(sl:Array (Option Value))(x:Value)(e:Value→Bool)(j:Nat)(hj:j<items.size)(hit:e items[j]=true)(hno:∀ m (hm:m<items.size),m<j→e items[m]=false) :
  Meets (Builtin.«tuple.index» ⟨[.ref l,x],[]⟩)
   (fun A R s=>s.heap.get? l=some { cls:=.type "tuple",dict:=dd,data:=.seq items n,slots:=sl }∧(∀ y,y∈items→SeqAt.EqAt A.in1 s y x (e y))∧R (.ok (.ret (.int j s.toks))) { s with toks:=s.toks+1 }) :=
 .of_wp fun prog w A R s h=>by
  obtain⟨hp,g,d,tk,os⟩:=s;obtain⟨hl,he,h⟩:=h
  wp_walk using wpAny_loadPart' hl
  show wpAny (model prog w) A.in1 (forIn ([: min items.size items.size]:Std.Legacy.Range) (none,()) (zEP items x)) _ _ _
  rw[Std.Legacy.Range.forIn_eq_forIn_range']
  have e1:List.range' ([: min items.size items.size]:Std.Legacy.Range).start ([: min items.size items.size]:Std.Legacy.Range).size ([: min items.size items.size]:Std.Legacy.Range).step=List.range' 0 items.size:=by
   simp[Std.Legacy.Range.size]
  rw[e1]
  refine zEy hj hit he ?_ _ _ (cW _) (by omega) fun m hm u0 b=>hno m hm b
  exact bS ⟨_,rfl,h⟩
theorem zGp(l:Addr)(items:Array Value)(n:Nat)(dd:Option Addr)(sl:Array (Option Value))(x:Value)(e:Value→Bool)(lo:Nat)(u:Tok)(j:Nat)(hj:j<items.size)(hit:e items[j]=true)(hlo:lo≤j)(hno:∀ m (hm:m<items.size),lo≤m→m<j→e items[m]=false) :
  Meets (Builtin.«tuple.index» ⟨[.ref l,x,.int lo u],[]⟩)
   (fun A R s=>s.heap.get? l=some { cls:=.type "tuple",dict:=dd,data:=.seq items n,slots:=sl }∧(∀ y,y∈items→SeqAt.EqAt A.in1 s y x (e y))∧R (.ok (.ret (.int j s.toks))) { s with toks:=s.toks+1 }) :=
 .of_wp fun prog w A R s h=>by
  obtain⟨hp,g,d,tk,os⟩:=s;obtain⟨hl,he,h⟩:=h
  have f1:=AutoSeq1.idx_int
  wp_walk using wpAny_loadPart' hl
  have e2:(max (if ((lo:Nat):Int)<0 then (lo:Int)+(items.size:Int) else (lo:Int)) 0).toNat=lo:=by
   rw[if_neg (by omega)];omega
  rw[e2]
  show wpAny (model prog w) A.in1 (forIn ([lo: min items.size items.size]:Std.Legacy.Range) (none,()) (zEP items x)) _ _ _
  rw[Std.Legacy.Range.forIn_eq_forIn_range']
  have e1:List.range' ([lo: min items.size items.size]:Std.Legacy.Range).start ([lo: min items.size items.size]:Std.Legacy.Range).size ([lo: min items.size items.size]:Std.Legacy.Range).step=List.range' lo (items.size-lo):=by
   simp[Std.Legacy.Range.size]
  rw[e1]
  refine zEy hj hit he ?_ _ _ hlo (by omega) hno
  exact bS ⟨_,rfl,h⟩
end HT
namespace L3
open L2
section
variable {X:Cx} {a b c e o:Expr} {es:List Expr} {pos p:Pos} {ta tb te:zk}
noncomputable def yv:D→D→Gp→Q2→Prop:=fun x y G R=>match x,y with
 | .int i,.int j=>R (.int (i+j)) G
 | .tup xs,.tup ys=>xs.length+ys.length≤1000000∧R (.tup (xs++ys)) G
 | _,_=>False
theorem OpR.or{f:Value→Value→Sem Value}{r r':R2}(h:OpR X f r)(h':OpR X f r'):OpR X f (fun x y H Q=>r x y H Q∨r' x y H Q):=by
 intro pins s σ H x y v u Q I rx ry q
 rcases q with q | q
 ·exact h pins s σ H x y v u Q I rx ry q
 ·exact h' pins s σ H x y v u Q I rx ry q
noncomputable def zPq(K:PySem.W.Frag):R2:=fun x y H Q=>∃ a b ys,x=.ref a∧y=.ref b∧SqT K H a []∧SqT K H b ys∧Q (.ref b) H
theorem zON:OpR X (binaryOp .Add) (zPq X.K):=by
 intro pins s σ H x y v u Q I rx ry h
 obtain⟨a,b,ys,rfl,rfl,ha,hb,q⟩:=h
 cases rx
 cases ry
 obtain⟨its,r1,p1,u0⟩:=I.tuple ha
 obtain⟨its2,r2,p2,u0⟩:=I.tuple hb
 have:its=[]:=r1.nil_iff.mpr rfl
 subst this
 exact HT.zMH p1 p2 ⟨.ref b,H,I,rfl,q⟩
theorem zOO{K:PySem.W.Frag}:Fit K (fun x y H Q=>rI0 (fun i j=>.int (i+j)) x y H Q∨zPf K x y H Q∨zPq K x y H Q) yv:=by
 intro dx dy G R x y H Q h r d1 d2 k
 unfold yv at h
 split at h
 ·rename_i i j
  unfold zQ at d1 d2
  subst d1 d2
  exact .inl ⟨i,j,rfl,rfl,k _ G h _ H (.refl H) r (by unfold zQ;rfl)⟩
 ·rename_i xs ys
  obtain⟨hz,h⟩:=h
  unfold zQ at d1 d2
  obtain⟨a,us,rfl,s1,t1⟩:=d1
  obtain⟨b,ws,rfl,s2,t2⟩:=d2
  have l1:=t1.length
  have l2:=t2.length
  by_cases hx:xs=[]
  ·subst hx
   have hu:us=[]:=ef.mp (by rw[← l1];rfl)
   subst hu
   exact .inr (.inr ⟨a,b,ws,rfl,rfl,s1,s2,k _ G h _ H (.refl H) r (by unfold zQ;exact⟨b,ws,rfl,s2,by simpa using t2⟩)⟩)
  ·refine .inr (.inl ⟨a,b,us,ws,rfl,rfl,s1,s2,fun z=>hx (ef.mp (by rw[l1,z];rfl)),by rw[sizeLine_eq];omega,fun z=>?_,fun u0 p hp=>?_⟩)
   ·have hy:ys=[]:=ef.mp (by rw[l2,z];rfl)
    subst hy
    exact k _ G h _ H (.refl H) r (by unfold zQ;exact⟨a,us,rfl,s1,by simpa using t1⟩)
   ·exact k _ G h _ _ (.fresh hp) (r.fresh hp) (by unfold zQ;exact⟨p,us++ws,rfl,.of zu,(t1.append t2).grow (.fresh hp)⟩)
 ·exact h.elim
theorem zAA(ha:E2 X a ta)(hb:E2 X b tb):E2 X (.BinOp a .Add b pos) (zO yv ta tb):=zHj (zQX.or (zN7.or zON)) zOO ha hb
theorem zGq:yg X (.builtin "sorted") (fun xs H Q=>∃(p:Addr) (ns:List Int),xs=[.ref p]∧(SqL X.K H p (ns.map V.int)∨SqT X.K H p (ns.map V.int))∧ns.length<64∧∀(l:Addr) (ns':List Int),H l=none→ns'.Perm ns→ns'.Pairwise (·≤·)→Q (.ref l) (wj H l (.lst (ns'.map V.int)))):=by
 intro pins s σ H xs us Q I r h
 obtain⟨p,ns,rfl,hq,hz,q⟩:=h
 obtain⟨u,rfl,rx⟩:=vals1 r
 cases rx
 have fin:∀(its:List Value) (out:Array Value) (ns':List Int),its.length=ns.length→IntsAre out.toList ns'→ns'.Perm ns→ns'.Pairwise (·≤·)→EP X pins σ Q (.ref (s.heap.objs.size+1)) { s with heap:=sortedAll s.heap its out }:=by
  intro its out ns' hl i1 i2 i3
  obtain⟨e,he⟩:=sortedAll_at s.heap its out
  have hn:H (s.heap.objs.size+1)=none:=I.hok.fresh (eE _)
  refine⟨.ref (s.heap.objs.size+1),_,I.laid (t':=s.toks) (o:=.lst (ns'.map V.int)) (fun b u q=>sortedAll_old q) (eE _) ?_,rfl,q _ ns' hn i2 i3⟩
  have hp:=i2.length_eq
  refine⟨?_,out.toList,e,zCL i1,?_⟩
  ·rw[bU,hp,sizeLine_eq];omega
  ·rw[he]<;>rfl
 rcases hq with hq | hq
 ·obtain⟨its,rv,pl,u0⟩:=I.list hq
  have hl:=rv.length
  rw[bU] at hl
  exact sorted_ints (vs:=its) (ns:=ns) pl.isList (intsAre_of rv) (by omega) fun out ns' i1 i2 i3=>fin its out ns' (by omega) i1 i2 i3
 ·obtain⟨its,rv,pl,u0⟩:=I.tuple hq
  have hl:=rv.length
  rw[bU] at hl
  exact HT.zI0 (vs:=its) (ns:=ns) pl (intsAre_of rv) (by omega) fun out ns' i1 i2 i3=>fin its out ns' (by omega) i1 i2 i3
noncomputable def zGr(t:wN):TL2:=fun σ G R=>t σ G fun ds G1=>match ds with
 | [d]=>∃ ns:List Int,zBs G1 d (ns.map D.int)∧ns.length<64∧∀(ns':List Int),ns'.Perm ns→ns'.Pairwise (·≤·)→R (ns'.map D.int) G1
 | _=>False
theorem zMI{t:wN}(hg:Gl X "sorted")(hm:X.mg "sorted"=none)(ha:A2 X [e] t)(he:starEach [e] X.env=(false,eval e X.env)::starEach [] X.env:=by rfl)(hpl:(backTo pos (starEach [] X.env)).any (·.1)=false:=by rfl) :
  F2 X (.Call (.Name "sorted" p) [e] [] pos) (zGr t):=by
 refine PE.mono (zBQ zGq hg hm boot_sorted ha (by decide) (by decide) he hpl) ?_
 rintro σ1 H Q ⟨σ,G,R,rl,q,k⟩
 refine⟨σ,G,_,rl,q,fun ds G1 q1 vs H1 g1 r1 d1=>?_⟩
 split at q1
 ·rename_i d
  obtain⟨ns,e1,hl,q1⟩:=q1
  obtain⟨v,rfl,d2⟩:=zAi d1
  obtain⟨a,xs,rfl,s1,t1⟩:=zEO r1 d2 e1
  have hxs:=t1.ints_inv
  subst hxs
  refine⟨a,ns,rfl,s1,hl,fun l' ns' n' h1 h2=>?_⟩
  exact k _ G1 (q1 ns' h1 h2) l' _ _ (g1.trans (.fresh n')) (r1.fresh n') (r1.free n') zu (Dens.ints ns')
 ·exact q1.elim
theorem zKj(hc:X.calm=true):yg X (.type "tuple") (fun xs H Q=>∃ p j,xs=[.ref p]∧H p=some (.rng 0 j)∧(0≤j∧j≤1000000)∧∀ l,H l=none→Q (.ref l) (wj H l (.tup ((bQ j.toNat).map fun(k:Nat)=>V.int k)))):=by
 intro pins s σ H xs us Q I r h
 obtain⟨p,j,rfl,hp,⟨h0,h1⟩,q⟩:=h
 obtain⟨u,rfl,rx⟩:=vals1 r
 cases rx
 obtain⟨t1,t2,t3,ho⟩:∃ t u v,s.heap.get? p=some { cls:=.type "range",data:=.fields #[.int 0 t,.int j u,.int 1 v] }:=I.hok p _ hp
 have hsz:Builtin.Range.rangeSize 0 j 1=((j.toNat:Nat):Int):=by rw[rangeSize_one];split<;>omega
 refine HT.zDm (I.ok.hd hc) (show IsRange s.heap p 0 j 1 t1 t2 t3 from ho) (small_one (by omega) (by omega) (by omega) (by omega)) hsz (by omega) fun h' tk acc kp hacc=>?_
 have I1:zX X pins σ H { s with heap:=h',toks:=tk }:=I.kept (t':=tk) kp
 have hn:H h'.objs.size=none:=I1.hok.fresh (bZ _)
 refine⟨.ref h'.objs.size,_,I1.laid (t':=tk) (o:=.tup ((bQ j.toNat).map fun(k:Nat)=>V.int k)) (fun b ob q=>bP _ q) (bZ _) ?_,rfl,q _ hn⟩
 refine⟨?_,acc.toList,?_,by simpa using zEh.new _ _⟩
 ·rw[bU,cz,sizeLine_eq];omega
 ·refine zB3 (by simp[hacc.1]) fun i x v e1 e2=>?_
  have e2':acc[i]?=some v:=by simpa using e2
  obtain⟨t,rfl⟩:=hacc.2 i v e2'
  rw[cC] at e1
  cases q':(bQ j.toNat)[i]? with
  | none=>rw[q'] at e1;cases e1
  | some k =>
   rw[q'] at e1
   cases e1
   have hk:k=i:=by
    have:=(bW.mp q').2
    simpa using this.symm
   subst hk
   refine⟨t,?_⟩
   congr 1
   omega
noncomputable def zMJ(t:wN):zk:=fun σ G R=>t σ G fun ds G1=>match ds with | [.int j]=>(0≤j∧j≤1000000)∧R (.tup (yG 0 j.toNat)) G1 | _=>False
theorem zQ2{t:wN}{pos' p2:Pos}(hc:X.calm=true)(hg:Gl X "tuple")(hm:X.mg "tuple"=none)(hg2:Gl X "range")(hm2:X.mg "range"=none)(ha:A2 X [a] t)(hs:starEach [a] X.env=[(false,eval a X.env)]:=by rfl)
  (he:starEach [.Call (.Name "range" p2) [a] [] pos] X.env=(false,eval (.Call (.Name "range" p2) [a] [] pos) X.env)::starEach [] X.env:=by rfl) (hpl:(backTo pos' (starEach [] X.env)).any (·.1)=false:=by rfl) :
  E2 X (.Call (.Name "tuple" p) [.Call (.Name "range" p2) [a] [] pos] [] pos') (zMJ t):=by
 refine PE.mono (zCJ (zKj hc) hg hm (by decide +kernel) (zAk (zF2 hg2 hm2 ha hs) zBy he) (by decide) (by decide) he hpl) ?_
 rintro σ1 H Q ⟨σ,G,R,rl,q,k⟩
 refine⟨σ,G,_,rl,q,fun ds G1 q1 vs H1 g1 r1 d1=>?_⟩
 split at q1
 ·rename_i j
  obtain⟨v,rfl,d2⟩:=zAi d1
  unfold zQ at d2
  subst d2
  refine⟨j,rfl,fun l n=>⟨l,j,rfl,zu,q1.1,fun l' n'=>?_⟩⟩
  have g2:yB H1 (wj H1 l (.rng 0 j)):=.fresh n
  have r2:=r1.fresh (o:=.rng 0 j) n
  refine k _ G1 q1.2 _ _ ((g1.trans g2).trans (.fresh n')) (r2.fresh n') ?_
  have:(bQ j.toNat).map (fun(k:Nat)=>V.int k)=((bQ j.toNat).map fun(k:Nat)=>(k:Int)).map V.int:=by simp
  rw[this]
  have e2:yG 0 j.toNat=((bQ j.toNat).map fun(k:Nat)=>(k:Int)).map D.int:=by simp[yG]
  rw[e2]
  unfold zQ
  exact⟨l',_,rfl,.of zu,Dens.ints _⟩
 ·exact q1.elim
noncomputable def zSy(K:PySem.W.Frag):V→Option Int→Option Int→Hp→VK→Prop:=fun x lo hi H Q=>∃ a xs,x=.ref a∧SqT K H a xs∧(HT.wM xs.length 0 lo=0∧HT.wM xs.length xs.length hi=xs.length)∧Q (.ref a) H
theorem zOP:SlR X (zSy X.K):=by
 intro pins s σ H x v vl vu lo hi sl Q I rx hs pl pu h
 obtain⟨a,xs,rfl,hx,hw,q⟩:=h
 cases rx
 obtain⟨its,r,ht,hz⟩:=I.tuple hx
 have hlen:its.toArray.size=xs.length:=by rw[cj];exact r.length.symm
 refine⟨"tuple",_,PyProof.Rows.slot_tuple_getitem.lookup,ht.typeIs,?_⟩
 exact HT.zCe ht hs pl pu (by rw[hlen];exact hw) ⟨.ref a,H,I,rfl,q⟩
noncomputable abbrev TO2:=S2→Gp→(Option Int→Gp→Prop)→Prop
noncomputable def lO(K:PySem.W.Frag)(t:TO2):TO:=fun σ1 H Q=>∃ σ G R,Rel K σ G σ1 H∧t σ G R∧∀ o G',R o G'→∀ H',yB H H'→yK K G' H'→Q o H'
noncomputable def O2(X:Cx)(e:Option Expr)(t:TO2):Prop:=PO X e (lO X.K t)
noncomputable def wt:TO2:=fun u0 G R=>R none G
noncomputable def zAB(t:zk):TO2:=fun σ G R=>t σ G fun d G1=>match d with | .int i=>R (some i) G1 | _=>False
theorem zGs:O2 X none wt:=by
 intro pins s σ1 H Q I h
 refine zN5 pins s σ1 H Q I ?_
 obtain⟨σ,G,R,r,q,k⟩:=h
 exact k none G q H (.refl H) r.g
theorem zB6(h:E2 X e te):O2 X (some e) (zAB te):=by
 intro pins s σ1 H Q I q
 refine zN6 h pins s σ1 H Q I ?_
 obtain⟨σ,G,R,r,q,k⟩:=q
 refine⟨σ,G,_,r,q,fun d G1 q1 v H1 g1 r1 d1=>?_⟩
 cases d with
 | int i =>
  unfold zQ at d1
  exact⟨i,d1,k _ G1 q1 H1 g1 r1⟩
 | _=>exact q1.elim
noncomputable def cutD(xs:List D)(lo hi:Option Int):List D:=(xs.drop (HT.wM xs.length 0 lo)).take (HT.wM xs.length xs.length hi-HT.wM xs.length 0 lo)
noncomputable def zAD(t:zk)(tl th:TO2):zk:=fun σ G R=>t σ G fun d G1=>tl σ G1 fun lo G2=>th σ G2 fun hi G3=>match d with | .tup xs=>R (.tup (cutD xs lo hi)) G3 | _=>False
theorem zDJ{lo hi:Option Expr}{tl th:TO2}{p2:Pos}(he:E2 X e te)(hl:O2 X lo tl)(hu:O2 X hi th):E2 X (.Subscript e (.Slice lo hi none p2) pos) (zAD te tl th):=by
 refine PE.mono (zHd (zQk.or zOP) he hl hu) ?_
 rintro σ1 H Q ⟨σ,G,R,r,q,k⟩
 refine⟨σ,G,_,r,q,fun d G1 q1 v H1 g1 r1 d1=>⟨σ,G1,_,r.to g1 r1,q1,fun o1 G2 q2 H2 g2 r2=>⟨σ,G2,_,r.to (g1.trans g2) r2,q2,fun o2 G3 q3 H3 g3 r3=>?_⟩⟩⟩
 cases d with
 | tup xs =>
  have d1':=(d1.grow g2).grow g3
  unfold zQ at d1'
  obtain⟨a,us,rfl,s1,t1⟩:=d1'
  have hl:=t1.length
  by_cases hw:HT.wM us.length 0 o1=0∧HT.wM us.length us.length o2=us.length
  ·refine .inr ⟨a,us,rfl,s1,hw,k _ G3 q3 _ H3 ((g1.trans g2).trans g3) r3 ?_⟩
   have e:cutD xs o1 o2=xs:=by
    unfold cutD
    rw[hl,hw.1,hw.2]
    simp[← hl]
   rw[e]
   unfold zQ
   exact⟨a,us,rfl,s1,t1⟩
  ·refine .inl ⟨a,us,rfl,s1,hw,fun p hp=>k _ G3 q3 _ _ (((g1.trans g2).trans g3).trans (.fresh hp)) (r3.fresh hp) ?_⟩
   unfold zQ
   refine⟨p,_,rfl,.of zu,?_⟩
   unfold cutD zHe
   rw[hl]
   exact((t1.drop).take).grow (.fresh hp)
 | _=>exact q3.elim
theorem za.reverse:∀ {xs:List V} {us:List Value},za xs us→za xs.reverse us.reverse
 | _,_,.nil=>.nil
 | _,_,.cons r rr=>by
  rw[eK,eK]
  exact(za.reverse rr).append (.cons r .nil)
end
section
variable {σ:S2} {G:Gp}
theorem yU{α:Type}{ds:List α}{i:Nat}{x:α}(h:ds[i]?=some x):ds.take (i+1)=ds.take i++[x]:=by
 rw[List.take_add_one,h];rfl
theorem wu{wi:TI2}{bd:D→Option (List D)}{tc:TT2}{te:zk}{ds:List D}(p:D→Bool)(f:D→D)(us:D→List D)(hw:PuI wi σ G ds)
  (hx:∀ x∈ds,bd x=some (us x)∧PuT tc (σ++(us x).map some) G (p x)∧(p x=true→zi te (σ++(us x).map some) G (f x))):PuL (yA wi bd tc te) σ G ((ds.filter p).map f):=by
 intro G2 e R q
 refine hw G2 e _ fun gd G3 e3 hgd A nA=>?_
 refine⟨fun i acc G'=>G'=zU G3 A acc∧acc=((ds.take i).filter p).map f,⟨rfl,by simp⟩,?_,?_,?_⟩
 ·rintro i acc G' hi ⟨rfl,rfl⟩
  refine⟨hgd _ (.new nA),zK,?_⟩
  rw[bU]
  exact dh (dk _ _) (by rw[cK];omega)
 ·rintro i x acc G' hi ⟨rfl,rfl⟩
  obtain⟨hb,ht,he⟩:=hx x (cy hi)
  rw[hb]
  dsimp only
  have ex:Ext G (zU G3 A (((ds.take i).filter p).map f)):=(e.trans e3).trans (.new nA)
  refine ht _ ex _ ?_
  cases hp:p x with
  | false =>
   rw[if_neg (by simp)]
   exact .of ⟨rfl,by rw[yU hi];simp[hp]⟩
  | true =>
   rw[if_pos rfl]
   refine he hp _ ex _ ⟨zK,.of ⟨zCM,by rw[yU hi];simp[hp]⟩⟩
 ·rintro acc G' ⟨rfl,rfl⟩
  exact⟨G2,e3.own nA,e3.sub.trans (.new nA),by rw[e8];exact q⟩
theorem zDn{wi:TI2}{bd:D→Option (List D)}{te:zk}{ds:List D}(f:D→D)(us:D→List D)(hw:PuI wi σ G ds)
  (hx:∀ x∈ds,bd x=some (us x)∧zi te (σ++(us x).map some) G (f x)):PuL (yA wi bd zBw te) σ G (ds.map f):=by
 have:=wu (tc:=zBw) (fun u0=>true) f us hw fun x h=>⟨(hx x h).1,zQ0,fun u0=>(hx x h).2⟩
 rwa [List.filter_eq_self.mpr (fun u0 u0=>rfl)] at this
theorem zAr{t:wN}{j:Int}(h:PuA t σ G [.int j])(hj:-1000000≤j∧j≤1000000):PuI (iR1 t) σ G (yG 0 j.toNat):=fun G2 e R q=>h G2 e _ ⟨hj,q _ G2 (.refl _) fun u0 u0=>trivial⟩
theorem zKk{t:wN}{i j:Int}(h:PuA t σ G [.int i,.int j])(hj:(-1000000≤i∧i≤1000000)∧-1000000≤j∧j≤1000000):PuI (iR2 t) σ G (yG i (j-i).toNat):=fun G2 e R q=>h G2 e _ ⟨hj,q _ G2 (.refl _) fun u0 u0=>trivial⟩
theorem zAc.nil:zAc [] []:=.refl _
theorem zAc.keep{o:Option D}{r r':S2}(h:zAc r r'):zAc (o::r) (o::r'):=⟨by simp[h.len],fun i d e=>by
 cases i with
 | zero=>simpa using e
 | succ i=>simpa using h.val i d (by simpa using e)⟩
theorem zAc.skip{o:Option D}{r r':S2}(h:zAc r r'):zAc (none::r) (o::r'):=⟨by simp[h.len],fun i d e=>by
 cases i with
 | zero=>simp at e
 | succ i=>simpa using h.val i d (by simpa using e)⟩
theorem zAc.trans{a b c:S2}(h:zAc a b)(h':zAc b c):zAc a c:=⟨h.len.trans h'.len,fun i d e=>h'.val i d (h.val i d e)⟩
theorem zOQ{σ:S2}{G:Gp}:Fg (fun σ' G'=>σ'=σ∧G'=G)=fun σ' G'=>zAc σ σ'∧Sub G G':=by
 funext σ' G'
 apply propext
 constructor
 ·rintro⟨u0,u0,h1,h2,rfl,rfl⟩
  exact⟨h1,h2⟩
 ·rintro⟨h1,h2⟩
  exact⟨σ,G,h1,h2,rfl,rfl⟩
noncomputable def wQ(wi:TI2)(g:TG2)(tb:ye):ye:=fun E σ G=>Fg (fun σ' G'=>zR7 wi g tb E σ' G') σ G
theorem zAf{X:Cx}{tg iter:Expr}{pos:Pos}{wi:TI2}{g:TG2}{tb:ye}{body:List Stmt}(hp:PassesOwn (model X.prog X.w) X.A X.env X.xe)(hc:X.calm=true)(hi:I2 X tg iter wi)(hg:G2 X tg g)(hb:Ps2 X body tb)
  (hs:∀ x,foldedSetIterable iter X.env x=pure x:=by intro u0;rfl):P2 X (.For tg iter body [] pos) (wQ wi g tb):=by
 refine PS.mono (zR8 hp hc hi hg hb hs) ?_
 rintro E σ1 H ⟨σ,G,D2,r,⟨σ',G',s1,s2,q⟩,k⟩
 exact⟨σ',G',D2,r.sub s1 s2,q,k⟩
noncomputable def zGt(tc:TT2)(tb:ye):ye:=fun E σ G=>Fg (fun σ' G'=>zMF tc tb E σ' G') σ G
theorem zHs{X:Cx}{c:Expr}{pos:Pos}{tc:TT2}{tb:ye}{body:List Stmt}(hp:PassesOwn (model X.prog X.w) X.A X.env X.xe)(hc:T2 X c tc)(hb:Ps2 X body tb):P2 X (.While c body [] pos) (zGt tc tb):=by
 refine PS.mono (zOM hp hc hb) ?_
 rintro E σ1 H ⟨σ,G,D2,r,⟨σ',G',s1,s2,q⟩,k⟩
 exact⟨σ',G',D2,r.sub s1 s2,q,k⟩
theorem zMK{wi:TI2}{g:TG2}{tb:ye}{E:yO}{ds:List D}(hw:PuI wi σ G ds)
  (hb:∀ x∈ds,∀ G1,Ext G G1→g x σ G1 fun σ2 G2=>tb { E with nx:=fun σ' G'=>zAc σ σ'∧Sub G1 G',ct:=fun σ' G'=>zAc σ σ'∧Sub G1 G',bk:=E.nx } σ2 G2) (h:∀ G1,Ext G G1→E.nx σ G1) {σ0:S2} (hf:zAc σ σ0:=by exact .refl _):wQ wi g tb E σ0 G:=by
 refine⟨σ,G,hf,.refl G,?_⟩
 refine hw G (.refl G) _ fun gd G3 e3 hgd=>⟨fun i σ' G'=>σ'=σ∧G'=G3,⟨rfl,rfl⟩,?_,?_,?_⟩
 ·rintro i σ' G' u0 ⟨rfl,rfl⟩
  exact hgd _ (.refl _)
 ·rintro i x σ' G' hi ⟨rfl,rfl⟩
  rw[zOQ]
  exact hb x (cy hi) _ e3
 ·rintro σ' G' ⟨rfl,rfl⟩
  exact h _ e3
end
noncomputable def zML(ds:List D)(gd:Gp→Prop)(G1:Gp)(g:TG2)(tb:ye)(E:yO)(σ:S2):Prop:=∃ Pv:Nat→S2→Gp→Prop,Pv 0 σ G1∧(∀ i σ G,i≤ds.length→Pv i σ G→gd G) ∧
 (∀ i x σ G,ds[i]?=some x→Pv i σ G→g x σ G fun σ2 G2=>tb { E with nx:=Fg (Pv (i+1)),ct:=Fg (Pv (i+1)),bk:=E.nx } σ2 G2)∧∀ σ G,Pv ds.length σ G→E.nx σ G
theorem zQ3{σ:S2}{I:Gp→Prop}:Fg (fun σ' G'=>σ'=σ∧I G')=fun σ' G'=>zAc σ σ'∧∃ G'',Sub G'' G'∧I G'':=by
 funext σ' G'
 apply propext
 constructor
 ·rintro⟨u0,G'',h1,h2,rfl,h3⟩
  exact⟨h1,G'',h2,h3⟩
 ·rintro⟨h1,G'',h2,h3⟩
  exact⟨σ,G'',h1,h2,rfl,h3⟩
theorem zAS{ds:List D}{gd:Gp→Prop}{G1:Gp}{g:TG2}{tb:ye}{E:yO}{σ:S2}(I:Nat→Gp→Prop)(h0:I 0 G1)(hg:∀ i G',I i G'→gd G')
  (hb:∀ i x,ds[i]?=some x→∀ G2,I i G2→g x σ G2 fun σ2 G3=>tb { E with nx:=fun σ' G'=>zAc σ σ'∧∃ G'',Sub G'' G'∧I (i+1) G'',ct:=fun σ' G'=>zAc σ σ'∧∃ G'',Sub G'' G'∧I (i+1) G'',bk:=E.nx } σ2 G3)
  (h:∀ G2,I ds.length G2→E.nx σ G2):zML ds gd G1 g tb E σ:=by
 refine⟨fun i σ' G'=>σ'=σ∧I i G',⟨rfl,h0⟩,?_,?_,?_⟩
 ·rintro i σ' G' u0 ⟨u0,h⟩
  exact hg i G' h
 ·rintro i x σ' G' hi ⟨rfl,hI⟩
  rw[zQ3]
  exact hb i x hi G' hI
 ·rintro σ' G' ⟨rfl,hI⟩
  exact h G' hI
noncomputable def zPr(ds:List D)(gd:Gp→Prop)(G1:Gp)(A:Addr)(bd:D→Option (List D))(tc:TT2)(te:zk)(σ:S2)(R:List D→Gp→Prop):Prop:=∃ Pv:Nat→List D→Gp→Prop,Pv 0 [] (zU G1 A [])∧(∀ i acc G,i≤ds.length→Pv i acc G→gd G∧G.m A=some acc∧acc.length≤i) ∧
 (∀ i x acc G,ds[i]?=some x→Pv i acc G→match bd x with
  | some us=>tc (σ++us.map some) G fun b G3=>if b=true then te (σ++us.map some) G3 fun d G4=>G4.m A=some acc∧FgG (Pv (i+1) (acc++[d])) (zU G4 A (acc++[d])) else FgG (Pv (i+1) acc) G3
  | none=>False)∧∀ acc G,Pv ds.length acc G→∃ G',G'.m A=none∧Sub G' G∧R acc G'
theorem zJr{wi:TI2}{bd:D→Option (List D)}{tc:TT2}{te:zk}{σ:S2}{G:Gp}{R:List D→Gp→Prop}(h:wi σ G fun ds gd G1=>∀ A,G1.m A=none→zPr ds gd G1 A bd tc te σ R):yA wi bd tc te σ G R:=h
theorem zHt{ds:List D}{gd:Gp→Prop}{G1:Gp}{bd:D→Option (List D)}{tc:TT2}{te:zk}{σ:S2}{R:List D→Gp→Prop}{A:Addr}(I:Nat→List D→Gp→Prop)(h0:I 0 [] (zU G1 A []))(hg:∀ i acc G',I i acc G'→gd G'∧G'.m A=some acc∧acc.length≤i)
  (hb:∀ i x acc G',ds[i]?=some x→I i acc G'→∃ us,bd x=some us∧tc (σ++us.map some) G' fun b G3=>if b=true then te (σ++us.map some) G3 fun d G4=>G4.m A=some acc∧FgG (I (i+1) (acc++[d])) (zU G4 A (acc++[d])) else FgG (I (i+1) acc) G3)
  (h:∀ acc G',I ds.length acc G'→∃ G'',G''.m A=none∧Sub G'' G'∧R acc G''):zPr ds gd G1 A bd tc te σ R:=by
 refine⟨I,h0,fun i acc G' u0 q=>hg i acc G' q,fun i x acc G' hi q=>?_,h⟩
 obtain⟨us,e,q⟩:=hb i x acc G' hi q
 rw[e]
 exact q
noncomputable def zF5:wm:=fun ds G R=>∃(a:Addr) (ns:List Int),ds=[.adr a]∧G.ro a=some (ns.map D.int)∧ns.length≤63∧(∀ l,G.m l=none)∧R (.bl true) G
theorem zQ4{K:PySem.W.Frag}{H:Hp}{a:Addr}{ns:List Int}(hl:ns.length≤63)(hO:zOC H)(hS:SqL K H a (ns.map V.int)):lSp K zF5 [.ref a] H (fun v u0=>v=.bl true) fun u0 u0 u0=>False:=by
 refine⟨[.adr a],⟨fun u0=>none,fun b=>if b=a then some (ns.map D.int) else none⟩,fun d u0=>d=.bl true,.cons (by unfold zQ;rfl) .nil,⟨fun b ds e=>(by cases e),fun b ds e=>?_⟩,⟨a,ns,rfl,by simp,hl,fun u0=>rfl,rfl⟩,fun d G' q v H' g r dv=>?_⟩
 ·by_cases hb:b=a
  ·subst hb
   simp at e
   subst e
   refine⟨_,?_,Dens.ints ns⟩
   rcases hS with h | h
   ·rcases hO b with h' | ⟨o,xs,h'⟩ | ⟨ps,h'⟩
    ·rcases h with h | ⟨o,h⟩<;>(rw[h'] at h;cases h)
    ·rcases h with h | ⟨o',h⟩
     ·rw[h'] at h;cases h
     ·exact .inl ⟨o',h⟩
    ·rcases h with h | ⟨o',h⟩<;>(rw[h'] at h;cases h)
   ·exact .inr h
  ·simp[hb] at e
 ·subst q
  unfold zQ at dv
  exact dv
theorem zMM{l:PySem.W.OpenLaw}{k:Nat}{q:Program}{loose:List Str}{XP:(Str→Option Value)→Heap→Prop}{YP:World→Heap→Prop}{d:DefRec}{K:Params→PySem.W.Frag}(hn:l.most=some 63)(hdf:d.params.defaults=[])(hr:wB k callerA)
  (hY:∀(w:World) (h:Heap),YP w h→(K w.params).In h∧∃ ts qn,TabsAt (K w.params) h ts qn)
  (F:∀(w:World) (mg:Str→Option Value) (fa:Addr) (h:Heap),(K w.params).In h→h.Ns mainGlobals mg→mg d.name=some (.ref fa) →
   ∃ fd:FuncData,(∀(s:Shared) (u:Value),BindsTo s fd ⟨[u],[]⟩ [("script",u)])∧∀ base:Heap,(K w.params).In base→base.Ns mainGlobals mg→zC9 l.prog w (K w.params) mg base CX0 k fa fd ["script"] (lSp (K w.params) zF5)) :
  PySem.W.WalkO q loose XP YP l.row.toRowW d [] (fun f vs=>PySem.call f vs) :=
 L2.zOD (n:=63) (k:=k) (x:="script") (CX:=fun u0=>CX0) (sp:=fun w=>lSp (K w.params) zF5) hn (by decide) hdf hr hY F (fun u0 H a ns hl hO hS=>zQ4 hl hO hS) fun u0 u0 u0 u0 u0 z=>z
noncomputable def OkS(s:Int)(b:Bool):Prop:=b=false→0≤s∧s<2147483647
noncomputable def zAg(G:Gp)(l:Addr):Prop:=∃ s b,G.m l=some [.int s,.bl b]∧OkS s b
noncomputable def Dr(l:Addr)(G G':Gp):Prop:=∃ s b,G'=zU G l [.int s,.bl b]∧OkS s b
theorem Dr.st{l:Addr}{G G':Gp}(h:Dr l G G'):zAg G' l:=by
 obtain⟨s,b,rfl,h⟩:=h
 exact⟨s,b,zK,h⟩
theorem Dr.trans{l:Addr}{G G1 G2:Gp}(h:Dr l G G1)(h':Dr l G1 G2):Dr l G G2:=by
 obtain⟨s,b,rfl,h⟩:=h
 obtain⟨s',b',rfl,h'⟩:=h'
 exact⟨s',b',zCM,h'⟩
theorem zOR{G:Gp}{l:Addr}{o:List D}(h:G.m l=some o):zU G l o=G:=by
 cases G with
 | mk m ro =>
  unfold zU
  congr 1
  funext b
  by_cases hb:b=l
  ·subst hb;rw[if_pos rfl];exact h.symm
  ·rw[if_neg hb]
theorem Dr.refl{l:Addr}{G:Gp}(h:zAg G l):Dr l G G:=by
 obtain⟨s,b,h1,h2⟩:=h
 exact⟨s,b,(zOR h1).symm,h2⟩
theorem Dr.ro{l:Addr}{G G':Gp}(h:Dr l G G'):G'.ro=G.ro:=by
 obtain⟨s,b,rfl,h⟩:=h;rfl
theorem Dr.ne{l a:Addr}{G G':Gp}(h:Dr l G G')(ha:a≠l):G'.m a=G.m a:=by
 obtain⟨s,b,rfl,h⟩:=h;exact ze ha
theorem Dr.none{l a:Addr}{G G':Gp}(h:Dr l G G')(s:zAg G l)(ha:G.m a=none):G'.m a=none:=by
 obtain⟨u0,u0,h1,u0⟩:=s
 rw[h.ne (fun e=>by subst e;rw[h1] at ha;cases ha)];exact ha
theorem zAg.ne{l a:Addr}{G:Gp}(s:zAg G l)(ha:G.m a=none):a≠l:=fun e=>by
 obtain⟨u0,u0,h1,u0⟩:=s
 subst e;rw[h1] at ha;cases ha
theorem zAg.ext{l:Addr}{G G':Gp}(s:zAg G l)(h:Sub G G'):zAg G' l:=by
 obtain⟨x,b,h1,h2⟩:=s
 exact⟨x,b,h.m l _ h1,h2⟩
theorem Dr.sub{l:Addr}{G G1 G2:Gp}(h:Dr l G1 G2)(e:Sub G G1):∃ G',Dr l G G'∧Sub G' G2:=by
 obtain⟨s,b,rfl,h⟩:=h
 refine⟨zU G l [.int s,.bl b],⟨s,b,rfl,h⟩,⟨fun a o q=>?_,fun a o q=>e.ro a o q⟩⟩
 by_cases ha:a=l
 ·subst ha;rw[zK] at q ⊢;exact q
 ·rw[ze ha] at q ⊢;exact e.m a o q
theorem zDK{α:Type}(x:α)(r:List α):atI (x::r) 0=some x:=wS (j:=0) rfl
theorem zHu{α:Type}(x y:α)(r:List α):atI (x::y::r) 1=some y:=wS (j:=1) rfl
theorem zMN{α:Type}(x y z:α)(r:List α):atI (x::y::z::r) 2=some z:=wS (j:=2) rfl
theorem zDL{x:D}{r:List D}{G:Gp}{R:Q2}:yS (.tup (x::r)) (.int 0) G R=R x G:=by simp only[yS,zDK]
theorem zDM{x y:D}{r:List D}{G:Gp}{R:Q2}:yS (.tup (x::y::r)) (.int 1) G R=R y G:=by simp only[yS,zHu]
theorem zEz{x y z:D}{r:List D}{G:Gp}{R:Q2}:yS (.tup (x::y::z::r)) (.int 2) G R=R z G:=by simp only[yS,zMN]
theorem zBf{x:D}{ng:Bool}{ds:List D}{G:Gp}{R:Q2}:fIn ng x (.tup ds) G R=(flat 8 x=true∧(∀ d∈ds,flat 8 d=true)∧R (.bl (if ng then !ds.any fun z=>wP z x else ds.any fun z=>wP z x)) G):=rfl
theorem zI1:(0≤sizeLine)=True:=by rw[sizeLine_eq];simp
theorem zI2:(1≤sizeLine)=True:=by rw[sizeLine_eq];simp
theorem zI3:(2≤sizeLine)=True:=by rw[sizeLine_eq];simp
theorem zI4:(3≤sizeLine)=True:=by rw[sizeLine_eq];simp
theorem zAE(p:Prop):(True∧p)=p:=by simp
theorem zBg{p q:Prop}:(if true=true then p else q)=p:=if_pos rfl
theorem zBh{p q:Prop}:(if false=true then p else q)=q:=if_neg (by simp)
section
variable {X:Cx} {pins:List (Addr×Obj)} {σ1:L2.St} {H:Hp} {s:Shared} {A:Around}
theorem zGu(I:zX X pins σ1 H s){n:Nat}{ds:List D}{xs:List V}{its:List Value}{d:D}{v:V}{u:Value}(hd:Dens X.K H ds xs)(rv:za xs its)(h:zQ X.K H d v)(r:RelV v u)(f:∀ z∈ds,flat n z=true)(f':flat n d=true)(hu:A.units+n<cLine) :
  ∃ e:Value→Bool,(∀ y,y∈its.toArray→SeqAt.EqAt A s y u (e y))∧its.length=ds.length∧∀(j:Nat) (w:Value) (z:D),its[j]?=some w→ds[j]?=some z→e w=wP z d:=by
 have l1:=hd.length
 have l2:=rv.length
 obtain⟨e,h1,h2⟩:=zFz (its:=its) (ds:=ds) (fun z=>wP z d) (by omega) (by
  intro i j w z z' a1 a2 a3 a4
  obtain⟨x,b1,b2⟩:=hd.get a3
  obtain⟨x',b3,b4⟩:=hd.get a4
  obtain⟨w1,c1,c2⟩:=rv.get b1
  obtain⟨w2,c3,c4⟩:=rv.get b3
  rw[a1] at c1;cases c1
  rw[a2] at c3;cases c3
  have:=c2.inj c4
  subst this
  exact zQ.inj I b2 b4 (f z (cy a3)) (f z' (cy a4)))
 refine⟨e,fun y hy=>?_,by omega,h1⟩
 have hy':y∈its:=by simpa using hy
 obtain⟨j,hj⟩:=ec hy'
 have hjl:j<its.length:=(bW.mp hj).1
 obtain⟨x,b1,b2⟩:=hd.get (i:=j) (d:=ds[j]'(by omega)) (by simp)
 obtain⟨w1,c1,c2⟩:=rv.get b1
 rw[hj] at c1;cases c1
 rw[h1 j _ (ds[j]'(by omega)) hj (by simp)]
 exact zIw I n _ _ x v _ u A b2 h c2 r (f _ (cZ _)) f' hu
end
section
variable {X:Cx} {e o:Expr} {es:List Expr} {to:zk} {t:wN} {name:Str} {apos cpos:Pos}
noncomputable def zPs(G:Gp)(d:D):Prop:=∃ ds,zBs G d ds
noncomputable def xMt(sp:wm)(to:zk)(t:wN):zk:=fun σ G R=>to σ G fun d G1=>zPs G1 d∧t σ G1 fun ds G2=>sp (d::ds) G2 R
theorem zQ5{idT idL:String}{rT rL:V→List V→Hp→VK→Prop}{sp:wm}(slT:Slot "tuple" name idT)(slL:Slot "list" name idL)(tyT:typeOf (.builtin idT)=pure (.type "method_descriptor"))(tyL:typeOf (.builtin idL)=pure (.type "method_descriptor"))
  (mT:MtR X idT rT) (mL:MtR X idL rL)
  (fT:∀ xs ds G R a vs us H Q,sp (.tup xs::ds) G R→yK X.K G H→SqT X.K H a us→Dens X.K H xs us→Dens X.K H ds vs→(∀ d G',R d G'→∀ v H',yB H H'→yK X.K G' H'→zQ X.K H' d v→Q v H')→rT (.ref a) vs H Q)
  (fL:∀ l ds G R vs H Q,sp (.adr l::ds) G R→yK X.K G H→Dens X.K H ds vs→(∀ d G',R d G'→∀ v H',yB H H'→yK X.K G' H'→zQ X.K H' d v→Q v H')→rL (.ref l) vs H Q)
  (ho:E2 X o to) (ha:A2 X (e::es) t)
  (hbase:attributeBase o name X.env (eval o X.env)=eval o X.env:=by rfl)
  (hfew:((backTo cpos (starEach (e::es) X.env)).all (fun x=>!x.1)&&(backToKw cpos (keywordEach [] X.env)).all (fun x=>x.1.isSome)
   && decide ((e::es).length+([]:List Keyword).length+(if ([]:List Keyword).isEmpty then 0 else 1)<30))=true:=by rfl)
  (hline:(apos.endLine==cpos.line)=true:=by rfl) (hs:starEach (e::es) X.env=(false,eval e X.env)::starEach es X.env:=by rfl) (hplain:(backTo cpos (starEach es X.env)).any (·.1)=false:=by rfl) :
  E2 X (.Call (.Attribute o name apos) (e::es) [] cpos) (xMt sp to t):=by
 intro pins s σ1 H Q I h
 obtain⟨σ,G,R,r,q,k⟩:=h
 refine wpAny_Call_method_late hbase hfew hline rfl (yi (ho pins s σ1 H (fun v H1=>∃ d G1,yB H H1∧yK X.K G1 H1∧zQ X.K H1 d v∧zPs G1 d∧t σ G1 fun ds G2=>sp (d::ds) G2 R) I ⟨σ,G,_,r,q,fun d G1 q1 v H1 g1 r1 d1=>⟨d,G1,g1,r1,d1,q1.1,q1.2⟩⟩) fun v s1 ⟨x,H1,I1,r1,d,G1,g1,rg,dn,sq,q1⟩=>?_)
 have args:∀ {us:List Value} {QQ:List V→Hp→Prop} (hq:∀ ds G2,sp (d::ds) G2 R→∀ vs H2,yB H1 H2→yK X.K G2 H2→Dens X.K H2 ds vs→QQ vs H2),lA X.K t σ1 H1 QQ:=fun hq =>
  ⟨σ,G1,_,r.to g1 rg,q1,hq⟩
 cases d with
 | tup xs =>
  unfold zQ at dn
  obtain⟨a,us0,rfl,hsq,hd⟩:=dn
  cases r1
  obtain⟨h1,ob,h2,h3⟩:=I1.noDict hsq
  refine⟨"tuple",idT,PySem.F.plainAttrs_tuple,slT,tyT,h1,fun b eb=>by cases eb;exact⟨ob,h2,h3⟩,?_⟩
  have hA:=ha cpos pins s1 σ1 H1 (fun vs H2=>rT (.ref a) vs H2 Q) I1 (args (us:=[]) fun ds G2 q2 vs H2 g2 r2 d2=>fT xs ds G2 R a vs us0 H2 Q q2 r2 (g2.sqT hsq) (hd.grow g2) d2 fun d G' q' v H' g'=>k d G' q' v H' ((g1.trans g2).trans g'))
  rw[hs] at hA ⊢
  refine Calls.callWith_builtin (by show(false||(backTo cpos (starEach es X.env)).any (·.1))=false;rw[hplain]<;>rfl) (Calls.evalArgs_plain ?_)
  exact yi hA fun us s2 ⟨vs,H2,I2,r2,q2⟩=>mT pins s2 σ1 H2 (.ref a) vs _ us Q I2 rfl r2 q2
 | adr l =>
  unfold zQ at dn
  subst dn
  cases r1
  obtain⟨ds0,hq0⟩:=sq
  obtain⟨us0,hsq,hd⟩:=rg.sq (show Ls G1 l ds0 from hq0)
  obtain⟨h1,h2⟩:=zLw (T:="list") (x:=.ref l) I1 rfl (.inl ⟨rfl,us0,hsq⟩)
  refine⟨"list",idL,PySem.F.plainAttrs_list,slL,tyL,h1,h2,?_⟩
  have hA:=ha cpos pins s1 σ1 H1 (fun vs H2=>rL (.ref l) vs H2 Q) I1 (args (us:=[]) fun ds G2 q2 vs H2 g2 r2 d2=>fL l ds G2 R vs H2 Q q2 r2 d2 fun d G' q' v H' g'=>k d G' q' v H' ((g1.trans g2).trans g'))
  rw[hs] at hA ⊢
  refine Calls.callWith_builtin (by show(false||(backTo cpos (starEach es X.env)).any (·.1))=false;rw[hplain]<;>rfl) (Calls.evalArgs_plain ?_)
  exact yi hA fun us s2 ⟨vs,H2,I2,r2,q2⟩=>mL pins s2 σ1 H2 (.ref l) vs _ us Q I2 rfl r2 q2
 | _=>obtain⟨u0,hq⟩:=sq;exact hq.elim
noncomputable def zDN(ds:List D)(d:D)(lo j:Nat):Prop:=lo≤j∧(∃ z,ds[j]?=some z∧wP z d=true)∧∀ m z,lo≤m→m<j→ds[m]?=some z→wP z d=false
noncomputable def zPt(K:PySem.W.Frag)(two:Bool):V→List V→Hp→VK→Prop:=fun x vs H Q=>∃(a:Addr) (xs:List V) (ds:List D) (d:D) (v:V) (lo j:Nat),x=.ref a∧vs=(if two then [v,.int (lo:Int)] else [v])∧(two=false→lo=0)∧SqT K H a xs∧Dens K H ds xs∧zQ K H d v∧flat 8 d=true∧(∀ z∈ds,flat 8 z=true)∧zDN ds d lo j∧Q (.int (j:Int)) H
noncomputable def zSE(K:PySem.W.Frag):V→List V→Hp→VK→Prop:=fun x vs H Q=>∃(a:Addr) (xs:List V) (ds:List D) (d:D) (v:V) (j:Nat),x=.ref a∧vs=[v]∧SqL K H a xs∧Dens K H ds xs∧zQ K H d v∧flat 8 d=true∧(∀ z∈ds,flat 8 z=true)∧zDN ds d 0 j∧Q (.int (j:Int)) H
theorem zMO(hu:X.A.units+10<cLine):MtR X "tuple.index" (zPt X.K false):=by
 intro pins s σ H x vs v us Q I rx rv h
 obtain⟨a,xs,ds,d,v0,lo,j,rfl,rfl,h0,hs,hd,hv,f1,f2,⟨i1,⟨z,i2,i3⟩,i4⟩,q⟩:=h
 have hlo:=h0 rfl
 subst hlo
 cases rx
 obtain⟨u,rfl,ru⟩:=vals1 rv
 obtain⟨its,r,ht,hz⟩:=I.tuple hs
 obtain⟨e,e1,e2,e3⟩:=zGu (A:=X.A.in1) I hd r hv ru f2 f1 (by rw[in1_units];omega)
 obtain⟨⟨cls,dd,data,sl⟩,ho,hc,n,hdt⟩:=id ht
 simp only at hc hdt
 subst hc hdt
 have hj:j<ds.length:=(bW.mp i2).1
 have hj':j<its.toArray.size:=by simpa[e2] using hj
 refine call_meets PySem.F.slot_tuple_index ⟨_,ho,rfl⟩ PySem.F.entry_tuple_index (PySem.F.args_tuple_index_2 _ _) (HT.zGo a its.toArray n dd sl u e j hj' ?_ fun m hm hmj=>?_) ⟨ho,e1,⟨.int j,H,I.tok _,⟨_,rfl⟩,q⟩⟩
 ·rw[e3 j _ z (by simp at hj' ⊢) i2];exact i3
 ·have hm':m<its.length:=by simpa using hm
  rw[e3 m _ (ds[m]'(by omega)) (by simp) (by simp)]
  exact i4 m _ (cW _) hmj (by simp)
theorem zMP(hu:X.A.units+10<cLine):MtR X "tuple.index" (zPt X.K true):=by
 intro pins s σ H x vs v us Q I rx rv h
 obtain⟨a,xs,ds,d,v0,lo,j,rfl,rfl,h0,hs,hd,hv,f1,f2,⟨i1,⟨z,i2,i3⟩,i4⟩,q⟩:=h
 cases rx
 obtain⟨u,u2,rfl,ru,ru2⟩:=vals2 rv
 obtain⟨t2,rfl⟩:=ru2
 obtain⟨its,r,ht,hz⟩:=I.tuple hs
 obtain⟨e,e1,e2,e3⟩:=zGu (A:=X.A.in1) I hd r hv ru f2 f1 (by rw[in1_units];omega)
 obtain⟨⟨cls,dd,data,sl⟩,ho,hc,n,hdt⟩:=id ht
 simp only at hc hdt
 subst hc hdt
 have hj:j<ds.length:=(bW.mp i2).1
 have hj':j<its.toArray.size:=by simpa[e2] using hj
 refine call_meets PySem.F.slot_tuple_index ⟨_,ho,rfl⟩ PySem.F.entry_tuple_index (PySem.F.args_tuple_index_3 _ _ _) (HT.zGp a its.toArray n dd sl u e lo t2 j hj' ?_ i1 fun m hm hlm hmj=>?_) ⟨ho,e1,⟨.int j,H,I.tok _,⟨_,rfl⟩,q⟩⟩
 ·rw[e3 j _ z (by simp at hj' ⊢) i2];exact i3
 ·have hm':m<its.length:=by simpa using hm
  rw[e3 m _ (ds[m]'(by omega)) (by simp) (by simp)]
  exact i4 m _ hlm hmj (by simp)
theorem zOS(hu:X.A.units+10<cLine):MtR X "list.index" (zSE X.K):=by
 intro pins s σ H x vs v us Q I rx rv h
 obtain⟨a,xs,ds,d,v0,j,rfl,rfl,hs,hd,hv,f1,f2,⟨i1,⟨z,i2,i3⟩,i4⟩,q⟩:=h
 cases rx
 obtain⟨u,rfl,ru⟩:=vals1 rv
 obtain⟨its,r,pl,hz⟩:=I.list hs
 obtain⟨e,e1,e2,e3⟩:=zGu (A:=X.A.in1) I hd r hv ru f2 f1 (by rw[in1_units];omega)
 obtain⟨⟨cls,dd,data,sl⟩,ho,hc,n,hdt⟩:=id pl.isList
 simp only at hc hdt
 subst hc hdt
 have hj:j<ds.length:=(bW.mp i2).1
 have hj':j<its.toArray.size:=by simpa[e2] using hj
 have hz':its.length≤sizeLine:=by rw[← r.length];exact hz
 rw[sizeLine_eq] at hz'
 refine call_meets PySem.F.slot_list_index ⟨_,ho,rfl⟩ PySem.F.entry_list_index (PySem.F.args_list_index_2 _ _) (SeqAt.list_indexAt a its.toArray n dd sl u e j hj' (by simp at hj';omega) ?_ fun m hm hmj=>?_) ⟨ho,e1,⟨.int j,H,I.tok _,⟨_,rfl⟩,q⟩⟩
 ·rw[e3 j _ z (by simp at hj' ⊢) i2];exact i3
 ·have hm':m<its.length:=by simpa using hm
  rw[e3 m _ (ds[m]'(by omega)) (by simp) (by simp)]
  exact i4 m _ (cW _) hmj (by simp)
noncomputable def wF:wm:=fun ds G R=>match ds with
 | [o,d]=>∃ xs j,zBs G o xs∧flat 8 d=true∧(∀ z∈xs,flat 8 z=true)∧zDN xs d 0 j∧R (.int (j:Int)) G
 | _=>False
noncomputable def zCP:wm:=fun ds G R=>match ds with
 | [.tup xs,d,.int lo]=>∃(l j:Nat),lo=(l:Int)∧flat 8 d=true∧(∀ z∈xs,flat 8 z=true)∧zDN xs d l j∧R (.int (j:Int)) G
 | _=>False
theorem zE0{k:Nat}(hr:wB k X.A)(ho:E2 X o to)(ha:A2 X [e] t)
  (hbase:attributeBase o "index" X.env (eval o X.env)=eval o X.env:=by rfl)
  (hfew:((backTo cpos (starEach [e] X.env)).all (fun x=>!x.1)&&(backToKw cpos (keywordEach [] X.env)).all (fun x=>x.1.isSome)
   && decide ([e].length+([]:List Keyword).length+(if ([]:List Keyword).isEmpty then 0 else 1)<30))=true:=by rfl)
  (hline:(apos.endLine==cpos.line)=true:=by rfl) (hs:starEach [e] X.env=(false,eval e X.env)::starEach [] X.env:=by rfl) (hplain:(backTo cpos (starEach [] X.env)).any (·.1)=false:=by rfl) :
  E2 X (.Call (.Attribute o "index" apos) [e] [] cpos) (xMt wF to t):=by
 refine zQ5 PySem.F.slot_tuple_index PySem.F.slot_list_index PySem.F.type_tuple_index PySem.F.type_list_index (zMO (by have:=hr.units;omega)) (zOS (by have:=hr.units;omega)) ?_ ?_ ho ha hbase hfew hline hs hplain
 ·intro xs ds G R a vs us H Q q r hsq hd d2 k
  unfold wF at q
  split at q
  ·rename_i o d e
   cases e
   obtain⟨xs',j,e1,f1,f2,i,q⟩:=q
   cases (show xs=xs' from e1)
   obtain⟨v,rfl,d3⟩:=zAi d2
   exact⟨a,us,xs,d,v,0,j,rfl,rfl,fun u0=>rfl,hsq,hd,d3,f1,f2,i,k _ G q _ H (.refl H) r (by unfold zQ;rfl)⟩
  ·exact q.elim
 ·intro l ds G R vs H Q q r d2 k
  unfold wF at q
  split at q
  ·rename_i o d e
   cases e
   obtain⟨xs',j,e1,f1,f2,i,q⟩:=q
   obtain⟨v,rfl,d3⟩:=zAi d2
   obtain⟨us,hsq,hd⟩:=r.sq (show Ls G l xs' from e1)
   exact⟨l,us,xs',d,v,j,rfl,rfl,hsq,hd,d3,f1,f2,i,k _ G q _ H (.refl H) r (by unfold zQ;rfl)⟩
  ·exact q.elim
theorem zMQ{k:Nat}{e2:Expr}(hr:wB k X.A)(ho:E2 X o to)(ha:A2 X [e,e2] t)
  (hbase:attributeBase o "index" X.env (eval o X.env)=eval o X.env:=by rfl)
  (hfew:((backTo cpos (starEach [e,e2] X.env)).all (fun x=>!x.1)&&(backToKw cpos (keywordEach [] X.env)).all (fun x=>x.1.isSome)
   && decide ([e,e2].length+([]:List Keyword).length+(if ([]:List Keyword).isEmpty then 0 else 1)<30))=true:=by rfl)
  (hline:(apos.endLine==cpos.line)=true:=by rfl) (hs:starEach [e,e2] X.env=(false,eval e X.env)::starEach [e2] X.env:=by rfl) (hplain:(backTo cpos (starEach [e2] X.env)).any (·.1)=false:=by rfl) :
  E2 X (.Call (.Attribute o "index" apos) [e,e2] [] cpos) (xMt zCP to t):=by
 refine zQ5 (rL:=fun u0 u0 u0 u0=>False) PySem.F.slot_tuple_index PySem.F.slot_list_index PySem.F.type_tuple_index PySem.F.type_list_index (zMP (by have:=hr.units;omega)) (fun u0 u0 u0 u0 u0 u0 u0 u0 u0 u0 u0 u0 z=>z.elim) ?_ ?_ ho ha hbase hfew hline hs hplain
 ·intro xs ds G R a vs us H Q q r hsq hd d2 k
  unfold zCP at q
  split at q
  ·rename_i xs' d lo e
   cases e
   obtain⟨l,j,rfl,f1,f2,i,q⟩:=q
   obtain⟨v,v',rfl,d3,d4⟩:=zPl d2
   unfold zQ at d4
   subst d4
   exact⟨a,us,xs,d,v,l,j,rfl,rfl,fun z=>(by cases z),hsq,hd,d3,f1,f2,i,k _ G q _ H (.refl H) r (by unfold zQ;rfl)⟩
  ·exact q.elim
 ·intro l ds G R vs H Q q r d2 k
  unfold zCP at q
  split at q
  ·rename_i e;cases e
  ·exact q.elim
noncomputable def zSF(K:PySem.W.Frag):V→List V→Hp→VK→Prop:=fun x vs H Q=>∃ a xs ds d v,x=.ref a∧vs=[v]∧SqT K H a xs∧Dens K H ds xs∧zQ K H d v∧flat 8 d=true∧(∀ z∈ds,flat 8 z=true)∧Q (.int ((ds.countP fun z=>wP z d:Nat):Int)) H
theorem zKl{its:List Value}{ds:List D}{e:Value→Bool}{g:D→Bool}:its.length=ds.length→(∀(j:Nat) (w:Value) (z:D),its[j]?=some w→ds[j]?=some z→e w=g z)→its.countP e=ds.countP g:=by
 induction its generalizing ds with
 | nil =>
  intro h u0
  have:ds=[]:=ef.mp h.symm
  subst this;rfl
 | cons w r ih =>
  intro h hh
  cases ds with
  | nil=>simp at h
  | cons z ds =>
   rw[List.countP_cons,List.countP_cons,ih (by simpa using h) fun j w' z' h1 h2=>hh (j+1) w' z' (by simpa using h1) (by simpa using h2),hh 0 w z rfl rfl]
theorem zOT(hu:X.A.units+10<cLine):MtR X "tuple.count" (zSF X.K):=by
 intro pins s σ H x vs v us Q I rx rv h
 obtain⟨a,xs,ds,d,v0,rfl,rfl,hs,hd,hv,f1,f2,q⟩:=h
 cases rx
 obtain⟨u,rfl,ru⟩:=vals1 rv
 obtain⟨its,r,ht,hz⟩:=I.tuple hs
 obtain⟨e,e1,e2,e3⟩:=zGu (A:=X.A.in1) I hd r hv ru f2 f1 (by rw[in1_units];omega)
 obtain⟨⟨cls,dd,data,sl⟩,ho,hc,n,hdt⟩:=id ht
 simp only at hc hdt
 subst hc hdt
 refine call_meets PySem.F.slot_tuple_count ⟨_,ho,rfl⟩ PySem.F.entry_tuple_count (PySem.F.args_tuple_count_2 _ _) (SeqAt.tuple_countAt a its.toArray n dd sl u e) ⟨ho,e1,?_⟩
 rw[List.toList_toArray,zKl e2 e3]
 exact⟨.int _,H,I.tok _,⟨_,rfl⟩,q⟩
noncomputable def zAF:wm:=fun ds G R=>match ds with
 | [.tup xs,d]=>flat 8 d=true∧(∀ z∈xs,flat 8 z=true)∧R (.int ((xs.countP fun z=>wP z d:Nat):Int)) G
 | _=>False
theorem zHv{k:Nat}(hr:wB k X.A)(ho:E2 X o to)(ha:A2 X [e] t)
  (hbase:attributeBase o "count" X.env (eval o X.env)=eval o X.env:=by rfl)
  (hfew:((backTo cpos (starEach [e] X.env)).all (fun x=>!x.1)&&(backToKw cpos (keywordEach [] X.env)).all (fun x=>x.1.isSome)
   && decide ([e].length+([]:List Keyword).length+(if ([]:List Keyword).isEmpty then 0 else 1)<30))=true:=by rfl)
  (hline:(apos.endLine==cpos.line)=true:=by rfl) (hs:starEach [e] X.env=(false,eval e X.env)::starEach [] X.env:=by rfl) (hplain:(backTo cpos (starEach [] X.env)).any (·.1)=false:=by rfl) :
  E2 X (.Call (.Attribute o "count" apos) [e] [] cpos) (xMt zAF to t):=by
 refine zQ5 (rL:=fun u0 u0 u0 u0=>False) PySem.F.slot_tuple_count PySem.F.slot_list_count PySem.F.type_tuple_count PySem.F.type_list_count (zOT (by have:=hr.units;omega)) (fun u0 u0 u0 u0 u0 u0 u0 u0 u0 u0 u0 u0 z=>z.elim) ?_ ?_ ho ha hbase hfew hline hs hplain
 ·intro xs ds G R a vs us H Q q r hsq hd d2 k
  unfold zAF at q
  split at q
  ·rename_i xs' d e
   cases e
   obtain⟨f1,f2,q⟩:=q
   obtain⟨v,rfl,d3⟩:=zAi d2
   exact⟨a,us,xs,d,v,rfl,rfl,hsq,hd,d3,f1,f2,k _ G q _ H (.refl H) r (by unfold zQ;rfl)⟩
  ·exact q.elim
 ·intro l ds G R vs H Q q r d2 k
  unfold zAF at q
  split at q
  ·rename_i e;cases e
  ·exact q.elim
end
end L3
namespace HT
section
variable {prog:Program} {w:World} {A:Around} {R:Result→Shared→Prop} {I:Addr} {fp wr:List Addr} {n:Nat} {P:Nat→Value→Prop} {St:Nat→Heap→Prop}
end
section
variable {prog:Program} {w:World} {A:Around} {E:Value→Shared→Prop} {s:Shared}
noncomputable def zBi(h:Heap)(as:List Addr)(nss:List (List Int)):Prop:=as.length=nss.length∧∀(i:Nat) a ns,as[i]?=some a→nss[i]?=some ns→∃ its:List Value,IsTup h a its.toArray∧IntsAre its ns
theorem IsTup.at'{h h':Heap}{a:Addr}{its:Array Value}(x:IsTup h a its)(k:∀ o,h.get? a=some o→h'.get? a=some o):IsTup h' a its:=let ⟨o,h1,h2,h3⟩:=x;⟨o,k o h1,h2,h3⟩
theorem zBi.keep{h h':Heap}{as:List Addr}{nss:List (List Int)}(x:zBi h as nss)(k:∀ a∈as,∀ o,h.get? a=some o→h'.get? a=some o):zBi h' as nss :=
 ⟨x.1,fun i a ns h1 h2=>by obtain⟨its,t,q⟩:=x.2 i a ns h1 h2;exact⟨its,IsTup.at' t (k a (cy h1)),q⟩⟩
theorem zBi.lt{h:Heap}{as:List Addr}{nss:List (List Int)}(x:zBi h as nss):∀ a∈as,a<h.objs.size:=fun a ha=>by
 obtain⟨i,hi⟩:=ec ha
 have hl:i<as.length:=(bW.mp hi).1
 obtain⟨its,⟨o,e,u0⟩,u0⟩:=x.2 i a (nss[i]'(by rw[← x.1];exact hl)) hi (by simp)
 exact cc e
end
end HT
namespace L3
open L2
section
variable {X:Cx} {a b c d e o:Expr} {es:List Expr} {pos p:Pos} {ta tb tc td te:zk} {tl:TL2}
theorem zJs{x:Str}{n:Int}{t:Tok}(hg:Gl X x)(hm:X.mg x=some (.int n t))(hd:(x==("__debug__":Str))=false:=by decide):E2 X (.Name x pos) (xC (.int n)):=by
 refine PE.mono (zNp (v:=.int n) hg hm ⟨t,rfl⟩ hd) ?_
 rintro σ1 H Q ⟨σ,G,R,r,q,k⟩
 exact k _ G q _ H (.refl H) r.g (by unfold zQ;rfl)
theorem zD1{A:Around}{prog:Program}{w:World}{bs:List Bool}:TruthOf prog w A (fun i v=>(bs.map Value.bool).toArray[i]?=some v) (fun i=>bs.getD i false):=by
 intro i v s Q E h q
 have hi:i<bs.length:=by
  have:=(dQ.mp h).1
  simpa using this
 have:v=.bool bs[i]:=by
  have:=h
  simp[hi] at this
  exact this.symm
 subst this
 have e:bs.getD i false=bs[i]:=by simp[cP,hi]
 have q':Q (bs.getD i false) s:=q
 rw[e] at q'
 exact dR q'
theorem all_range(bs:List Bool):(bQ bs.length).all (fun i=>bs.getD i false)=bs.all id:=by
 rw[cF]
 simp only[eU,bX,id]
 constructor
 ·intro h x hx
  obtain⟨i,hi⟩:=ec hx
  have hl:i<bs.length:=(bW.mp hi).1
  have:=h i hl
  simp[cP,hi] at this
  exact this
 ·intro h i hi
  have:bs.getD i false=bs[i]:=by simp[cP,hi]
  rw[this]
  exact h _ (cZ _)
theorem any_range(bs:List Bool):(bQ bs.length).any (fun i=>bs.getD i false)=bs.any id:=by
 rw[cF]
 simp only[fh,bX,id]
 constructor
 ·rintro⟨i,hi,h⟩
  have:bs.getD i false=bs[i]:=by simp[cP,hi]
  rw[this] at h
  exact⟨_,cZ _,h⟩
 ·rintro⟨x,hx,rfl⟩
  obtain⟨i,hi⟩:=ec hx
  have hl:i<bs.length:=(bW.mp hi).1
  exact⟨i,hl,by simp[cP,hi]⟩
theorem zCw:∀ {bs:List Bool} {us:List Value},za (bs.map V.bl) us→us=bs.map Value.bool
 | [],_,h=>by cases h;rfl
 | b::r,_,h=>by
  rw[cM] at h
  cases h with
  | cons h1 h2=>rw[zCw h2,(show _=Value.bool b from h1)];rfl
theorem zKm(hc:X.calm=true):yg X (.builtin "all") (fun xs H Q=>∃ l bs,xs=[.ref l]∧SqL X.K H l (ce V.bl bs)∧Q (.bl (bs.all id)) H):=by
 intro pins s σ H xs us Q I r h
 obtain⟨l,bs,rfl,hs,q⟩:=h
 obtain⟨u,rfl,rx⟩:=vals1 r
 cases rx
 obtain⟨its,rv,pl,u0⟩:=I.list hs
 have:=zCw rv
 subst this
 have hl:=pl.isList
 have ll:l<s.heap.objs.size:=by obtain⟨o,e,u0⟩:=hl;exact cc e
 refine call_all_walkS (fu hl ?_)
 refine⟨_,_,_,_,_,_,_,fun i=>bs.getD i false,rfl,(Walks.list (A:=X.A.in1) (I.ok.hd hc) s.heap.objs.size l (cJ ll) (bs.map Value.bool).toArray).toS,⟨⟨_,cb _ rfl,rfl,rfl⟩,hl.push _⟩,zD1,fun s' hm=>?_⟩
 have e1:(bs.map Value.bool).toArray.size=bs.length:=by simp
 rw[e1,all_range,Moved.eq_with hm]
 refine⟨.bl _,H,I.kept (t':=s'.toks) fun b o e=>hm.heap b o (fun z=>?_) (bP _ e),rfl,q⟩
 rw[cg] at z
 have:=cc e
 rw[z] at this
 exact absurd this (dG _)
theorem zKn(hc:X.calm=true):yg X (.builtin "any") (fun xs H Q=>∃ l bs,xs=[.ref l]∧SqL X.K H l (ce V.bl bs)∧Q (.bl (bs.any id)) H):=by
 intro pins s σ H xs us Q I r h
 obtain⟨l,bs,rfl,hs,q⟩:=h
 obtain⟨u,rfl,rx⟩:=vals1 r
 cases rx
 obtain⟨its,rv,pl,u0⟩:=I.list hs
 have:=zCw rv
 subst this
 have hl:=pl.isList
 have ll:l<s.heap.objs.size:=by obtain⟨o,e,u0⟩:=hl;exact cc e
 refine call_any_walkS (fu hl ?_)
 refine⟨_,_,_,_,_,_,_,fun i=>bs.getD i false,rfl,(Walks.list (A:=X.A.in1) (I.ok.hd hc) s.heap.objs.size l (cJ ll) (bs.map Value.bool).toArray).toS,⟨⟨_,cb _ rfl,rfl,rfl⟩,hl.push _⟩,zD1,fun s' hm=>?_⟩
 have e1:(bs.map Value.bool).toArray.size=bs.length:=by simp
 rw[e1,any_range,Moved.eq_with hm]
 refine⟨.bl _,H,I.kept (t':=s'.toks) fun b o e=>hm.heap b o (fun z=>?_) (bP _ e),rfl,q⟩
 rw[cg] at z
 have:=cc e
 rw[z] at this
 exact absurd this (dG _)
noncomputable def zMR:wm:=fun ds G R=>∃ bs:List Bool,ds=bs.map D.bl∧R (.bl (bs.all id)) G
noncomputable def zQ6:wm:=fun ds G R=>∃ bs:List Bool,ds=bs.map D.bl∧R (.bl (bs.any id)) G
theorem Dens.bools_inv{K:PySem.W.Frag}{H:Hp}:∀ {bs:List Bool} {xs:List V},Dens K H (bs.map D.bl) xs→xs=bs.map V.bl
 | [],xs,h=>by unfold Dens at h;exact h
 | n::r,xs,h=>by
  rw[cM] at h
  unfold Dens at h
  obtain⟨x,y,rfl,h1,h2⟩:=h
  unfold zQ at h1
  rw[h1,Dens.bools_inv h2];rfl
theorem zPu(hc:X.calm=true)(hg:Gl X "all")(hm:X.mg "all"=none)(ha:F2 X e tl)(he:starEach [e] X.env=(false,eval e X.env)::starEach [] X.env:=by rfl)(hpl:(backTo pos (starEach [] X.env)).any (·.1)=false:=by rfl) :
  E2 X (.Call (.Name "all" p) [e] [] pos) (zc zMR tl):=zDF (zKm hc) (by
   rintro ds G R l xs H Q ⟨bs,rfl,h⟩ r e d k
   have:=d.bools_inv
   subst this
   exact⟨l,bs,rfl,.of e,k _ G h _ H (.refl H) r (by unfold zQ;rfl)⟩) hg hm (by decide +kernel) ha (by decide) (by decide) he hpl
theorem zSG(hc:X.calm=true)(hg:Gl X "any")(hm:X.mg "any"=none)(ha:F2 X e tl)(he:starEach [e] X.env=(false,eval e X.env)::starEach [] X.env:=by rfl)(hpl:(backTo pos (starEach [] X.env)).any (·.1)=false:=by rfl) :
  E2 X (.Call (.Name "any" p) [e] [] pos) (zc zQ6 tl):=zDF (zKn hc) (by
   rintro ds G R l xs H Q ⟨bs,rfl,h⟩ r e d k
   have:=d.bools_inv
   subst this
   exact⟨l,bs,rfl,.of e,k _ G h _ H (.refl H) r (by unfold zQ;rfl)⟩) hg hm (by decide +kernel) ha (by decide) (by decide) he hpl
noncomputable def zEQ(f g:D→D→Gp→Q2→Prop)(ta tb tc:zk):zk:=fun σ G R=>ta σ G fun x G1=>tb σ G1 fun y G2=>f x y G2 fun z G3=>match z with | .bl k=>if k=true then tc σ G3 fun w G4=>g y w G4 R else R (.bl false) G3 | _=>False
section
variable {op op' op'':CmpOp} {r r' r'':R2} {f g h:D→D→Gp→Q2→Prop}
theorem zHw{K:PySem.W.Frag}(hf:Fit K r f)(hg:Fit K r' g){σ1:L2.St}{H:Hp}{Q:VK}(hh:lE K (zEQ f g ta tb tc) σ1 H Q):zLr r r' (lE K ta) (lE K tb) (lE K tc) σ1 H Q:=by
 obtain⟨σ,G,R,rl,t,k⟩:=hh
 refine⟨σ,G,_,rl,t,fun dx G1 t1 x H1 g1 r1 d1=>?_⟩
 refine⟨σ,G1,_,rl.to g1 r1,t1,fun dy G2 t2 y H2 g2 r2 d2=>?_⟩
 refine hf dx dy G2 _ x y H2 _ t2 r2 (d1.grow g2) d2 fun dz G3 t3 z H3 g3 r3 d3=>?_
 cases dz with
 | bl kk =>
  unfold zQ at d3
  refine⟨kk,d3,?_⟩
  cases kk with
  | true =>
   dsimp only at t3
   rw[if_pos rfl] at t3
   rw[if_pos rfl]
   refine⟨σ,G3,_,rl.to ((g1.trans g2).trans g3) r3,t3,fun dw G4 t4 w H4 g4 r4 d4=>?_⟩
   exact hg dy dw G4 R y w H4 Q t4 r4 ((d2.grow g3).grow g4) d4 fun d G' q v H' g' r' d'=>k d G' q v H' ((((g1.trans g2).trans g3).trans g4).trans g') r' d'
  | false =>
   dsimp only at t3
   rw[if_neg (by simp)] at t3
   rw[if_neg (by simp)]
   exact k _ G3 t3 _ H3 ((g1.trans g2).trans g3) r3 (by unfold zQ;rfl)
 | _=>exact t3.elim
theorem zSH(ho:OpR X (compareOp op) r)(ho':OpR X (compareOp op') r')(hf:Fit X.K r f)(hg:Fit X.K r' g)(ha:E2 X a ta)(hb:E2 X b tb)(hc:E2 X c tc)(hm:lastMarks [op,op'] [b,c]=false:=by with_unfolding_all rfl) :
  T2 X (.Compare a [op,op'] [b,c] pos) (xB (zEQ f g ta tb tc)):=by
 refine PT.mono (zLs ho ho' ha hb hc hm) ?_
 rintro σ1 H Q ⟨σ,G,R,rl,t,k⟩
 refine zHw hf hg ⟨σ,G,_,rl,t,fun d G' q v H' g' r' d'=>?_⟩
 cases d with
 | bl b =>
  unfold zQ at d'
  exact⟨b,d',k b G' q H' g' r'⟩
 | _=>exact q.elim
end
theorem zQ7:OpR X (compareOp .Is) (fun x y H Q=>∃ i j,x=.bl i∧y=.bl j∧Q (.bl (i==j)) H):=by
 intro pins s σ H x y v u Q I rx ry h
 obtain⟨i,j,rfl,rfl,q⟩:=h
 cases rx
 cases ry
 have:wpAny (model X.prog X.w) X.A (compareOp .Is (.bool i) (.bool j)) (fun v s'=>v=.bool (i==j)∧s'=s) X.xe s:=by
  cases i<;>cases j<;>exact bS ⟨rfl,rfl⟩
 exact yi this fun v s' ⟨e1,e2⟩=>by subst e1 e2;exact⟨.bl _,H,I,rfl,q⟩
theorem zKo:OpR X (compareOp .IsNot) (fun x y H Q=>∃ i j,x=.bl i∧y=.bl j∧Q (.bl (!(i==j))) H):=by
 intro pins s σ H x y v u Q I rx ry h
 obtain⟨i,j,rfl,rfl,q⟩:=h
 cases rx
 cases ry
 have:wpAny (model X.prog X.w) X.A (compareOp .IsNot (.bool i) (.bool j)) (fun v s'=>v=.bool (!(i==j))∧s'=s) X.xe s:=by
  cases i<;>cases j<;>exact bS ⟨rfl,rfl⟩
 exact yi this fun v s' ⟨e1,e2⟩=>by subst e1 e2;exact⟨.bl _,H,I,rfl,q⟩
noncomputable def fIs(ng:Bool):D→D→Gp→Q2→Prop:=fun x y G R=>match x,y with | .bl i,.bl j=>R (.bl (if ng then !(i==j) else i==j)) G | _,_=>False
theorem zMS{K:PySem.W.Frag}{ng:Bool}:Fit K (fun x y H Q=>∃ i j,x=.bl i∧y=.bl j∧Q (.bl (if ng then !(i==j) else i==j)) H) (fIs ng):=by
 intro dx dy G R x y H Q h r d1 d2 k
 unfold fIs at h
 split at h
 ·rename_i i j
  unfold zQ at d1 d2
  exact⟨i,j,d1,d2,k _ G h _ H (.refl H) r (by unfold zQ;rfl)⟩
 ·exact h.elim
theorem zSz(ha:E2 X a ta)(hb:E2 X b tb):E2 X (.Compare a [.Is] [b] pos) (zO (fIs false) ta tb):=zFv zQ7 (zMS (ng:=false)) ha hb (zAC _)
theorem zGv(ha:E2 X a ta)(hb:E2 X b tb):T2 X (.Compare a [.IsNot] [b] pos) (xB (zO (fIs true) ta tb)):=zCi zKo (zMS (ng:=true)) ha hb (zAC _)
end
end L3
namespace K
open L2 L3
noncomputable abbrev nD(n:Nat):D:=.int (n:Int)
noncomputable def wG(n:Nat):List (Nat×Nat):=(bQ n).flatMap fun i=>(bQ (n-(i+1))).map fun k=>(i,i+1+k)
noncomputable def yw(p:Nat×Nat):D:=.tup [nD p.1,nD p.2]
noncomputable def zS(n:Nat)(q:Nat×Nat→Bool):D:=.tup [nD n,.tup (((wG n).filter q).map yw)]
noncomputable def yW(q:Nat×Nat→Bool)(i j:Nat):Bool:=decide (i≠j)&&q (min i j,max i j)
theorem wH{n:Nat}{p:Nat×Nat}:p∈wG n↔p.1<p.2∧p.2<n:=by
 obtain⟨i,j⟩:=p
 unfold wG
 simp only[List.mem_flatMap,bY,bX,Prod.mk.injEq]
 constructor
 ·rintro⟨a,ha,k,hk,rfl,rfl⟩;omega
 ·rintro⟨h1,h2⟩;exact⟨i,by omega,j-(i+1),by omega,rfl,by omega⟩
theorem zCj{α β:Type}{f:α→List β}:∀ {l:List α},l.Nodup→(∀ x∈l,(f x).Nodup)→(∀ x∈l,∀ y∈l,x≠y→∀ z,z∈f x→z∉f y)→(l.flatMap f).Nodup
 | [],_,_,_=>by simp
 | a::r,h,h1,h2=>by
  rw[List.flatMap_cons]
  obtain⟨ha,hr⟩:=du.mp h
  refine eN.mpr ⟨h1 a (by simp),zCj hr (fun x hx=>h1 x (by simp[hx])) (fun x hx y hy=>h2 x (by simp[hx]) y (by simp[hy])),fun x hx y hy e=>?_⟩
  subst e
  obtain⟨b,hb,hz⟩:=List.mem_flatMap.mp hy
  exact h2 a (by simp) b (by simp[hb]) (fun e=>ha (e▸hb)) x hx hz
theorem zCk{α β:Type}{f:α→β}(hf:∀ x y,f x=f y→x=y):∀ {l:List α},l.Nodup→(l.map f).Nodup
 | [],_=>by simp
 | a::r,h=>by
  obtain⟨ha,hr⟩:=du.mp h
  rw[cM]
  refine du.mpr ⟨fun hm=>?_,zCk hf hr⟩
  obtain⟨b,hb,e⟩:=bY.mp hm
  exact ha (hf _ _ e▸hb)
theorem zF6(n:Nat):(wG n).Nodup:=by
 unfold wG
 refine zCj dE (fun i u0=>zCk (fun x y e=>by simpa using e) dE) fun i u0 j u0 hne z hz hz'=>?_
 obtain⟨k,u0,rfl⟩:=bY.mp hz
 obtain⟨k',u0,e⟩:=bY.mp hz'
 exact hne (by simpa using(congrArg Prod.fst e).symm)
theorem zE1{n:Nat}(h:n≤100):(wG n).length≤10000:=by
 unfold wG
 rw[List.length_flatMap]
 have:∀ l:List Nat,(∀ x∈l,x≤100)→l.sum≤100*l.length:=by
  intro l
  induction l with
  | nil=>simp
  | cons a r ih =>
   intro h
   have h1:=h a (by simp)
   have h2:=ih fun x hx=>h x (by simp[hx])
   simp only[fk,bO];omega
 have q:=this ((bQ n).map fun i=>((bQ (n-(i+1))).map fun k=>(i,i+1+k)).length) (by simp;omega)
 simp only[bU,cz] at q ⊢
 omega
theorem zHx{n:Nat}(p:Nat×Nat):flat (n+1) (yw p)=true:=by simp[yw,flat]
theorem zCQ{i j:Int}:wP (.int i) (.int j)=decide (i=j):=by show(i==j)=decide (i=j);rw[cF];simp
theorem zOU(p q:Nat×Nat):wP (yw p) (yw q)=decide (p=q):=by
 obtain⟨a,b⟩:=p
 obtain⟨c,d⟩:=q
 show(((a:Int)==(c:Int))&&(((b:Int)==(d:Int))&&true))=decide ((a,b)=(c,d))
 rw[cF];simp;omega
theorem zOV(l:List (Nat×Nat))(p:Nat×Nat):((l.map yw).any fun z=>wP z (yw p))=decide (p∈l):=by
 rw[List.any_map,cF]
 simp only[fh,Function.comp,zOU,decide_eq_true_eq]
 constructor
 ·rintro⟨x,h,rfl⟩;exact h
 ·intro h;exact⟨p,h,rfl⟩
theorem zEG{a b:Nat}:((a:Int)=(b:Int))↔a=b:=by omega
theorem zBj{n:Nat}{q:Nat×Nat→Bool}{G:Gp}{R:Q2}:yS (zS n q) (.int 0) G R=R (nD n) G:=zDL
theorem zB7{n:Nat}{q:Nat×Nat→Bool}{G:Gp}{R:Q2}:yS (zS n q) (.int 1) G R=R (.tup (((wG n).filter q).map yw)) G:=zDM
noncomputable def yx:List D→Gp→(List D→Gp→Prop)→Prop:=fun ds G R=>∃ n:Nat,ds=[nD n]∧n≤100∧R ((wG n).map yw) G
theorem zCx:∀ ds G R R',(∀ ls G',R ls G'→R' ls G')→yx ds G R→yx ds G R':=by
 rintro ds G R R' h ⟨n,e,hn,q⟩
 exact⟨n,e,hn,h _ _ q⟩
noncomputable def yL:List D→Gp→(List D→Gp→Prop)→Prop:=fun ds G R=>∃ ps:List Nat,ds=[.tup (ps.map nD)]∧ps.length≤100∧R (((wG ps.length).map fun p=>(ps.getD p.1 0,ps.getD p.2 0)).map yw) G
theorem zCl:∀ ds G R R',(∀ ls G',R ls G'→R' ls G')→yL ds G R→yL ds G R':=by
 rintro ds G R R' h ⟨n,e,hn,q⟩
 exact⟨n,e,hn,h _ _ q⟩
noncomputable def yj:=yx
theorem zDO:∀ ds G R R',(∀ ls G',R ls G'→R' ls G')→yj ds G R→yj ds G R':=zCx
noncomputable def wT:wm:=fun ds G R=>∃(n:Nat) (q:Nat×Nat→Bool) (i j:Nat),ds=[zS n q,nD i,nD j]∧i<n∧j<n∧R (.bl (yW q i j)) G
noncomputable def zAG:wm:=fun ds G R=>∃(n:Nat) (q:Nat×Nat→Bool) (i:Nat),ds=[zS n q,nD i]∧i<n∧n≤100∧R (.tup (((bQ n).filter (yW q i)).map nD)) G
noncomputable def zGw:ye:=(zl (zO (fIn false) (yZ (zA (zJ zBA (zA (zB 1) (zA (zB 2) zH))) (zA (zJ zBT (zA (zB 1) (zA (zB 2) zH))) zH))) (zO yS (zB 0) (xC (.int 1)))))
theorem zOW{n:Nat}{q:Nat×Nat→Bool}{i j:Nat}(hi:i<n)(hj:j<n):decide ((min i j,max i j)∈(wG n).filter q)=yW q i j:=by
 rw[cF,decide_eq_true_eq,cw,wH]
 unfold yW
 simp only[dL,decide_eq_true_eq]
 constructor
 ·rintro⟨h1,h2⟩;exact⟨by omega,h2⟩
 ·rintro⟨h1,h2⟩;exact⟨by omega,h2⟩
theorem zMT{n:Nat}{q:Nat×Nat→Bool}:∀ d∈((wG n).filter q).map yw,flat 8 d=true:=by
 intro x hx
 obtain⟨p,u0,rfl⟩:=bY.mp hx
 exact zHx p
theorem zQ8(ds:List D)(G:Gp)(R:Q2)(h:wT ds G R):ds.length=3∧zGw (zg R) (zR ["web","one","other"] ds) G:=by
 obtain⟨n,q,i,j,rfl,hi,hj,h⟩:=h
 refine⟨rfl,?_⟩
 have e1:(if (j:Int)<(i:Int) then (j:Int) else i)=((min i j:Nat):Int):=by split<;>omega
 have e2:(if (j:Int)>(i:Int) then (j:Int) else i)=((max i j:Nat):Int):=by split<;>omega
 unfold zGw
 ((try dsimp only [zl,zT,zq,xIf,wC,zy,gN,gNN,zO,yZ,wq,yJ,zA,zH,zJ,zx,zc,zz,zB,look,zR,zBA,zBT,zBf,zDL,zDM,zEz,zBj,zB7,fII,yY,yv,fEq,xC,xB,zB0,zBr,zAU,zFd,ce,bT,bV,bK,bL,bO,bR,bM,bN,Nat.reduceSub,Nat.reduceAdd,zI1,zI2,zI3,zI4,zAE,zBg,zBh,if_true,if_false,bJ]) <;> (try simp only [zl,zT,zq,xIf,wC,zy,gN,gNN,zO,yZ,wq,yJ,zA,zH,zJ,zx,zc,zz,zB,look,zR,zBA,zBT,zBf,zDL,zDM,zEz,zBj,zB7,fII,yY,yv,fEq,xC,xB,zB0,zBr,zAU,zFd,ce,bT,bV,bK,bL,bO,bR,bM,bN,Nat.reduceSub,Nat.reduceAdd,zI1,zI2,zI3,zI4,zAE,zBg,zBh,if_true,if_false,bJ]))
 rw[e1,e2]
 have e3:=zOV ((wG n).filter q) (min i j,max i j)
 rw[zOW hi hj] at e3
 refine⟨zHx (min i j,max i j),zMT,?_⟩
 rw[← e3] at h
 exact .of h
noncomputable def zDP:ye:=(zl (zc zz (yA (iR1 (zA (zO yS (zB 0) (xC (.int 0))) zH)) bd1 (xB (zJ wT (zA (zB 0) (zA (zB 1) (zA (zB 2) zH))))) (zB 2))))
theorem wU(n:Nat):yG 0 ((n:Int)).toNat=(bQ n).map nD:=by simp[yG,nD]
theorem zMU(ds:List D)(G:Gp)(R:Q2)(h:zAG ds G R):ds.length=2∧zDP (zg R) (zR ["web","place"] ds) G:=by
 obtain⟨n,q,i,rfl,hi,hn,h⟩:=h
 refine⟨rfl,?_⟩
 unfold zDP zl
 have hw:PuI (iR1 (zA (zO yS (zB 0) (xC (.int 0))) zH)) (zR ["web","place"] [zS n q,nD i]) G ((bQ n).map nD):=by
  rw[← wU]
  exact zAr (zF (yF (zE rfl) yC fun u0 u0 u0 q=>by rw[zBj];exact q) zM) (by omega)
 have:=wu (tc:=(xB (zJ wT (zA (zB 0) (zA (zB 1) (zA (zB 2) zH)))))) (te:=zB 2) (bd:=bd1) (fun d=>match d with | .int j=>yW q i j.toNat | _=>false) (fun d=>d) (fun d=>[d]) hw fun x hx=>by
  obtain⟨j,hj,rfl⟩:=bY.mp hx
  refine⟨rfl,wW (zn (zF (zE rfl) (zF (zE rfl) (zF (zE rfl) zM))) fun u0 u0 u0 q'=>⟨n,q,i,j,rfl,hi,bX.mp hj,q'⟩),fun u0=>zE rfl⟩
 refine zBU this G (.refl G) _ (.of ?_)
 have e:ce (fun d=>d) (List.filter (fun d=>match d with | .int j=>yW q i j.toNat | _=>false) ((bQ n).map nD))=((bQ n).filter (yW q i)).map nD:=by
  rw[fb,en]
  rfl
 rw[e]
 exact h
noncomputable def zJt(d:D):Nat×Nat:=match d with | .tup [.int i,.int j]=>(i.toNat,j.toNat) | _=>(0,0)
theorem zF7(p:Nat×Nat):zJt (yw p)=p:=rfl
theorem zE2(f:Nat×Nat→Bool)(l:List (Nat×Nat)):ce (fun d=>d) (List.filter (fun d=>f (zJt d)) (l.map yw))=(l.filter f).map yw:=by
 rw[fb,en]
 congr 1
theorem zD2{σ:S2}{G:Gp}{n:Nat}{q:Nat×Nat→Bool}{t:zk}(h:zi t σ G (zS n q)):zi (zO yS t (xC (.int 0))) σ G (nD n):=yF h yC fun u0 u0 u0 q=>by rw[zBj];exact q
theorem zPv{σ:S2}{G:Gp}{n:Nat}{q:Nat×Nat→Bool}{t:zk}(h:zi t σ G (zS n q)):zi (zO yS t (xC (.int 1))) σ G (.tup (((wG n).filter q).map yw)):=yF h yC fun u0 u0 u0 q=>by rw[zB7];exact q
theorem zAh{l:Addr}{x:D}{ds:List D}{k:Int}{G:Gp}{R:Q2}(h:G.m l=some ds)(e:atI ds k=some x)(q:R x G):yS (.adr l) (.int k) G R:=⟨ds,x,.inl h,e,q⟩
theorem zPw{i:Nat}{l:Addr}{x d:D}{r:List D}{σ:S2}{G:Gp}{R:S2→Gp→Prop}(ho:look σ i=some (.adr l))(h:G.m l=some (x::r))(q:R σ (zU G l (d::r))):gIx (zB i) (xC (.int 0)) d σ G R:=by
 unfold gIx zB
 rw[ho]
 show match G.m l with | some ds=>_ | none=>_
 rw[h]
 have e:ixN (x::r).length 0=some 0:=by simp[ixN]
 show match ixN (x::r).length 0 with | some j=>R σ (zU G l ((x::r).set j d)) | none=>False
 rw[e]
 exact q
noncomputable def wv:wm:=fun ds G R=>∃(a:Addr) (ns:List Int) (k:Nat),ds=[.adr a,nD k]∧Ls G a (ns.map D.int)∧∀ c:Int,R (.int c) G
noncomputable def zBB:ye:=(zT (xIf (xB (zO (fII fun i j=>.bl (decide (i<j))) (zB 1) (zJ zo (zA (zB 0) zH)))) (zl (zO yS (zB 0) (zB 1))) zy) (zl (xC (.int 0))))
theorem zHy(ds:List D)(G:Gp)(R:Q2)(h:wv ds G R):ds.length=2∧zBB (zg R) (zR ["script","k"] ds) G:=by
 obtain⟨a,ns,k,rfl,ha,h⟩:=h
 refine⟨rfl,?_⟩
 unfold zBB
 ((try dsimp only [zl,zT,zq,xIf,wC,zy,gN,gNN,zO,yZ,wq,yJ,zA,zH,zJ,zx,zc,zz,zB,look,zR,zBA,zBT,zBf,zDL,zDM,zEz,zBj,zB7,fII,yY,yv,fEq,xC,xB,zB0,zBr,zAU,zFd,ce,bT,bV,bK,bL,bO,bR,bM,bN,Nat.reduceSub,Nat.reduceAdd,zI1,zI2,zI3,zI4,zAE,zBg,zBh,if_true,if_false,bJ]) <;> (try simp only [zl,zT,zq,xIf,wC,zy,gN,gNN,zO,yZ,wq,yJ,zA,zH,zJ,zx,zc,zz,zB,look,zR,zBA,zBT,zBf,zDL,zDM,zEz,zBj,zB7,fII,yY,yv,fEq,xC,xB,zB0,zBr,zAU,zFd,ce,bT,bV,bK,bL,bO,bR,bM,bN,Nat.reduceSub,Nat.reduceAdd,zI1,zI2,zI3,zI4,zAE,zBg,zBh,if_true,if_false,bJ]))
 refine⟨ns.map D.int,ha,?_⟩
 dsimp only
 by_cases hk:k<ns.length
 ·rw[decide_eq_true (by rw[bU];omega),if_pos rfl]
  exact⟨_,.int ns[k],ha,wS (by simp[hk]),FgR.of (h _)⟩
 ·rw[decide_eq_false (by rw[bU];omega),if_neg (by simp)]
  exact FgR.of (h 0)
noncomputable def yk:List D→Gp→(List D→Gp→Prop)→Prop:=fun ds G R=>∃(a:Addr) (ns:List Int) (k:Nat),ds=[.adr a,nD k]∧Ls G a (ns.map D.int)∧∀ s b,OkS s b→R [.int s,.bl b] G
theorem zGx:∀ ds G R R',(∀ ls G',R ls G'→R' ls G')→yk ds G R→yk ds G R':=by
 rintro ds G R R' h ⟨a,ns,k,e,ha,q⟩
 exact⟨a,ns,k,e,ha,fun s b o=>h _ _ (q s b o)⟩
noncomputable def zCR:ye:=(zT (zq (zJ wv (zA (zB 0) (zA (zB 1) zH))) (gN 2)) (zT (xIf (xB (zO (fII fun i j=>.bl (decide (j≤i))) (zB 2) (zO (yY zEC fun i j=>.int (i ^ j.toNat)) (xC (.int 10)) (xC (.int 18))))) (zl (yJ (wq (zA (zO (fII fun i j=>.int (i-j)) (zB 2) (zO (yY zEC fun i j=>.int (i ^ j.toNat)) (xC (.int 10)) (xC (.int 18)))) (zA (xC (.bl true)) zH))))) zy) (zl (yJ (wq (zA (zO (yY (fun u0 j=>0<j) fun i j=>.int (i%j)) (zB 2) (xC (.int 2147483647))) (zA (xC (.bl false)) zH)))))))
theorem zMV:zEC 10 18:=by unfold zEC;decide
theorem zKp(ds:List D)(G:Gp)(R:Q2)(h:spL yk ds G R):ds.length=2∧zCR (zg R) (zR ["script","k","cell"] ds) G:=by
 obtain⟨a,ns,k,rfl,ha,h⟩:=h
 refine⟨rfl,?_⟩
 unfold zCR
 ((try dsimp only [zl,zT,zq,xIf,wC,zy,gN,gNN,zO,yZ,wq,yJ,zA,zH,zJ,zx,zc,zz,zB,look,zR,zBA,zBT,zBf,zDL,zDM,zEz,zBj,zB7,fII,yY,yv,fEq,xC,xB,zB0,zBr,zAU,zFd,ce,bT,bV,bK,bL,bO,bR,bM,bN,Nat.reduceSub,Nat.reduceAdd,zI1,zI2,zI3,zI4,zAE,zBg,zBh,if_true,if_false,bJ]) <;> (try simp only [zl,zT,zq,xIf,wC,zy,gN,gNN,zO,yZ,wq,yJ,zA,zH,zJ,zx,zc,zz,zB,look,zR,zBA,zBT,zBf,zDL,zDM,zEz,zBj,zB7,fII,yY,yv,fEq,xC,xB,zB0,zBr,zAU,zFd,ce,bT,bV,bK,bL,bO,bR,bM,bN,Nat.reduceSub,Nat.reduceAdd,zI1,zI2,zI3,zI4,zAE,zBg,zBh,if_true,if_false,bJ]))
 refine⟨a,ns,k,rfl,ha,fun c=>?_⟩
 ((try dsimp only [zl,zT,zq,xIf,wC,zy,gN,gNN,zO,yZ,wq,yJ,zA,zH,zJ,zx,zc,zz,zB,look,zR,zBA,zBT,zBf,zDL,zDM,zEz,zBj,zB7,fII,yY,yv,fEq,xC,xB,zB0,zBr,zAU,zFd,ce,bT,bV,bK,bL,bO,bR,bM,bN,Nat.reduceSub,Nat.reduceAdd,zI1,zI2,zI3,zI4,zAE,zBg,zBh,if_true,if_false,bJ]) <;> (try simp only [zl,zT,zq,xIf,wC,zy,gN,gNN,zO,yZ,wq,yJ,zA,zH,zJ,zx,zc,zz,zB,look,zR,zBA,zBT,zBf,zDL,zDM,zEz,zBj,zB7,fII,yY,yv,fEq,xC,xB,zB0,zBr,zAU,zFd,ce,bT,bV,bK,bL,bO,bR,bM,bN,Nat.reduceSub,Nat.reduceAdd,zI1,zI2,zI3,zI4,zAE,zBg,zBh,if_true,if_false,bJ]))
 refine⟨zMV,?_⟩
 split
 ·refine⟨zMV,fun l hl=>?_⟩
  exact FgR.of (h _ true (fun z=>by cases z) l hl)
 ·refine⟨by decide,fun l hl=>?_⟩
  exact FgR.of (h _ false (fun u0=>⟨fo _ (by decide),fq _ (by decide)⟩) l hl)
noncomputable def zh:wm:=fun ds G R=>∃(l:Addr) (m:Nat),ds=[.adr l,nD m]∧zAg G l∧0<m∧m<1000000∧∀(r:Nat) G',r<m→Dr l G G'→R (nD r) G'
noncomputable def zDQ:ye:=(zT (xIf (xB (zO yS (zB 0) (xC (.int 1)))) (zT (zq (zO (yY (fun u0 j=>0<j) fun i j=>.int (i%j)) (zO yS (zB 0) (xC (.int 0))) (zB 1)) (gN 2)) (zT (zq (zO (yY zFa fun i j=>.int (i / j)) (zO yS (zB 0) (xC (.int 0))) (zB 1)) (gIx (zB 0) (xC (.int 0)))) (zl (zB 2)))) zy) (zT (zq (zO (yY (fun u0 j=>0<j) fun i j=>.int (i%j)) (zO yv (zO (yY zC7 fun i j=>.int (i*j)) (zO yS (zB 0) (xC (.int 0))) (xC (.int 48271))) (xC (.int 29))) (xC (.int 2147483647))) (gIx (zB 0) (xC (.int 0)))) (zT (zq (zO (yY (fun u0 j=>0<j) fun i j=>.int (i%j)) (zO yv (zO yv (zO (yY zC7 fun i j=>.int (i*j)) (zO yS (zB 0) (xC (.int 0))) (zO yS (zB 0) (xC (.int 0)))) (zO (yY zC7 fun i j=>.int (i*j)) (xC (.int 39373)) (zO yS (zB 0) (xC (.int 0))))) (xC (.int 7))) (xC (.int 2147483629))) (gN 3)) (zT (zq (zO (yY (fun u0 j=>0<j) fun i j=>.int (i%j)) (zO yv (zO (yY zC7 fun i j=>.int (i*j)) (zB 3) (zB 3)) (zO (yY zC7 fun i j=>.int (i*j)) (xC (.int 16807)) (zB 3))) (xC (.int 2147483587))) (gN 3)) (zl (zO (yY (fun u0 j=>0<j) fun i j=>.int (i%j)) (zO (yY zFa fun i j=>.int (i / j)) (zB 3) (xC (.int 8))) (zB 1)))))))
theorem zE3{x:Int}{m:Nat}(h:0<m):∃ r:Nat,r<m∧x%(m:Int)=r:=⟨(x%(m:Int)).toNat,by
 have h1:=fo x (b:=(m:Int)) (by omega)
 have h2:=fq x (b:=(m:Int)) (by omega)
 omega,by
 have h1:=fo x (b:=(m:Int)) (by omega)
 omega⟩
theorem zMW(ds:List D)(G:Gp)(R:Q2)(h:zh ds G R):ds.length=2∧zDQ (zg R) (zR ["state","many","found","mixed"] ds) G:=by
 obtain⟨l,m,rfl,⟨s,b,hG,ok⟩,hm,hm2,h⟩:=h
 refine⟨rfl,?_⟩
 unfold zDQ
 ((try dsimp only [zl,zT,zq,xIf,wC,zy,gN,gNN,zO,yZ,wq,yJ,zA,zH,zJ,zx,zc,zz,zB,look,zR,zBA,zBT,zBf,zDL,zDM,zEz,zBj,zB7,fII,yY,yv,fEq,xC,xB,zB0,zBr,zAU,zFd,ce,bT,bV,bK,bL,bO,bR,bM,bN,Nat.reduceSub,Nat.reduceAdd,zI1,zI2,zI3,zI4,zAE,zBg,zBh,if_true,if_false,bJ]) <;> (try simp only [zl,zT,zq,xIf,wC,zy,gN,gNN,zO,yZ,wq,yJ,zA,zH,zJ,zx,zc,zz,zB,look,zR,zBA,zBT,zBf,zDL,zDM,zEz,zBj,zB7,fII,yY,yv,fEq,xC,xB,zB0,zBr,zAU,zFd,ce,bT,bV,bK,bL,bO,bR,bM,bN,Nat.reduceSub,Nat.reduceAdd,zI1,zI2,zI3,zI4,zAE,zBg,zBh,if_true,if_false,bJ]))
 refine zAh hG (zHu _ _ _) ?_
 cases b with
 | true =>
  ((try dsimp only [zl,zT,zq,xIf,wC,zy,gN,gNN,zO,yZ,wq,yJ,zA,zH,zJ,zx,zc,zz,zB,look,zR,zBA,zBT,zBf,zDL,zDM,zEz,zBj,zB7,fII,yY,yv,fEq,xC,xB,zB0,zBr,zAU,zFd,ce,bT,bV,bK,bL,bO,bR,bM,bN,Nat.reduceSub,Nat.reduceAdd,zI1,zI2,zI3,zI4,zAE,zBg,zBh,if_true,if_false,bJ]) <;> (try simp only [zl,zT,zq,xIf,wC,zy,gN,gNN,zO,yZ,wq,yJ,zA,zH,zJ,zx,zc,zz,zB,look,zR,zBA,zBT,zBf,zDL,zDM,zEz,zBj,zB7,fII,yY,yv,fEq,xC,xB,zB0,zBr,zAU,zFd,ce,bT,bV,bK,bL,bO,bR,bM,bN,Nat.reduceSub,Nat.reduceAdd,zI1,zI2,zI3,zI4,zAE,zBg,zBh,if_true,if_false,bJ]))
  refine zAh hG (zDK _ _) ?_
  ((try dsimp only [zl,zT,zq,xIf,wC,zy,gN,gNN,zO,yZ,wq,yJ,zA,zH,zJ,zx,zc,zz,zB,look,zR,zBA,zBT,zBf,zDL,zDM,zEz,zBj,zB7,fII,yY,yv,fEq,xC,xB,zB0,zBr,zAU,zFd,ce,bT,bV,bK,bL,bO,bR,bM,bN,Nat.reduceSub,Nat.reduceAdd,zI1,zI2,zI3,zI4,zAE,zBg,zBh,if_true,if_false,bJ]) <;> (try simp only [zl,zT,zq,xIf,wC,zy,gN,gNN,zO,yZ,wq,yJ,zA,zH,zJ,zx,zc,zz,zB,look,zR,zBA,zBT,zBf,zDL,zDM,zEz,zBj,zB7,fII,yY,yv,fEq,xC,xB,zB0,zBr,zAU,zFd,ce,bT,bV,bK,bL,bO,bR,bM,bN,Nat.reduceSub,Nat.reduceAdd,zI1,zI2,zI3,zI4,zAE,zBg,zBh,if_true,if_false,bJ]))
  refine⟨by omega,zAh hG (zDK _ _) ?_⟩
  ((try dsimp only [zl,zT,zq,xIf,wC,zy,gN,gNN,zO,yZ,wq,yJ,zA,zH,zJ,zx,zc,zz,zB,look,zR,zBA,zBT,zBf,zDL,zDM,zEz,zBj,zB7,fII,yY,yv,fEq,xC,xB,zB0,zBr,zAU,zFd,ce,bT,bV,bK,bL,bO,bR,bM,bN,Nat.reduceSub,Nat.reduceAdd,zI1,zI2,zI3,zI4,zAE,zBg,zBh,if_true,if_false,bJ]) <;> (try simp only [zl,zT,zq,xIf,wC,zy,gN,gNN,zO,yZ,wq,yJ,zA,zH,zJ,zx,zc,zz,zB,look,zR,zBA,zBT,zBf,zDL,zDM,zEz,zBj,zB7,fII,yY,yv,fEq,xC,xB,zB0,zBr,zAU,zFd,ce,bT,bV,bK,bL,bO,bR,bM,bN,Nat.reduceSub,Nat.reduceAdd,zI1,zI2,zI3,zI4,zAE,zBg,zBh,if_true,if_false,bJ]))
  refine⟨⟨by omega,by omega⟩,zPw rfl hG ?_⟩
  ((try dsimp only [zl,zT,zq,xIf,wC,zy,gN,gNN,zO,yZ,wq,yJ,zA,zH,zJ,zx,zc,zz,zB,look,zR,zBA,zBT,zBf,zDL,zDM,zEz,zBj,zB7,fII,yY,yv,fEq,xC,xB,zB0,zBr,zAU,zFd,ce,bT,bV,bK,bL,bO,bR,bM,bN,Nat.reduceSub,Nat.reduceAdd,zI1,zI2,zI3,zI4,zAE,zBg,zBh,if_true,if_false,bJ]) <;> (try simp only [zl,zT,zq,xIf,wC,zy,gN,gNN,zO,yZ,wq,yJ,zA,zH,zJ,zx,zc,zz,zB,look,zR,zBA,zBT,zBf,zDL,zDM,zEz,zBj,zB7,fII,yY,yv,fEq,xC,xB,zB0,zBr,zAU,zFd,ce,bT,bV,bK,bL,bO,bR,bM,bN,Nat.reduceSub,Nat.reduceAdd,zI1,zI2,zI3,zI4,zAE,zBg,zBh,if_true,if_false,bJ]))
  obtain⟨r,hr,e⟩:=zE3 (x:=s) hm
  rw[e]
  exact FgR.of (h r _ hr ⟨_,true,rfl,fun z=>by cases z⟩)
 | false =>
  obtain⟨h0,h1⟩:=ok rfl
  ((try dsimp only [zl,zT,zq,xIf,wC,zy,gN,gNN,zO,yZ,wq,yJ,zA,zH,zJ,zx,zc,zz,zB,look,zR,zBA,zBT,zBf,zDL,zDM,zEz,zBj,zB7,fII,yY,yv,fEq,xC,xB,zB0,zBr,zAU,zFd,ce,bT,bV,bK,bL,bO,bR,bM,bN,Nat.reduceSub,Nat.reduceAdd,zI1,zI2,zI3,zI4,zAE,zBg,zBh,if_true,if_false,bJ]) <;> (try simp only [zl,zT,zq,xIf,wC,zy,gN,gNN,zO,yZ,wq,yJ,zA,zH,zJ,zx,zc,zz,zB,look,zR,zBA,zBT,zBf,zDL,zDM,zEz,zBj,zB7,fII,yY,yv,fEq,xC,xB,zB0,zBr,zAU,zFd,ce,bT,bV,bK,bL,bO,bR,bM,bN,Nat.reduceSub,Nat.reduceAdd,zI1,zI2,zI3,zI4,zAE,zBg,zBh,if_true,if_false,bJ]))
  refine zAh hG (zDK _ _) ?_
  ((try dsimp only [zl,zT,zq,xIf,wC,zy,gN,gNN,zO,yZ,wq,yJ,zA,zH,zJ,zx,zc,zz,zB,look,zR,zBA,zBT,zBf,zDL,zDM,zEz,zBj,zB7,fII,yY,yv,fEq,xC,xB,zB0,zBr,zAU,zFd,ce,bT,bV,bK,bL,bO,bR,bM,bN,Nat.reduceSub,Nat.reduceAdd,zI1,zI2,zI3,zI4,zAE,zBg,zBh,if_true,if_false,bJ]) <;> (try simp only [zl,zT,zq,xIf,wC,zy,gN,gNN,zO,yZ,wq,yJ,zA,zH,zJ,zx,zc,zz,zB,look,zR,zBA,zBT,zBf,zDL,zDM,zEz,zBj,zB7,fII,yY,yv,fEq,xC,xB,zB0,zBr,zAU,zFd,ce,bT,bV,bK,bL,bO,bR,bM,bN,Nat.reduceSub,Nat.reduceAdd,zI1,zI2,zI3,zI4,zAE,zBg,zBh,if_true,if_false,bJ]))
  refine⟨.inl ⟨by omega,by omega⟩,by decide,zPw rfl hG ?_⟩
  have p0:=fo (s*48271+29) (b:=2147483647) (by decide)
  have p1:=fq (s*48271+29) (b:=2147483647) (by decide)
  generalize (s*48271+29)%2147483647=s1 at p0 p1 ⊢
  have hG1:(zU G l [D.int s1,D.bl false]).m l=some [D.int s1,D.bl false]:=zK
  ((try dsimp only [zl,zT,zq,xIf,wC,zy,gN,gNN,zO,yZ,wq,yJ,zA,zH,zJ,zx,zc,zz,zB,look,zR,zBA,zBT,zBf,zDL,zDM,zEz,zBj,zB7,fII,yY,yv,fEq,xC,xB,zB0,zBr,zAU,zFd,ce,bT,bV,bK,bL,bO,bR,bM,bN,Nat.reduceSub,Nat.reduceAdd,zI1,zI2,zI3,zI4,zAE,zBg,zBh,if_true,if_false,bJ]) <;> (try simp only [zl,zT,zq,xIf,wC,zy,gN,gNN,zO,yZ,wq,yJ,zA,zH,zJ,zx,zc,zz,zB,look,zR,zBA,zBT,zBf,zDL,zDM,zEz,zBj,zB7,fII,yY,yv,fEq,xC,xB,zB0,zBr,zAU,zFd,ce,bT,bV,bK,bL,bO,bR,bM,bN,Nat.reduceSub,Nat.reduceAdd,zI1,zI2,zI3,zI4,zAE,zBg,zBh,if_true,if_false,bJ]))
  refine zAh hG1 (zDK _ _) (zAh hG1 (zDK _ _) ?_)
  ((try dsimp only [zl,zT,zq,xIf,wC,zy,gN,gNN,zO,yZ,wq,yJ,zA,zH,zJ,zx,zc,zz,zB,look,zR,zBA,zBT,zBf,zDL,zDM,zEz,zBj,zB7,fII,yY,yv,fEq,xC,xB,zB0,zBr,zAU,zFd,ce,bT,bV,bK,bL,bO,bR,bM,bN,Nat.reduceSub,Nat.reduceAdd,zI1,zI2,zI3,zI4,zAE,zBg,zBh,if_true,if_false,bJ]) <;> (try simp only [zl,zT,zq,xIf,wC,zy,gN,gNN,zO,yZ,wq,yJ,zA,zH,zJ,zx,zc,zz,zB,look,zR,zBA,zBT,zBf,zDL,zDM,zEz,zBj,zB7,fII,yY,yv,fEq,xC,xB,zB0,zBr,zAU,zFd,ce,bT,bV,bK,bL,bO,bR,bM,bN,Nat.reduceSub,Nat.reduceAdd,zI1,zI2,zI3,zI4,zAE,zBg,zBh,if_true,if_false,bJ]))
  refine⟨.inl ⟨by omega,by omega⟩,zAh hG1 (zDK _ _) ?_⟩
  ((try dsimp only [zl,zT,zq,xIf,wC,zy,gN,gNN,zO,yZ,wq,yJ,zA,zH,zJ,zx,zc,zz,zB,look,zR,zBA,zBT,zBf,zDL,zDM,zEz,zBj,zB7,fII,yY,yv,fEq,xC,xB,zB0,zBr,zAU,zFd,ce,bT,bV,bK,bL,bO,bR,bM,bN,Nat.reduceSub,Nat.reduceAdd,zI1,zI2,zI3,zI4,zAE,zBg,zBh,if_true,if_false,bJ]) <;> (try simp only [zl,zT,zq,xIf,wC,zy,gN,gNN,zO,yZ,wq,yJ,zA,zH,zJ,zx,zc,zz,zB,look,zR,zBA,zBT,zBf,zDL,zDM,zEz,zBj,zB7,fII,yY,yv,fEq,xC,xB,zB0,zBr,zAU,zFd,ce,bT,bV,bK,bL,bO,bR,bM,bN,Nat.reduceSub,Nat.reduceAdd,zI1,zI2,zI3,zI4,zAE,zBg,zBh,if_true,if_false,bJ]))
  refine⟨.inl ⟨by omega,by omega⟩,by decide,?_⟩
  have p2:=fo (s1*s1+39373*s1+7) (b:=2147483629) (by decide)
  have p3:=fq (s1*s1+39373*s1+7) (b:=2147483629) (by decide)
  generalize (s1*s1+39373*s1+7)%2147483629=s2 at p2 p3 ⊢
  refine⟨.inl ⟨by omega,by omega⟩,.inl ⟨by omega,by omega⟩,by decide,⟨by decide,by decide⟩,by omega,?_⟩
  obtain⟨r,hr,e⟩:=zE3 (x:=(s2*s2+16807*s2)%2147483587 / 8) hm
  rw[e]
  exact FgR.of (h r _ hr ⟨_,false,rfl,fun u0=>⟨p0,p1⟩⟩)
noncomputable def zER:ye:=(zl (yJ (zx yL (zA (zMJ (zA (zB 0) zH)) zH))))
noncomputable def zBk:ye:=(zT (zq (yJ (wq zH)) (gN 1)) (zT (wQ (iR1 (zA (zJ zo (zA (zB 0) zH)) zH)) (gN 2) (wQ (iR2 (zA (zO yv (zB 2) (xC (.int 1))) (zA (zJ zo (zA (zB 0) zH)) zH))) (gN 3) (wC (zEF (zB 1) (zA (yZ (zA (zO yS (zB 0) (zB 2)) (zA (zO yS (zB 0) (zB 3)) zH))) zH))))) (zl (zB 1))))
noncomputable def zBC(n i:Nat):List (Nat×Nat):=(bQ i).flatMap fun i=>(bQ (n-(i+1))).map fun k=>(i,i+1+k)
theorem zDo(n:Nat):zBC n n=wG n:=rfl
theorem zCy(n i:Nat):zBC n (i+1)=zBC n i++(bQ (n-(i+1))).map fun k=>(i,i+1+k):=by
 unfold zBC
 rw[eM,List.flatMap_append]
 simp
theorem zF8{n i:Nat}(hi:i≤n)(h:n≤100):(zBC n i).length≤10000:=by
 have:(zBC n i).length≤(wG n).length:=by
  obtain⟨k,rfl⟩:=Nat.exists_eq_add_of_le hi
  rw[← zDo]
  have:∀ k,(zBC (i+k) i).length≤(zBC (i+k) (i+k)).length:=fun k=>by
   unfold zBC
   rw[List.range_add,List.flatMap_append,ci];omega
  exact this k
 have:=zE1 h
 omega
theorem zGy{n i:Nat}{x:D}(h:((bQ n).map nD)[i]?=some x):x=nD i∧i<n:=by
 rw[cC] at h
 cases q:(bQ n)[i]? with
 | none=>rw[q] at h;cases h
 | some k =>
  rw[q] at h
  cases h
  obtain⟨h1,h2⟩:=bW.mp q
  simp at h1 h2
  subst h2
  exact⟨rfl,h1⟩
theorem zKq{lo:Int}{n i:Nat}{x:D}(h:(yG lo n)[i]?=some x):x=.int (lo+i)∧i<n:=by
 have hi:i<n:=by
  have:=(bW.mp h).1
  rwa [wV] at this
 rw[zEr hi] at h
 cases h
 exact⟨rfl,hi⟩
theorem zDp{wi:TI2}{g:TG2}{tb:ye}{E:yO}{σ:S2}{G:Gp}(h:wi σ G fun ds gd G1=>zML ds gd G1 g tb E σ):wQ wi g tb E σ G:=.of h
theorem zI5{t:wN}{g:TG2}{tb:ye}{E:yO}{σ:S2}{G:Gp}{n:Nat}(ht:PuA t σ G [nD n])(hn:n≤1000)(h:zML ((bQ n).map nD) (fun u0=>True) G g tb E σ):wQ (iR1 t) g tb E σ G:=by
 refine zDp (ht G (.refl G) _ ⟨by omega,?_⟩)
 rw[wU]
 exact h
theorem zI6{t:wN}{g:TG2}{tb:ye}{E:yO}{σ:S2}{G:Gp}{i j:Int}(ht:PuA t σ G [.int i,.int j])(hn:(-1000≤i∧i≤1000)∧-1000≤j∧j≤1000)(h:zML (yG i (j-i).toNat) (fun u0=>True) G g tb E σ):wQ (iR2 t) g tb E σ G :=
 zDp (ht G (.refl G) _ ⟨by omega,h⟩)
theorem zES{i:Nat}{l:Addr}{d:D}{xs:List D}{σ:S2}{G:Gp}{t:wN}{R:Q2}(ho:look σ i=some (.adr l))(h:G.m l=some xs)(ht:∀ Q:List D→Gp→Prop,Q [d] G→t σ G Q)(hz:xs.length≤1000000)(q:R .non (zU G l (xs++[d]))):zEF (zB i) t σ G R:=by
 unfold zEF zB
 rw[ho]
 show match G.m l with | some _=>_ | none=>_
 rw[h]
 refine ht _ ?_
 show match G.m l with | some xs=>_ | none=>_
 rw[h]
 exact⟨hz,q⟩
theorem zOX{i:Nat}{l:Addr}{zs xs:List D}{σ:S2}{G:Gp}{t:TL2}{R:Q2}(ho:look σ i=some (.adr l))(h:G.m l=some xs)(ht:∀ Q:List D→Gp→Prop,Q zs G→t σ G Q)(hz:xs.length+zs.length≤1000000)(q:R .non (zU G l (xs++zs))):zOL (zB i) t σ G R:=by
 unfold zOL zB
 rw[ho]
 show match G.m l with | some _=>_ | none=>_
 rw[h]
 refine ht _ ?_
 show match G.m l with | some xs=>_ | none=>_
 rw[h]
 exact⟨hz,q⟩
theorem zOY{ps:List Nat}{i:Nat}(h:i<ps.length):atI (ps.map nD) (i:Int)=some (nD (ps.getD i 0)):=wS (by simp[cP,h])
theorem zJu{σ:S2}{G:Gp}{t u:zk}{ps:List Nat}{i:Nat}(h:zi t σ G (.tup (ps.map nD)))(h':zi u σ G (nD i))(hi:i<ps.length):zi (zO yS t u) σ G (nD (ps.getD i 0)):=yF h h' fun u0 u0 u0 q=>by
 simp only[yS,zOY hi];exact q
theorem zET{σ:S2}{G:Gp}{t:zk}{ps:List Nat}(h:zi t σ G (.tup (ps.map nD))):zi (zJ zo (zA t zH)) σ G (nD ps.length):=zn (zF h zM) fun u0 u0 u0 q=>⟨ps.map nD,rfl,by rw[bU];exact q⟩
theorem zI7(ds:List D)(G:Gp)(R:Q2)(h:spL yL ds G R):ds.length=1∧zBk (zg R) (zR ["places","found","k","j"] ds) G:=by
 obtain⟨ps,rfl,hn,h⟩:=h
 refine⟨rfl,?_⟩
 unfold zBk
 let at2:Nat×Nat→Nat×Nat:=fun p=>(ps.getD p.1 0,ps.getD p.2 0)
 generalize hN:ps.length=n at *
 ((try dsimp only [zl,zT,zq,xIf,wC,zy,gN,gNN,zO,yZ,wq,yJ,zA,zH,zJ,zx,zc,zz,zB,look,zR,zBA,zBT,zBf,zDL,zDM,zEz,zBj,zB7,fII,yY,yv,fEq,xC,xB,zB0,zBr,zAU,zFd,ce,bT,bV,bK,bL,bO,bR,bM,bN,Nat.reduceSub,Nat.reduceAdd,zI1,zI2,zI3,zI4,zAE,zBg,zBh,if_true,if_false,bJ]) <;> (try simp only [zl,zT,zq,xIf,wC,zy,gN,gNN,zO,yZ,wq,yJ,zA,zH,zJ,zx,zc,zz,zB,look,zR,zBA,zBT,zBf,zDL,zDM,zEz,zBj,zB7,fII,yY,yv,fEq,xC,xB,zB0,zBr,zAU,zFd,ce,bT,bV,bK,bL,bO,bR,bM,bN,Nat.reduceSub,Nat.reduceAdd,zI1,zI2,zI3,zI4,zAE,zBg,zBh,if_true,if_false,bJ]))
 intro l hl
 refine zI5 (n:=n) (zF (by rw[← hN];exact zET (zE rfl)) zM) (by omega) ?_
 refine zAS (fun i G'=>G'=zU G l (((zBC n i).map at2).map yw)) rfl (fun u0 u0 u0=>trivial) ?_ ?_
 ·rintro i x hx G2 rfl
  obtain⟨rfl,hi⟩:=zGy hx
  simp only[gN,bL,bK]
  refine zI6 (i:=(i:Int)+1) (j:=n) (zF (yF (zE rfl) yC fun u0 u0 u0 q=>q) (zF (by rw[← hN];exact zET (zE rfl)) zM)) (by omega) ?_
  refine zAS (fun k G'=>G'=zU G l (((zBC n i++(bQ k).map fun k=>(i,i+1+k)).map at2).map yw)) (by simp) (fun u0 u0 u0=>trivial) ?_ ?_
  ·rintro k x hx G2 rfl
   obtain⟨rfl,hk⟩:=zKq hx
   have ek:((i:Int)+1+(k:Int))=((i+1+k:Nat):Int):=by omega
   rw[ek]
   simp only[gN,bL,bK,wC]
   have hlen:=zF8 (n:=n) (i:=i) (by omega) hn
   have pt:PuA (zA (yZ (zA (zO yS (zB 0) (zB 2)) (zA (zO yS (zB 0) (zB 3)) zH))) zH) [some (.tup (ps.map nD)),some (.adr l),some (nD i),some (nD (i+1+k))] (zU G l (((zBC n i++(bQ k).map fun k=>(i,i+1+k)).map at2).map yw)) [yw (at2 (i,i+1+k))] :=
    zF (zBe (zF (zJu (zE rfl) (zE rfl) (by omega)) (zF (zJu (zE rfl) (zE rfl) (by omega)) zM)) (by simp)) zM
   refine zES (d:=yw (at2 (i,i+1+k))) rfl zK (fun Q q=>pt _ (.refl _) Q q) (by simp;omega) ⟨?_,_,.refl _,?_⟩
   ·exact .keep (.keep (.keep (.skip .nil)))
   ·rw[zCM,eM]
    simp
  ·rintro G2 rfl
   refine⟨.keep (.keep (.skip (.skip .nil))),_,.refl _,?_⟩
   rw[wV,zCy]
   have:((n:Int)-((i:Int)+1)).toNat=n-(i+1):=by omega
   rw[this]
 ·rintro G2 rfl
  rw[bU,cz,zDo]
  exact FgR.of (h l hl)
theorem zOZ(ds:List D)(G:Gp)(R:Q2)(h:spL yx ds G R):ds.length=1∧zER (zg R) (zR ["many"] ds) G:=by
 obtain⟨n,rfl,hn,h⟩:=h
 refine⟨rfl,?_⟩
 unfold zER
 have e:(wG (bQ n).length).map (fun p=>((bQ n).getD p.1 0,(bQ n).getD p.2 0))=wG n:=by
  rw[cz]
  conv=>rhs;rw[← fb (wG n)]
  refine em fun p hp=>?_
  obtain⟨h1,h2⟩:=wH.mp hp
  have e1:(bQ n).getD p.1 0=p.1:=by simp[cP,show p.1<n by omega]
  have e2:(bQ n).getD p.2 0=p.2:=by simp[cP,h2]
  rw[e1,e2]
 have pt:PuA (zA (zMJ (zA (zB 0) zH)) zH) (zR ["many"] [nD n]) G [.tup ((bQ n).map nD)] :=
  zF (fun G2 e R q=>zF (d:=nD n) (zE rfl) zM G2 e _ ⟨by omega,by rw[wU];exact q⟩) zM
 have:=zDI (sp:=yL) (ls:=(wG n).map yw) pt fun u0 u0 u0 q=>⟨bQ n,rfl,by simpa using hn,by rw[e];exact q⟩
 refine this G (.refl G) _ fun l hl=>?_
 exact FgR.of (h l hl)
noncomputable def zCS:ye:=(zT (zq (yJ (wq zH)) (gN 1)) (zT (wQ (iR1 (zA (zB 0) zH)) (gN 2) (wC (zOL (zB 1) (yA (iR2 (zA (zO yv (zB 2) (xC (.int 1))) (zA (zB 0) zH))) bd1 zBw (yZ (zA (zB 2) (zA (zB 3) zH))))))) (zl (zB 1))))
theorem zKr(ds:List D)(G:Gp)(R:Q2)(h:spL yj ds G R):ds.length=1∧zCS (zg R) (zR ["many","found","one"] ds) G:=by
 obtain⟨n,rfl,hn,h⟩:=h
 refine⟨rfl,?_⟩
 unfold zCS
 ((try dsimp only [zl,zT,zq,xIf,wC,zy,gN,gNN,zO,yZ,wq,yJ,zA,zH,zJ,zx,zc,zz,zB,look,zR,zBA,zBT,zBf,zDL,zDM,zEz,zBj,zB7,fII,yY,yv,fEq,xC,xB,zB0,zBr,zAU,zFd,ce,bT,bV,bK,bL,bO,bR,bM,bN,Nat.reduceSub,Nat.reduceAdd,zI1,zI2,zI3,zI4,zAE,zBg,zBh,if_true,if_false,bJ]) <;> (try simp only [zl,zT,zq,xIf,wC,zy,gN,gNN,zO,yZ,wq,yJ,zA,zH,zJ,zx,zc,zz,zB,look,zR,zBA,zBT,zBf,zDL,zDM,zEz,zBj,zB7,fII,yY,yv,fEq,xC,xB,zB0,zBr,zAU,zFd,ce,bT,bV,bK,bL,bO,bR,bM,bN,Nat.reduceSub,Nat.reduceAdd,zI1,zI2,zI3,zI4,zAE,zBg,zBh,if_true,if_false,bJ]))
 intro l hl
 refine zI5 (n:=n) (zF (zE rfl) zM) (by omega) ?_
 refine zAS (fun i G'=>G'=zU G l ((zBC n i).map yw)) rfl (fun u0 u0 u0=>trivial) ?_ ?_
 ·rintro i x hx G2 rfl
  obtain⟨rfl,hi⟩:=zGy hx
  have hlen:=zF8 (n:=n) (i:=i+1) (by omega) hn
  rw[zCy,ci,bU,cz] at hlen
  have hw:PuI (iR2 (zA (zO yv (zB 2) (xC (.int 1))) (zA (zB 0) zH))) [some (nD n),some (.adr l),some (nD i)] (zU G l ((zBC n i).map yw)) (yG ((i:Int)+1) ((n:Int)-((i:Int)+1)).toNat) :=
   zKk (zF (yF (zE rfl) yC fun u0 u0 u0 q=>q) (zF (zE rfl) zM)) (by omega)
  have:=zDn (bd:=bd1) (te:=yZ (zA (zB 2) (zA (zB 3) zH))) (fun d=>.tup [nD i,d]) (fun d=>[d]) hw fun x hx=>⟨rfl,zBe (zF (zE rfl) (zF (zE rfl) zM)) (by simp)⟩
  ((try dsimp only [zl,zT,zq,xIf,wC,zy,gN,gNN,zO,yZ,wq,yJ,zA,zH,zJ,zx,zc,zz,zB,look,zR,zBA,zBT,zBf,zDL,zDM,zEz,zBj,zB7,fII,yY,yv,fEq,xC,xB,zB0,zBr,zAU,zFd,ce,bT,bV,bK,bL,bO,bR,bM,bN,Nat.reduceSub,Nat.reduceAdd,zI1,zI2,zI3,zI4,zAE,zBg,zBh,if_true,if_false,bJ]) <;> (try simp only [zl,zT,zq,xIf,wC,zy,gN,gNN,zO,yZ,wq,yJ,zA,zH,zJ,zx,zc,zz,zB,look,zR,zBA,zBT,zBf,zDL,zDM,zEz,zBj,zB7,fII,yY,yv,fEq,xC,xB,zB0,zBr,zAU,zFd,ce,bT,bV,bK,bL,bO,bR,bM,bN,Nat.reduceSub,Nat.reduceAdd,zI1,zI2,zI3,zI4,zAE,zBg,zBh,if_true,if_false,bJ]))
  have e:((n:Int)-((i:Int)+1)).toNat=n-(i+1):=by omega
  have e2:ce (fun d=>D.tup [nD i,d]) (yG ((i:Int)+1) ((n:Int)-((i:Int)+1)).toNat)=((bQ (n-(i+1))).map fun k=>(i,i+1+k)).map yw:=by
   rw[e]
   unfold yG
   rw[da,da]
   refine em fun k u0=>?_
   simp[yw,nD]
  rw[e2] at this
  refine zOX rfl zK (fun Q q=>this _ (.refl _) Q q) (by simp only[bU,cz];omega) ⟨.keep (.keep (.skip .nil)),_,.refl _,?_⟩
  rw[zCM,zCy,cX]
 ·rintro G2 rfl
  rw[bU,cz,zDo]
  exact FgR.of (h l hl)
theorem zCz(l:List Nat)(i:Nat):((l.map nD).any fun z=>wP z (nD i))=decide (i∈l):=by
 rw[List.any_map,cF]
 simp only[fh,Function.comp,zCQ,decide_eq_true_eq,zEG]
 constructor
 ·rintro⟨x,h,rfl⟩;exact h
 ·intro h;exact⟨i,h,rfl⟩
theorem yf(l:List Nat):∀ d∈l.map nD,flat 8 d=true:=by
 intro d hd
 obtain⟨k,u0,rfl⟩:=bY.mp hd
 rfl
theorem zI8{σ:S2}{G:Gp}{t u:zk}{ng:Bool}{x:D}{ds:List D}{b:Bool}(h:zi t σ G x)(h':zi u σ G (.tup ds))(f:flat 8 x=true)(fs:∀ d∈ds,flat 8 d=true)(e:(if ng then !ds.any fun z=>wP z x else ds.any fun z=>wP z x)=b):zi (zO (fIn ng) t u) σ G (.bl b) :=
 yF h h' fun u0 u0 u0 q=>⟨f,fs,by rw[e];exact q⟩
theorem zGz{σ:S2}{G:Gp}{t u:zk}{i j:Int}(h:zi t σ G (.int i))(h':zi u σ G (.int j)):zi (zO yv t u) σ G (.int (i+j)):=yF h h' fun u0 u0 u0 q=>q
noncomputable def zAH(n:Nat)(r:List Nat):Prop:=r.Perm (bQ n++bQ n)
theorem zAH.len{n:Nat}{r:List Nat}(h:zAH n r):r.length=2*n:=by
 have:=h.length_eq
 simp at this;omega
theorem zAH.mem{n:Nat}{r:List Nat}(h:zAH n r){x:Nat}:x∈r↔x<n:=by
 rw[h.mem_iff];simp
theorem zD3{n i:Nat}:(bQ n).count i=if i<n then 1 else 0:=by
 induction n with
 | zero=>simp
 | succ n ih =>
  rw[eM,cO,ih]
  by_cases h:i=n
  ·subst h;simp
  ·have:(n==i)=false:=by simpa using fun e=>h e.symm
   simp[cL,this]
   split<;>split<;>omega
theorem zAH.count{n:Nat}{r:List Nat}(h:zAH n r){i:Nat}(hi:i<n):r.count i=2:=by
 rw[h.count_eq,cO,zD3,if_pos hi]
noncomputable def both(r:List Nat)(p:Nat×Nat):List Nat:=r.filter fun x=>decide (x=p.1)||decide (x=p.2)
noncomputable def zd(r:List Nat)(p:Nat×Nat):Bool:=match both r p with | a::b::c::_=>decide (a≠b)&&decide (b≠c) | _=>false
theorem zMX{n:Nat}{r:List Nat}(h:zAH n r){p:Nat×Nat}(hp:p∈wG n):(both r p).length=4:=by
 obtain⟨i,j⟩:=p
 obtain⟨h1,h2⟩:=wH.mp hp
 have:∀ l:List Nat,(l.filter fun x=>decide (x=i)||decide (x=j)).length=l.count i+l.count j:=by
  intro l
  induction l with
  | nil=>rfl
  | cons a r ih =>
   simp only[eB,cL]
   by_cases ha:a=i
   ·subst ha
    have:¬ a=j:=by dsimp only at h1;omega
    simp[this,ih];omega
   ·by_cases hb:a=j
    ·subst hb;simp[ha,ih];omega
    ·simp[ha,hb,ih]
 unfold both
 rw[this,h.count (by dsimp only at h1 h2;omega),h.count h2]
theorem _root_.L3.Sub.put{G G':Gp}{f:Addr}{x:List D}(h:Sub G G')(n:G.m f=none):Sub G (zU G' f x) :=
 ⟨fun a o e=>by rw[ze (gne e n)];exact h.m a o e,fun a o e=>h.ro a o e⟩
noncomputable def wa:wm:=fun ds G R=>∃(n:Nat) (r:List Nat),ds=[.tup (r.map nD)]∧zAH n r∧n≤100∧R (zS n (zd r)) G
noncomputable def zBl:ye:=(zT (zq (zO (yY zFa fun i j=>.int (i / j)) (zJ zo (zA (zB 0) zH)) (xC (.int 2))) (gN 1)) (zT (zq (yJ (wq zH)) (gN 2)) (zT (wQ (iF (zx yj (zA (zB 1) zH))) (gNN 3 4) (zT (zAx 5 (yA (iV (zB 0)) bd1 (xB (zO (fIn false) (zB 6) (yZ (zA (zB 3) (zA (zB 4) zH))))) (zB 6))) (xIf (zBr (xB (zO (fEq true) (zO yS (zB 5) (xC (.int 0))) (zO yS (zB 5) (xC (.int 1))))) (xB (zO (fEq true) (zO yS (zB 5) (xC (.int 1))) (zO yS (zB 5) (xC (.int 2)))))) (wC (zEF (zB 2) (zA (yZ (zA (zB 3) (zA (zB 4) zH))) zH))) zy))) (zl (yZ (zA (zB 1) (zA (zJ zDG (zA (zB 2) zH)) zH)))))))
theorem zOa{σ:S2}{G:Gp}{r:List Nat}{p:Nat×Nat}{x1 x2 x5:Option D}(h:σ=[some (.tup (r.map nD)),x1,x2,some (nD p.1),some (nD p.2),x5]) :
  PuL (yA (iV (zB 0)) bd1 (xB (zO (fIn false) (zB 6) (yZ (zA (zB 3) (zA (zB 4) zH))))) (zB 6)) σ G ((both r p).map nD):=by
 subst h
 have:=wu (bd:=bd1) (tc:=(xB (zO (fIn false) (zB 6) (yZ (zA (zB 3) (zA (zB 4) zH)))))) (te:=zB 6) (fun d=>match d with | .int x=>decide (x.toNat=p.1)||decide (x.toNat=p.2) | _=>false) (fun d=>d) (fun d=>[d])
  (zBV (σ:=[some (.tup (r.map nD)),x1,x2,some (nD p.1),some (nD p.2),x5]) (G:=G) (zE (i:=0) rfl)) fun x hx=>by
   obtain⟨k,hk,rfl⟩:=bY.mp hx
   refine⟨rfl,wW (zI8 (zE (d:=nD k) rfl) (zBe (zF (zE (d:=nD p.1) rfl) (zF (zE (d:=nD p.2) rfl) zM)) (by simp)) rfl (yf [p.1,p.2]) ?_),fun u0=>zE rfl⟩
   have:=zCz [p.1,p.2] k
   simp only[ce] at this
   simp only[bJ,if_false,this]
   rw[cF]
   simp
 have e:ce (fun d=>d) (List.filter (fun d=>match d with | .int x=>decide (x.toNat=p.1)||decide (x.toNat=p.2) | _=>false) (r.map nD))=(both r p).map nD:=by
  rw[fb,en]
  rfl
 rw[e] at this
 exact this
theorem zC8{α:Type}{f:α→D}{l:List α}{i:Nat}{x:D}(h:(l.map f)[i]?=some x):∃ a,l[i]?=some a∧x=f a:=by
 rw[cC] at h
 cases q:l[i]? with
 | none=>rw[q] at h;cases h
 | some a=>rw[q] at h;cases h;exact⟨a,rfl,rfl⟩
theorem zI9(ds:List D)(G:Gp)(R:Q2)(h:wa ds G R):ds.length=1∧zBl (zg R) (zR ["ring","many","found","one","other","some"] ds) G:=by
 obtain⟨n,r,rfl,hr,hn,h⟩:=h
 refine⟨rfl,?_⟩
 unfold zBl
 ((try dsimp only [zl,zT,zq,xIf,wC,zy,gN,gNN,zO,yZ,wq,yJ,zA,zH,zJ,zx,zc,zz,zB,look,zR,zBA,zBT,zBf,zDL,zDM,zEz,zBj,zB7,fII,yY,yv,fEq,xC,xB,zB0,zBr,zAU,zFd,zAx,ce,bT,bV,bK,bL,bO,bR,bM,bN,Nat.reduceSub,Nat.reduceAdd,zI1,zI2,zI3,zI4,zAE,zBg,zBh,if_true,if_false,bJ]) <;> (try simp only [zl,zT,zq,xIf,wC,zy,gN,gNN,zO,yZ,wq,yJ,zA,zH,zJ,zx,zc,zz,zB,look,zR,zBA,zBT,zBf,zDL,zDM,zEz,zBj,zB7,fII,yY,yv,fEq,xC,xB,zB0,zBr,zAU,zFd,zAx,ce,bT,bV,bK,bL,bO,bR,bM,bN,Nat.reduceSub,Nat.reduceAdd,zI1,zI2,zI3,zI4,zAE,zBg,zBh,if_true,if_false,bJ]))
 refine⟨r.map nD,rfl,?_⟩
 ((try dsimp only [zl,zT,zq,xIf,wC,zy,gN,gNN,zO,yZ,wq,yJ,zA,zH,zJ,zx,zc,zz,zB,look,zR,zBA,zBT,zBf,zDL,zDM,zEz,zBj,zB7,fII,yY,yv,fEq,xC,xB,zB0,zBr,zAU,zFd,zAx,ce,bT,bV,bK,bL,bO,bR,bM,bN,Nat.reduceSub,Nat.reduceAdd,zI1,zI2,zI3,zI4,zAE,zBg,zBh,if_true,if_false,bJ]) <;> (try simp only [zl,zT,zq,xIf,wC,zy,gN,gNN,zO,yZ,wq,yJ,zA,zH,zJ,zx,zc,zz,zB,look,zR,zBA,zBT,zBf,zDL,zDM,zEz,zBj,zB7,fII,yY,yv,fEq,xC,xB,zB0,zBr,zAU,zFd,zAx,ce,bT,bV,bK,bL,bO,bR,bM,bN,Nat.reduceSub,Nat.reduceAdd,zI1,zI2,zI3,zI4,zAE,zBg,zBh,if_true,if_false,bJ]))
 refine⟨⟨by decide,by decide⟩,fun f hf=>?_⟩
 have e:(((r.map nD).length:Int) / 2)=(n:Int):=by rw[bU,hr.len];omega
 rw[e]
 refine zDp ⟨n,rfl,hn,fun a ha=>?_⟩
 have fa:a≠f:=fun e=>by rw[e,zK] at ha;cases ha
 have ga:G.m a=none:=by rw[ze fa] at ha;exact ha
 refine zAS (fun k G'=>G'.m f=some ((((wG n).take k).filter (zd r)).map yw)∧G'.m a=some ((wG n).map yw)∧Sub G G') ⟨?_,zK,?_⟩ (fun u0 u0 h=>.inl h.2.1) ?_ ?_
 ·rw[ze (Ne.symm fa)];exact zK
 ·exact((Sub.refl G).put hf).put ga
 ·rintro k x hx G2 ⟨h1,h2,h3⟩
  obtain⟨p,hp,rfl⟩:=zC8 hx
  have hp':=cy hp
  have hc:(((wG n).take (k+1)).filter (zd r))=(((wG n).take k).filter (zd r))++(if zd r p=true then [p] else []):=by
   rw[yU hp,dH]
   congr 1
   simp[eB]
  show gNN 3 4 (.tup [nD p.1,nD p.2]) _ _ _
  ((try dsimp only [zl,zT,zq,xIf,wC,zy,gN,gNN,zO,yZ,wq,yJ,zA,zH,zJ,zx,zc,zz,zB,look,zR,zBA,zBT,zBf,zDL,zDM,zEz,zBj,zB7,fII,yY,yv,fEq,xC,xB,zB0,zBr,zAU,zFd,zAx,ce,bT,bV,bK,bL,bO,bR,bM,bN,Nat.reduceSub,Nat.reduceAdd,zI1,zI2,zI3,zI4,zAE,zBg,zBh,if_true,if_false,bJ]) <;> (try simp only [zl,zT,zq,xIf,wC,zy,gN,gNN,zO,yZ,wq,yJ,zA,zH,zJ,zx,zc,zz,zB,look,zR,zBA,zBT,zBf,zDL,zDM,zEz,zBj,zB7,fII,yY,yv,fEq,xC,xB,zB0,zBr,zAU,zFd,zAx,ce,bT,bV,bK,bL,bO,bR,bM,bN,Nat.reduceSub,Nat.reduceAdd,zI1,zI2,zI3,zI4,zAE,zBg,zBh,if_true,if_false,bJ]))
  refine zOa rfl G2 (.refl G2) _ fun s hs=>?_
  have hl:=zMX hr hp'
  have hz:((((wG n).take k).filter (zd r)).map yw).length≤1000000:=by
   rw[bU]
   have:=dk (zd r) ((wG n).take k)
   rw[cK] at this
   have:=zE1 hn
   omega
  have sf:s≠f:=fun e=>by rw[e,h1] at hs;cases hs
  have sa:s≠a:=fun e=>by rw[e,h2] at hs;cases hs
  have gs:G.m s=none:=by
   cases q:G.m s with
   | none=>rfl
   | some o=>rw[h3.m s o q] at hs;cases hs
  match hb:both r p,hl with
  | [x,y,z,w],_ =>
   have hcr:zd r p=(decide (x≠y)&&decide (y≠z)):=by unfold zd;rw[hb]
   rw[hcr] at hc
   ((try dsimp only [zl,zT,zq,xIf,wC,zy,gN,gNN,zO,yZ,wq,yJ,zA,zH,zJ,zx,zc,zz,zB,look,zR,zBA,zBT,zBf,zDL,zDM,zEz,zBj,zB7,fII,yY,yv,fEq,xC,xB,zB0,zBr,zAU,zFd,zAx,ce,bT,bV,bK,bL,bO,bR,bM,bN,Nat.reduceSub,Nat.reduceAdd,zI1,zI2,zI3,zI4,zAE,zBg,zBh,if_true,if_false,bJ]) <;> (try simp only [zl,zT,zq,xIf,wC,zy,gN,gNN,zO,yZ,wq,yJ,zA,zH,zJ,zx,zc,zz,zB,look,zR,zBA,zBT,zBf,zDL,zDM,zEz,zBj,zB7,fII,yY,yv,fEq,xC,xB,zB0,zBr,zAU,zFd,zAx,ce,bT,bV,bK,bL,bO,bR,bM,bN,Nat.reduceSub,Nat.reduceAdd,zI1,zI2,zI3,zI4,zAE,zBg,zBh,if_true,if_false,bJ]))
   refine zAh zK (zDK _ _) (zAh zK (zHu _ _ _) ?_)
   ((try dsimp only [zl,zT,zq,xIf,wC,zy,gN,gNN,zO,yZ,wq,yJ,zA,zH,zJ,zx,zc,zz,zB,look,zR,zBA,zBT,zBf,zDL,zDM,zEz,zBj,zB7,fII,yY,yv,fEq,xC,xB,zB0,zBr,zAU,zFd,zAx,ce,bT,bV,bK,bL,bO,bR,bM,bN,Nat.reduceSub,Nat.reduceAdd,zI1,zI2,zI3,zI4,zAE,zBg,zBh,if_true,if_false,bJ]) <;> (try simp only [zl,zT,zq,xIf,wC,zy,gN,gNN,zO,yZ,wq,yJ,zA,zH,zJ,zx,zc,zz,zB,look,zR,zBA,zBT,zBf,zDL,zDM,zEz,zBj,zB7,fII,yY,yv,fEq,xC,xB,zB0,zBr,zAU,zFd,zAx,ce,bT,bV,bK,bL,bO,bR,bM,bN,Nat.reduceSub,Nat.reduceAdd,zI1,zI2,zI3,zI4,zAE,zBg,zBh,if_true,if_false,bJ]))
   refine⟨rfl,rfl,?_⟩
   have exy:(!wP (nD x) (nD y))=decide (x≠y):=by rw[zCQ];rw[cF];simp;omega
   have eyz:(!wP (nD y) (nD z))=decide (y≠z):=by rw[zCQ];rw[cF];simp;omega
   rw[exy]
   have no:(decide (x≠y)&&decide (y≠z))=false→zAc [some (.tup (r.map nD)),some (.int n),some (.adr f),none,none,none] [some (.tup (r.map nD)),some (.int n),some (.adr f),some (nD p.1),some (nD p.2),some (.adr s)]∧∃ G'',Sub G'' (zU G2 s ([x,y,z,w].map nD))∧(G''.m f=some ((((wG n).take (k+1)).filter (zd r)).map yw)∧G''.m a=some ((wG n).map yw)∧Sub G G''):=fun hf=>by
    refine⟨.keep (.keep (.keep (.skip (.skip (.skip .nil))))),G2,.new hs,?_,h2,h3⟩
    rw[hc,hf];simpa using h1
   by_cases c1:x≠y
   ·rw[decide_eq_true c1]
    ((try dsimp only [zl,zT,zq,xIf,wC,zy,gN,gNN,zO,yZ,wq,yJ,zA,zH,zJ,zx,zc,zz,zB,look,zR,zBA,zBT,zBf,zDL,zDM,zEz,zBj,zB7,fII,yY,yv,fEq,xC,xB,zB0,zBr,zAU,zFd,zAx,ce,bT,bV,bK,bL,bO,bR,bM,bN,Nat.reduceSub,Nat.reduceAdd,zI1,zI2,zI3,zI4,zAE,zBg,zBh,if_true,if_false,bJ]) <;> (try simp only [zl,zT,zq,xIf,wC,zy,gN,gNN,zO,yZ,wq,yJ,zA,zH,zJ,zx,zc,zz,zB,look,zR,zBA,zBT,zBf,zDL,zDM,zEz,zBj,zB7,fII,yY,yv,fEq,xC,xB,zB0,zBr,zAU,zFd,zAx,ce,bT,bV,bK,bL,bO,bR,bM,bN,Nat.reduceSub,Nat.reduceAdd,zI1,zI2,zI3,zI4,zAE,zBg,zBh,if_true,if_false,bJ]))
    refine zAh zK (zHu _ _ _) (zAh zK (zMN _ _ _ _) ?_)
    ((try dsimp only [zl,zT,zq,xIf,wC,zy,gN,gNN,zO,yZ,wq,yJ,zA,zH,zJ,zx,zc,zz,zB,look,zR,zBA,zBT,zBf,zDL,zDM,zEz,zBj,zB7,fII,yY,yv,fEq,xC,xB,zB0,zBr,zAU,zFd,zAx,ce,bT,bV,bK,bL,bO,bR,bM,bN,Nat.reduceSub,Nat.reduceAdd,zI1,zI2,zI3,zI4,zAE,zBg,zBh,if_true,if_false,bJ]) <;> (try simp only [zl,zT,zq,xIf,wC,zy,gN,gNN,zO,yZ,wq,yJ,zA,zH,zJ,zx,zc,zz,zB,look,zR,zBA,zBT,zBf,zDL,zDM,zEz,zBj,zB7,fII,yY,yv,fEq,xC,xB,zB0,zBr,zAU,zFd,zAx,ce,bT,bV,bK,bL,bO,bR,bM,bN,Nat.reduceSub,Nat.reduceAdd,zI1,zI2,zI3,zI4,zAE,zBg,zBh,if_true,if_false,bJ]))
    refine⟨rfl,rfl,?_⟩
    rw[eyz]
    by_cases c2:y≠z
    ·rw[decide_eq_true c2]
     ((try dsimp only [zl,zT,zq,xIf,wC,zy,gN,gNN,zO,yZ,wq,yJ,zA,zH,zJ,zx,zc,zz,zB,look,zR,zBA,zBT,zBf,zDL,zDM,zEz,zBj,zB7,fII,yY,yv,fEq,xC,xB,zB0,zBr,zAU,zFd,zAx,ce,bT,bV,bK,bL,bO,bR,bM,bN,Nat.reduceSub,Nat.reduceAdd,zI1,zI2,zI3,zI4,zAE,zBg,zBh,if_true,if_false,bJ]) <;> (try simp only [zl,zT,zq,xIf,wC,zy,gN,gNN,zO,yZ,wq,yJ,zA,zH,zJ,zx,zc,zz,zB,look,zR,zBA,zBT,zBf,zDL,zDM,zEz,zBj,zB7,fII,yY,yv,fEq,xC,xB,zB0,zBr,zAU,zFd,zAx,ce,bT,bV,bK,bL,bO,bR,bM,bN,Nat.reduceSub,Nat.reduceAdd,zI1,zI2,zI3,zI4,zAE,zBg,zBh,if_true,if_false,bJ]))
     refine zES (d:=yw p) rfl (by rw[ze (Ne.symm sf)];exact h1) (fun Q q=>by ((try dsimp only [zl,zT,zq,xIf,wC,zy,gN,gNN,zO,yZ,wq,yJ,zA,zH,zJ,zx,zc,zz,zB,look,zR,zBA,zBT,zBf,zDL,zDM,zEz,zBj,zB7,fII,yY,yv,fEq,xC,xB,zB0,zBr,zAU,zFd,zAx,ce,bT,bV,bK,bL,bO,bR,bM,bN,Nat.reduceSub,Nat.reduceAdd,zI1,zI2,zI3,zI4,zAE,zBg,zBh,if_true,if_false,bJ]) <;> (try simp only [zl,zT,zq,xIf,wC,zy,gN,gNN,zO,yZ,wq,yJ,zA,zH,zJ,zx,zc,zz,zB,look,zR,zBA,zBT,zBf,zDL,zDM,zEz,zBj,zB7,fII,yY,yv,fEq,xC,xB,zB0,zBr,zAU,zFd,zAx,ce,bT,bV,bK,bL,bO,bR,bM,bN,Nat.reduceSub,Nat.reduceAdd,zI1,zI2,zI3,zI4,zAE,zBg,zBh,if_true,if_false,bJ]));exact q) hz ⟨.keep (.keep (.keep (.skip (.skip (.skip .nil))))),_,.refl _,?_,?_,?_⟩
     ·rw[zK,hc,decide_eq_true c1,decide_eq_true c2]
      simp
     ·rw[ze fa,ze (Ne.symm sa)];exact h2
     ·exact(h3.put gs).put hf
    ·rw[decide_eq_false c2]
     ((try dsimp only [zl,zT,zq,xIf,wC,zy,gN,gNN,zO,yZ,wq,yJ,zA,zH,zJ,zx,zc,zz,zB,look,zR,zBA,zBT,zBf,zDL,zDM,zEz,zBj,zB7,fII,yY,yv,fEq,xC,xB,zB0,zBr,zAU,zFd,zAx,ce,bT,bV,bK,bL,bO,bR,bM,bN,Nat.reduceSub,Nat.reduceAdd,zI1,zI2,zI3,zI4,zAE,zBg,zBh,if_true,if_false,bJ]) <;> (try simp only [zl,zT,zq,xIf,wC,zy,gN,gNN,zO,yZ,wq,yJ,zA,zH,zJ,zx,zc,zz,zB,look,zR,zBA,zBT,zBf,zDL,zDM,zEz,zBj,zB7,fII,yY,yv,fEq,xC,xB,zB0,zBr,zAU,zFd,zAx,ce,bT,bV,bK,bL,bO,bR,bM,bN,Nat.reduceSub,Nat.reduceAdd,zI1,zI2,zI3,zI4,zAE,zBg,zBh,if_true,if_false,bJ]))
     exact no (by simp[c2])
   ·rw[decide_eq_false c1]
    ((try dsimp only [zl,zT,zq,xIf,wC,zy,gN,gNN,zO,yZ,wq,yJ,zA,zH,zJ,zx,zc,zz,zB,look,zR,zBA,zBT,zBf,zDL,zDM,zEz,zBj,zB7,fII,yY,yv,fEq,xC,xB,zB0,zBr,zAU,zFd,zAx,ce,bT,bV,bK,bL,bO,bR,bM,bN,Nat.reduceSub,Nat.reduceAdd,zI1,zI2,zI3,zI4,zAE,zBg,zBh,if_true,if_false,bJ]) <;> (try simp only [zl,zT,zq,xIf,wC,zy,gN,gNN,zO,yZ,wq,yJ,zA,zH,zJ,zx,zc,zz,zB,look,zR,zBA,zBT,zBf,zDL,zDM,zEz,zBj,zB7,fII,yY,yv,fEq,xC,xB,zB0,zBr,zAU,zFd,zAx,ce,bT,bV,bK,bL,bO,bR,bM,bN,Nat.reduceSub,Nat.reduceAdd,zI1,zI2,zI3,zI4,zAE,zBg,zBh,if_true,if_false,bJ]))
    exact no (by simp[c1])
 ·rintro G2 ⟨h1,h2,h3⟩
  rw[bU,e8] at h1
  ((try dsimp only [zl,zT,zq,xIf,wC,zy,gN,gNN,zO,yZ,wq,yJ,zA,zH,zJ,zx,zc,zz,zB,look,zR,zBA,zBT,zBf,zDL,zDM,zEz,zBj,zB7,fII,yY,yv,fEq,xC,xB,zB0,zBr,zAU,zFd,zAx,ce,bT,bV,bK,bL,bO,bR,bM,bN,Nat.reduceSub,Nat.reduceAdd,zI1,zI2,zI3,zI4,zAE,zBg,zBh,if_true,if_false,bJ]) <;> (try simp only [zl,zT,zq,xIf,wC,zy,gN,gNN,zO,yZ,wq,yJ,zA,zH,zJ,zx,zc,zz,zB,look,zR,zBA,zBT,zBf,zDL,zDM,zEz,zBj,zB7,fII,yY,yv,fEq,xC,xB,zB0,zBr,zAU,zFd,zAx,ce,bT,bV,bK,bL,bO,bR,bM,bN,Nat.reduceSub,Nat.reduceAdd,zI1,zI2,zI3,zI4,zAE,zBg,zBh,if_true,if_false,bJ]))
  refine⟨((wG n).filter (zd r)).map yw,.inl h1,?_⟩
  exact⟨G,h3,h⟩
theorem zE4{α:Type}:∀(l:List α) (i:Nat) (h:i<l.length),(l[i]::l.eraseIdx i).Perm l
 | a::r,0,_=>by simp
 | a::r,i+1,h=>by
  have hi:i<r.length:=by simpa using h
  simp only[List.getElem_cons_succ,List.eraseIdx_cons_succ]
  exact(eQ.swap a (r[i]'hi) _).trans ((zE4 r i (by simpa using h)).cons a)
theorem zCm{α β:Type}(f:α→β):∀(l:List α) (i:Nat),(l.map f).eraseIdx i=(l.eraseIdx i).map f
 | [],_=>by simp
 | a::r,0=>by simp
 | a::r,i+1=>by simp[zCm f r i]
noncomputable def DrS(l:Addr)(G G':Gp):Prop:=∃ G1,Dr l G G1∧Sub G1 G'
theorem DrS.dr{l:Addr}{G G1 G2:Gp}(h:DrS l G G1)(d:Dr l G1 G2):DrS l G G2:=by
 obtain⟨G0,d0,s0⟩:=h
 obtain⟨G3,d3,s3⟩:=d.sub s0
 exact⟨G3,d0.trans d3,s3⟩
theorem DrS.put{l f:Addr}{G G1:Gp}{x:List D}(h:DrS l G G1)(s:zAg G l)(n:G.m f=none):DrS l G (zU G1 f x):=by
 obtain⟨G0,d0,s0⟩:=h
 exact⟨G0,d0,s0.put (d0.none s n)⟩
theorem DrS.refl{l:Addr}{G:Gp}(s:zAg G l):DrS l G G:=⟨G,.refl s,.refl G⟩
theorem DrS.st{l:Addr}{G G':Gp}(h:DrS l G G'):zAg G' l:=by
 obtain⟨G0,d0,s0⟩:=h
 exact d0.st.ext s0
theorem DrS.own{l:Addr}{G G':Gp}(h:DrS l G G')(s:zAg G l){a:Addr}(n:G'.m a=none):G.m a=none:=by
 obtain⟨G0,d0,s0⟩:=h
 have n0:G0.m a=none:=by
  cases q:G0.m a with
  | none=>rfl
  | some o=>rw[s0.m a o q] at n;cases n
 by_cases ha:a=l
 ·subst ha
  obtain⟨u0,u0,e,u0⟩:=d0.st
  rw[e] at n0;cases n0
 ·rw[d0.ne ha] at n0;exact n0
theorem DrS.fin{l:Addr}{G G':Gp}{d:D}{R:Q2}(h:DrS l G G')(q:∀ G',Dr l G G'→R d G'):FgR R d G':=by
 obtain⟨G0,d0,s0⟩:=h
 exact⟨G0,s0,q G0 d0⟩
theorem drawn{σ:S2}{G G0:Gp}{st lf:Addr}{xs:List Nat}{i0 i2 k:Nat}{t:wN}{R:Q2}(h0:look σ i0=some (.adr st))(h2:look σ i2=some (.adr lf))(hk:σ.length=k)
  (ht:PuA t σ G [nD xs.length]) (hs:zAg G st) (hs0:zAg G0 st) (hne:lf≠st) (hx:G.m lf=some (xs.map nD)) (h0lf:G0.m lf=none) (hd:DrS st G0 G) (hlen:xs.length≤1000)
  (hR:∀(ys:List Nat) (G':Gp),ys.Perm xs→DrS st G0 G'→R (.tup (ys.map nD)) G') :
  zc zz (yA (iR1 t) bd1 zBw (zGn (zB i2) (zA (zJ zh (zA (zB i0) (zA (zJ zo (zA (zB i2) zH)) zH))) zH))) σ G R:=by
 have lk:∀(j:Nat) (o:D) (d:D),look σ j=some o→look (σ++[some d]) j=some o:=fun j o d h=>by
  clear h0 h2 hk ht
  induction σ generalizing j with
  | nil=>cases h
  | cons a r ih =>
   cases j with
   | zero=>exact h
   | succ j=>exact ih j h
 refine zJr (ht G (.refl G) _ ⟨by omega,fun A hA=>?_⟩)
 rw[wU]
 have Alf:A≠lf:=fun e=>by rw[e,hx] at hA;cases hA
 have Ast:A≠st:=hs.ne hA
 refine zHt (fun i acc G'=>∃ ys zs:List Nat,acc=ys.map nD∧ys.length=i∧(ys++zs).Perm xs∧G'.m A=some acc∧G'.m lf=some (zs.map nD)∧DrS st G0 G')
  ⟨[],xs,rfl,rfl,.refl _,zK,by rw[ze (Ne.symm Alf)];exact hx,hd.put hs0 (hd.own hs0 hA)⟩ (fun i acc G' ⟨ys,zs,h1,h2,h3,h4,h5,h6⟩=>⟨trivial,h4,by rw[h1,bU];omega⟩) ?_ ?_
 ·rintro i x acc G' hi ⟨ys,zs,rfl,h2',h3,h4,h5,h6⟩
  obtain⟨rfl,hi⟩:=zGy hi
  refine⟨[nD i],rfl,?_⟩
  have hz:ys.length+zs.length=xs.length:=by have:=h3.length_eq;rwa [ci] at this
  have st':=h6.st
  unfold zBw
  dsimp only
  rw[if_pos rfl]
  unfold zGn
  rw[show zB i2=fun σ G R=>match look σ i2 with | some d=>R d G | none=>False from rfl]
  dsimp only
  rw[show ce some [nD i]=[some (nD i)] from rfl,lk i2 _ _ h2]
  dsimp only
  rw[h5]
  dsimp only
  simp only[zA,zJ,zB,zH,lk i0 _ _ h0,lk i2 _ _ h2]
  refine⟨zs.map nD,.inl h5,?_⟩
  rw[bU]
  refine⟨st,zs.length,rfl,st',by omega,by omega,fun r G1 hr d1=>?_⟩
  have e1:G1.m lf=some (zs.map nD):=by rw[d1.ne hne];exact h5
  dsimp only
  rw[e1]
  dsimp only
  refine⟨⟨by omega,by rw[bU];omega,by omega⟩,?_⟩
  have e2:(ce nD zs)[(r:Int).toNat]?=some (nD zs[r]):=by simp[hr]
  rw[e2]
  dsimp only
  have Aa:(zU G1 lf ((ce nD zs).eraseIdx (r:Int).toNat)).m A=some (ys.map nD):=by rw[ze Alf,d1.ne Ast];exact h4
  refine⟨Aa,.of ⟨ys++[zs[r]],zs.eraseIdx r,by simp,by simp[h2'],?_,zK,?_,?_⟩⟩
  ·rw[dg]
   exact((zE4 zs r hr).append_left ys).trans h3
  ·rw[ze (Ne.symm Alf),zK]
   simp[zCm]
  ·have hA0:G0.m A=none:=hd.own hs0 hA
   exact(((h6.dr d1).put hs0 h0lf).put hs0 hA0)
 ·rintro acc G' ⟨ys,zs,rfl,h2',h3,h4,h5,h6⟩
  rw[bU,cz] at h2'
  have hz:ys.length+zs.length=xs.length:=by have:=h3.length_eq;rwa [ci] at this
  have:zs=[]:=ef.mp (by omega)
  subst this
  rw[dY] at h3
  -- forget the list itself
  obtain⟨G1,d1,s1⟩:=h6
  refine⟨G1,d1.none hs0 (hd.own hs0 hA),s1,?_⟩
  exact hR ys G1 h3 ⟨G1,d1,.refl _⟩
noncomputable def zAI:wm:=fun ds G R=>∃(l:Addr) (n:Nat),ds=[.adr l,nD n]∧zAg G l∧n≤100∧∀(r:List Nat) (G':Gp),zAH n r→Dr l G G'→R (.tup (r.map nD)) G'
noncomputable def zDR:ye:=(zT (zq (yJ (zQx (yJ (zCv (zA (zB 1) zH))) (xC (.int 2)))) (gN 2)) (zl (zc zz (yA (iR1 (zA (zO (yY zC7 fun i j=>.int (i*j)) (xC (.int 2)) (zB 1)) zH)) bd1 zBw (zGn (zB 2) (zA (zJ zh (zA (zB 0) (zA (zJ zo (zA (zB 2) zH)) zH))) zH))))))
theorem zMY(ds:List D)(G:Gp)(R:Q2)(h:zAI ds G R):ds.length=2∧zDR (zg R) (zR ["state","many","left"] ds) G:=by
 obtain⟨l,n,rfl,hs,hn,h⟩:=h
 refine⟨rfl,?_⟩
 unfold zDR zT zq yJ zQx zCv
 ((try dsimp only [zl,zT,zq,xIf,wC,zy,gN,gNN,zO,yZ,wq,yJ,zA,zH,zJ,zx,zc,zz,zB,look,zR,zBA,zBT,zBf,zDL,zDM,zEz,zBj,zB7,fII,yY,yv,fEq,xC,xB,zB0,zBr,zAU,zFd,zAx,ce,bT,bV,bK,bL,bO,bR,bM,bN,Nat.reduceSub,Nat.reduceAdd,zI1,zI2,zI3,zI4,zAE,zBg,zBh,if_true,if_false,bJ]) <;> (try simp only [zl,zT,zq,xIf,wC,zy,gN,gNN,zO,yZ,wq,yJ,zA,zH,zJ,zx,zc,zz,zB,look,zR,zBA,zBT,zBf,zDL,zDM,zEz,zBj,zB7,fII,yY,yv,fEq,xC,xB,zB0,zBr,zAU,zFd,zAx,ce,bT,bV,bK,bL,bO,bR,bM,bN,Nat.reduceSub,Nat.reduceAdd,zI1,zI2,zI3,zI4,zAE,zBg,zBh,if_true,if_false,bJ]))
 refine⟨by omega,fun a ha=>?_⟩
 rw[zK]
 dsimp only
 rw[wU]
 refine⟨by omega,by simp;omega,fun lf hlf=>?_⟩
 have e:(cq (2:Int).toNat (ce nD (bQ n))).flatten=(bQ n++bQ n).map nD:=by
  show(cq 2 _).flatten=_
  simp[bM]
 rw[e]
 have hlf0:G.m lf=none:=by
  have:lf≠a:=fun e=>by rw[e,zK] at hlf;cases hlf
  rw[ze this] at hlf;exact hlf
 have la:lf≠l:=hs.ne hlf0
 have hsG:zAg (zU (zU G a (ce nD (bQ n))) lf ((bQ n++bQ n).map nD)) l:=(hs.ext (.new ha)).ext (.new hlf)
 have hdr:DrS l G (zU (zU G a (ce nD (bQ n))) lf ((bQ n++bQ n).map nD)):=((DrS.refl hs).put hs ha).put hs hlf0
 have hlen:(bQ n++bQ n).length=2*n:=by simp;omega
 refine drawn (k:=3) (xs:=bQ n++bQ n) (i0:=0) (i2:=2) rfl rfl rfl (zF ?_ zM) hsG hs la zK hlf0 hdr (by omega) fun ys G' hp hd=>hd.fin fun G1 d1=>h ys G1 hp d1
 have:nD (bQ n++bQ n).length=.int (2*(n:Int)):=by rw[hlen];unfold nD;congr 1
 rw[this]
 exact yF yC (zE rfl) fun u0 u0 u0 q=>⟨.inl ⟨by decide,by decide⟩,q⟩
noncomputable def zAz:wm:=fun ds G R=>∃(l:Addr) (n:Nat),ds=[.adr l,nD n]∧zAg G l∧n≤100∧∀(r:List Nat) G',r.Perm (bQ n)→Dr l G G'→R (.tup (r.map nD)) G'
noncomputable def zCT:ye:=(zT (zq (yJ (zCv (zA (zB 1) zH))) (gN 2)) (zl (zc zz (yA (iR1 (zA (zB 1) zH)) bd1 zBw (zGn (zB 2) (zA (zJ zh (zA (zB 0) (zA (zJ zo (zA (zB 2) zH)) zH))) zH))))))
theorem zKs(ds:List D)(G:Gp)(R:Q2)(h:zAz ds G R):ds.length=2∧zCT (zg R) (zR ["state","many","left"] ds) G:=by
 obtain⟨l,n,rfl,hs,hn,h⟩:=h
 refine⟨rfl,?_⟩
 unfold zCT zT zq yJ zCv
 ((try dsimp only [zl,zT,zq,xIf,wC,zy,gN,gNN,zO,yZ,wq,yJ,zA,zH,zJ,zx,zc,zz,zB,look,zR,zBA,zBT,zBf,zDL,zDM,zEz,zBj,zB7,fII,yY,yv,fEq,xC,xB,zB0,zBr,zAU,zFd,zAx,ce,bT,bV,bK,bL,bO,bR,bM,bN,Nat.reduceSub,Nat.reduceAdd,zI1,zI2,zI3,zI4,zAE,zBg,zBh,if_true,if_false,bJ]) <;> (try simp only [zl,zT,zq,xIf,wC,zy,gN,gNN,zO,yZ,wq,yJ,zA,zH,zJ,zx,zc,zz,zB,look,zR,zBA,zBT,zBf,zDL,zDM,zEz,zBj,zB7,fII,yY,yv,fEq,xC,xB,zB0,zBr,zAU,zFd,zAx,ce,bT,bV,bK,bL,bO,bR,bM,bN,Nat.reduceSub,Nat.reduceAdd,zI1,zI2,zI3,zI4,zAE,zBg,zBh,if_true,if_false,bJ]))
 refine⟨by omega,fun lf hlf=>?_⟩
 rw[wU]
 have la:lf≠l:=hs.ne hlf
 have hlen:(bQ n).length=n:=by simp
 refine drawn (k:=3) (xs:=bQ n) (i0:=0) (i2:=2) rfl rfl rfl (zF (by rw[hlen];exact zE rfl) zM) (hs.ext (.new hlf)) hs la zK hlf ((DrS.refl hs).put hs hlf) (by omega) fun ys G' hp hd=>hd.fin fun G1 d1=>h ys G1 hp d1
theorem zE5{l s:List (Nat×Nat)}(h:s.Sublist l)(nd:l.Nodup):(l.filter fun x=>decide (x∈s))=s:=by
 induction h with
 | slnil=>rfl
 | @cons s l a h ih =>
  obtain⟨h1,h2⟩:=du.mp nd
  have:a∉s:=fun m=>h1 (h.subset m)
  rw[eB,if_neg (by simpa using this)]
  exact ih h2
 | @cons_cons s l a h ih =>
  obtain⟨h1,h2⟩:=du.mp nd
  rw[eB,if_pos (by simp)]
  congr 1
  refine Eq.trans (eO fun x hx=>?_) (ih h2)
  have:x≠a:=fun e=>h1 (e▸hx)
  simp[this]
theorem zOb{n:Nat}{s:List (Nat×Nat)}(h:s.Sublist (wG n)):zS n (fun p=>decide (p∈s))=.tup [nD n,.tup (s.map yw)]:=by
 unfold zS
 rw[zE5 h (zF6 n)]
theorem picked{σ:S2}{G G0:Gp}{st pl:Addr}{n i0 i4 k:Nat}{tc:TT2}{R:List D→Gp→Prop}(h0:look σ i0=some (.adr st))(h4:look σ i4=some (.adr pl))(hk:σ.length=k)
  (hs0:zAg G0 st) (hne:pl≠st) (hx:G.m pl=some ((wG n).map yw)) (hd:DrS st G0 G)
  (hc:∀(p:Nat×Nat) (G':Gp) (Q:Bool→Gp→Prop),p∈wG n→zAg G' st→(∀ b G1,Dr st G' G1→Q b G1)→tc (σ++[some (yw p)]) G' Q)
  (hR:∀(s:List (Nat×Nat)) (G':Gp),s.Sublist (wG n)→DrS st G0 G'→R (s.map yw) G') :
  yA (iV (zB i4)) bd1 tc (zB k) σ G R:=by
 have lk:∀ d,look (σ++[some d]) k=some d:=fun d=>by
  subst hk
  clear h0 h4 hc
  induction σ with
  | nil=>rfl
  | cons a r ih=>exact ih
 refine zJr ?_
 unfold iV zB
 rw[h4]
 refine⟨(wG n).map yw,.inl hx,fun A hA=>?_⟩
 have Apl:A≠pl:=fun e=>by rw[e,hx] at hA;cases hA
 have Ast:A≠st:=hd.st.ne hA
 have hA0:=hd.own hs0 hA
 refine zHt (fun i acc G'=>∃ s:List (Nat×Nat),acc=s.map yw∧s.Sublist ((wG n).take i)∧G'.m A=some acc∧G'.m pl=some ((wG n).map yw)∧DrS st G0 G')
  ⟨[],rfl,by simp,zK,by rw[ze (Ne.symm Apl)];exact hx,hd.put hs0 hA0⟩ (fun i acc G' ⟨s,h1,h2,h3,h4,h5⟩=>⟨.inl h4,h3,by rw[h1,bU];exact dh h2.length_le (by rw[cK];omega)⟩) ?_ ?_
 ·rintro i x acc G' hi ⟨s,rfl,h2,h3,h4',h5⟩
  obtain⟨p,hp,rfl⟩:=zC8 hi
  refine⟨[yw p],rfl,hc p G' _ (cy hp) h5.st fun b G1 d1=>?_⟩
  have m1:G1.m A=some (s.map yw):=by rw[d1.ne Ast];exact h3
  have m2:G1.m pl=some ((wG n).map yw):=by rw[d1.ne hne];exact h4'
  cases b with
  | false =>
   rw[if_neg (by simp)]
   exact .of ⟨s,rfl,by rw[yU hp];exact h2.trans (List.sublist_append_left _ _),m1,m2,h5.dr d1⟩
  | true =>
   rw[if_pos rfl]
   show match look (σ++[some (yw p)]) k with | some d=>_ | none=>_
   rw[lk]
   refine⟨m1,.of ⟨s++[p],by simp,by rw[yU hp];exact h2.append (List.Sublist.refl _),zK,by rw[ze (Ne.symm Apl)];exact m2,(h5.dr d1).put hs0 hA0⟩⟩
 ·rintro acc G' ⟨s,rfl,h2,h3,h4',h5⟩
  rw[bU,e8] at h2
  obtain⟨G1,d1,s1⟩:=h5
  exact⟨G1,d1.none hs0 hA0,s1,hR s G1 h2 ⟨G1,d1,.refl _⟩⟩
noncomputable def zB8:wm:=fun ds G R=>∃(l:Addr) (m:Nat),ds=[.adr l,nD m]∧zAg G l∧1≤m∧m≤50∧∀(n:Nat) (q:Nat×Nat→Bool) (G':Gp),1≤n→n≤m→Dr l G G'→R (zS n q) G'
noncomputable def zEU:ye:=(zT (zq (zO yv (xC (.int 1)) (zJ zh (zA (zB 0) (zA (zB 1) zH)))) (gN 2)) (zT (zq (zJ zh (zA (zB 0) (zA (xC (.int 5)) zH))) (gN 3)) (zT (zq (yJ (zx yj (zA (zB 2) zH))) (gN 4)) (zT (xIf (xB (zO (fEq false) (zB 3) (xC (.int 0)))) (zl (zJ wa (zA (zJ zAI (zA (zB 0) (zA (zB 2) zH))) zH))) zy) (zT (xIf (xB (zO (fEq false) (zB 3) (xC (.int 1)))) (zl (yZ (zA (zB 2) (zA (zc zz (yA (iV (zB 4)) bd1 (zB0 (xB (zO (fEq false) (zO yS (zB 6) (xC (.int 1))) (zO yv (zO yS (zB 6) (xC (.int 0))) (xC (.int 1))))) (xB (zO (fEq false) (zJ zh (zA (zB 0) (zA (xC (.int 6)) zH))) (xC (.int 0))))) (zB 6))) zH)))) zy) (zT (zq (zO yS (yJ (wq (zA (xC (.int 2)) (zA (xC (.int 3)) (zA (xC (.int 4)) zH))))) (zO (fII fun i j=>.int (i-j)) (zB 3) (xC (.int 2)))) (gN 5)) (zl (yZ (zA (zB 2) (zA (zc zz (yA (iV (zB 4)) bd1 (xB (zO (fEq false) (zJ zh (zA (zB 0) (zA (zB 5) zH))) (xC (.int 0)))) (zB 6))) zH))))))))))
theorem zOc(ds:List D)(G:Gp)(R:Q2)(h:zB8 ds G R):ds.length=2∧zEU (zg R) (zR ["state","most","many","way","pairs_v","far"] ds) G:=by
 obtain⟨l,m,rfl,hs,hm1,hm,h⟩:=h
 refine⟨rfl,?_⟩
 unfold zEU
 ((try dsimp only [zl,zT,zq,xIf,wC,zy,gN,gNN,zO,yZ,wq,yJ,zA,zH,zJ,zx,zc,zz,zB,look,zR,zBA,zBT,zBf,zDL,zDM,zEz,zBj,zB7,fII,yY,yv,fEq,xC,xB,zB0,zBr,zAU,zFd,zAx,ce,bT,bV,bK,bL,bO,bR,bM,bN,Nat.reduceSub,Nat.reduceAdd,zI1,zI2,zI3,zI4,zAE,zBg,zBh,if_true,if_false,bJ]) <;> (try simp only [zl,zT,zq,xIf,wC,zy,gN,gNN,zO,yZ,wq,yJ,zA,zH,zJ,zx,zc,zz,zB,look,zR,zBA,zBT,zBf,zDL,zDM,zEz,zBj,zB7,fII,yY,yv,fEq,xC,xB,zB0,zBr,zAU,zFd,zAx,ce,bT,bV,bK,bL,bO,bR,bM,bN,Nat.reduceSub,Nat.reduceAdd,zI1,zI2,zI3,zI4,zAE,zBg,zBh,if_true,if_false,bJ]))
 refine⟨l,m,rfl,hs,by omega,by omega,fun r G1 hr d1=>?_⟩
 ((try dsimp only [zl,zT,zq,xIf,wC,zy,gN,gNN,zO,yZ,wq,yJ,zA,zH,zJ,zx,zc,zz,zB,look,zR,zBA,zBT,zBf,zDL,zDM,zEz,zBj,zB7,fII,yY,yv,fEq,xC,xB,zB0,zBr,zAU,zFd,zAx,ce,bT,bV,bK,bL,bO,bR,bM,bN,Nat.reduceSub,Nat.reduceAdd,zI1,zI2,zI3,zI4,zAE,zBg,zBh,if_true,if_false,bJ]) <;> (try simp only [zl,zT,zq,xIf,wC,zy,gN,gNN,zO,yZ,wq,yJ,zA,zH,zJ,zx,zc,zz,zB,look,zR,zBA,zBT,zBf,zDL,zDM,zEz,zBj,zB7,fII,yY,yv,fEq,xC,xB,zB0,zBr,zAU,zFd,zAx,ce,bT,bV,bK,bL,bO,bR,bM,bN,Nat.reduceSub,Nat.reduceAdd,zI1,zI2,zI3,zI4,zAE,zBg,zBh,if_true,if_false,bJ]))
 refine⟨l,5,rfl,d1.st,by omega,by omega,fun way G2 hway d2=>?_⟩
 have d12:=d1.trans d2
 have e1:(1:Int)+(r:Int)=((r+1:Nat):Int):=by omega
 ((try dsimp only [zl,zT,zq,xIf,wC,zy,gN,gNN,zO,yZ,wq,yJ,zA,zH,zJ,zx,zc,zz,zB,look,zR,zBA,zBT,zBf,zDL,zDM,zEz,zBj,zB7,fII,yY,yv,fEq,xC,xB,zB0,zBr,zAU,zFd,zAx,ce,bT,bV,bK,bL,bO,bR,bM,bN,Nat.reduceSub,Nat.reduceAdd,zI1,zI2,zI3,zI4,zAE,zBg,zBh,if_true,if_false,bJ]) <;> (try simp only [zl,zT,zq,xIf,wC,zy,gN,gNN,zO,yZ,wq,yJ,zA,zH,zJ,zx,zc,zz,zB,look,zR,zBA,zBT,zBf,zDL,zDM,zEz,zBj,zB7,fII,yY,yv,fEq,xC,xB,zB0,zBr,zAU,zFd,zAx,ce,bT,bV,bK,bL,bO,bR,bM,bN,Nat.reduceSub,Nat.reduceAdd,zI1,zI2,zI3,zI4,zAE,zBg,zBh,if_true,if_false,bJ]))
 rw[e1]
 refine⟨r+1,rfl,by omega,fun pl hpl=>?_⟩
 have hpl0:G.m pl=none:=by
  have:pl≠l:=d2.st.ne hpl
  rw[d12.ne this] at hpl;exact hpl
 have hne:pl≠l:=hs.ne hpl0
 have hdr:DrS l G (zU G2 pl ((wG (r+1)).map yw)):=(DrS.put (x:=(wG (r+1)).map yw) ⟨G2,d12,.refl _⟩ hs hpl0)
 have fin:∀(s:List (Nat×Nat)) (G':Gp),s.Sublist (wG (r+1))→DrS l G G'→FgR R (.tup [.int ((r+1:Nat):Int),.tup (s.map yw)]) G':=fun s G' hsub hd=>hd.fin fun G3 d3=>by
  have:=h (r+1) (fun p=>decide (p∈s)) G3 (by omega) (by omega) d3
  rw[zOb hsub] at this
  exact this
 have e0:wP (nD way) (.int 0)=decide (way=0):=by rw[zCQ];rw[cF];simp
 have e1':wP (nD way) (.int 1)=decide (way=1):=by rw[zCQ];rw[cF];simp;omega
 refine⟨rfl,rfl,?_⟩
 rw[e0]
 by_cases w0:way=0
 ·rw[decide_eq_true w0,if_pos rfl]
  refine⟨l,r+1,rfl,hdr.st,by omega,fun ring G3 hring d3=>?_⟩
  ((try dsimp only [zl,zT,zq,xIf,wC,zy,gN,gNN,zO,yZ,wq,yJ,zA,zH,zJ,zx,zc,zz,zB,look,zR,zBA,zBT,zBf,zDL,zDM,zEz,zBj,zB7,fII,yY,yv,fEq,xC,xB,zB0,zBr,zAU,zFd,zAx,ce,bT,bV,bK,bL,bO,bR,bM,bN,Nat.reduceSub,Nat.reduceAdd,zI1,zI2,zI3,zI4,zAE,zBg,zBh,if_true,if_false,bJ]) <;> (try simp only [zl,zT,zq,xIf,wC,zy,gN,gNN,zO,yZ,wq,yJ,zA,zH,zJ,zx,zc,zz,zB,look,zR,zBA,zBT,zBf,zDL,zDM,zEz,zBj,zB7,fII,yY,yv,fEq,xC,xB,zB0,zBr,zAU,zFd,zAx,ce,bT,bV,bK,bL,bO,bR,bM,bN,Nat.reduceSub,Nat.reduceAdd,zI1,zI2,zI3,zI4,zAE,zBg,zBh,if_true,if_false,bJ]))
  refine⟨r+1,ring,rfl,hring,by omega,?_⟩
  exact(hdr.dr d3).fin fun G4 d4=>h _ _ G4 (by omega) (by omega) d4
 ·rw[decide_eq_false w0,if_neg (by simp)]
  refine⟨rfl,rfl,?_⟩
  rw[e1']
  by_cases w1:way=1
  ·rw[decide_eq_true w1,if_pos rfl]
   refine picked (k:=6) (i0:=0) (n:=r+1) rfl rfl rfl hs hne zK hdr (fun p G' Q hp hst hQ=>?_) fun s G' hsub hd=>?_
   ·show zB0 _ _ _ _ _
    unfold yw
    ((try dsimp only [zl,zT,zq,xIf,wC,zy,gN,gNN,zO,yZ,wq,yJ,zA,zH,zJ,zx,zc,zz,zB,look,zR,zBA,zBT,zBf,zDL,zDM,zEz,zBj,zB7,fII,yY,yv,fEq,xC,xB,zB0,zBr,zAU,zFd,zAx,ce,bT,bV,bK,bL,bO,bR,bM,bN,Nat.reduceSub,Nat.reduceAdd,zI1,zI2,zI3,zI4,zAE,zBg,zBh,if_true,if_false,bJ]) <;> (try simp only [zl,zT,zq,xIf,wC,zy,gN,gNN,zO,yZ,wq,yJ,zA,zH,zJ,zx,zc,zz,zB,look,zR,zBA,zBT,zBf,zDL,zDM,zEz,zBj,zB7,fII,yY,yv,fEq,xC,xB,zB0,zBr,zAU,zFd,zAx,ce,bT,bV,bK,bL,bO,bR,bM,bN,Nat.reduceSub,Nat.reduceAdd,zI1,zI2,zI3,zI4,zAE,zBg,zBh,if_true,if_false,bJ]))
    refine⟨rfl,rfl,?_⟩
    cases wP (nD p.2) (.int ((p.1:Int)+1)) with
    | true=>rw[if_pos rfl];exact hQ true G' (.refl hst)
    | false =>
     rw[if_neg (by simp)]
     refine⟨l,6,rfl,hst,by omega,by omega,fun x G3 hx d3=>?_⟩
     exact⟨rfl,rfl,hQ _ G3 d3⟩
   ·exact fin s G' hsub hd
  ·rw[decide_eq_false w1,if_neg (by simp)]
   intro a ha
   have hat:∃ far:Nat,atI [D.int 2,D.int 3,D.int 4] ((way:Int)-2)=some (nD far)∧0<far∧far≤4:=by
    have:way=2∨way=3∨way=4:=by omega
    rcases this with rfl | rfl | rfl
    ·exact⟨2,zDK _ _,by omega,by omega⟩
    ·exact⟨3,zHu _ _ _,by omega,by omega⟩
    ·exact⟨4,zMN _ _ _ _,by omega,by omega⟩
   obtain⟨far,hat,hf1,hf2⟩:=hat
   refine zAh zK hat ?_
   have apl:pl≠a:=fun e=>by rw[← e,zK] at ha;cases ha
   have ha0:=hdr.own hs ha
   refine picked (k:=6) (i0:=0) (n:=r+1) rfl rfl rfl hs hne (by rw[ze apl];exact zK) (hdr.put hs ha0) (fun p G' Q hp hst hQ=>?_) fun s G' hsub hd=>?_
   ·show xB _ _ _ _
    ((try dsimp only [zl,zT,zq,xIf,wC,zy,gN,gNN,zO,yZ,wq,yJ,zA,zH,zJ,zx,zc,zz,zB,look,zR,zBA,zBT,zBf,zDL,zDM,zEz,zBj,zB7,fII,yY,yv,fEq,xC,xB,zB0,zBr,zAU,zFd,zAx,ce,bT,bV,bK,bL,bO,bR,bM,bN,Nat.reduceSub,Nat.reduceAdd,zI1,zI2,zI3,zI4,zAE,zBg,zBh,if_true,if_false,bJ]) <;> (try simp only [zl,zT,zq,xIf,wC,zy,gN,gNN,zO,yZ,wq,yJ,zA,zH,zJ,zx,zc,zz,zB,look,zR,zBA,zBT,zBf,zDL,zDM,zEz,zBj,zB7,fII,yY,yv,fEq,xC,xB,zB0,zBr,zAU,zFd,zAx,ce,bT,bV,bK,bL,bO,bR,bM,bN,Nat.reduceSub,Nat.reduceAdd,zI1,zI2,zI3,zI4,zAE,zBg,zBh,if_true,if_false,bJ]))
    refine⟨l,far,rfl,hst,by omega,by omega,fun x G3 hx d3=>?_⟩
    exact⟨rfl,rfl,hQ _ G3 d3⟩
   ·exact fin s G' hsub hd
section
variable {σ:S2} {G:Gp}
theorem zMZ{x y:D}{ng:Bool}{G:Gp}{R:Q2}(hx:flat 8 x=true)(hy:flat 8 y=true)(q:R (.bl (if ng then !wP x y else wP x y)) G):fEq ng x y G R:=by
 cases x with
 | adr _=>simp[flat] at hx
 | _=>exact⟨hx,hy,q⟩
theorem zE6{ta tb:zk}{x y:D}{ng b:Bool}(ha:zi ta σ G x)(hb:zi tb σ G y)(hx:flat 8 x=true)(hy:flat 8 y=true)(e:(if ng then !wP x y else wP x y)=b):zi (zO (fEq ng) ta tb) σ G (.bl b) :=
 yF ha hb fun u0 u0 u0 q=>zMZ hx hy (by rw[e];exact q)
theorem zQ9{T:String}{t:zk}{d:D}{b:Bool}(h:zi t σ G d)(hd:∀ l,d≠.adr l)(hi:zHo d T=b):zi (zHq T t) σ G (.bl b):=fun G2 e R q=>h G2 e _ (by
 subst hi
 cases d with
 | adr l=>exact absurd rfl (hd l)
 | _=>exact q)
theorem zRA{T:String}{t:zk}{d:D}(h:zi t σ G d)(hi:zHo d T=true):zi (zHq T t) σ G (.bl true):=zQ9 h (fun l z=>by subst z;cases hi) hi
theorem zMa{t u:TT2}(h:PuT t σ G false)(h':PuT u σ G false):PuT (zB0 t u) σ G false:=zQ1 h fun u0=>h'
theorem zOd{T:String}{t:zk}{d:D}(h:zi t σ G d)(hi:zHo d T=true):PuT (zAU (xB (zHq T t))) σ G false:=zCN (wW (zRA h hi))
theorem zJv{tc:TT2}{t u:ye}{E:yO}(h:PuT tc σ G false)(h':u E σ G):xIf tc t u E σ G:=h G (.refl G) _ (by rw[if_neg (by simp)];exact h')
theorem zJA{tc:TT2}{t u:ye}{E:yO}(h:PuT tc σ G true)(h':t E σ G):xIf tc t u E σ G:=h G (.refl G) _ (by rw[if_pos rfl];exact h')
theorem zAJ{tc:TT2}{t u:ye}{E:yO}(h:PuT tc σ G false)(h':u E σ G):zT (xIf tc t zy) u E σ G:=h G (.refl G) _ (by rw[if_neg (by simp)];exact h')
theorem zD4{te:zk}{E:yO}{d:D}(h:zi te σ G d)(h':E.rt d G):zl te E σ G:=h G (.refl G) _ h'
theorem yQ{te:zk}{g:TG2}{u:ye}{E:yO}(h:te σ G fun d G1=>g d σ G1 fun σ' G'=>u E σ' G'):zT (zq te g) u E σ G:=h
theorem zBL{sp:wm}{t:wN}{ds:List D}{R:Q2}(h:PuA t σ G ds)(h':sp ds G R):zJ sp t σ G R:=h G (.refl G) _ h'
theorem ym{ta:zk}{tr:wN}{d:D}{R:List D→Gp→Prop}(h:zi ta σ G d)(h':tr σ G fun xs G2=>R (d::xs) G2):zA ta tr σ G R:=h G (.refl G) _ h'
theorem zB9{ta:zk}{tr:wN}{R:List D→Gp→Prop}(h:ta σ G fun d G1=>tr σ G1 fun xs G2=>R (d::xs) G2):zA ta tr σ G R:=h
theorem zJB{sp:wm}{t:wN}{R:Q2}(h:t σ G fun ds G1=>sp ds G1 R):zJ sp t σ G R:=h
theorem zCA{tl:TL2}{ds:List D}{R:Q2}(h:PuL tl σ G ds)(h':∀ l,G.m l=none→R (.adr l) (zU G l ds)):yJ tl σ G R:=h G (.refl G) _ h'
theorem wI{te:zk}{g:TG2}{u:ye}{E:yO}{d:D}(h:zi te σ G d)(h':g d σ G fun σ' G'=>u E σ' G'):zT (zq te g) u E σ G:=h G (.refl G) _ h'
theorem zKt{tl:TL2}{l s:List Nat}(h:PuL tl σ G (l.map nD))(hl:l.length<64)(hp:s.Perm l)(hs:s.Pairwise (·≤·)):PuL (zB4 tl) σ G (s.map nD):=fun G2 e R q=>h G2 e _ (by
 have e1:l.map nD=(l.map fun(k:Nat)=>(k:Int)).map D.int:=by simp[nD]
 rw[e1,zEx]
 refine⟨by simpa using hl,fun ns' p1 p2=>?_⟩
 have:ns'=s.map fun(k:Nat)=>(k:Int):=by
  refine eQ.eq_of_pairwise (fun a b u0 u0 h1 h2=>Int.le_antisymm h1 h2) p2 ?_ (p1.trans (hp.map _).symm)
  exact dW.map _ (fun a b h=>by omega) hs
 subst this
 rw[da]
 exact q)
end
theorem zG0{n:Nat}{f:Nat→Bool}:((bQ n).filter f).Pairwise (·≤·):=(eW.imp (fun h=>ej h)).filter f
theorem zKu{σ:S2}{G:Gp}{a:Addr}{ns:List Int}{c:Int}(hc:1≤c∧c≤100)(h:look σ 0=some (.adr a))(ha:Ls G a (ns.map D.int)) :
  ∃ m:Nat,PuI (iR1 (zA (zJ zBT (zA (xC (.int 1)) (zA (zJ zBA (zA (zJ zo (zA (zB 0) zH)) (zA (xC (.int c)) zH))) zH))) zH)) σ G ((bQ m).map nD):=by
 have h1:zi (zJ zo (zA (zB 0) zH)) σ G (.int (ns.length:Int)):=zn (zF (zE h) zM) fun G2 e R q=>⟨ns.map D.int,e.ls ha,by rw[bU];exact q⟩
 have h2:zi (zJ zBA (zA (zJ zo (zA (zB 0) zH)) (zA (xC (.int c)) zH))) σ G (.int (if c<(ns.length:Int) then c else ns.length)):=zn (zF h1 (zF yC zM)) fun u0 u0 u0 q=>q
 have h3:zi (zJ zBT (zA (xC (.int 1)) (zA (zJ zBA (zA (zJ zo (zA (zB 0) zH)) (zA (xC (.int c)) zH))) zH))) σ G (.int (if (if c<(ns.length:Int) then c else ns.length)>1 then (if c<(ns.length:Int) then c else ns.length) else 1)):=zn (zF yC (zF h2 zM)) fun u0 u0 u0 q=>q
 have hb:(if (if c<(ns.length:Int) then c else ns.length)>1 then (if c<(ns.length:Int) then c else (ns.length:Int)) else 1)≤100∧1≤(if (if c<(ns.length:Int) then c else ns.length)>1 then (if c<(ns.length:Int) then c else (ns.length:Int)) else 1):=by
  split<;>split<;>omega
 generalize (if (if c<(ns.length:Int) then c else ns.length)>1 then (if c<(ns.length:Int) then c else (ns.length:Int)) else 1)=m at h3 hb
 refine⟨m.toNat,?_⟩
 have:(m.toNat:Int)=m:=by omega
 have q:=zAr (zF h3 zM) (by omega)
 rw[← this,wU] at q
 exact q
theorem zKv{a:Addr}{G:Gp}{σ:S2}{k:Nat}{ns:List Int}{i j:Nat}(hs:look σ i=some (.adr a))(hk:look σ j=some (nD k))(ha:Ls G a (ns.map D.int)){R:Q2}(h:∀ l s b,G.m l=none→OkS s b→R (.adr l) (zU G l [.int s,.bl b])):yJ (zx yk (zA (zB i) (zA (zB j) zH))) σ G R:=by
 unfold yJ zx zA zH zB
 simp only[hs,hk]
 exact⟨a,ns,k,rfl,ha,fun s b o l hl=>h l s b hl o⟩
theorem zKw{a:Addr}{G:Gp}{σ:S2}{k x:Nat}{ns:List Int}{i j:Nat}{u:ye}{E:yO}(hs:look σ i=some (.adr a))(hk:look σ j=some (nD k))(ha:Ls G a (ns.map D.int))(h:∀ l s b,G.m l=none→OkS s b→u E (σ.set x (some (.adr l))) (zU G l [.int s,.bl b])) :
  zT (zq (yJ (zx yk (zA (zB i) (zA (zB j) zH)))) (gN x)) u E σ G:=by
 have:=zKv (σ:=σ) (G:=G) (R:=fun d G1=>gN x d σ G1 (u E)) hs hk ha fun l s b hl ok=>h l s b hl ok
 exact this
theorem zJC{n:Nat}{q q':Nat×Nat→Bool}(h:∀ p∈wG n,q p=q' p):zS n q=zS n q':=by
 unfold zS
 rw[eO h]
noncomputable def yd(q:Nat×Nat→Bool)(ps:List Nat):Nat×Nat→Bool:=fun p=>yW q (ps.getD p.1 0) (ps.getD p.2 0)
noncomputable def yn:wm:=fun ds G R=>∃(n:Nat) (q:Nat×Nat→Bool) (ps:List Nat),ds=[zS n q,.tup (ps.map nD)]∧(∀ x∈ps,x<n)∧ps.length≤100∧R (zS ps.length (yd q ps)) G
noncomputable def ww:=yn
noncomputable def zG1:ye:=(zT (zq (zJ zo (zA (zB 1) zH)) (gN 2)) (zT (zAx 3 (yA (iF (zx yx (zA (zB 2) zH))) bd1 (xB (zJ wT (zA (zB 0) (zA (zO yS (zB 1) (zO yS (zB 4) (xC (.int 0)))) (zA (zO yS (zB 1) (zO yS (zB 4) (xC (.int 1)))) zH))))) (zB 4))) (zl (yZ (zA (zB 2) (zA (zJ zDG (zA (zB 3) zH)) zH))))))
noncomputable def zEV:ye:=(zl (zJ yn (zA (zB 0) (zA (zB 1) zH))))
theorem getD_mem{ps:List Nat}{i:Nat}(h:i<ps.length):ps.getD i 0∈ps:=by
 simp[cP,h]
theorem zJD{ps:List Nat}{i:Nat}(h:i<ps.length):atI (ps.map nD) (i:Int)=some (nD (ps.getD i 0)):=wS (by simp[cP,h])
theorem zG2{σ:S2}{G:Gp}{t u:zk}{ps:List Nat}{i:Nat}(h:zi t σ G (.tup (ps.map nD)))(h':zi u σ G (nD i))(hi:i<ps.length):zi (zO yS t u) σ G (nD (ps.getD i 0)):=yF h h' fun u0 u0 u0 q=>by
 simp only[yS,zJD hi];exact q
theorem zG3{σ:S2}{G:Gp}{t:zk}{ds:List D}(h:zi t σ G (.tup ds)):zi (zJ zo (zA t zH)) σ G (nD ds.length):=zn (zF h zM) fun u0 u0 u0 q=>⟨ds,rfl,q⟩
theorem zPx{σ:S2}{G:Gp}{t:zk}{p:Nat×Nat}(h:zi t σ G (yw p)):zi (zO yS t (xC (.int 0))) σ G (nD p.1):=yF h yC fun u0 u0 u0 q=>by unfold yw;rw[zDL];exact q
theorem zPy{σ:S2}{G:Gp}{t:zk}{p:Nat×Nat}(h:zi t σ G (yw p)):zi (zO yS t (xC (.int 1))) σ G (nD p.2):=yF h yC fun u0 u0 u0 q=>by unfold yw;rw[zDM];exact q
theorem zRB(ds:List D)(G:Gp)(R:Q2)(h:yn ds G R):ds.length=2∧zG1 (zg R) (zR ["web","places","many","ties"] ds) G:=by
 obtain⟨n,q,ps,rfl,hp,hl,h⟩:=h
 refine⟨rfl,?_⟩
 unfold zG1
 refine wI (d:=nD ps.length) (by have:=zG3 (σ:=zR ["web","places","many","ties"] [zS n q,.tup (ps.map nD)]) (G:=G) (t:=zB 1) (ds:=ps.map nD) (zE rfl);rwa [bU] at this) ?_
 show zT _ _ _ [some (zS n q),some (.tup (ps.map nD)),some (nD ps.length),none] G
 have:=wu (σ:=[some (zS n q),some (.tup (ps.map nD)),some (nD ps.length),none]) (G:=G) (bd:=bd1) (tc:=(xB (zJ wT (zA (zB 0) (zA (zO yS (zB 1) (zO yS (zB 4) (xC (.int 0)))) (zA (zO yS (zB 1) (zO yS (zB 4) (xC (.int 1)))) zH)))))) (te:=zB 4) (fun d=>yd q ps (zJt d)) (fun d=>d) (fun d=>[d])
  (zPp (zDI (sp:=yx) (zF (zE (i:=2) (d:=nD ps.length) rfl) zM) fun u0 u0 u0 q=>⟨ps.length,rfl,hl,q⟩)) fun x hx=>by
   obtain⟨p,hpp,rfl⟩:=bY.mp hx
   obtain⟨h1,h2⟩:=wH.mp hpp
   rw[zF7]
   have v4:zi (zB 4) ([some (zS n q),some (.tup (ps.map nD)),some (nD ps.length),none]++ce some [yw p]) G (yw p):=zE rfl
   exact⟨rfl,wW (zn (zF (zE rfl) (zF (zG2 (zE rfl) (zPx v4) (by omega)) (zF (zG2 (zE rfl) (zPy v4) h2) zM))) fun u0 u0 u0 hh=>⟨n,q,_,_,rfl,hp _ (getD_mem (by omega)),hp _ (getD_mem h2),hh⟩),fun u0=>v4⟩
 rw[zE2 (yd q ps)] at this
 refine this G (.refl G) _ fun l hl'=>?_
 ((try dsimp only [zl,zT,zq,xIf,wC,zy,gN,gNN,zO,yZ,wq,yJ,zA,zH,zJ,zx,zc,zz,zB,look,zR,zBA,zBT,zBf,zDL,zDM,zEz,zBj,zB7,fII,yY,yv,fEq,xC,xB,zB0,zBr,zAU,zFd,zAx,ce,bT,bV,bK,bL,bO,bR,bM,bN,Nat.reduceSub,Nat.reduceAdd,zI1,zI2,zI3,zI4,zAE,zBg,zBh,if_true,if_false,bJ]) <;> (try simp only [zl,zT,zq,xIf,wC,zy,gN,gNN,zO,yZ,wq,yJ,zA,zH,zJ,zx,zc,zz,zB,look,zR,zBA,zBT,zBf,zDL,zDM,zEz,zBj,zB7,fII,yY,yv,fEq,xC,xB,zB0,zBr,zAU,zFd,zAx,ce,bT,bV,bK,bL,bO,bR,bM,bN,Nat.reduceSub,Nat.reduceAdd,zI1,zI2,zI3,zI4,zAE,zBg,zBh,if_true,if_false,bJ]))
 refine⟨((wG ps.length).filter (yd q ps)).map yw,.own,?_⟩
 exact⟨G,.new hl',h⟩
theorem zOe(ds:List D)(G:Gp)(R:Q2)(h:ww ds G R):ds.length=2∧zEV (zg R) (zR ["web","order"] ds) G:=by
 obtain⟨n,q,ps,rfl,hp,hl,h⟩:=h
 refine⟨rfl,?_⟩
 unfold zEV
 ((try dsimp only [zl,zT,zq,xIf,wC,zy,gN,gNN,zO,yZ,wq,yJ,zA,zH,zJ,zx,zc,zz,zB,look,zR,zBA,zBT,zBf,zDL,zDM,zEz,zBj,zB7,fII,yY,yv,fEq,xC,xB,zB0,zBr,zAU,zFd,zAx,ce,bT,bV,bK,bL,bO,bR,bM,bN,Nat.reduceSub,Nat.reduceAdd,zI1,zI2,zI3,zI4,zAE,zBg,zBh,if_true,if_false,bJ]) <;> (try simp only [zl,zT,zq,xIf,wC,zy,gN,gNN,zO,yZ,wq,yJ,zA,zH,zJ,zx,zc,zz,zB,look,zR,zBA,zBT,zBf,zDL,zDM,zEz,zBj,zB7,fII,yY,yv,fEq,xC,xB,zB0,zBr,zAU,zFd,zAx,ce,bT,bV,bK,bL,bO,bR,bM,bN,Nat.reduceSub,Nat.reduceAdd,zI1,zI2,zI3,zI4,zAE,zBg,zBh,if_true,if_false,bJ]))
 exact⟨n,q,ps,rfl,hp,hl,FgR.of h⟩
theorem zKx{G G':Gp}{d:D}{ds:List D}(h:zBs G d ds)(s:Sub G G'):zBs G' d ds:=by
 cases d with
 | tup _=>exact h
 | adr l=>exact Ls.sub h s
 | _=>exact h
noncomputable def zJw(l:List Nat):List Nat:=l.mergeSort fun a b=>decide (a≤b)
theorem zC0(l:List Nat):(zJw l).Perm l:=List.mergeSort_perm _ _
theorem zMb(l:List Nat):(zJw l).Pairwise (·≤·):=by
 have:=List.pairwise_mergeSort (le:=fun a b:Nat=>decide (a≤b)) (fun a b c h1 h2=>by simp at *;omega) (fun a b=>by simp;omega) l
 exact this.imp fun h=>by simpa using h
theorem zJE{σ:S2}{G:Gp}{t:wN}{d:D}{l s:List Nat}(h:PuA t σ G [d])(hq:zBs G d (l.map nD))(hl:l.length<64)(hp:s.Perm l)(hs:s.Pairwise (·≤·)):PuL (zGr t) σ G (s.map nD):=fun G2 e R q=>h G2 e _ (by
 have e1:l.map nD=(l.map fun(k:Nat)=>(k:Int)).map D.int:=by simp[nD]
 refine⟨l.map fun(k:Nat)=>(k:Int),by rw[← e1];exact zKx hq e.sub,by simpa using hl,fun ns' p1 p2=>?_⟩
 have:ns'=s.map fun(k:Nat)=>(k:Int):=by
  refine eQ.eq_of_pairwise (fun a b u0 u0 h1 h2=>Int.le_antisymm h1 h2) p2 ?_ (p1.trans (hp.map _).symm)
  exact dW.map _ (fun a b h=>by omega) hs
 subst this
 rw[da]
 exact q)
theorem zJF{r:List Nat}{i:Nat}(h:r.count i=2):∃ A B C,r=A++i::(B++i::C)∧i∉A∧i∉B∧i∉C:=by
 have h1:i∈r:=List.count_pos_iff.mp (by omega)
 obtain⟨A,r',rfl,hA⟩:=List.eq_append_cons_of_mem h1
 have cA:A.count i=0:=e7.mpr hA
 rw[cO,cA,List.count_cons_self] at h
 have h2:i∈r':=List.count_pos_iff.mp (by omega)
 obtain⟨B,C,rfl,hB⟩:=List.eq_append_cons_of_mem h2
 have cB:B.count i=0:=e7.mpr hB
 rw[cO,cB,List.count_cons_self] at h
 exact⟨A,B,C,rfl,hA,hB,e7.mp (by omega)⟩
theorem zBW{X:List Nat}{i j:Nat}(hX:i∉X):both X (i,j)=cq (X.count j) j:=by
 unfold both
 induction X with
 | nil=>rfl
 | cons a r ih =>
  have h1:a≠i:=fun e=>hX (by simp[e])
  have h2:=ih fun m=>hX (by simp[m])
  rw[eB,cL]
  by_cases hj:a=j
  ·subst hj
   simp only[decide_eq_false h1,decide_true,Bool.false_or,if_true,h2,beq_self_eq_true]
   rw[bM]
  ·have:(a==j)=false:=by simpa using hj
   simp only[decide_eq_false h1,decide_eq_false hj,Bool.or_self,bJ,if_false,this,Nat.add_zero]
   exact h2
theorem zCB{A B C:List Nat}{i j:Nat}(hij:i≠j)(hA:i∉A)(hB:i∉B)(hC:i∉C)(h:(A++i::(B++i::C)).count j=2):zd (A++i::(B++i::C)) (i,j)=decide ((i::B).count j=1):=by
 have hji:(i==j)=false:=by simpa using hij
 rw[cO,cL,cO,cL,hji] at h
 rw[cL,hji]
 simp only[bJ,if_false,Nat.add_zero] at h ⊢
 have e:both (A++i::(B++i::C)) (i,j)=cq (A.count j) j++i::(cq (B.count j) j++i::cq (C.count j) j):=by
  have b1:∀ X Y:List Nat,both (X++Y) (i,j)=both X (i,j)++both Y (i,j):=fun X Y=>dH _ _
  have b2:∀ Y:List Nat,both (i::Y) (i,j)=i::both Y (i,j):=fun Y=>by unfold both;simp
  rw[b1,b2,b1,b2,zBW hA,zBW hB,zBW hC]
 unfold zd
 rw[e]
 generalize A.count j=x at h ⊢
 generalize B.count j=y at h ⊢
 generalize C.count j=z at h ⊢
 have:(x=0∧y=0∧z=2)∨(x=0∧y=1∧z=1)∨(x=0∧y=2∧z=0)∨(x=1∧y=0∧z=1)∨(x=1∧y=1∧z=0)∨(x=2∧y=0∧z=0):=by omega
 have hji':j≠i:=Ne.symm hij
 rcases this with ⟨rfl,rfl,rfl⟩ | ⟨rfl,rfl,rfl⟩ | ⟨rfl,rfl,rfl⟩ | ⟨rfl,rfl,rfl⟩ | ⟨rfl,rfl,rfl⟩ | ⟨rfl,rfl,rfl⟩<;>simp[bM,hij,hji']
theorem zBM(i j:Nat):wP (nD i) (nD j)=decide (i=j):=by rw[zCQ,cF];simp;omega
theorem zKy{A Y:List Nat}{i:Nat}(hA:i∉A):zDN ((A++i::Y).map nD) (nD i) 0 A.length:=by
 refine⟨cW _,⟨nD i,by simp,by rw[zBM];simp⟩,fun m z u0 hm hz=>?_⟩
 rw[cC,cR hm] at hz
 simp[hm] at hz
 subst hz
 show wP (nD A[m]) (nD i)=false
 rw[zBM]
 exact decide_eq_false fun e=>hA (e▸cZ _)
theorem zMc{A B C:List Nat}{i:Nat}(hB:i∉B):zDN ((A++i::(B++i::C)).map nD) (nD i) (A.length+1) (A.length+1+B.length):=by
 refine⟨by omega,⟨nD i,?_,by rw[zBM];simp⟩,fun m z h1 hm hz=>?_⟩
 ·rw[cC,dq (by omega)]
  have:A.length+1+B.length-A.length=B.length+1:=by omega
  rw[this]
  simp
 ·rw[cC,dq (by omega)] at hz
  obtain⟨k,hk⟩:∃ k,m-A.length=k+1:=⟨m-A.length-1,by omega⟩
  rw[hk,List.getElem?_cons_succ,cR (by omega)] at hz
  have hkB:k<B.length:=by omega
  simp[hkB] at hz
  subst hz
  show wP (nD B[k]) (nD i)=false
  rw[zBM]
  exact decide_eq_false fun e=>hB (e▸cZ _)
theorem zF9(X:List Nat)(j:Nat):(X.map nD).countP (fun z=>wP z (nD j))=X.count j:=by
 rw[List.countP_map,List.count_eq_countP]
 refine List.countP_congr fun x u0=>?_
 simp only[Function.comp,zBM,decide_eq_true_eq,beq_iff_eq]
theorem zOf{l:List D}{a b:Nat}(h:a≤b)(hb:b≤l.length):L3.cutD l (some (a:Int)) (some (b:Int))=(l.drop a).take (b-a):=by
 unfold L3.cutD
 rw[HT.zCK,HT.zCK,dJ (show a≤l.length by omega),dJ hb]
noncomputable def zBX:wm:=fun ds G R=>∃(r:List Nat) (i j:Nat),ds=[.tup (r.map nD),nD i,nD j]∧r.count i=2∧r.count j=2∧i≠j∧R (.bl (zd r (i,j))) G
noncomputable def zEW:ye:=(zT (zq (xMt wF (zB 0) (zA (zB 1) zH)) (gN 3)) (zT (zq (xMt zCP (zB 0) (zA (zB 1) (zA (zO yv (zB 3) (xC (.int 1))) zH))) (gN 4)) (zl (zO (fEq false) (xMt zAF (zAD (zB 0) (zAB (zB 3)) (zAB (zB 4))) (zA (zB 2) zH)) (xC (.int 1))))))
theorem zHz{σ:S2}{G:Gp}{sp:wm}{to:zk}{t:wN}{xs:List D}{ds:List D}{d:D}(h:zi to σ G (.tup xs))(ha:PuA t σ G ds)(hs:∀ G2,Ext G G2→∀ R:Q2,R d G2→sp (.tup xs::ds) G2 R):zi (xMt sp to t) σ G d:=fun G2 e R q=>h G2 e _ ⟨⟨xs,rfl⟩,ha G2 e _ (hs G2 e R q)⟩
theorem zH0{σ:S2}{G:Gp}{t u v:zk}{xs:List D}{i j:Int}(h:zi t σ G (.tup xs))(h1:zi u σ G (.int i))(h2:zi v σ G (.int j)):zi (zAD t (zAB u) (zAB v)) σ G (.tup (L3.cutD xs (some i) (some j))):=fun G2 e R q=>h G2 e _ (h1 G2 e _ (h2 G2 e _ q))
theorem zOg(ds:List D)(G:Gp)(R:Q2)(h:zBX ds G R):ds.length=3∧zEW (zg R) (zR ["ring","one","other","first","second"] ds) G:=by
 obtain⟨r,i,j,rfl,h2i,h2j,hij,h⟩:=h
 refine⟨rfl,?_⟩
 obtain⟨A,B,C,rfl,hA,hB,hC⟩:=zJF h2i
 rw[zCB hij hA hB hC h2j] at h
 generalize hr:A++i::(B++i::C)=r at *
 have i1:zDN (r.map nD) (nD i) 0 A.length:=hr▸zKy hA
 have i2:zDN (r.map nD) (nD i) (A.length+1) (A.length+1+B.length):=hr▸zMc hB
 have hl:A.length+1+B.length<r.length:=by rw[← hr];simp;omega
 have hc:L3.cutD (r.map nD) (some ((A.length:Nat):Int)) (some ((A.length+1+B.length:Nat):Int))=(i::B).map nD:=by
  rw[zOf (by omega) (by rw[bU];omega),← hr]
  have:A.length+1+B.length-A.length=B.length+1:=by omega
  rw[this]
  simp
 unfold zEW
 refine wI (d:=nD A.length) (zHz (zE rfl) (zF (zE rfl) zM) fun u0 u0 u0 q=>⟨_,_,rfl,rfl,yf _,i1,q⟩) ?_
 show zT _ _ _ [some (.tup (r.map nD)),some (nD i),some (nD j),some (nD A.length),none] G
 refine wI (d:=nD (A.length+1+B.length)) (zHz (zE rfl) (zF (zE rfl) (zF (zGz (zE rfl) yC) zM)) fun u0 u0 u0 q=>⟨A.length+1,_,by omega,rfl,yf _,i2,q⟩) ?_
 show zl _ _ [some (.tup (r.map nD)),some (nD i),some (nD j),some (nD A.length),some (nD (A.length+1+B.length))] G
 have fin:=zE6 (σ:=[some (.tup (r.map nD)),some (nD i),some (nD j),some (nD A.length),some (nD (A.length+1+B.length))]) (G:=G) (ng:=false) (b:=decide ((i::B).count j=1)) (x:=nD ((i::B).count j)) (y:=.int 1)
  (zHz (sp:=zAF) (zH0 (zE (i:=0) rfl) (zE (i:=3) rfl) (zE (i:=4) rfl)) (zF (zE (i:=2) (d:=nD j) rfl) zM) fun u0 u0 u0 q=>by
   rw[hc]
   exact⟨rfl,yf _,by rw[zF9];exact q⟩) yC rfl rfl (by rw[if_neg (by simp)];exact zBM _ 1)
 exact fin G (.refl _) _ (.of h)
noncomputable def zAK:=wa
noncomputable def zDS:ye:=(zT (zq (zO (yY zFa fun i j=>.int (i / j)) (zJ zo (zA (zB 0) zH)) (xC (.int 2))) (gN 1)) (zl (yZ (zA (zB 1) (zA (zc zz (yA (iF (zx yx (zA (zB 1) zH))) bd1 (xB (zJ zBX (zA (zB 0) (zA (zO yS (zB 2) (xC (.int 0))) (zA (zO yS (zB 2) (xC (.int 1))) zH))))) (zB 2))) zH)))))
theorem zMd(ds:List D)(G:Gp)(R:Q2)(h:zAK ds G R):ds.length=1∧zDS (zg R) (zR ["ring","many"] ds) G:=by
 obtain⟨n,r,rfl,hr,hn,h⟩:=h
 refine⟨rfl,?_⟩
 unfold zDS
 have e:(((r.map nD).length:Int) / 2)=(n:Int):=by rw[bU,hr.len];omega
 refine wI (d:=nD n) (yF (zG3 (zE rfl)) yC fun u0 u0 u0 q=>⟨⟨by decide,by decide⟩,by dsimp only;rw[e];exact q⟩) ?_
 show zl _ _ [some (.tup (r.map nD)),some (nD n)] G
 have:=wu (σ:=[some (.tup (r.map nD)),some (nD n)]) (G:=G) (bd:=bd1) (tc:=(xB (zJ zBX (zA (zB 0) (zA (zO yS (zB 2) (xC (.int 0))) (zA (zO yS (zB 2) (xC (.int 1))) zH)))))) (te:=zB 2) (fun d=>zd r (zJt d)) (fun d=>d) (fun d=>[d])
  (zPp (zDI (sp:=yx) (zF (zE (i:=1) (d:=nD n) rfl) zM) fun u0 u0 u0 q=>⟨n,rfl,hn,q⟩)) fun x hx=>by
   obtain⟨p,hpp,rfl⟩:=bY.mp hx
   obtain⟨h1,h2⟩:=wH.mp hpp
   rw[zF7]
   have v4:zi (zB 2) ([some (.tup (r.map nD)),some (nD n)]++ce some [yw p]) G (yw p):=zE rfl
   exact⟨rfl,wW (zn (zF (zE rfl) (zF (zPx v4) (zF (zPy v4) zM))) fun u0 u0 u0 hh=>⟨r,p.1,p.2,rfl,hr.count (by omega),hr.count h2,by omega,hh⟩),fun u0=>v4⟩
 rw[zE2 (zd r)] at this
 exact zBe (zF (zE rfl) (zF (zBU this) zM)) (by simp) G (.refl _) _ (.of h)
theorem zS0{σ:S2}{G:Gp}{t:zk}{ds:List D}{R:List D→(Gp→Prop)→Gp→Prop}(h:zi t σ G (.tup ds))(h':R ds (fun u0=>True) G):iV t σ G R:=h G (.refl G) _ h'
theorem zOh{σ:S2}{G:Gp}{t:TL2}{R:List D→(Gp→Prop)→Gp→Prop}(h:t σ G fun ds G1=>∀ a,G1.m a=none→R ds (fun G=>Ls G a ds) (zU G1 a ds)):iF t σ G R:=h
theorem zDT{σ:S2}{G:Gp}{t:wN}{R:List D→Gp→Prop}(h:t σ G fun ds G1=>ds.length≤sizeLine∧R ds G1):wq t σ G R:=h
theorem wR{σ:S2}{G:Gp}{R:List D→Gp→Prop}(h:R [] G):zH σ G R:=h
theorem zOi{wi:TI2}{g:TG2}{tb:ye}{E:yO}{σ σ':S2}{G:Gp}(hs:zAc σ' σ)(h:wi σ' G fun ds gd G1=>zML ds gd G1 g tb E σ'):wQ wi g tb E σ G:=⟨σ',G,hs,.refl G,h⟩
theorem zG4{σ:S2}{G:Gp}{t u:zk}{xs ys:List D}(h:zi t σ G (.tup xs))(h':zi u σ G (.tup ys))(hl:xs.length+ys.length≤1000000):zi (zO yv t u) σ G (.tup (xs++ys)):=yF h h' fun u0 u0 u0 q=>⟨hl,q⟩
noncomputable def zRC:D→Bool
 | .int _=>true
 | _=>false
noncomputable def yo:wm:=fun ds G R=>∃ d,ds=[d]∧(((∀ l,d≠.adr l)∧R (.bl (zRC d)) G)∨∃ l es,d=.adr l∧Ls G l es∧R (.bl false) G)
noncomputable def zBD:ye:=(zl (zIv (zHq "int" (zB 0)) (zQp (zHq "bool" (zB 0)))))
theorem zH1(ds:List D)(G:Gp)(R:Q2)(h:yo ds G R):ds.length=1∧zBD (zg R) (zR ["thing"] ds) G:=by
 obtain⟨d,rfl,h⟩:=h
 refine⟨rfl,?_⟩
 unfold zBD zl zIv zQp zHq zB
 rcases h with ⟨hd,h⟩ | ⟨l,es,rfl,hl,h⟩
 ·cases d with
  | adr l=>exact absurd rfl (hd l)
  | _=>exact .of h
 ·refine⟨⟨es,hl⟩,?_⟩
  exact .of h
theorem zKz{σ:S2}{G:Gp}{t:zk}{i:Int}(h:zi t σ G (.int i)):zi (zJ yo (zA t zH)) σ G (.bl true):=zn (zF h zM) fun u0 u0 u0 q=>⟨_,rfl,.inl ⟨fun l z=>(by cases z),q⟩⟩
theorem zK0{σ:S2}{G:Gp}{f g:Int→Int→Bool}{ta tb tc:zk}{i j k:Int}(ha:zi ta σ G (.int i))(hb:zi tb σ G (.int j))(hc:zi tc σ G (.int k)):zi (zEQ (fII fun i j=>.bl (f i j)) (fII fun i j=>.bl (g i j)) ta tb tc) σ G (.bl (f i j&&g j k)):=fun G2 e R q=>ha G2 e _ (hb G2 e _ (by
 show if f i j=true then _ else _
 cases hf:f i j with
 | true=>rw[if_pos rfl];rw[hf] at q;exact hc G2 e _ q
 | false=>rw[if_neg (by simp)];rw[hf] at q;exact q))
noncomputable def ltP(a b:Nat×Nat):Prop:=a.1<b.1∨a.1=b.1∧a.2<b.2
theorem zH2(n:Nat):(wG n).Pairwise ltP:=by
 unfold wG
 rw[List.pairwise_flatMap]
 refine⟨fun i u0=>?_,?_⟩
 ·rw[List.pairwise_map]
  exact eW.imp fun {a b} h=>.inr ⟨rfl,by dsimp only;omega⟩
 ·refine eW.imp fun {a b} h x hx y hy=>?_
  obtain⟨u0,u0,rfl⟩:=bY.mp hx
  obtain⟨u0,u0,rfl⟩:=bY.mp hy
  exact .inl h
theorem zRD{σ:S2}{G:Gp}{tl:TL2}{bs:List Bool}(h:PuL tl σ G (bs.map D.bl)):zi (zc zMR tl) σ G (.bl (bs.all id)):=fun G2 e R q=>h G2 e _ ⟨bs,rfl,q⟩
theorem zRE{σ:S2}{G:Gp}{tl:TL2}{bs:List Bool}(h:PuL tl σ G (bs.map D.bl)):zi (zc zQ6 tl) σ G (.bl (bs.any id)):=fun G2 e R q=>h G2 e _ ⟨bs,rfl,q⟩
theorem zRF{σ:S2}{G:Gp}{ta tb:zk}{b:Bool}(ha:zi ta σ G (.bl true))(hb:zi tb σ G (.bl b)):zi (zIv ta tb) σ G (.bl b):=fun G2 e R q=>ha G2 e _ (by
 show if true=true then _ else _
 rw[if_pos rfl]
 exact hb G2 e _ q)
end K
namespace HT
section
variable {prog:Program} {w:World} {A:Around} {E:Value→Shared→Prop} {s:Shared}
end
end HT
namespace L3
open L2
section
variable {X:Cx} {a b c e o:Expr} {es:List Expr} {pos p:Pos} {ta tb te:zk}
end
section
variable {X:Cx} {a b c e o:Expr} {es:List Expr} {pos p:Pos} {ta tb te:zk} {tl:TL2}
theorem zC1(bt:Nat→Nat→Bool):∀ n,argBest bt n≤n
 | 0=>bZ _
 | n+1=>by
  unfold argBest
  have:=zC1 bt n
  split<;>omega
noncomputable def zGA(K:PySem.W.Frag)(H:Hp)(as:List Addr)(nss:List (List Int)):Prop:=as.length=nss.length∧∀(i:Nat) a ns,as[i]?=some a→nss[i]?=some ns→SqT K H a (ns.map V.int)
theorem zGA.at{pins:List (Addr×Obj)}{s:Shared}{σ:L2.St}{H:Hp}{as:List Addr}{nss:List (List Int)}(I:zX X pins σ H s)(h:zGA X.K H as nss):HT.zBi s.heap as nss:=by
 refine⟨h.1,fun i a ns h1 h2=>?_⟩
 obtain⟨its,rv,ht,u0⟩:=I.tuple (h.2 i a ns h1 h2)
 exact⟨its,ht,intsAre_of rv⟩
noncomputable def tupI(ns:List Int):D:=.tup (ns.map D.int)
theorem zMe{K:PySem.W.Frag}{H:Hp}{ns:List Int}{v:V}(h:zQ K H (tupI ns) v):∃ a,v=.ref a∧SqT K H a (ns.map V.int):=by
 unfold tupI zQ at h
 obtain⟨a,us,rfl,s1,t1⟩:=h
 have:=t1.ints_inv
 subst this
 exact⟨a,rfl,s1⟩
theorem zH3{K:PySem.W.Frag}{H:Hp}{ns:List Int}{a:Addr}(h:SqT K H a (ns.map V.int)):zQ K H (tupI ns) (.ref a):=by
 unfold tupI zQ
 exact⟨a,_,rfl,h,Dens.ints ns⟩
theorem zGB{K:PySem.W.Frag}{H:Hp}:∀ {nss:List (List Int)} {vs:List V},Dens K H (nss.map tupI) vs→∃ as,vs=as.map V.ref∧zGA K H as nss
 | [],vs,h=>by unfold Dens at h;exact⟨[],h,rfl,fun i a ns h1 h2=>by simp at h1⟩
 | ns::r,vs,h=>by
  rw[cM] at h
  unfold Dens at h
  obtain⟨x,y,rfl,h1,h2⟩:=h
  obtain⟨a,rfl,s1⟩:=zMe h1
  obtain⟨as,rfl,ha⟩:=zGB h2
  refine⟨a::as,rfl,by simp[ha.1],fun i a' ns' h1 h2=>?_⟩
  cases i with
  | zero=>simp at h1 h2;subst h1 h2;exact s1
  | succ i=>exact ha.2 i a' ns' (by simpa using h1) (by simpa using h2)
end
end L3
namespace HT
open PySem PyProof.Rows
theorem zMf(A:Around)(s:Shared)(a:Int)(t:Tok)(c:Int)(u:Tok)(prog:Program)(w:World)(E:Value→Shared→Prop)(Q:Value→Shared→Prop)(h:Q (.bool (decide (c<a))) s) :
  wpAny (model prog w) A (richCompare .Gt (.int a t) (.int c u)) Q E s :=
 (PyProof.Rows.gt_int h:wpAny (model prog w) A (compareOp .Gt (.int a t) (.int c u)) Q E s)
section
open PySem.SeqAt
open PySem.MeetsSeq PySem.MeetsSeq2 PySem.MeetsSeq3
theorem zFf(l b:Addr)(items items2:Array Value)(n n2:Nat)(dd dd2:Option Addr)(sl sl2:Array (Option Value))(ns ms:List Int)(hi:IntsAre items.toList ns)(hj:IntsAre items2.toList ms) :
  Meets (Builtin.«tuple.__gt__» ⟨[.ref l,.ref b],[]⟩)
   (fun u0 R s=>s.heap.get? l=some { cls:=.type "tuple",dict:=dd,data:=.seq items n,slots:=sl }∧s.heap.get? b=some { cls:=.type "tuple",dict:=dd2,data:=.seq items2 n2,slots:=sl2 } ∧
    R (.ok (.ret (.bool (lexLt ms ns)))) s) :=
 .of_wp fun prog w A R s h=>by
  obtain⟨hp,g,d,tk,os⟩:=s;obtain⟨hl,hb,h⟩:=h
  have f2:=AutoSeq1.sub_tuple_tuple
  have z1:items.size=ns.length:=by rw[← hi.length];simp
  have z2:items2.size=ms.length:=by rw[← hj.length];simp
  wp_walk using wpAny_loadPart' hl,wpAny_loadPart' hb,fF _ (fun rest b s'=>b.1=none∧s'=⟨hp,g,d,tk,os⟩∧∃(vs ws:List Value) (ns' ms':List Int),rest=vs.zip ws ∧
   IntsAre vs ns'∧IntsAre ws ms'∧ns'.length+items2.size=ms'.length+items.size∧R (.ok (.ret (.bool (lexLt ms' ns')))) ⟨hp,g,d,tk,os⟩) _
  case turn =>
   rintro⟨y,x⟩ rest b s' ⟨hb',rfl,vs,ws,ns',ms',hz,hvi,hwi,hlen,hR⟩
   cases hvi with
   | nil=>rw[List.zip_nil_left] at hz;cases hz
   | cons a t hvi' =>
    cases hwi with
    | nil=>rw[List.zip_nil_right] at hz;cases hz
    | cons c u hwi' =>
     rw[List.zip_cons_cons] at hz
     injection hz with hyx hrest
     injection hyx with hy hx
     subst hy hx
     rw[zIp] at hR
     simp only[bO] at hlen
     obtain⟨e,he,hiff⟩:=zLt A.in1 ⟨hp,g,d,tk,os⟩ a t c u
     refine bI (he prog w _ _ ?_)
     cases e with
     | true =>
      rw[if_pos (hiff.mp rfl).symm] at hR
      wp_walk
      exact⟨rfl,rfl,_,_,_,_,hrest,hvi',hwi',by omega,hR⟩
     | false =>
      rw[if_neg (fun q=>absurd (hiff.mpr q.symm) dD)] at hR
      have hri:=zMf A.in1 ⟨hp,g,d,tk,os⟩ a t c u prog w
      wp_walk using hri
      exact⟨_,rfl,by simpa using hR⟩
  case fin =>
   rintro⟨b1,b2⟩ s' ⟨hb',rfl,vs,ws,ns',ms',hz,hvi,hwi,hlen,hR⟩
   simp only at hb'
   subst hb'
   have hv:lexLt ms' ns'=decide (items2.size<items.size):=by
    cases hvi with
    | nil =>
     cases hwi with
     | nil =>
      simp only[bR] at hlen
      rw[zFb]
      exact(decide_eq_false (by omega)).symm
     | cons c u hw =>
      simp only[bR,bO] at hlen
      rw[zEm]
      exact(decide_eq_false (by omega)).symm
    | cons a t hv =>
     cases hwi with
     | nil =>
      simp only[bR,bO] at hlen
      rw[zEl]
      exact(decide_eq_true (by omega)).symm
     | cons c u hw =>
      rw[List.zip_cons_cons] at hz
      cases hz
   rw[hv] at hR
   wp_walk
   exact⟨_,rfl,by simpa[Builtin.Tuple.tupleCompareSizes] using hR⟩
  case h =>
   exact⟨rfl,rfl,items.toList,items2.toList,ns,ms,rfl,hi,hj,by omega,h⟩
end
section
variable {prog:Program} {w:World} {A:Around} {E:Value→Shared→Prop} {s:Shared}
theorem zJG{l b:Addr}{items items2:Array Value}{ns ms:List Int}{Q:Value→Shared→Prop}(hl:IsTup s.heap l items)(hb:IsTup s.heap b items2)(hi:IntsAre items.toList ns)(hj:IntsAre items2.toList ms)
  (hu:A.units<cLine) (h:Q (.bool (lexLt ms ns)) s):wpAny (model prog w) A (compareOp .Gt (.ref l) (.ref b)) Q E s:=by
 obtain⟨⟨cls,dd,data,sl⟩,ho,hc,n,hd⟩:=id hl
 obtain⟨⟨cls2,dd2,data2,sl2⟩,ho2,hc2,n2,hd2⟩:=id hb
 simp only at hc hd hc2 hd2
 subst hc hd hc2 hd2
 exact richCompare_meets_room (op:=.Gt) ⟨_,ho,rfl⟩ ⟨_,ho2,rfl⟩ PySem.F.slot_tuple_gt PySem.F.entry_tuple_gt (PySem.F.args_tuple_gt_2 _ _) (zFf l b items items2 n n2 dd dd2 sl sl2 ns ms hi hj)
  ⟨ho,ho2,show Value.bool (lexLt ms ns)≠Value.notImplemented∧Q (.bool (lexLt ms ns)) s from⟨(fun x=>nomatch x),h⟩⟩ hu
end
end HT
namespace L3
open L2
section
variable {X:Cx} {a b c e o:Expr} {es:List Expr} {pos p:Pos} {ta tb te:zk}
noncomputable def zK1(t:zk):zk:=fun σ G R=>t σ G fun d G1=>match d with | .int i=>R (.int (-i)) G1 | _=>False
theorem zSI(ha:E2 X a ta):E2 X (.UnaryOp .USub a pos) (zK1 ta):=by
 refine PE.mono (zRt zQe ha) ?_
 rintro σ1 H Q ⟨σ,G,R,r,q,k⟩
 refine⟨σ,G,_,r,q,fun d G1 q1 v H1 g1 r1 d1=>?_⟩
 cases d with
 | int i =>
  unfold zQ at d1
  subst d1
  exact⟨i,rfl,k _ G1 q1 _ H1 g1 r1 (by unfold zQ;rfl)⟩
 | _=>exact q1.elim
noncomputable def zG5(t:zk)(tl th:TO2):TL2:=fun σ G R=>t σ G fun d G1=>tl σ G1 fun lo G2=>th σ G2 fun hi G3=>match d with | .adr l=>∃ ds,Ls G3 l ds∧R (cutD ds lo hi) G3 | _=>False
theorem zOj{lo hi:Option Expr}{tl th:TO2}{p2:Pos}(he:E2 X e te)(hl:O2 X lo tl)(hu:O2 X hi th):F2 X (.Subscript e (.Slice lo hi none p2) pos) (zG5 te tl th):=by
 refine PE.mono (zHd zN9 he hl hu) ?_
 rintro σ1 H Q ⟨σ,G,R,r,q,k⟩
 refine⟨σ,G,_,r,q,fun d G1 q1 v H1 g1 r1 d1=>⟨σ,G1,_,r.to g1 r1,q1,fun o1 G2 q2 H2 g2 r2=>⟨σ,G2,_,r.to (g1.trans g2) r2,q2,fun o2 G3 q3 H3 g3 r3=>?_⟩⟩⟩
 cases d with
 | adr l =>
  obtain⟨ds,ls,q3⟩:=q3
  obtain⟨xs,s1,t1⟩:=r3.sq ls
  unfold zQ at d1
  subst d1
  have hl:=t1.length
  refine⟨l,xs,rfl,s1,fun p hp=>k _ G3 q3 p _ _ (((g1.trans g2).trans g3).trans (.fresh hp)) (r3.fresh hp) (r3.free hp) zu ?_⟩
  unfold cutD zHe
  rw[hl]
  exact((t1.drop).take).grow (.fresh hp)
 | _=>exact q3.elim
end
end L3
namespace HT
section
variable {prog:Program} {w:World} {A:Around} {E:Value→Shared→Prop} {s:Shared}
end
end HT
namespace L3
open L2
section
variable {X:Cx} {a b c e o:Expr} {es:List Expr} {pos p:Pos} {ta tb te:zk}
theorem za.rep{xs:List V}{us:List Value}(r:za xs us):∀ n:Nat,za (cq n xs).flatten (cq n us).flatten
 | 0=>.nil
 | n+1=>by
  rw[bM,bM,el,el]
  exact r.append (za.rep r n)
end
end L3
namespace HT
section
variable {prog:Program} {w:World} {A:Around} {E:Value→Shared→Prop} {s:Shared}
end
end HT
namespace L3
open L2
section
variable {X:Cx} {a b c e o:Expr} {es:List Expr} {pos p:Pos} {ta tb te:zk}
end
end L3
namespace HZ
structure Zs (prog:Program) (w:World) (i l:Addr) (xs:Array Value) where
 It:Nat→Heap→Prop
 Sq:Heap→Prop
 item:∀(A:Around) (E:Value→Shared→Prop) (s:Shared) (k:Nat) (x:Value) (Q:Value→Shared→Prop),It k s.heap→Sq s.heap→xs[k]?=some x→(∀ h',It (k+1) h'→db i s.heap h'→Q x { s with heap:=h' })→wpAny (model prog w) A (Builtin.SmallTypes.nextOf (.ref i)) Q E s
 fin:∀(A:Around) (E:Value→Shared→Prop) (s:Shared) (k:Nat) (Q:Value→Shared→Prop),A.handled=none→It k s.heap→Sq s.heap→xs[k]?=none→(∀ h' e,Heap.ExtBut i s.heap h'→(∃ o,h'.get? e=some o∧o.cls=.type "StopIteration")→E (.ref e) { s with heap:=h' })→wpAny (model prog w) A (Builtin.SmallTypes.nextOf (.ref i)) Q E s
 itAt:∀ {k:Nat} {h h':Heap},It k h→(∀ o,h.get? i=some o→h'.get? i=some o)→It k h'
 sqAt:∀ {h h':Heap},Sq h→(∀ o,h.get? l=some o→h'.get? l=some o)→Sq h'
 itHas:∀ {k:Nat} {h:Heap},It k h→∃ o,h.get? i=some o∧∀ v,o.data≠.cell v
theorem Zs.lt{prog:Program}{w:World}{i l:Addr}{xs:Array Value}(Z:Zs prog w i l xs){k:Nat}{h:Heap}(x:Z.It k h):i<h.objs.size:=let ⟨_,e,_⟩:=Z.itHas x;cc e
section
variable {prog:Program} {w:World} {A:Around} {E:Value→Shared→Prop} {s:Shared}
end
section
variable {prog:Program} {w:World} {A:Around} {E:Value→Shared→Prop} {s:Shared} {z a b i j l m:Addr} {xs ys:Array Value} (Z1:Zs prog w i l xs) (Z2:Zs prog w j m ys)
end
end HZ
namespace L2
open HZ
end L2
namespace L3
open L2
end L3
namespace HZ
section
variable {prog:Program} {w:World} {A:Around} {E:Value→Shared→Prop}
end
end HZ
namespace L2
open HZ
variable {X:Cx} {pos:Pos}
end L2
namespace L3
open L2
section
variable {X:Cx} {e:Expr} {te:zk} {pos p p2 p3 p4:Pos}
theorem zSJ{body:List Stmt}:Ps2 X body (fun u0 u0 u0=>False):=by
 rintro pins s σ H E I ⟨σ',G,D2,r,q,k⟩
 exact q.elim
end
end L3
namespace HS
structure SB (a0:Array Keyed) (kd:SortKind) (z:SortSt):Prop where
 pm:(arrOf z).Perm a0
 kd:kindOf z=kd
 fl:failedOf z=none
 pe:pendingOf z=#[]
theorem SB.sz{a0:Array Keyed}{kd:SortKind}{z:SortSt}(b:SB a0 kd z):(arrOf z).size=a0.size:=b.pm.size_eq
theorem SB.put{a0:Array Keyed}{kd:SortKind}{z:SortSt}(b:SB a0 kd z){ys:Array Keyed}(p:ys.Perm (arrOf z)):SB a0 kd (setArr z ys):=⟨p.trans b.pm,b.kd,b.fl,b.pe⟩
section
variable {prog:Program} {w:World} {A:Around} {E:Value→Shared→Prop} {s:Shared} {a0:Array Keyed} {kd:SortKind} {κ:KeyKind}
noncomputable abbrev Ky(κ:KeyKind)(z:SortSt)(i:Nat):κ.α:=KK κ (arrOf z) i
noncomputable abbrev Up(κ:KeyKind)(z:SortSt)(m:Nat):Prop:=SortedToK κ (arrOf z) m
noncomputable abbrev Dn(κ:KeyKind)(z:SortSt)(m:Nat):Prop:=NonIncK κ (arrOf z) m
theorem Up.more{z:SortSt}{m:Nat}(u:Up κ z m)(h:1≤m→κ.kle (Ky κ z (m-1)) (Ky κ z m)):Up κ z (m+1):=fun i j ij jm=>by
 rcases dB j m with q | q
 ·exact u i j ij q
 obtain rfl:j=m:=by omega
 rcases dB i j with p | p
 ·exact KeyOrd.kle_trans (u i (j-1) (by omega) (by omega)) (h (by omega))
 ·obtain rfl:i=j:=by omega
  exact KeyOrd.kle_refl _
theorem zEX{xs:Array Keyed}{m:Nat}(u:NonIncK κ xs m)(h:1≤m→κ.kle (KK κ xs m) (KK κ xs (m-1))):NonIncK κ xs (m+1):=fun i j ij jm=>by
 rcases dB j m with q | q
 ·exact u i j ij q
 obtain rfl:j=m:=by omega
 rcases dB i j with p | p
 ·exact KeyOrd.kle_trans (h (by omega)) (u i (j-1) (by omega) (by omega))
 ·obtain rfl:i=j:=by omega
  exact KeyOrd.kle_refl _
theorem zE7{xs ys:Array Keyed}{m:Nat}(e:∀ i,KK κ ys i=KK κ xs i)(u:NonIncK κ xs m):NonIncK κ ys m:=fun i j ij jm=>by rw[e,e];exact u i j ij jm
structure zOk (κ:KeyKind) (xs:Array Keyed) (m c:Nat):Prop where
 dn:NonIncK κ xs m
 le:c+1≤m
 eq:∀ i,m-(c+1)≤i→i<m→KK κ xs i=KK κ xs (m-1)
theorem zOk.one{xs:Array Keyed}{m:Nat}(d:NonIncK κ xs m)(h:1≤m):zOk κ xs m 0:=⟨d,h,fun i h1 h2=>by rw[show i=m-1 by omega]⟩
variable (L:∀(z:SortSt) (i j:Nat) (Q:Option Bool→SortSt→Prop),SB a0 kd z→i<a0.size→j<a0.size→Q (some (κ.blt (Ky κ z i) (Ky κ z j))) z→wpS (model prog w) A E s (ltAt' i j) Q z)
include L
theorem zJx{z:SortSt}{a m:Nat}{Q:AscSt→SortSt→Prop}(hm:m≤a0.size)(ha:1≤a)(ham:a≤m)(b:SB a0 kd z)(u:Up κ z a)
  (h:∀ n,a≤n→n≤m→Up κ z n→n=m∨κ.klt (Ky κ z n) (Ky κ z (n-1))→Q (none,n) z):wpS (model prog w) A E s (ascLoop a m) Q z:=by
 unfold ascLoop
 refine wpS_forRange (fun n c z'=>z'=z∧c=(none,n)∧Up κ z n) (fun n c z' h1 h2 ⟨e1,e2,u'⟩=>?_) (fun c z' ⟨e1,e2,u'⟩=>?_) ⟨rfl,rfl,u⟩
 ·subst e1 e2
  refine dA (L _ _ _ _ b (by dsimp only;omega) (by dsimp only;omega) ?_)
  dsimp only
  cases q:κ.blt (Ky κ z' n) (Ky κ z' (n-1)) with
  | true=>exact dZ (h n h1 (by omega) u' (.inr q))
  | false=>exact dZ ⟨rfl,rfl,u'.more fun u0=>q⟩
 ·subst e1 e2
  have e:max a m=m:=by omega
  rw[e] at u' ⊢
  exact h m ham (bZ _) u' (.inl rfl)
theorem zJy{z:SortSt}{n m:Nat}{Q:Option Nat→SortSt→Prop}(hm:m≤a0.size)(hn:1≤n)(hnm:n≤m)(b:SB a0 kd z)(d:Dn κ z n)
  (h:∀ k z',SB a0 kd z'→1≤k→k≤m→Up κ z' k→Q (some k) z'):wpS (model prog w) A E s (tail3 n m) Q z:=by
 have sz:n≤(arrOf z).size:=by have:=b.sz;omega
 have b':SB a0 kd (setArr z (mirror (arrOf z) 0 n ((n-0) / 2))):=b.put (mirror_perm _ _ _ _)
 unfold tail3
 refine dA (wpS_reverse (dA (zJx L hm hn hnm b' (fun i j ij jn=>?_) fun k k1 k2 u u0=>dZ (h k _ b' (by omega) k2 u))))
 show κ.kle (KK κ (mirror (arrOf z) 0 n ((n-0) / 2)) i) (KK κ (mirror (arrOf z) 0 n ((n-0) / 2)) j)
 rw[KK_mirror sz,KK_mirror sz,if_pos ⟨cW _,by omega⟩,if_pos ⟨cW _,jn⟩]
 exact d (0+n-1-j) (0+n-1-i) (by omega) (by omega)
theorem zOl{z:SortSt}{n m:Nat}{Q:DescSt→SortSt→Prop}(hm:m≤a0.size)(hn:1≤n)(hnm:n≤m)(b:SB a0 kd z)(d:Dn κ z n)
  (h:∀ k c z',SB a0 kd z'→n≤k→k≤m→zOk κ (arrOf z') k c→Q (none,k,c) z'):wpS (model prog w) A E s (descLoop n m) Q z:=by
 unfold descLoop
 refine wpS_forRange (fun k e z'=>∃ c,e=(none,k,c)∧SB a0 kd z'∧zOk κ (arrOf z') k c) (fun k e z' h1 h2 ⟨c,e1,b',f⟩=>?_) (fun e z' ⟨c,e1,b',f⟩=>?_) ⟨0,rfl,b,.one d hn⟩
 ·subst e1
  have sz:k≤(arrOf z').size:=by have:=b'.sz;omega
  refine dA (L _ _ _ _ b' (by dsimp only;omega) (by dsimp only;omega) ?_)
  dsimp only
  cases q:κ.blt (Ky κ z' k) (Ky κ z' (k-1)) with
  | true =>
   have d':NonIncK κ (arrOf z') (k+1):=zEX f.dn fun u0=>KeyOrd.kle_of_klt q
   simp only[if_true]
   by_cases hc:c>0
   ·rw[if_pos hc]
    exact dA (wpS_reverse (dZ ⟨0,rfl,b'.put (mirror_perm _ _ _ _),.one (zE7 (KK_mirror_equal sz f.eq) d') (by omega)⟩))
   ·rw[if_neg hc]
    exact dZ ⟨0,rfl,b',.one d' (by omega)⟩
  | false =>
   simp only[bJ,if_false]
   refine dA (L _ _ _ _ b' (by omega) (by omega) ?_)
   dsimp only
   cases q':κ.blt (Ky κ z' (k-1)) (Ky κ z' k) with
   | true=>exact dZ (h k c z' b' h1 (by omega) f)
   | false =>
    have ek:KK κ (arrOf z') k=KK κ (arrOf z') (k-1):=KeyOrd.kle_antisymm q' q
    simp only[bJ,if_false]
    refine dZ ⟨c+1,rfl,b',zEX f.dn fun u0=>q',by have:=f.le;omega,fun i i1 i2=>?_⟩
    rw[Nat.add_sub_cancel]
    rcases dB i k with p | p
    ·rw[ek];exact f.eq i (by omega) p
    ·rw[show i=k by omega]
 ·subst e1
  have e:max n m=m:=by omega
  rw[e] at f ⊢
  exact h m c z' b' hnm (bZ _) f
theorem zJz{z:SortSt}{n m:Nat}{Q:Option Nat→SortSt→Prop}(hm:m≤a0.size)(hnm:n+1≤m)(b:SB a0 kd z)(d:Dn κ z (n+1))
  (h:∀ k z',SB a0 kd z'→1≤k→k≤m→Up κ z' k→Q (some k) z'):wpS (model prog w) A E s (descPart n m) Q z:=by
 unfold descPart
 refine dA (wpS_lift (wpAny_rule ⟨rfl,dA (zOl L hm (by omega) hnm b d fun k c z' b' k1 k2 f=>?_)⟩))
 have sz:k≤(arrOf z').size:=by have:=b'.sz;omega
 dsimp only
 by_cases hc:c>0
 ·rw[if_pos hc]
  exact dA (wpS_reverse (zJy L hm (by omega) k2 (b'.put (mirror_perm _ _ _ _)) (zE7 (KK_mirror_equal sz f.eq) f.dn) h))
 ·rw[if_neg hc]
  exact zJy L hm (by omega) k2 b' f.dn h
theorem zK2{z:SortSt}{m:Nat}{Q:Option Nat→SortSt→Prop}(hm:m≤a0.size)(h1:1≤m)(b:SB a0 kd z)
  (h:∀ k z',SB a0 kd z'→1≤k→k≤m→Up κ z' k→Q (some k) z'):wpS (model prog w) A E s (countRun' 0 m) Q z:=by
 rw[countRun0_eq]
 refine dA (zJx L hm (bZ 1) h1 b (fun i j ij j1=>by obtain rfl:i=j:=(by omega);exact KeyOrd.kle_refl _) fun n n1 n2 u o=>?_)
 dsimp only
 by_cases e:n=m
 ·rw[if_pos (by simpa using e)]
  exact dZ (h n z b n1 n2 u)
 rw[if_neg (by simpa using e)]
 have lt:κ.klt (Ky κ z n) (Ky κ z (n-1)):=o.resolve_left e
 by_cases g:n>1
 ·rw[if_pos g]
  refine dA (L _ _ _ _ b (by omega) (by omega) ?_)
  dsimp only
  cases q:κ.blt (Ky κ z 0) (Ky κ z (n-1)) with
  | true=>exact dZ (h n z b n1 n2 u)
  | false =>
   have sz:n≤(arrOf z).size:=by have:=b.sz;omega
   have al:∀ k,0≤k→k<n→KK κ (arrOf z) k=KK κ (arrOf z) (n-1):=fun k u0 k2=>KeyOrd.kle_antisymm (u k (n-1) (by omega) (by omega)) (KeyOrd.kle_trans q (u 0 k (cW _) k2))
   simp only[bJ,if_false]
   refine dA (wpS_reverse (zJz L hm (by omega) (b.put (mirror_perm _ _ _ _)) (zE7 (KK_mirror_equal sz al) (zEX (fun i j ij jn=>?_) fun u0=>KeyOrd.kle_of_klt lt)) h))
   rw[al i (cW _) (by omega),al j (cW _) jn]
   exact KeyOrd.kle_refl _
 ·rw[if_neg g]
  obtain rfl:n=1:=by omega
  exact zJz L hm (by omega) b (zEX (fun i j ij j1=>by obtain rfl:i=j:=(by omega);exact KeyOrd.kle_refl _) fun u0=>KeyOrd.kle_of_klt lt) h
omit L in
theorem zRG{z:SortSt}{k l i j:Nat}(sz:k<(arrOf z).size)(lk:l≤k)(u:∀ i j,i≤j→j<k→κ.kle (Ky κ z i) (Ky κ z j))(lo:∀ i,i<l→κ.kle (Ky κ z i) (Ky κ z k))(hi:∀ i,l≤i→i<k→κ.klt (Ky κ z k) (Ky κ z i))(ij:i≤j)(jk:j<k+1) :
  κ.kle (KK κ (bubble (arrOf z) k (k-l)) i) (KK κ (bubble (arrOf z) k (k-l)) j):=by
 rw[KK_bubble sz (by omega),KK_bubble sz (by omega),Nat.sub_sub_self lk]
 by_cases i1:i=l
 ·rw[if_pos i1]
  by_cases j1:j=l
  ·rw[if_pos j1];exact KeyOrd.kle_refl _
  ·rw[if_neg j1,if_pos ⟨by omega,by omega⟩]
   exact KeyOrd.kle_of_klt (hi (j-1) (by omega) (by omega))
 ·rw[if_neg i1]
  by_cases i2:l<i∧i≤k
  ·rw[if_pos i2,if_neg (by omega),if_pos ⟨by omega,by omega⟩]
   exact u (i-1) (j-1) (by omega) (by omega)
  ·rw[if_neg i2]
   by_cases j1:j=l
   ·rw[if_pos j1];exact lo i (by omega)
   ·rw[if_neg j1]
    by_cases j2:l<j∧j≤k
    ·rw[if_pos j2];exact u i (j-1) (by omega) (by omega)
    ·rw[if_neg j2];exact u i j ij (by omega)
theorem zRH{z:SortSt}{m ok:Nat}{Q:Bool→SortSt→Prop}(hm:m≤a0.size)(hok:ok≤m)(h1:1≤ok)(b:SB a0 kd z)(u:Up κ z ok)
  (h:∀ z',SB a0 kd z'→Up κ z' m→Q true z'):wpS (model prog w) A E s (binarySort' 0 m ok) Q z:=by
 rw[binarySort'_eq]
 simp only[Nat.zero_add]
 refine dA (wpS_mono (wpS_forRange (I:=fun k c z'=>c=(none,())∧k≤m∧SB a0 kd z'∧Up κ z' k) (Q:=fun c z'=>c=(none,())∧SB a0 kd z'∧Up κ z' m) (fun k c z' k1 k2 ⟨e,km,b',u'⟩=>?stp) (fun c z' ⟨e,km,b',u'⟩=>⟨e,b',?fin⟩) ⟨rfl,by omega,b,?ini⟩) fun c z' ⟨e,b',u'⟩=>?pst)
 case stp =>
  subst e
  have hk:k<a0.size:=by omega
  refine dA (wpS_mono (wpS_forRange (I:=fun x c z''=>z''=z'∧∃ l r,c=(none,l,r)∧(l≤r∧r≤k∧r-l≤k-x)∧(∀ i,i<l→κ.kle (Ky κ z' i) (Ky κ z' k))∧∀ i,r≤i→i<k→κ.klt (Ky κ z' k) (Ky κ z' i))
   (Q:=fun c z''=>z''=z'∧∃ l,(∃ r,c=(none,l,r))∧l≤k∧(∀ i,i<l→κ.kle (Ky κ z' i) (Ky κ z' k))∧∀ i,l≤i→i<k→κ.klt (Ky κ z' k) (Ky κ z' i)) (fun x c z'' x1 x2 ⟨e1,l,r,e2,⟨lr,rk,dx⟩,lo,hi⟩=>?is) (fun c z'' ⟨e1,l,r,e2,⟨lr,rk,dx⟩,lo,hi⟩=>?if_) ⟨rfl,0,k,rfl,⟨by omega,by omega,by omega⟩,fun i q=>by omega,fun i q1 q2=>by omega⟩) fun c z'' ⟨e1,l,⟨r,e2⟩,lk,lo,hi⟩=>?ip)
  case is =>
   subst e1 e2
   dsimp only
   by_cases g:l≥r
   ·rw[if_pos g]
    obtain rfl:l=r:=by omega
    exact dZ ⟨rfl,l,⟨_,rfl⟩,rk,lo,hi⟩
   ·rw[if_neg g]
    refine dA (L _ _ _ _ b' hk (by omega) ?_)
    dsimp only
    cases q:κ.blt (Ky κ z'' k) (Ky κ z'' ((l+r) / 2)) with
    | true=>exact dZ ⟨rfl,l,(l+r) / 2,rfl,⟨by omega,by omega,by omega⟩,lo,fun i i1 i2=>KeyOrd.klt_of_klt_of_kle q (u' _ _ i1 i2)⟩
    | false=>exact dZ ⟨rfl,(l+r) / 2+1,r,rfl,⟨by omega,by omega,by omega⟩,fun i i1=>KeyOrd.kle_trans (u' i ((l+r) / 2) (by omega) (by omega)) (show κ.kle _ _ from q),hi⟩
  case if_ =>
   subst e1 e2
   obtain rfl:l=r:=by omega
   exact⟨rfl,l,⟨_,rfl⟩,rk,lo,hi⟩
  case ip =>
   subst e1 e2
   show wpS _ _ _ _ (do moveDown' k l;pure (ForInStep.yield (none,()))) _ _
   rw[moveDown'_eq]
   refine dA (wpS_modify (dZ ⟨rfl,by omega,b'.put (bubble_perm _ _ _),fun i j ij jk=>?_⟩))
   have sz:k<(arrOf z'').size:=by have:=b'.sz;omega
   exact zRG sz lk u' lo hi ij jk
 case fin=>rwa [show max (max ok 1) m=m by omega] at u'
 case ini=>rwa [show max ok 1=ok by omega]
 case pst =>
  subst e
  exact dZ (h z' b' u')
theorem zK3{z:SortSt}{Q:Unit→SortSt→Prop}(b:SB a0 kd z)(h2:2≤a0.size)(h64:a0.size<64)
  (h:∀ z',(arrOf z').Perm a0→failedOf z'=none→Up κ z' a0.size→Q () z'):wpS (model prog w) A E s sortRuns' Q z:=by
 rw[sortRuns'_eq]
 refine dA (wpS_get ?_)
 dsimp only
 have mr:minRun' a0.size a0.size 0=a0.size:=by
  obtain⟨f,hf⟩:∃ f,a0.size=f+1:=⟨a0.size-1,by omega⟩
  have q:minRun' (f+1) a0.size 0=a0.size:=by rw[minRun'_succ,if_pos h64];rfl
  rwa [← hf] at q
 simp only[b.sz,mr]
 let Dne:SortSt→Prop:=fun z'=>(arrOf z').Perm a0∧failedOf z'=none∧pendingOf z'=#[(0,a0.size,0)]∧Up κ z' a0.size
 have dne:∀ z',SB a0 kd z'→Up κ z' a0.size→Dne (setPending z' ((pendingOf z').push (0,a0.size,0))):=fun z' b' u'=>⟨b'.pm,b'.fl,by show(pendingOf z').push _=_;rw[b'.pe];rfl,u'⟩
 refine dA (wpS_mono (wpS_forRange (I:=fun x c z'=>(x=0∧c=(none,0)∧SB a0 kd z')∨(1≤x∧c=(none,a0.size)∧Dne z')) (Q:=fun c z'=>c=(none,a0.size)∧Dne z') (fun x c z' u0 hx o=>?stp) (fun c z' o=>?fin) (.inl ⟨rfl,rfl,b⟩)) fun c z' ⟨e,d⟩=>?pst)
 case stp =>
  rcases o with ⟨e1,e2,b'⟩ | ⟨u0,e2,d⟩
  ·subst e1 e2
   dsimp only
   rw[if_neg (by omega)]
   simp only[Nat.sub_zero,Nat.min_self,Nat.zero_add]
   refine dA (zK2 L (bZ _) (by omega) b' fun k z2 b2 k1 k2 u2=>?_)
   dsimp only
   have none_back:∀ z3,SB a0 kd z3→(pendingOf z3).back?=none:=fun z3 b3=>by rw[b3.pe];rfl
   by_cases g:k<a0.size
   ·rw[if_pos g]
    refine dA (wpS_lift (wpAny_rule ⟨rfl,dA (zRH L (bZ _) k2 k1 b2 u2 fun z3 b3 u3=>?_)⟩))
    simp only[fr,bJ,if_false]
    refine dA (wpS_get ?_)
    rw[none_back z3 b3]
    exact dA (wpS_modify (dZ (.inr ⟨by omega,rfl,dne z3 b3 u3⟩)))
   ·rw[if_neg g]
    obtain rfl:k=a0.size:=by omega
    refine dA (wpS_get ?_)
    rw[none_back z2 b2]
    exact dA (wpS_modify (dZ (.inr ⟨by omega,rfl,dne z2 b2 u2⟩)))
  ·subst e2
   dsimp only
   rw[if_pos (bZ _)]
   exact dZ ⟨rfl,d⟩
 case fin =>
  rcases o with ⟨e1,u0,u0⟩ | ⟨u0,e2,d⟩
  ·omega
  ·exact⟨e2,d⟩
 case pst =>
  subst e
  dsimp only
  refine dA (wpS_mono (wpS_forRange (I:=fun u0 c z''=>z''=z'∧c=(none,())) (Q:=fun c z''=>z''=z'∧c=(none,())) (fun x c z'' _ _ ⟨e1,e2⟩=>?ls) (fun u0 u0 q=>q) ⟨rfl,rfl⟩) fun c z'' ⟨e1,e2⟩=>?lp)
  case ls =>
   subst e1 e2
   refine dA (wpS_get ?_)
   rw[if_pos (by rw[d.2.2.1];exact bZ 1)]
   exact dZ ⟨rfl,rfl⟩
  case lp =>
   subst e1 e2
   exact dZ (h _ d.1 d.2.1 d.2.2.2)
end
noncomputable def ltI:List Int→List Int→Bool
 | [],[]=>false
 | [],_::_=>true
 | _::_,[]=>false
 | a::r,b::t=>if a=b then ltI r t else decide (a<b)
theorem zJ0:∀ a,ltI a a=false
 | []=>rfl
 | x::r=>by show(if x=x then ltI r r else _)=false;rw[if_pos rfl];exact zJ0 r
theorem zGC:∀ a b c,ltI a b=true→ltI b c=true→ltI a c=true
 | [],[],_,h,_=>by cases h
 | [],_::_,[],_,h=>by cases h
 | [],_::_,_::_,_,_=>rfl
 | _::_,[],_,h,_=>by cases h
 | _::_,_::_,[],_,h=>by cases h
 | x::a,y::b,z::c,h,h'=>by
  simp only[ltI] at h h' ⊢
  split at h<;>split at h'
  ·rename_i e1 e2;rw[if_pos (e1.trans e2)];exact zGC a b c h h'
  ·rename_i e1 e2;subst e1;rw[if_neg e2];exact h'
  ·rename_i e1 e2;subst e2;rw[if_neg e1];exact h
  ·simp only[decide_eq_true_eq] at h h'
   rw[if_neg (by omega)];simp;omega
theorem zJ1:∀ a b c,ltI a c=true→ltI a b=true∨ltI b c=true
 | [],[],_,h=>.inr h
 | [],_::_,_,_=>.inl rfl
 | _::_,_,[],h=>by cases h
 | _::_,[],_::_,_=>.inr rfl
 | x::a,y::b,z::c,h=>by
  simp only[ltI] at h ⊢
  split at h
  ·rename_i e1;subst e1
   by_cases e2:x=y
   ·subst e2;rw[if_pos rfl,if_pos rfl];exact zJ1 a b c h
   ·rw[if_neg e2,if_neg (Ne.symm e2)];simp;omega
  ·rename_i e1
   simp only[decide_eq_true_eq] at h
   by_cases e2:x=y
   ·subst e2;right;rw[if_neg e1];simp;omega
   ·by_cases e3:y=z
    ·subst e3;left;rw[if_neg e2];simp;omega
    ·rw[if_neg e2,if_neg e3];simp;omega
theorem zEY:∀ a b,ltI a b=false→ltI b a=false→a=b
 | [],[],_,_=>rfl
 | [],_::_,h,_=>by cases h
 | _::_,[],_,h=>by cases h
 | x::a,y::b,h,h'=>by
  simp only[ltI] at h h'
  by_cases e:x=y
  ·subst e;rw[if_pos rfl] at h h';rw[zEY a b h h']
  ·rw[if_neg e] at h;rw[if_neg (Ne.symm e)] at h'
   simp only[decide_eq_false_iff_not] at h h';omega
noncomputable def tAt(h:Heap):Value→Option (List Int)
 | .ref a=>match h.get? a with
  | some o=>match o.data with
   | .seq its _=>some (its.toList.map numOf)
   | _=>none
  | none=>none
 | _=>none
noncomputable abbrev zBE(h:Heap):KeyKind where
 α:=List Int
 blt:=ltI
 irrefl:=zJ0
 trans:=zGC
 negTrans:=zJ1
 total:=zEY
 keyOf:=tAt h
 dflt:=[]
structure TI (h:Heap) (v:Value) (ns:List Int):Prop where
 ex:∃ a o its n,v=.ref a∧h.get? a=some o∧o.cls=.type "tuple"∧o.data=.seq its n∧IntsAre its.toList ns
 ne:ns≠[]
theorem TI.items{h:Heap}{v:Value}{ns:List Int}(t:TI h v ns):tAt h v=some ns:=by
 obtain⟨a,o,its,n,rfl,e,u0,d,i⟩:=t.ex
 unfold tAt
 simp only[e,d]
 rw[i.nums]
theorem zG6(b:Bool)(x y:Value):keyLt' (tuples' b) x y=(do
  let xs ← Builtin.List.listItems x;let ys ← Builtin.List.listItems y
  for ((p,q),i) in (xs.toList.zip ys.toList).zipIdx do
   if !(← eqBool p q) then return ← oneLt' (b&&i==0) p q
  return decide (xs.size<ys.size)):=rfl
section
variable {prog:Program} {w:World} {A:Around} {E:Value→Shared→Prop} {s:Shared}
theorem zJH{b:Bool}{i j:Int}{t u:Tok}{Q:Bool→Shared→Prop}(h:Q (decide (i<j)) s):wpAny (model prog w) A (oneLt' b (.int i t) (.int j u)) Q E s:=by
 cases b with
 | true=>exact oneLt_int h
 | false =>
  rw[oneLt'_eq]
  simp only[bJ,if_false]
  refine bI (m:=richCompare .Lt (.int i t) (.int j u)) (wpAny_lt_int ?_)
  exact dR h
noncomputable def zD5:List Int→List Int→Option Bool
 | a::r,b::t=>if a=b then zD5 r t else some (decide (a<b))
 | _,_=>none
theorem zH4:∀ ns ms,ltI ns ms=(zD5 ns ms).getD (decide (ns.length<ms.length))
 | [],[]=>rfl
 | [],_::_=>by simp[ltI,zD5]
 | _::_,[]=>by simp[ltI,zD5]
 | a::r,b::t=>by
  simp only[ltI,zD5]
  split
  ·rw[zH4 r t];simp
  ·rfl
theorem zJ2{b:Bool}{Q:Option Bool×Unit→Shared→Prop}:∀(ps qs:List Value) (ns ms:List Int) (k:Nat),IntsAre ps ns→IntsAre qs ms→Q (zD5 ns ms,()) s →
  wpAny (model prog w) A (forIn ((ps.zip qs).zipIdx k) ((none,()):Option Bool×Unit) fun x r=>do
   let e ← eqBool x.1.1 x.1.2
   if (!e)=true then do
    let c ← oneLt' (b&&x.2==0) x.1.1 x.1.2
    pure (ForInStep.done (some c,()))
   else pure (ForInStep.yield (none,()))) Q E s
 | _,_,_,_,k,.nil,_,h=>by
  simp only[List.zip_nil_left,List.zipIdx_nil,List.forIn_nil]
  exact bS h
 | _,_,_,_,k,.cons a t i,.nil,h=>by
  simp only[List.zip_nil_right,List.zipIdx_nil,List.forIn_nil]
  exact bS h
 | _,_,_,_,k,.cons a t i,.cons c u j,h=>by
  simp only[List.zip_cons_cons,List.zipIdx_cons,List.forIn_cons]
  refine bI (bI (wpAny_eqBool_int ?_))
  simp only[zD5] at h
  by_cases e:a=c
  ·subst e
   rw[if_pos rfl] at h
   rw[if_neg (by simp)]
   refine bS ?_
   exact zJ2 _ _ _ _ (k+1) i j h
  ·rw[if_neg e] at h
   rw[if_pos (by simpa using e)]
   exact bI (zJH (bS (bS h)))
theorem zK4{b:Bool}{x y:Value}{ns ms:List Int}{Q:Bool→Shared→Prop}(hx:TI s.heap x ns)(hy:TI s.heap y ms)(h:Q (ltI ns ms) s):wpAny (model prog w) A (keyLt' (tuples' b) x y) Q E s:=by
 obtain⟨a,o,its,n,rfl,e,u0,d,i⟩:=hx.ex
 obtain⟨a',o',its',n',rfl,e',u0,d',i'⟩:=hy.ex
 rw[zG6]
 refine bI (listItems_at e d (bI (listItems_at e' d' (bI ?_))))
 refine zJ2 (Q:=_) its.toList its'.toList ns ms 0 i i' ?_
 rw[zH4] at h
 cases q:zD5 ns ms with
 | some c =>
  rw[q] at h
  exact bS h
 | none =>
  rw[q] at h
  refine bS ?_
  have l1:=i.length
  have l2:=i'.length
  simp only[cD] at l1 l2
  rw[l1,l2]
  exact h
theorem zK5{v:Value}{ns:List Int}{Q:Option Value→Shared→Prop}(hv:TI s.heap v ns)(h:∀ i t,Q (some (.int i t)) s):wpAny (model prog w) A (firstOfTuple' v) Q E s:=by
 obtain⟨a,o,its,n,rfl,e,c,d,i⟩:=hv.ex
 show wpAny _ _ (do
  if (← typeOf (.ref a)) != .type "tuple" then return none
  return (← Builtin.List.listItems (.ref a))[0]?) _ _ _
 refine bI (eS (T:="tuple") ⟨o,e,c⟩ ?_)
 rw[if_neg (by decide)]
 refine bI (listItems_at e d (bS ?_))
 obtain⟨l⟩:=its
 cases i with
 | nil=>exact absurd rfl hv.ne
 | cons k t r=>exact h k t
theorem zE8{Q:List (Option Value)→Shared→Prop}:∀(vs:List Value),(∀ v∈vs,∃ ns,TI s.heap v ns)→(∀ fs:List (Option Value),fs.length=vs.length→(∀ f∈fs,∃ i t,f=some (.int i t))→Q fs s)→wpAny (model prog w) A (vs.mapM firstOfTuple') Q E s
 | [],_,h=>by
  simp only[List.mapM_nil]
  exact bS (h [] rfl (by simp))
 | v::r,hv,h=>by
  simp only[List.mapM_cons]
  obtain⟨ns,t⟩:=hv v (by simp)
  refine bI (zK5 t fun i t'=>bI (zE8 r (fun u hu=>hv u (by simp[hu])) fun fs hl hf=>bS (h _ (by simp[hl]) fun f hm=>?_)))
  rcases cI.mp hm with e | e
  ·exact⟨i,t',e⟩
  ·exact hf f e
theorem zBt:∀ {vs:List Value},(∀ v∈vs,∃ i t,v=.int i t)→vs.mapM typeOf=pure (vs.map fun u0=>Value.type "int")
 | [],_=>by simp
 | v::r,h=>by
  obtain⟨i,t,rfl⟩:=h v (by simp)
  rw[List.mapM_cons,zBt fun u hu=>h u (by simp[hu])]
  show(pure (Value.type "int")>>=fun b=>pure _>>=fun bs=>pure (b::bs))=_
  simp
theorem zBF:∀(fs:List (Option Value)),(∀ f∈fs,∃ i t,f=some (.int i t))→(∀ v∈fs.filterMap id,∃ i t,v=Value.int i t)∧(fs.filterMap id).length=fs.length
 | [],_=>⟨by simp,rfl⟩
 | f::r,h=>by
  obtain⟨i,t,rfl⟩:=h f (by simp)
  obtain⟨h1,h2⟩:=zBF r fun g hg=>h g (by simp[hg])
  simp only[fi,id]
  exact⟨fun v hv=>by
   rcases cI.mp hv with e | e
   ·exact⟨i,t,e⟩
   ·exact h1 v e,by simp[h2]⟩
theorem zH5{vs:List Value}{Q:SortKind→Shared→Prop}(h2:1≤vs.length)(hv:∀ v∈vs,∃ ns,TI s.heap v ns)(h:Q (tuples' true) s):wpAny (model prog w) A (keyKind' vs.toArray) Q E s:=by
 rw[keyKind'_eq]
 rw[List.mapM_toArray]
 refine bI ?_
 rw[map_eq_pure_bind]
 refine bI (zE8 vs hv fun fs hl hf=>bS ?_)
 rw[if_pos (by
  simp only[List.all_toArray,eU]
  intro f hm
  obtain⟨i,t,rfl⟩:=hf f hm
  rfl)]
 refine bI (wpAny_rule (bI ?_))
 obtain⟨q1,q2⟩:=zBF fs hf
 rw[oneTypeOnly'_eq]
 have e0:fs.toArray.filterMap id=(fs.filterMap id).toArray:=by simp
 rw[e0,List.mapM_toArray,zBt q1]
 simp only[map_pure,pure_bind]
 cases q:fs.filterMap id with
 | nil=>rw[q] at q2;simp at q2;omega
 | cons u r =>
  have hall:((ce (fun u0=>Value.type "int") (u::r)).toArray.all fun x=>x==Value.type "int")=true:=by
   simp only[List.all_toArray,List.all_map,eU]
   intro u0 u0;rfl
  have h0:(ce (fun u0=>Value.type "int") (u::r)).toArray[0]?=some (Value.type "int"):=by simp
  rw[h0]
  simp only[hall,if_true]
  refine bS (bS ?_)
  exact h
theorem zDq{a:Addr}{vs:List Value}{n:Nat}{P:Fin→Shared→Prop}(ho:s.heap.get? a=some (seqObj "list" vs.toArray n))(hv:∀ v∈vs,(∃ ns,TI s.heap v ns)∧v≠.ref a)(h64:vs.length<64)
  (h:∀ out:Array Value,out.toList.Perm vs→(∀ i j,i≤j→j<out.size→ltI ((tAt s.heap (out.getD j .none)).getD []) ((tAt s.heap (out.getD i .none)).getD [])=false)→P (.done (.ret .none)) { s with heap:=sortedHeap s.heap a vs out }) :
  wpAny (model prog w) A (Builtin.«list.sort» ⟨[.ref a],[]⟩) P E s:=by
 rw[list_sort_plain]
 have ha:a<s.heap.objs.size:=cc ho
 refine bI (listItems_at ho rfl (bI (listUpdate_at ho rfl ?_)))
 obtain⟨e1,ho1⟩:∃ e1,(s.heap.update a (Obj.mapSeq fun u0=>#[])).get? a=some (seqObj "list" #[] e1):=⟨_,get?_update_seq ho (fun u0=>#[])⟩
 refine bI (seqEpoch_at ho1 rfl (bI (wpAny_newTuple (bI (wpAny_newList (cY ?_))))))
 have up:∀ c o,c≠a→s.heap.get? c=some o→(((s.heap.update a (Obj.mapSeq fun u0=>#[])).push (seqObj "tuple" vs.toArray 0)).push (seqObj "list" #[] 0)).get? c=some o:=fun c o hc e=>bP _ (bP _ (by rw[eT _ _ _ _ hc];exact e))
 have ho6:(((s.heap.update a (Obj.mapSeq fun u0=>#[])).push (seqObj "tuple" vs.toArray 0)).push (seqObj "list" #[] 0)).get? a=some (seqObj "list" #[] e1):=bP _ (bP _ ho1)
 show wpAny (model prog w) A _ P E { s with heap:=(((s.heap.update a (Obj.mapSeq fun u0=>#[])).push (seqObj "tuple" vs.toArray 0)).push (seqObj "list" #[] 0)) }
 generalize hg:((s.heap.update a (Obj.mapSeq fun u0=>#[])).push (seqObj "tuple" vs.toArray 0)).push (seqObj "list" #[] 0)=g at up ho6 ⊢
 have hv':∀ v∈vs,∃ ns,TI g v ns∧tAt s.heap v=some ns:=fun v hm=>by
  obtain⟨⟨ns,t⟩,na⟩:=hv v hm
  have t':=t
  obtain⟨⟨b,o,its,k,rfl,q1,q2,q3,q4⟩,ne⟩:=t
  exact⟨ns,⟨⟨b,o,its,k,rfl,up b o (fun z=>na (by rw[z])) q1,q2,q3,q4⟩,ne⟩,t'.items⟩
 dsimp only
 have fin:∀ z:SortSt,(arrOf z).Perm (pairsOf vs)→SortedToK (zBE g) (arrOf z) (pairsOf vs).size→P (.done (.ret .none)) { s with heap:=g.update a (Obj.mapSeq fun u0=>(arrOf z).map (·.2)) }:=by
  intro z pm st
  have pl:(arrOf z).toList.Perm (vs.zip vs):=by rw[← pairsOf_toList];exact Array.perm_iff_toList_perm.mp pm
  have mem:∀ p∈(arrOf z).toList,p.1=p.2∧p.1∈vs:=fun p hp=>mem_zip_self (pl.mem_iff.mp hp)
  have:=h ((arrOf z).map (·.2)) (by
   have q:=pl.map (·.2)
   rw[Array.toList_map]
   refine q.trans (.of_eq ?_)
   rw[List.map_snd_zip (bZ _)]) fun i j ij hj=>by
    have hj':j<(arrOf z).size:=by simpa using hj
    have hi':i<(arrOf z).size:=by omega
    have q:=st i j ij (by rw[← pm.size_eq];exact hj')
    have gk:∀ k,(hk:k<(arrOf z).size)→KK (zBE g) (arrOf z) k=(tAt s.heap (((arrOf z).map (·.2)).getD k .none)).getD []:=fun k hk=>by
     obtain⟨m1,m2⟩:=mem _ (show(arrOf z)[k]∈(arrOf z).toList by simp)
     obtain⟨ns,t1,t2⟩:=hv' _ m2
     have e1:KK (zBE g) (arrOf z) k=ns:=by
      unfold KK
      rw[getElem?_pos _ k hk]
      show(tAt g (arrOf z)[k].1).getD []=ns
      rw[t1.items];rfl
     have e2:((arrOf z).map (·.2)).getD k .none=(arrOf z)[k].1:=by
      rw[m1];simp[eR,hk]
     rw[e1,e2,t2];rfl
    rw[← gk i hi',← gk j hj']
    exact q
  unfold sortedHeap at this
  rw[hg] at this
  exact this
 have hsz:vs.toArray.size=vs.length:=by simp
 by_cases h2:vs.toArray.size<2
 ·rw[if_pos h2,if_pos h2]
  refine bI (bS ?_)
  rw[StateT.run_pure]
  refine bI (bS (bI (seqEpoch_at ho6 rfl (bI (listUpdate_at ho6 rfl ?_ (hsz2:=by rw[Array.size_map];show(pairsOf vs).size≤_;rw[pairsOf_size,sizeLine_eq];omega))))))
  simp only[bne_self_eq_false,bJ,if_false]
  refine bS (fin (SortSt.mk' general' (vs.toArray.zip vs.toArray) #[] 7 none) (Array.Perm.refl _) fun i j hij hj=>?_)
  obtain rfl:i=j:=by rw[pairsOf_size] at hj;omega
  exact KeyOrd.kle_refl _
 ·rw[if_neg h2,if_neg h2]
  refine bI (zH5 (s:={ s with heap:=g }) (by omega) (fun v hm=>by obtain⟨ns,t,u0⟩:=hv' v hm;exact⟨ns,t⟩) ?_)
  have L:∀(z:SortSt) (i j:Nat) (Q:Option Bool→SortSt→Prop),SB (pairsOf vs) (tuples' true) z→i<(pairsOf vs).size→j<(pairsOf vs).size→Q (some ((zBE g).blt (Ky (zBE g) z i) (Ky (zBE g) z j))) z→wpS (model prog w) A E { s with heap:=g } (ltAt' i j) Q z:=by
   intro z i j Q b hi hj q
   have key:∀ k,k<(pairsOf vs).size→∃ x p ns,(arrOf z)[k]?=some (x,p)∧TI g x ns∧Ky (zBE g) z k=ns:=fun k hk=>by
    have hk':k<(arrOf z).size:=by rw[b.sz];exact hk
    have hm:(arrOf z)[k]∈vs.zip vs:=by
     have pl:(arrOf z).toList.Perm (vs.zip vs):=by rw[← pairsOf_toList];exact Array.perm_iff_toList_perm.mp b.pm
     exact pl.mem_iff.mp (by simp)
    obtain⟨m1,m2⟩:=mem_zip_self hm
    obtain⟨ns,t,u0⟩:=hv' _ m2
    refine⟨(arrOf z)[k].1,(arrOf z)[k].2,ns,getElem?_pos _ k hk',t,?_⟩
    unfold Ky KK
    rw[getElem?_pos _ k hk']
    show(tAt g (arrOf z)[k].1).getD []=ns
    rw[t.items];rfl
   obtain⟨x,p,ns,x1,x2,x3⟩:=key i hi
   obtain⟨y,r,ms,y1,y2,y3⟩:=key j hj
   rw[x3,y3] at q
   rw[ltAt'_eq]
   refine dA (wpS_get ?_)
   show wpS _ _ _ _ (do let x ← elem' (arrOf z) i;let y ← elem' (arrOf z) j;lt' x y) Q z
   rw[elem'_eq,elem'_eq,x1,y1]
   refine dA (dZ (dA (dZ ?_)))
   rw[lt'_eq]
   refine dA (wpS_get ?_)
   rw[b.kd]
   exact dA (wpS_lift (wpAny_attempt (zK4 (s:={ s with heap:=g }) x2 y2 ⟨rfl,dZ q⟩)))
  refine bI (fw (zK3 L (z:=SortSt.mk' (tuples' true) (vs.toArray.zip vs.toArray) #[] 7 none) (Q:=fun u0 z'=>(arrOf z').Perm (pairsOf vs)∧failedOf z'=none∧SortedToK (zBE g) (arrOf z') (pairsOf vs).size)
   ⟨Array.Perm.refl _,rfl,rfl,rfl⟩ (by rw[pairsOf_size];omega) (by rw[pairsOf_size];exact h64) fun z' a1 a2 a3=>⟨a1,a2,a3⟩) ?_ fun u0 u0 e=>e)
  rintro⟨⟨⟩,z'⟩ s' ⟨e',pm,hf,st⟩
  subst e'
  dsimp only
  refine bI (seqEpoch_at ho6 rfl (bI (listUpdate_at ho6 rfl ?_ (hsz2:=by refine dh (Nat.le_of_eq ((Array.size_map ..).trans (pm.size_eq.trans (pairsOf_size _)))) ?_;rw[sizeLine_eq];omega))))
  rw[hf]
  simp only[bne_self_eq_false,bJ,if_false]
  exact bS (fin z' pm st)
theorem zE9{v:Value}{vs:List Value}{Q:Value→Shared→Prop}(hv:∀ u∈vs,∃ ns,TI s.heap u ns)(h64:vs.length<64)
  (hc:∀(Q':List Value→Shared→Prop),Q' vs { s with heap:=(s.heap.push (seqObj "list" #[] 0)).update s.heap.objs.size (Obj.mapSeq (·++vs.toArray)) }→wpAny (model prog w) A.in1 (collect v) Q' E s)
  (h:∀ out:Array Value,out.toList.Perm vs→(out.toList.map fun u=>(tAt s.heap u).getD []).Pairwise (fun a b=>ltI b a=false)→Q (.ref (s.heap.objs.size+1)) { s with heap:=sortedAll s.heap vs out }) :
  wpAny (model prog w) A (call (.builtin "sorted") [v]) Q E s:=by
 refine Calls.call_function_entry kind_sorted plain_sorted entry_sorted (args_sorted1 _) ?_
 unfold Builtin.«sorted»
 refine bI (m:=checkCount "sorted" 1 1 _) (bS (bI (hc _ (bI (wpAny_newList ?_)))))
 have hsz:((s.heap.push (seqObj "list" #[] 0)).update s.heap.objs.size (Obj.mapSeq (·++vs.toArray))).objs.size=s.heap.objs.size+1:=by rw[Heap.size_update,size_push']
 have hoL:(((s.heap.push (seqObj "list" #[] 0)).update s.heap.objs.size (Obj.mapSeq (·++vs.toArray))).push (seqObj "list" vs.toArray 0)).get? (s.heap.objs.size+1)=some (seqObj "list" vs.toArray 0):=by rw[← hsz];exact cb _ rfl
 have old:∀ c o,s.heap.get? c=some o→(((s.heap.push (seqObj "list" #[] 0)).update s.heap.objs.size (Obj.mapSeq (·++vs.toArray))).push (seqObj "list" vs.toArray 0)).get? c=some o:=fun c o e=>bP _ (by
  rw[eT _ _ _ _ (cJ (cc e))];exact bP _ e)
 show wpAny _ _ _ _ _ { s with heap:=((s.heap.push (seqObj "list" #[] 0)).update s.heap.objs.size (Obj.mapSeq (·++vs.toArray))).push (seqObj "list" vs.toArray 0) }
 rw[hsz]
 have eqi:∀ u∈vs,tAt (((s.heap.push (seqObj "list" #[] 0)).update s.heap.objs.size (Obj.mapSeq (·++vs.toArray))).push (seqObj "list" vs.toArray 0)) u=tAt s.heap u∧(∃ ns,TI (((s.heap.push (seqObj "list" #[] 0)).update s.heap.objs.size (Obj.mapSeq (·++vs.toArray))).push (seqObj "list" vs.toArray 0)) u ns)∧u≠.ref (s.heap.objs.size+1):=fun u hu=>by
  obtain⟨ns,t⟩:=hv u hu
  have t0:=t
  obtain⟨⟨a,o,its,n,rfl,e1,e2,e3,e4⟩,ne⟩:=t
  have t':TI (((s.heap.push (seqObj "list" #[] 0)).update s.heap.objs.size (Obj.mapSeq (·++vs.toArray))).push (seqObj "list" vs.toArray 0)) (.ref a) ns:=⟨⟨a,o,its,n,rfl,old a o e1,e2,e3,e4⟩,ne⟩
  refine⟨by rw[t'.items,t0.items],⟨ns,t'⟩,fun z=>?_⟩
  cases z
  exact absurd (cc e1) (Nat.not_lt.mpr (eE _))
 refine bI (cY (dP slot_list_sort ⟨_,hoL,rfl⟩ entry_list_sort (zDq (s:={ s with heap:=((s.heap.push (seqObj "list" #[] 0)).update s.heap.objs.size (Obj.mapSeq (·++vs.toArray))).push (seqObj "list" vs.toArray 0) }) hoL (fun u hu=>(eqi u hu).2) h64 fun out pm so=>⟨_,rfl,bS ⟨_,rfl,h out pm ?_⟩⟩) (args_list_sort _)))
 rw[eF]
 intro i j hi hj ij
 have hj':j<out.size:=by simpa using hj
 have hi':i<out.size:=by omega
 have q:=so i j (ej ij) hj'
 have g:∀ k,(hk:k<out.size)→tAt (((s.heap.push (seqObj "list" #[] 0)).update s.heap.objs.size (Obj.mapSeq (·++vs.toArray))).push (seqObj "list" vs.toArray 0)) (out.getD k .none)=tAt s.heap out[k]:=fun k hk=>by
  have e:out.getD k .none=out[k]:=by simp[eR,hk]
  rw[e]
  exact(eqi _ (pm.mem_iff.mp (by simp))).1
 rw[g i hi',g j hj'] at q
 simpa using q
end
end HS
namespace L3
open L2 HS
section
variable {X:Cx} {e:Expr} {pos p:Pos} {tl:TL2}
noncomputable def tI(ns:List Int):D:=.tup (ns.map D.int)
theorem zEZ{pins:List (Addr×Obj)}{σ:L2.St}{H:Hp}{s:Shared}(I:zX X pins σ H s):∀ {nss:List (List Int)} {ys:List V} {us:List Value},Dens X.K H (nss.map tI) ys→za ys us→(∀ ns∈nss,ns≠[]) →
  us.map (fun u=>(tAt s.heap u).getD [])=nss∧∀ u∈us,∃ a ns,u=.ref a∧TI s.heap u ns∧zQ X.K H (tI ns) (.ref a)
 | [],ys,us,d,r,_=>by
  simp only[fC] at d
  unfold Dens at d
  subst d
  cases r
  exact⟨rfl,by simp⟩
 | ns::nss,ys,us,d,r,hne=>by
  simp only[cM] at d
  unfold Dens at d
  obtain⟨x,xs,rfl,d1,d2⟩:=d
  cases r with
  | cons r1 r2 =>
   rename_i u us'
   obtain⟨q1,q2⟩:=zEZ I d2 r2 fun n hn=>hne n (by simp[hn])
   have d0:=d1
   unfold tI zQ at d1
   obtain⟨a,zs,rfl,hs,hd⟩:=d1
   have hz:=hd.ints_inv
   subst hz
   obtain⟨its,rv,⟨o,h1,h2,n,h3⟩,u0⟩:=I.tuple hs
   cases (show u=Value.ref a from r1)
   have t:TI s.heap (.ref a) ns:=⟨⟨a,o,its.toArray,n,rfl,h1,h2,h3,by simpa using intsAre_of rv⟩,hne ns (by simp)⟩
   refine⟨by rw[cM,q1,t.items];rfl,fun v hv=>?_⟩
   rcases cI.mp hv with e | e
   ·subst e;exact⟨a,ns,rfl,t,d0⟩
   ·exact q2 v e
theorem zGD{pins:List (Addr×Obj)}{σ:L2.St}{H:Hp}{s:Shared}(I:zX X pins σ H s):∀ {us:List Value},(∀ u∈us,∃ a ns,u=.ref a∧TI s.heap u ns∧zQ X.K H (tI ns) (.ref a)) →
  ∃ ys:List V,za ys us∧Dens X.K H ((us.map fun u=>(tAt s.heap u).getD []).map tI) ys
 | [],_=>⟨[],.nil,.nil⟩
 | u::us,h=>by
  obtain⟨ys,v,d⟩:=zGD I (us:=us) fun w hw=>h w (ck _ hw)
  obtain⟨a,ns,rfl,t,d1⟩:=h u (by simp)
  refine⟨.ref a::ys,.cons rfl v,?_⟩
  simp only[cM]
  rw[t.items]
  exact .cons d1 d
theorem zG7:yg X (.builtin "sorted") (fun xs H Q=>∃(p:Addr) (ys:List V) (nss:List (List Int)),xs=[.ref p]∧(SqL X.K H p ys∨SqT X.K H p ys)∧Dens X.K H (nss.map tI) ys∧nss.length<64∧(∀ ns∈nss,ns≠[]) ∧
  ∀(l:Addr) (ys':List V) (nss':List (List Int)),H l=none→nss'.Perm nss→Dens X.K H (nss'.map tI) ys'→nss'.Pairwise (fun a b=>ltI b a=false)→Q (.ref l) (wj H l (.lst ys'))):=by
 intro pins s σ H xs us Q I r h
 obtain⟨p,ys,nss,rfl,hq,hd,hz,hne,q⟩:=h
 obtain⟨u,rfl,rx⟩:=vals1 r
 cases rx
 have fin:∀(its:List Value) (out:Array Value),za ys its→out.toList.Perm its→(out.toList.map fun u=>(tAt s.heap u).getD []).Pairwise (fun a b=>ltI b a=false)→EP X pins σ Q (.ref (s.heap.objs.size+1)) { s with heap:=sortedAll s.heap its out }:=by
  intro its out rv pm so
  obtain⟨q1,q2⟩:=zEZ I hd rv hne
  obtain⟨ys',rv',d'⟩:=zGD I (us:=out.toList) fun w hw=>q2 w (pm.mem_iff.mp hw)
  obtain⟨e,he⟩:=sortedAll_at s.heap its out
  have hn:H (s.heap.objs.size+1)=none:=I.hok.fresh (eE _)
  refine⟨.ref (s.heap.objs.size+1),_,I.laid (t':=s.toks) (o:=.lst ys') (fun b u q=>sortedAll_old q) (eE _) ?_,rfl,q _ ys' _ hn (by rw[← q1];exact pm.map _) d' so⟩
  have hp:=pm.length_eq
  have l1:=rv'.length
  have l2:=rv.length
  have l3:=hd.length
  rw[bU] at l3
  refine⟨?_,out.toList,e,rv',?_⟩
  ·rw[sizeLine_eq];omega
  ·rw[he]<;>rfl
 rcases hq with hq | hq
 ·obtain⟨its,rv,pl,u0⟩:=I.list hq
  obtain⟨q1,q2⟩:=zEZ I hd rv hne
  have l2:=rv.length
  have l3:=hd.length
  rw[bU] at l3
  exact zE9 (vs:=its) (fun w hw=>by obtain⟨u0,ns,u0,t,u0⟩:=q2 w hw;exact⟨ns,t⟩) (by omega) (fun Q' hQ'=>collect_list pl.isList hQ' (by rw[sizeLine_eq];omega)) fun out pm so=>fin its out rv pm so
 ·obtain⟨its,rv,pl,u0⟩:=I.tuple hq
  obtain⟨q1,q2⟩:=zEZ I hd rv hne
  have l2:=rv.length
  have l3:=hd.length
  rw[bU] at l3
  exact zE9 (vs:=its) (fun w hw=>by obtain⟨u0,ns,u0,t,u0⟩:=q2 w hw;exact⟨ns,t⟩) (by omega) (fun Q' hQ'=>HT.zD0 pl hQ') fun out pm so=>fin its out rv pm so
noncomputable def zCC(t:wN):TL2:=fun σ G R=>t σ G fun ds G1=>match ds with
 | [d]=>∃ nss:List (List Int),zBs G1 d (nss.map tI)∧nss.length<64∧(∀ ns∈nss,ns≠[])∧∀ nss':List (List Int),nss'.Perm nss→nss'.Pairwise (fun a b=>ltI b a=false)→R (nss'.map tI) G1
 | _=>False
theorem zK6{t:wN}(hg:Gl X "sorted")(hm:X.mg "sorted"=none)(ha:A2 X [e] t)(he:starEach [e] X.env=(false,eval e X.env)::starEach [] X.env:=by rfl)(hpl:(backTo pos (starEach [] X.env)).any (·.1)=false:=by rfl) :
  F2 X (.Call (.Name "sorted" p) [e] [] pos) (zCC t):=by
 refine PE.mono (zBQ zG7 hg hm boot_sorted ha (by decide) (by decide) he hpl) ?_
 rintro σ1 H Q ⟨σ,G,R,rl,q,k⟩
 refine⟨σ,G,_,rl,q,fun ds G1 q1 vs H1 g1 r1 d1=>?_⟩
 split at q1
 ·rename_i d
  obtain⟨nss,e1,hl,hne,q1⟩:=q1
  obtain⟨v,rfl,d2⟩:=zAi d1
  obtain⟨a,xs,rfl,s1,t1⟩:=zEO r1 d2 e1
  refine⟨a,xs,nss,rfl,s1,t1,hl,hne,fun l' ys' nss' n' h1 h2 h3=>?_⟩
  exact k _ G1 (q1 nss' h1 h3) l' _ _ (g1.trans (.fresh n')) (r1.fresh n') (r1.free n') zu (h2.grow (.fresh n'))
 ·exact q1.elim
end
end L3
namespace HT
section
variable {prog:Program} {w:World} {A:Around} {E:Value→Shared→Prop} {s:Shared}
end
end HT
namespace L3
open L2
section
variable {X:Cx} {a b c e o:Expr} {es:List Expr} {pos p:Pos} {ta tb te:zk}
theorem zK7:yg X (.type "int") (fun xs H Q=>∃ b,xs=[.bl b]∧Q (.int (if b then 1 else 0)) H):=by
 intro pins s σ H xs us Q I r h
 obtain⟨b,rfl,q⟩:=h
 obtain⟨u,rfl,rx⟩:=vals1 r
 obtain rfl:u=Value.bool b:=rx
 exact call_int_bool ⟨.int _,H,I.tok _,⟨_,rfl⟩,q⟩
noncomputable def zDr:wm:=fun ds G R=>match ds with | [.bl b]=>R (.int (if b then 1 else 0)) G | _=>False
theorem zMg{K:PySem.W.Frag}:zHn K (fun xs H Q=>∃ b,xs=[.bl b]∧Q (.int (if b then 1 else 0)) H) zDr:=by
 intro ds G R vs H Q h r d k
 unfold zDr at h
 split at h
 ·rename_i b
  obtain⟨v,rfl,d2⟩:=zAi d
  unfold zQ at d2
  subst d2
  exact⟨b,rfl,k _ G h _ H (.refl H) r (by unfold zQ;rfl)⟩
 ·exact h.elim
theorem zRI{t:wN}(hg:Gl X "int")(hm:X.mg "int"=none)(ha:A2 X [e] t)(he:starEach [e] X.env=(false,eval e X.env)::starEach [] X.env:=by rfl)(hpl:(backTo pos (starEach [] X.env)).any (·.1)=false:=by rfl) :
  E2 X (.Call (.Name "int" p) [e] [] pos) (zJ zDr t):=zEv zK7 zMg hg hm (by decide +kernel) ha (by decide) (by decide) he hpl
end
section
variable {X:Cx} {a b c e o we:Expr} {es:List Expr} {pos p:Pos} {ta tb te tw:zk}
end
end L3
namespace HI
noncomputable def Ris(xs:Array Nat):Prop:=xs.toList.Pairwise (·<·)
theorem Ris.lt{xs:Array Nat}(h:Ris xs){i k:Nat}(ik:i<k)(hk:k<xs.size):xs[i]'(Nat.lt_trans ik hk)<xs[k]:=by
 have:=eF.mp h i k (by simpa using Nat.lt_trans ik hk) (by simpa using hk) ik
 simpa using this
theorem zMh{xs:Array Nat}{j:Nat}(hr:Ris xs):∀(fuel lo hi:Nat),hi≤xs.size→lo≤hi→hi-lo≤fuel→(∀ i,(q:i<xs.size)→i<lo→xs[i]<j)→(∀ i,(q:i<xs.size)→hi≤i→j≤xs[i]) →
  (∀ i,(q:i<xs.size)→i<cf.go xs j fuel lo hi→xs[i]<j)∧∀ i,(q:i<xs.size)→cf.go xs j fuel lo hi≤i→j≤xs[i]
 | 0,lo,hi,h1,h2,h3,a,b=>by
  unfold cf.go
  obtain rfl:lo=hi:=by omega
  exact⟨fun i q e=>a i q e,fun i q e=>b i q e⟩
 | fuel+1,lo,hi,h1,h2,h3,a,b=>by
  unfold cf.go
  by_cases c:lo<hi
  ·rw[if_pos c]
   dsimp only
   have hm:(lo+hi) / 2<xs.size:=by omega
   have eg:xs.getD ((lo+hi) / 2) j=xs[(lo+hi) / 2]:=by simp[eR,hm]
   rw[eg]
   by_cases d:xs[(lo+hi) / 2]<j
   ·rw[if_pos d]
    refine zMh hr fuel ((lo+hi) / 2+1) hi h1 (by omega) (by omega) (fun i q e=>?_) b
    rcases dB i ((lo+hi) / 2) with z | z
    ·exact Nat.lt_trans (hr.lt z hm) d
    ·obtain rfl:i=(lo+hi) / 2:=by omega
     exact d
   ·rw[if_neg d]
    refine zMh hr fuel lo ((lo+hi) / 2) (by omega) (by omega) (by omega) a (fun i q e=>?_)
    rcases dB ((lo+hi) / 2) i with z | z
    ·exact dh (Nat.not_lt.mp d) (ej (hr.lt z q))
    ·obtain rfl:i=(lo+hi) / 2:=by omega
     exact Nat.not_lt.mp d
  ·rw[if_neg c]
   obtain rfl:lo=hi:=by omega
   exact⟨fun i q e=>a i q e,fun i q e=>b i q e⟩
theorem zFA{xs:Array Nat}{j:Nat}(hr:Ris xs):(∀ i,(q:i<xs.size)→i<cf xs j→xs[i]<j)∧∀ i,(q:i<xs.size)→cf xs j≤i→j≤xs[i]:=by
 unfold cf
 exact zMh hr xs.size 0 xs.size (bZ _) (cW _) (by omega) (fun i q e=>absurd e (fj _)) (fun i q e=>absurd q (Nat.not_lt.mpr e))
theorem zJ3{xs:Array Nat}{j:Nat}(hr:Ris xs)(hn:xs[cf xs j]?≠some j):Ris (cN xs (cf xs j) j):=by
 obtain⟨b1,b2⟩:=zFA (j:=j) hr
 generalize cf xs j=p at *
 unfold Ris
 rw[SetTable.toList_insertAt]
 have hd:∀ a∈xs.toList.drop p,j<a:=fun a ha=>by
  obtain⟨i,hi,rfl⟩:=List.mem_iff_getElem.mp ha
  rw[dF,cD] at hi
  have hpi:p+i<xs.size:=by omega
  rw[List.getElem_drop,Array.getElem_toList]
  have h1:=b2 (p+i) hpi (by omega)
  rcases eY h1 with e | e
  ·exfalso
   cases i with
   | zero =>
    apply hn
    rw[getElem?_pos xs p (by omega)]
    congr 1
    simpa using e.symm
   | succ i =>
    have hp:p<xs.size:=by omega
    have:=b2 p hp (bZ _)
    have l:=hr.lt (i:=p) (k:=p+(i+1)) (by omega) hpi
    omega
  ·exact e
 have ht:∀ a∈xs.toList.take p,a<j:=fun a ha=>by
  obtain⟨i,hi,rfl⟩:=List.mem_iff_getElem.mp ha
  rw[cK,cD] at hi
  rw[List.getElem_take,Array.getElem_toList]
  exact b1 i (by omega) (by omega)
 refine List.pairwise_append.mpr ⟨hr.sublist (fA _ _),List.pairwise_cons.mpr ⟨hd,hr.sublist (List.drop_sublist _ _)⟩,fun a ha b hb=>?_⟩
 rcases cI.mp hb with e | e
 ·rw[e];exact ht a ha
 ·exact Nat.lt_trans (ht a ha) (hd b e)
theorem zMi{t:SetTable}{j:Nat}(h:t.slot j=.empty∨t.slot j=.dummy):t.place[cf t.place j]?≠some j:=fun e=>by
 unfold SetTable.slot at h
 simp only[e,beq_self_eq_true,if_true] at h
 rcases h with h | h<;>cases h
theorem zBN{β:Type}(f:Nat→Option β):∀ l:List Nat,((l.filterMap fun j=>(f j).map (j,·)).map (·.1)).Sublist l
 | []=>.slnil
 | a::r=>by
  rw[fi]
  cases f a with
  | none=>exact .cons _ (zBN f r)
  | some b=>exact .cons₂ _ (zBN f r)
section
variable {prog:Program} {w:World} {A:Around} {E:Value→Shared→Prop} {s:Shared}
end
section
variable {prog:Program} {w:World} {A:Around} {R:Result→Shared→Prop} {I:Addr} {fp wr:List Addr} {G:Array GenState→Array GenState→Prop} {n:Nat} {P:Nat→Value→Prop} {St:Nat→Shared→Prop}
end
noncomputable abbrev zAV(w:World):Bool:=!(w.params.followText "set-order")
noncomputable abbrev wn(w:World):Obj:={ cls:=.type "set",dict:=none,data:=.set #[] 0 (.fresh 0 0 (zAV w)) }
section
variable {prog:Program} {w:World} {A:Around} {E:Value→Shared→Prop} {s:Shared}
theorem zDU(v:Value){Q1:Value→Shared→Prop}(h:Q1 (.ref s.heap.objs.size) { s with heap:=s.heap.push (wn w) }) :
  codeAny (model prog w) A (.call (.builtin "set.__new__") ⟨[.type "set",v],[]⟩) (wants Q1 E) s:=by
 refine codeAny_of_tree ?_
 show wpAny _ A.in1 (do checkBuiltinCall "set.__new__" ⟨[.type "set",v],[]⟩;again (.builtin "set.__new__" ⟨[.type "set",v],[]⟩)) _ _ s
 refine bI (wpAny_of_eq (F.newCall_set_1 v) (bS ⟨plainId_quiet F.plain_set_new _,dt F.entry_set_new ?_⟩))
 rw[Around.under_plainId F.plain_set_new _]
 unfold Builtin.«set.__new__» Builtin.Frozenset.newClass
 have hsub:=sub_set_self
 obtain⟨hp,g,d,tk,os⟩:=s
 dsimp only
 wp_walk
 refine wpAny_askSetting (bS ?_)
 dsimp only
 simp only[newObj]
 exact bI (wpAny_alloc (bS (bS h)))
end
theorem zA0:Slot "set_iterator" "__next__" "set_iterator.__next__" :=
 .of (owner:="set_iterator") (n:="__next__") (by rw[typeLookup_type,builtinLookup_eq_fast];kernel_rfl) (by decide +kernel) (by decide +kernel) (by decide +kernel) (by first | exact .inl (by decide +kernel) | exact .inr (by decide +kernel)) (by rw[isSubtype_type];kernel_rfl)
theorem zGE:entryFor table "set_iterator.__next__"=some Builtin.«set_iterator.__next__»:=entryFor_of_tree (by kernel_rfl)
theorem zH6(v:Value):argsOk "set_iterator.__next__" ⟨[v],[]⟩:=by unfold argsOk;kernel_rfl
theorem zH7:entryFor table "set.__iter__"=some Builtin.«frozenset.__iter__»:=entryFor_alias (id':="frozenset.__iter__") (by kernel_rfl) rfl (by decide +kernel) (by kernel_rfl)
theorem zJ4{α:Type}:∀(l:List α) (i:Nat) (h:i<l.length),([l[i]]++l.eraseIdx i).Perm l
 | a::r,0,_=>.refl _
 | a::r,i+1,h=>by
  have hi:i<r.length:=by simpa using h
  have q:=zJ4 r i hi
  show([r[i]]++(a::r.eraseIdx i)).Perm (a::r)
  exact(eQ.swap a r[i] _).trans (q.cons a)
theorem zJ5{α:Type}(f:Nat→Nat):∀(n k:Nat) (l:List α) (out:Array α),l.length=n→(pickOrder.go f n k l out).toList.Perm (out.toList++l)
 | 0,k,l,out,h=>by
  have:l=[]:=ef.mp h
  subst this
  unfold pickOrder.go
  simp
 | n+1,k,l,out,h=>by
  unfold pickOrder.go
  have hi:f k%l.length<l.length:=Nat.mod_lt _ (by omega)
  rw[dM hi]
  dsimp only
  refine(zJ5 f n (k+1) _ _ (by rw[List.length_eraseIdx_of_lt hi];omega)).trans ?_
  rw[Array.toList_push,dg]
  refine eQ.append_left _ ?_
  exact zJ4 l _ hi
theorem zCU{α:Type}(f:Nat→Nat)(xs:Array α):(pickOrder f xs).toList.Perm xs.toList:=by
 unfold pickOrder
 simpa using zJ5 f xs.size 0 xs.toList #[] (by simp)
section
variable {prog:Program} {w:World} {A:Around} {E:Value→Shared→Prop} {s:Shared}
theorem zBm{Q:Bool→Shared→Prop}(h:Q (w.params.followText "set-order") s):wpAny (model prog w) A setsByText Q E s:=by
 unfold setsByText
 exact bI (wpAny_askSetting (bS h))
noncomputable abbrev zCD(f:Value)(i:Int)(a:Addr)(n:Nat)(ep:Nat):Obj:={ cls:=.type "set_iterator",dict:=none,data:=.fields #[f,rawInt i,.ref a,rawInt n,rawInt ep],slots:=#[] }
structure Sx (h:Heap) (a:Addr) (es:Array (Int×Value)) (ep:Nat) (t:SetTable):Prop where
 ex:∃ o,h.get? a=some o∧o.ExactSet∧o.data=.set es ep t
theorem Sx.keep{h h':Heap}{a:Addr}{es:Array (Int×Value)}{ep:Nat}{t:SetTable}(x:Sx h a es ep t)(k:∀ o,h.get? a=some o→h'.get? a=some o):Sx h' a es ep t:=let ⟨o,e,r⟩:=x.ex;⟨o,k o e,r⟩
noncomputable def Tells(prog:Program)(w:World)(a:Addr)(es:Array (Int×Value))(ep:Nat)(t:SetTable)(sl:Nat→Nat)(xs:List Value):Prop :=
 ∀(A:Around) (E:Value→Shared→Prop) (s:Shared) (i:Nat) (Q:Option (Value×Nat)→Shared→Prop),i≤xs.length→Sx s.heap a es ep t→Q ((xs[i]?).map fun v=>(v,sl (i+1))) s→wpAny (model prog w) A (setNext a (sl i) i ep) Q E s
theorem zFB{a:Addr}{es:Array (Int×Value)}{ep:Nat}{t:SetTable}(hf:t.fits es.size=true)(hb:w.params.followText "set-order"=true):Tells prog w a es ep t (fun u0=>0) ((pickOrder (w.params.setOrder a ep) es).toList.map (·.2)):=by
 intro A E s i Q hi hx h
 obtain⟨o,ho,u0,hd⟩:=hx.ex
 unfold setNext
 refine bI (cT ho hd hf ?_)
 dsimp only
 refine bI (zBm ?_)
 rw[hb]
 simp only[↓reduceIte,bne_self_eq_false,bJ]
 refine bI ?_
 unfold setWalk
 refine bI (cT ho hd hf ?_)
 dsimp only
 refine bI (zBm ?_)
 rw[hb]
 simp only[↓reduceIte]
 refine bI (wpAny_askSetting (bS (bS ?_)))
 rw[cC,Option.map_map,Array.getElem?_toList] at h
 exact h
theorem below_at{xs:Array Nat}(hr:Ris xs){i:Nat}(hi:i≤xs.size):(i<xs.size→cf xs (if i=0 then 0 else xs.getD (i-1) 0+1)=i)∧(i=xs.size→xs.size≤cf xs (if i=0 then 0 else xs.getD (i-1) 0+1)):=by
 generalize hj:(if i=0 then 0 else xs.getD (i-1) 0+1)=j
 obtain⟨b1,b2⟩:=zFA (j:=j) hr
 generalize cf xs j=p at b1 b2
 have lo:i≤p:=by
  rcases dB p i with q | q
  ·exfalso
   have h1:=b2 p (by omega) (bZ _)
   rw[if_neg (by omega)] at hj
   have h0:i-1<xs.size:=by omega
   have e:xs.getD (i-1) 0=xs[i-1]:=by simp[eR,h0]
   rw[e] at hj
   rcases dB p (i-1) with z | z
   ·have:=hr.lt z h0;omega
   ·have e2:p=i-1:=by omega
    subst e2;omega
  ·exact q
 refine⟨fun h=>?_,fun h=>by omega⟩
 rcases dB i p with q | q
 ·exfalso
  have h1:=b1 i h q
  by_cases z:i=0
  ·rw[if_pos z] at hj;omega
  ·rw[if_neg z] at hj
   have h0:i-1<xs.size:=by omega
   have e:xs.getD (i-1) 0=xs[i-1]:=by simp[eR,h0]
   have:=hr.lt (i:=i-1) (k:=i) (by omega) h
   omega
 ·omega
theorem zD6{a:Addr}{es:Array (Int×Value)}{ep:Nat}{t:SetTable}(hf:t.fits es.size=true)(hr:Ris t.place)(hb:w.params.followText "set-order"=false)(hl:t.led=true)(hp:(!t.plain&&decide (es.size>1))=false) :
  Tells prog w a es ep t (fun i=>if i=0 then 0 else t.place.getD (i-1) 0+1) (es.toList.map (·.2)):=by
 intro A E s i Q hi hx h
 obtain⟨o,ho,u0,hd⟩:=hx.ex
 have hs:t.place.size=es.size:=by
  simp only[SetTable.fits,dL,beq_iff_eq] at hf
  exact hf.1
 unfold setNext
 refine bI (cT ho hd hf ?_)
 dsimp only
 refine bI (zBm ?_)
 rw[hb]
 simp only[bJ,↓reduceIte]
 refine eI (fun q=>absurd (show(!t.plain&&decide (es.size>1))=true from q) (by rw[hp];decide)) (fun u0=>?_)
 refine bI (eI (fun q=>absurd q (by rw[hl];simp)) (fun u0=>bS (bS ?_)))
 rw[bU,cD] at hi
 obtain⟨b1,b2⟩:=below_at hr (i:=i) (by omega)
 rw[cC,Option.map_map,Array.getElem?_toList] at h
 rcases dB i es.size with q | q
 ·rw[b1 (by omega),getElem?_pos es i q,getElem?_pos t.place i (by omega)]
  rw[getElem?_pos es i q] at h
  have e:t.place.getD (i+1-1) 0=t.place[i]'(by omega):=by simp[eR,hs,q]
  have h':Q (some (es[i].2,if i+1=0 then 0 else t.place.getD (i+1-1) 0+1)) s:=h
  rw[if_neg (by omega),e] at h'
  exact h'
 ·have hn:es[cf t.place (if i=0 then 0 else t.place.getD (i-1) 0+1)]?=none:=by
   rw[Array.getElem?_eq_none_iff]
   have:=b2 (by omega)
   omega
  have hn2:es[i]?=none:=by rw[Array.getElem?_eq_none_iff];exact q
  rw[hn]
  rw[hn2] at h
  exact h
theorem zH8{a it:Addr}{es:Array (Int×Value)}{ep:Nat}{t:SetTable}{sl:Nat→Nat}{xs:List Value}(T:Tells prog w a es ep t sl xs)(hf:t.fits es.size=true)(hx:xs.length=es.size){i:Nat}(hi:i<es.size)(hit:s.heap.get? it=some (zCD (rawInt (sl i)) i a es.size ep))(hS:Sx s.heap a es ep t)(hne:a≠it){Q:Option Value→Shared→Prop}
  (hQ:∀ h' v,xs[i]?=some v→h'.get? it=some (zCD (rawInt (sl (i+1))) ((i+1:Nat):Int) a es.size ep)→(∀ b o,b≠it→s.heap.get? b=some o→h'.get? b=some o)→Q (some v) { s with heap:=h' }):wpAny (model prog w) A (pyNext (.ref it)) Q E s:=by
 have hT:s.TypeIs (.ref it) "set_iterator":=⟨_,hit,rfl⟩
 obtain⟨o,ho,u0,hd⟩:=hS.ex
 unfold pyNext
 refine bI (wpAny_attempt (wpAny_callSpecial?_slot (name:=Str.ofString "__next__") hT zA0 (dP zA0 hT zGE ?_ (zH6 _))))
 unfold Builtin.«set_iterator.__next__»
 refine bI (m:=slotArgs "__next__" 0 _) (bS ?_)
 refine bI (wpAny_fieldsOf hit rfl ?_)
 simp only[rawInt]
 refine bI (wpAny_setEntries_of ho hd hf ?_)
 simp only[bne_self_eq_false,bJ,↓reduceIte]
 simp only[Int.toNat_natCast]
 refine bI (T _ _ _ i _ (by omega) hS ?_)
 rw[dM (show i<xs.length by omega)]
 refine bI (wpAny_setField_rec hit (by simp) fun h1 e1 s1=>bI (wpAny_setField_rec e1 (by simp) fun h2 e2 s2=>bS ⟨_,rfl,bS (hQ h2 xs[i] (dM _) ?_ fun b o hb e=>s2.extBut _ _ hb (s1.extBut _ _ hb e))⟩))
 exact e2
theorem zOm{B:Around}{z:Shared}{Q:Fin→Shared→Prop}{E':Value→Shared→Prop}(hh:B.handled=none)(h:∀ h' e,(∀ b o,z.heap.get? b=some o→h'.get? b=some o)→(∃ o,h'.get? e=some o∧o.cls=.type "StopIteration")→E' (.ref e) { z with heap:=h' }) :
  wpAny (model prog w) B (do raiseNew (← newExc (.type "StopIteration") [])) Q E' z:=by
 refine bI ?_
 simp only[newExc,newTuple]
 refine bI (df (bI (m:=firstArgMember _ _) (wpAny_of_eq (a:=Value.none) (by first | rfl | (simp only[firstArgMember];rfl)) (df ?_ (by size_fits)))) (by size_fits))
 simp only[raiseNew]
 refine bI (wpAny_handled ?_)
 rw[hh]
 exact bI (bS (wpAny_throw (h _ _ (fun b o e=>bP _ (bP _ e)) ⟨_,cb _ rfl,rfl⟩)))
theorem zJ6{a it:Addr}{es:Array (Int×Value)}{ep:Nat}{t:SetTable}{sl:Nat→Nat}{xs:List Value}(hh:A.handled=none)(T:Tells prog w a es ep t sl xs)(hf:t.fits es.size=true)(hx:xs.length=es.size)(hit:s.heap.get? it=some (zCD (rawInt (sl es.size)) es.size a es.size ep))(hS:Sx s.heap a es ep t){Q:Option Value→Shared→Prop}
  (hQ:∀ h',(∀ b o,b≠it→s.heap.get? b=some o→h'.get? b=some o)→Q none { s with heap:=h' }):wpAny (model prog w) A (pyNext (.ref it)) Q E s:=by
 have hT:s.TypeIs (.ref it) "set_iterator":=⟨_,hit,rfl⟩
 obtain⟨o,ho,u0,hd⟩:=hS.ex
 unfold pyNext
 refine bI (wpAny_attempt (wpAny_callSpecial?_slot (name:=Str.ofString "__next__") hT zA0 (dP zA0 hT zGE ?_ (zH6 _))))
 unfold Builtin.«set_iterator.__next__»
 refine bI (m:=slotArgs "__next__" 0 _) (bS ?_)
 refine bI (wpAny_fieldsOf hit rfl ?_)
 simp only[rawInt]
 refine bI (wpAny_setEntries_of ho hd hf ?_)
 simp only[bne_self_eq_false,bJ,↓reduceIte]
 simp only[Int.toNat_natCast]
 refine bI (T _ _ _ es.size _ (by omega) hS ?_)
 rw[List.getElem?_eq_none (show xs.length≤es.size by omega)]
 refine bI (wpAny_setField_rec hit (by simp) fun h1 e1 s1=>?_)
 refine zOm (by simpa using hh) fun h' e kp he=>?_
 obtain⟨oe,q1,q2⟩:=he
 refine bI (wpAny_isInstance (T:="StopIteration") (b:=true) ⟨oe,q1,q2⟩ isSubtype_stop (bS (hQ _ fun b o hb e=>kp _ _ (s1.extBut _ _ hb e))))
end
theorem zH9:Slot "set_iterator" "__iter__" "set_iterator.__iter__" :=
 .of (owner:="set_iterator") (n:="__iter__") (by rw[typeLookup_type,builtinLookup_eq_fast];kernel_rfl) (by decide +kernel) (by decide +kernel) (by decide +kernel) (by first | exact .inl (by decide +kernel) | exact .inr (by decide +kernel)) (by rw[isSubtype_type];kernel_rfl)
theorem zK8:entryFor table "set_iterator.__iter__"=some Builtin.«dict_keyiterator.__iter__» :=
 entryFor_alias (id':="dict_keyiterator.__iter__") (by kernel_rfl) (by first | rfl | decide +kernel | (unfold String.splitOn;simp +decide [String.splitOnAux])) (by decide +kernel) (by kernel_rfl)
theorem zMj(v:Value):argsOk "set_iterator.__iter__" ⟨[v],[]⟩:=by unfold argsOk;kernel_rfl
section
variable {prog:Program} {w:World} {A:Around} {E:Value→Shared→Prop} {s:Shared}
theorem zIA{it:Addr}{f:Value}{i:Int}{a:Addr}{n ep:Nat}{Q:Value→Shared→Prop}(h:s.heap.get? it=some (zCD f i a n ep))(q:Q (.ref it) s):wpAny (model prog w) A (pyIter (.ref it)) Q E s:=by
 have hT:s.TypeIs (.ref it) "set_iterator":=⟨_,h,rfl⟩
 refine wpAny_pyIter_slot hT zH9 (dP zH9 hT zK8 ?_ (zMj _))
 show wpAny _ _ (ret (.ref it)) _ _ s
 exact bS ⟨_,rfl,"set_iterator",_,hT,zA0.lookup,q⟩
theorem zFC{a:Addr}{o:Obj}{Q:Bool→Shared→Prop}(ho:s.heap.get? a=some o)(hc:o.cls=.type "set")(h:Q false s):wpAny (model prog w) A (Builtin.List.listLengthHint (.ref a)) Q E s:=by
 unfold Builtin.List.listLengthHint
 refine bI (wpAny_specialOf ⟨o,ho,hc⟩ F.slot_set_len.lookup ?_)
 generalize hid:("set.__len__":String)=id0
 wp_delta
 rw[show splitId id0=some ("set","__len__") from by subst hid;decide +kernel]
 subst hid
 refine bI (wpAny_isInstance (T:="set") (b:=true) ⟨o,ho,hc⟩ (by rw[isSubtype_type];kernel_rfl) ?_)
 refine eI (fun hab=>absurd hab (by decide)) (fun u0=>?_)
 refine eI (fun u0=>?_) (fun hab=>absurd (by decide +kernel) hab)
 exact bI (eS (T:="set") ⟨o,ho,hc⟩ (bS h))
end
end HI
namespace L2
open HI
variable {X:Cx} {e:Expr} {t:TA} {p p2 pos pos2:Pos}
end L2
namespace L3
open L2
section
variable {X:Cx} {e:Expr} {p p2 pos pos2:Pos}
end
end L3
namespace HT2
open PySem
noncomputable abbrev Probe:=SetTable.Probe
noncomputable def adv(mask:Nat)(p:Probe):Probe :=
 if p.more>0 then { p with j:=p.j+1,more:=p.more-1 } else
 { p with j:=(dO mask p.i p.perturb).1,more:=cU mask (dO mask p.i p.perturb).1-(dO mask p.i p.perturb).1,i:=(dO mask p.i p.perturb).1,perturb:=(dO mask p.i p.perturb).2 }
theorem zFD(t:SetTable)(p:Probe):t.advance p=adv t.mask p:=by
 unfold SetTable.advance adv
 split<;>rfl
theorem zK9(mask:Nat)(p:Probe)(d:Option Nat):adv mask { p with dummy:=d }={ adv mask p with dummy:=d }:=by
 unfold adv
 split<;>rfl
noncomputable def wJ(mask:Nat)(h:Int):Nat→Probe
 | 0=>{ j:=cQ h%(mask+1),more:=cU mask (cQ h%(mask+1))-cQ h%(mask+1),i:=cQ h%(mask+1),perturb:=cQ h,dummy:=none }
 | n+1=>adv mask (wJ mask h n)
noncomputable def lp(mask:Nat)(h:Int):Nat→Nat×Nat
 | 0=>(cQ h%(mask+1),cQ h)
 | n+1=>dO mask (lp mask h n).1 (lp mask h n).2
theorem zRJ(mask i:Nat):cU mask i-i≤9:=by
 unfold cU
 split<;>omega
section
variable {mask:Nat} {h:Int}
theorem zEa{n i r q:Nat}(e:wJ mask h n=⟨i,r,i,q,none⟩):∀ m,m≤r→wJ mask h (n+m)=⟨i+m,r-m,i,q,none⟩
 | 0,_=>by simpa using e
 | m+1,hm=>by
  have:=zEa e m (by omega)
  show adv mask (wJ mask h (n+m))=_
  rw[this]
  unfold adv
  rw[if_pos (show r-m>0 by omega)]
  simp only[SetTable.Probe.mk.injEq,and_true]
  omega
theorem zMk:∀ k,∃ n,n≤10*k∧wJ mask h n=⟨(lp mask h k).1,cU mask (lp mask h k).1-(lp mask h k).1,(lp mask h k).1,(lp mask h k).2,none⟩
 | 0=>⟨0,bZ _,rfl⟩
 | k+1=>by
  obtain⟨n,hn,e⟩:=zMk k
  have hr:=zRJ mask (lp mask h k).1
  have:=zEa e _ (bZ _)
  refine⟨n+(cU mask (lp mask h k).1-(lp mask h k).1)+1,by omega,?_⟩
  show adv mask (wJ mask h _)=_
  rw[this]
  unfold adv
  rw[if_neg (by simp)]
  rfl
theorem zMl:∀ k,(lp mask h k).2=cQ h / 32 ^ k
 | 0=>by simp[lp]
 | k+1=>by
  show(dO mask (lp mask h k).1 (lp mask h k).2).2=_
  unfold dO
  simp only
  rw[zMl k,Nat.div_div_eq_div_mul,Nat.pow_succ]
theorem zOn:cQ h<2 ^ 64:=by
 unfold cQ
 have h1:=fq h (show(0:Int)<2 ^ 64 by decide)
 have h2:=fo h (show(2 ^ 64:Int)≠0 by decide)
 omega
theorem zS1{k:Nat}(hk:13≤k):(lp mask h k).2=0:=by
 rw[zMl]
 apply Nat.div_eq_of_lt
 have h1:=zOn (h:=h)
 have h2:32 ^ 13≤32 ^ k:=Nat.pow_le_pow_right (by omega) hk
 have h3:(2:Nat) ^ 64≤32 ^ 13:=by decide
 omega
noncomputable def fM(M x:Nat):Nat:=(x*5+1)%M
noncomputable def itr(M:Nat):Nat→Nat→Nat
 | 0,x=>x
 | m+1,x=>fM M (itr M m x)
theorem zEb(M:Nat)(a:Nat):∀ b x,itr M (a+b) x=itr M a (itr M b x):=by
 induction a with
 | zero=>intro b x;simp[itr]
 | succ a ih=>intro b x;rw[Nat.add_right_comm];show fM M _=fM M _;rw[ih]
theorem zMm:∀ m,(lp mask h (13+m)).1=itr (mask+1) m (lp mask h 13).1
 | 0=>rfl
 | m+1=>by
  show(dO mask (lp mask h (13+m)).1 (lp mask h (13+m)).2).1=fM _ _
  unfold dO fM
  simp only
  rw[zS1 (by omega),zMm m]
theorem zSK(k:Nat):(lp mask h k).1<mask+1:=by
 cases k with
 | zero=>exact Nat.mod_lt _ (by omega)
 | succ k=>exact Nat.mod_lt _ (by omega)
end
noncomputable def Cyc(M:Nat):Prop:=∀ i,i<M→∀ j,j<M→∃ m,m<M∧itr M m i=j
noncomputable def orb(M:Nat):Nat→Nat→List Nat
 | 0,_=>[]
 | n+1,x=>x::orb M n (fM M x)
theorem zLA(M:Nat)(m x:Nat):itr M (m+1) x=itr M m (fM M x):=by
 have:=zEb M m 1 x
 simpa[itr] using this
theorem zJ7{M:Nat}:∀ {n x j:Nat},j∈orb M n x→∃ m,m<n∧itr M m x=j
 | 0,_,_,h=>by cases h
 | n+1,x,j,h=>by
  rcases cI.mp h with rfl | h
  ·exact⟨0,by omega,rfl⟩
  ·obtain⟨m,hm,e⟩:=zJ7 h
   exact⟨m+1,by omega,by rw[zLA];exact e⟩
theorem zDs{M:Nat}(hall:((bQ M).all fun j=>(orb M M 0).contains j)=true)(hM:itr M M 0=0):Cyc M:=by
 have at0:∀ j,j<M→∃ m,m<M∧itr M m 0=j:=fun j hj=>by
  have:=eU.mp hall j (bX.mpr hj)
  exact zJ7 (by simpa using this)
 intro i hi j hj
 obtain⟨a,ha,rfl⟩:=at0 i hi
 obtain⟨b,hb,rfl⟩:=at0 j hj
 rcases dB b a with hab | hab
 ·refine⟨M+b-a,by omega,?_⟩
  rw[← zEb,show M+b-a+a=b+M by omega,zEb,hM]
 ·refine⟨b-a,by omega,?_⟩
  rw[← zEb,show b-a+a=b by omega]
theorem zS2:Cyc 8:=zDs (by decide +kernel) (by decide +kernel)
theorem zSL:Cyc 16:=zDs (by decide +kernel) (by decide +kernel)
theorem zSM:Cyc 32:=zDs (by decide +kernel) (by decide +kernel)
theorem zSN:Cyc 64:=zDs (by decide +kernel) (by decide +kernel)
theorem zRK:Cyc 128:=zDs (by decide +kernel) (by decide +kernel)
theorem zRL:Cyc 256:=zDs (by decide +kernel) (by decide +kernel)
noncomputable def Msk(mask:Nat):Prop:=mask=7∨mask=15∨mask=31∨mask=63∨mask=127∨mask=255
theorem Msk.cyc{mask:Nat}(h:Msk mask):Cyc (mask+1):=by
 rcases h with rfl | rfl | rfl | rfl | rfl | rfl
 ·exact zS2
 ·exact zSL
 ·exact zSM
 ·exact zSN
 ·exact zRK
 ·exact zRL
theorem Msk.odd{mask:Nat}(h:Msk mask):(mask%2==0)=false:=by rcases h with rfl | rfl | rfl | rfl | rfl | rfl<;>rfl
theorem heads{mask:Nat}{h:Int}(hm:Cyc (mask+1)){j:Nat}(hj:j≤mask):∃ k,k≤13+mask∧(lp mask h k).1=j:=by
 obtain⟨m,h1,h2⟩:=hm (lp mask h 13).1 (zSK 13) j (by omega)
 exact⟨13+m,by omega,by rw[zMm];exact h2⟩
theorem zRM{mask:Nat}{h:Int}(hm:Cyc (mask+1)){j:Nat}(hj:j≤mask):∃ n,n≤10*(13+mask)∧(wJ mask h n).j=j:=by
 obtain⟨k,h1,h2⟩:=heads (h:=h) hm hj
 obtain⟨n,h3,h4⟩:=zMk (mask:=mask) (h:=h) k
 exact⟨n,by omega,by rw[h4];exact h2⟩
open HI (Ris)
noncomputable def Ent(t:SetTable)(es:Array (Int×Value))(j:Nat)(h:Int)(x:Value):Prop:=∃ i:Nat,t.place[i]?=some j∧es[i]?=some (h,x)
noncomputable def zDt(t:SetTable)(j:Nat):Prop:=t.slot j≠.empty
theorem zIB{xs:Array Nat}(hr:Ris xs){i j:Nat}(e:xs[i]?=some j):cf xs j=i:=by
 obtain⟨b1,b2⟩:=HI.zFA (j:=j) hr
 obtain⟨hi,e⟩:=dQ.mp e
 rcases Nat.lt_trichotomy (cf xs j) i with z | z | z
 ·have h1:=b2 (cf xs j) (by omega) (bZ _)
  have h2:=hr.lt z hi
  omega
 ·exact z
 ·have:=b1 i hi z
  omega
theorem zGF{t:SetTable}(hr:Ris t.place){i j:Nat}(e:t.place[i]?=some j):t.slot j=.live i:=by
 unfold SetTable.slot
 simp only
 rw[zIB hr e,e]
 simp
theorem zOo{t:SetTable}{i j:Nat}(e:t.slot j=.live i):t.place[i]?=some j:=by
 unfold SetTable.slot at e
 simp only at e
 split at e
 ·rename_i q
  cases e
  simpa using q
 ·split at e<;>cases e
theorem zG8{xs:Array Nat}(hr:Ris xs){j:Nat}:dX xs j=true↔j∈xs:=by
 unfold dX
 constructor
 ·intro q
  have q:xs[cf xs j]?=some j:=by simpa using q
  exact fE q
 ·intro q
  obtain⟨i,hi,e⟩:=Array.getElem_of_mem q
  have e':xs[i]?=some j:=by simp[hi,e]
  rw[zIB hr e',e']
  simp
theorem zBY{t:SetTable}(hr:Ris t.place)(hd:Ris t.dummies){j:Nat}:zDt t j↔j∈t.place∨j∈t.dummies:=by
 unfold zDt
 constructor
 ·intro q
  unfold SetTable.slot at q
  simp only at q
  split at q
  ·rename_i z
   exact .inl (fE (by simpa using z))
  ·split at q
   ·rename_i z
    exact .inr ((zG8 hd).mp z)
   ·exact(q rfl).elim
 ·rintro(q | q) z
  ·obtain⟨i,hi,e⟩:=Array.getElem_of_mem q
   rw[zGF hr (i:=i) (by simp[hi,e])] at z
   cases z
  ·unfold SetTable.slot at z
   simp only at z
   split at z
   ·cases z
   ·rw[if_pos ((zG8 hd).mpr q)] at z
    cases z
structure Tab (t:SetTable) (es:Array (Int×Value)):Prop where
 msk:Msk t.mask
 size:t.place.size=es.size
 ris:Ris t.place
 risD:Ris t.dummies
 le:∀ j∈t.place,j≤t.mask
 leD:∀ j∈t.dummies,j≤t.mask
 room:t.fill≤t.mask
 way:∀ j h x,Ent t es j h x→∃ n,(wJ t.mask h n).j=j∧∀ m,m<n→zDt t (wJ t.mask h m).j
 dis:∀ j∈t.dummies,j∉t.place
theorem zBG{P:Nat→Prop}[DecidablePred P]{M:Nat}{l:List Nat}(h:∀ j,j<M→P j→j∈l)(hl:l.length<M):∃ j,j<M∧¬ P j:=by
 by_cases q:∃ j,j<M∧¬ P j
 ·exact q
 ·have hs:bQ M ⊆ l:=fun j hj=>by
   have hj:=bX.mp hj
   by_cases z:P j
   ·exact h j hj z
   ·exact(q ⟨j,hj,z⟩).elim
  have:=fB.length_le_of_subset dE hs
  simp at this
  omega
theorem Tab.free{t:SetTable}{es:Array (Int×Value)}(T:Tab t es):∃ j,j≤t.mask∧t.slot j=.empty:=by
 have:=zBG (P:=fun j=>t.slot j≠.empty) (M:=t.mask+1) (l:=t.place.toList++t.dummies.toList) (fun j u0 q=>by
  rcases(zBY T.ris T.risD).mp q with z | z
  ·exact dc _ (by simpa using z)
  ·exact cS _ (by simpa using z)) (by
  have:=T.room
  unfold SetTable.fill at this
  simp
  omega)
 obtain⟨j,h1,h2⟩:=this
 exact⟨j,by omega,Decidable.not_not.mp h2⟩
theorem Tab.stop{t:SetTable}{es:Array (Int×Value)}(T:Tab t es)(h:Int):∃ N,N≤10*(13+t.mask)∧t.slot (wJ t.mask h N).j=.empty∧∀ m,m<N→zDt t (wJ t.mask h m).j:=by
 obtain⟨j,hj,he⟩:=T.free
 obtain⟨n,hn,e⟩:=zRM (h:=h) T.msk.cyc hj
 have:∀ n,t.slot (wJ t.mask h n).j=.empty→∃ N,N≤n∧t.slot (wJ t.mask h N).j=.empty∧∀ m,m<N→zDt t (wJ t.mask h m).j:=by
  intro n
  induction n using Nat.strongRecOn with
  | ind n ih =>
   intro q
   by_cases z:∃ m,m<n∧t.slot (wJ t.mask h m).j=.empty
   ·obtain⟨m,hm,q'⟩:=z
    obtain⟨N,h1,h2⟩:=ih m hm q'
    exact⟨N,by omega,h2⟩
   ·exact⟨n,bZ _,q,fun m hm q'=>z ⟨m,hm,q'⟩⟩
 obtain⟨N,h1,h2,h3⟩:=this n (by rw[e];exact he)
 exact⟨N,by omega,h2,h3⟩
open HI (Ris)
noncomputable abbrev At(mask:Nat)(h:Int)(n:Nat)(d:Option Nat):Probe:={ wJ mask h n with dummy:=d }
theorem At.adv{mask:Nat}{h:Int}{n:Nat}{d:Option Nat}:adv mask (At mask h n d)=At mask h (n+1) d:=zK9 mask (wJ mask h n) d
noncomputable def zGG(t:SetTable)(h:Int)(N:Nat)(d:Option Nat):Prop:=∀ j,d=some j→t.slot j=.dummy∧∃ m,m<N∧(wJ t.mask h m).j=j
theorem zMn{t:SetTable}{f:Nat→Int}{h:Int}{n fuel:Nat}{d:Option Nat}(hs:t.slot (wJ t.mask h n).j=.empty):dU.go t f h (fuel+1) (At t.mask h n d)=some (.empty (wJ t.mask h n).j d):=by
 rw[dU.go]
 simp only[hs]
theorem zMo{t:SetTable}{f:Nat→Int}{h:Int}{n fuel:Nat}{d:Option Nat}(hs:t.slot (wJ t.mask h n).j=.dummy):dU.go t f h (fuel+1) (At t.mask h n d)=dU.go t f h fuel (At t.mask h (n+1) (some (wJ t.mask h n).j)):=by
 rw[dU.go]
 simp only[hs]
 rw[zFD]
 exact congrArg _ (At.adv (n:=n) (d:=some (wJ t.mask h n).j))
theorem zOp{t:SetTable}{f:Nat→Int}{h:Int}{n fuel i:Nat}{d:Option Nat}(hs:t.slot (wJ t.mask h n).j=.live i):dU.go t f h (fuel+1) (At t.mask h n d)=if f i=h then some (.candidate (wJ t.mask h n).j i (At t.mask h (n+1) d)) else dU.go t f h fuel (At t.mask h (n+1) d):=by
 rw[dU.go]
 simp only[hs]
 have e:t.advance (At t.mask h n d)=At t.mask h (n+1) d:=by rw[zFD];exact At.adv
 rw[e]
 by_cases hh:f i=h
 ·rw[if_pos hh,if_pos (by simpa using hh)]
 ·rw[if_neg hh,if_neg (by simpa using hh)]
theorem zLB{t:SetTable}{f:Nat→Int}{h:Int}{N:Nat}(hN:t.slot (wJ t.mask h N).j=.empty)(hF:∀ m,m<N→zDt t (wJ t.mask h m).j) :
  ∀(k n fuel:Nat) (d:Option Nat),N-n=k→n≤N→k<fuel→zGG t h N d →
   (∃ d',zGG t h N d'∧dU.go t f h fuel (At t.mask h n d)=some (.empty (wJ t.mask h N).j d')∧∀ m,n≤m→m<N→∀ i,t.slot (wJ t.mask h m).j=.live i→f i≠h) ∨
   (∃ m i d',n≤m∧m<N∧zGG t h N d'∧t.slot (wJ t.mask h m).j=.live i∧f i=h∧dU.go t f h fuel (At t.mask h n d)=some (.candidate (wJ t.mask h m).j i (At t.mask h (m+1) d'))∧∀ m',n≤m'→m'<m→∀ i',t.slot (wJ t.mask h m').j=.live i'→f i'≠h):=by
 intro k
 induction k with
 | zero =>
  intro n fuel d hk hn hf hd
  obtain rfl:n=N:=by omega
  obtain⟨fuel,rfl⟩:∃ g,fuel=g+1:=⟨fuel-1,by omega⟩
  exact .inl ⟨d,hd,zMn hN,fun m h1 h2=>by omega⟩
 | succ k ih =>
  intro n fuel d hk hn hf hd
  have lt:n<N:=by omega
  obtain⟨fuel,rfl⟩:∃ g,fuel=g+1:=⟨fuel-1,by omega⟩
  have fl:=hF n lt
  cases hs:t.slot (wJ t.mask h n).j with
  | empty=>exact(fl hs).elim
  | dummy =>
   rw[zMo hs]
   have hd':zGG t h N (some (wJ t.mask h n).j):=fun j e=>by cases e;exact⟨hs,n,lt,rfl⟩
   rcases ih (n+1) fuel (some (wJ t.mask h n).j) (by omega) (by omega) (by omega) hd' with ⟨d',a1,a2,a3⟩ | ⟨m,i,d',a1,a2,a3,a4,a5,a6,a7⟩
   ·refine .inl ⟨d',a1,a2,fun m h1 h2 i q=>?_⟩
    rcases eY h1 with z | z
    ·subst z;rw[hs] at q;cases q
    ·exact a3 m (by omega) h2 i q
   ·refine .inr ⟨m,i,d',by omega,a2,a3,a4,a5,a6,fun m' h1 h2 i' q=>?_⟩
    rcases eY h1 with z | z
    ·subst z;rw[hs] at q;cases q
    ·exact a7 m' (by omega) h2 i' q
  | live i0 =>
   rw[zOp hs]
   by_cases hh:f i0=h
   ·exact .inr ⟨n,i0,d,bZ _,lt,hd,hs,hh,if_pos hh,fun m' h1 h2=>by omega⟩
   ·rw[if_neg hh]
    rcases ih (n+1) fuel d (by omega) (by omega) (by omega) hd with ⟨d',a1,a2,a3⟩ | ⟨m,i,d',a1,a2,a3,a4,a5,a6,a7⟩
    ·refine .inl ⟨d',a1,a2,fun m h1 h2 i q=>?_⟩
     rcases eY h1 with z | z
     ·subst z;rw[hs] at q;cases q;exact hh
     ·exact a3 m (by omega) h2 i q
    ·refine .inr ⟨m,i,d',by omega,a2,a3,a4,a5,a6,fun m' h1 h2 i' q=>?_⟩
     rcases eY h1 with z | z
     ·subst z;rw[hs] at q;cases q;exact hh
     ·exact a7 m' (by omega) h2 i' q
end HT2
namespace HT2
open PySem PySem.Spec
open HI (Ris)
section
variable {prog:Program} {w:World} {P:Addr→Prop} {A:Around} {E:Value→Shared→Prop} {s:Shared}
noncomputable abbrev TK(prog:Program)(w:World)(P:Addr→Prop)(h:Heap)(ns:List Int)(b:Addr):Prop:=IsTupleKey (intKind prog w) h ns b∧P b
noncomputable abbrev hT(prog:Program)(w:World)(ns:List Int):Int:=tupleKeyHash (intKind prog w) ns
theorem zIC{ns:List Int}{vs:List Value}(h:ItemsAre (intKind prog w) ns vs):∀ v∈vs,∃ k t,v=.int k t:=by
 induction h with
 | nil=>intro v hv;cases hv
 | cons h1 _ ih =>
  intro v hv
  rcases cI.mp hv with rfl | hv
  ·obtain⟨t,rfl⟩:=Value.isInt_shape h1;exact⟨_,_,rfl⟩
  ·exact ih v hv
theorem zMp{ns:List Int}{b:Addr}{Q:Bool→Shared→Prop}(hb:TK prog w P s.heap ns b)(h:Q false s):wpAny (model prog w) A (ofAClassStatement 8 (.ref b)) Q E s:=by
 obtain⟨o,its,n,ho,hc,hd,hi⟩:=hb.1
 unfold ofAClassStatement
 refine bI (eS hb.1.typeIs ?_)
 simp only[beq_self_eq_true,↓reduceIte,pure_bind,fr,bJ]
 refine bI (wpAny_seqItems ho hd ?_)
 simp only
 refine bI ?_
 rw[← Array.forIn_toList]
 refine fF _ (fun rest r s'=>r.1=none∧s'=s∧∀ v∈rest,∃ k t,v=Value.int k t) _ ?_ ?_ _ _ ⟨rfl,rfl,zIC hi⟩
 ·rintro v rest r s' ⟨hr,rfl,hall⟩
  obtain⟨k,t,rfl⟩:=hall v cE
  unfold ofAClassStatement
  refine bI (bS ?_)
  simp only[bJ,if_false]
  exact bS ⟨rfl,rfl,fun u hu'=>hall u (ck _ hu')⟩
 ·rintro⟨r1,r2⟩ s' ⟨hr,rfl,u0⟩
  simp only at hr
  subst hr
  exact bS h
theorem zMq{ns:List Int}{b:Addr}{Q:Bool→Shared→Prop}(hb:TK prog w P s.heap ns b)(h:Q true s):wpAny (model prog w) A (hashByValue 8 (.ref b)) Q E s:=by
 obtain⟨o,its,n,ho,hc,hd,hi⟩:=hb.1
 unfold hashByValue
 refine bI (wpAny_specialOf hb.1.typeIs F.slot_tuple_hash.lookup ?_)
 simp only
 refine bI (wpAny_seqItems ho hd ?_)
 simp only[Option.getD_some]
 refine bI ?_
 rw[← Array.forIn_toList]
 refine fF _ (fun rest r s'=>r.1=none∧s'=s∧∀ v∈rest,∃ k t,v=Value.int k t) _ ?_ ?_ _ _ ⟨rfl,rfl,zIC hi⟩
 ·rintro v rest r s' ⟨hr,rfl,hall⟩
  obtain⟨k,t,rfl⟩:=hall v cE
  unfold hashByValue
  refine bI (bS ?_)
  simp only[fr,bJ,if_false]
  exact bS ⟨rfl,rfl,fun u hu'=>hall u (ck _ hu')⟩
 ·rintro⟨r1,r2⟩ s' ⟨hr,rfl,u0⟩
  simp only at hr
  subst hr
  exact bS h
theorem zOq{ns:List Int}{b:Addr}{l:List Value}{Q:Bool→Shared→Prop}(hb:TK prog w P s.heap ns b)(hl:∀ v∈l,∃ c ms,v=.ref c∧TK prog w P s.heap ms c)(h:Q false s):wpAny (model prog w) A (searchCouldBeSeen (.ref b) l) Q E s:=by
 unfold searchCouldBeSeen
 refine bI ?_
 refine fF _ (fun rest r s'=>r.1=none∧s'=s∧∀ v∈rest,∃ c ms,v=Value.ref c∧TK prog w P s.heap ms c) _ ?_ ?_ _ _ ⟨rfl,rfl,hl⟩
 ·rintro v rest r s' ⟨hr,rfl,hall⟩
  obtain⟨c,ms,rfl,hc⟩:=hall v cE
  have go:∀ u∈rest,∃ c ms,u=Value.ref c∧TK prog w P s'.heap ms c:=fun u hu'=>hall u (ck _ hu')
  dsimp only
  by_cases e:(b==c)=true
  ·rw[if_pos (by simp[e])]
   exact bS ⟨rfl,rfl,go⟩
  ·rw[if_neg (by simp[e,carriedByValue])]
   refine bI ((tupleKind (intKind prog w)).quiet (k:=ns) hb.1 ?_)
   simp only[fr,bJ,if_false]
   refine bI ((tupleKind (intKind prog w)).quiet (k:=ms) hc.1 ?_)
   simp only[fr,bJ,if_false]
   refine bI (zMp hb ?_)
   simp only[bJ,if_false]
   refine bI (zMp hc ?_)
   simp only[bJ,if_false]
   exact bS ⟨rfl,rfl,go⟩
 ·rintro⟨r1,r2⟩ s' ⟨hr,rfl,u0⟩
  simp only at hr
  subst hr
  exact bS h
noncomputable def OkT(prog:Program)(w:World)(P:Addr→Prop)(h:Heap)(es:Array (Int×Value)):Prop:=∀(i:Nat) (e:Int×Value),es[i]?=some e→∃ c ms,e=(hT prog w ms,.ref c)∧TK prog w P h ms c
noncomputable def sf(es:Array (Int×Value))(i:Nat):Int:=(es[i]?.map (·.1)).getD 0
theorem zRN{b:Addr}{ns:List Int}{t:SetTable}{l:List Value}{K1 K2:Sem SetFound}{Q:SetFound→Shared→Prop}(hb:TK prog w P s.heap ns b)(hl:∀ v∈l,∃ c ms,v=.ref c∧TK prog w P s.heap ms c)(h:wpAny (model prog w) A K2 Q E s) :
  wpAny (model prog w) A (if (!t.led)=true then searchCouldBeSeen (.ref b) l>>=fun c=>if c=true then K1 else K2 else K2) Q E s:=by
 split
 ·refine bI (zOq hb hl ?_)
  rw[if_neg (by simp)]
  exact h
 ·exact h
theorem zSO{a b:Addr}{ns:List Int}{o:Obj}{es:Array (Int×Value)}{ep:Nat}{t:SetTable}{adding:Bool}{Q:SetFound→Shared→Prop}(hA:A.units<cLine)(ho:s.heap.get? a=some o)(hd:o.data=.set es ep t)(T:Tab t es)(ok:OkT prog w P s.heap es)(hb:TK prog w P s.heap ns b)
  {N:Nat} (hNle:N≤10*(13+t.mask)) (hN:t.slot (wJ t.mask (hT prog w ns) N).j=.empty) (hF:∀ m,m<N→zDt t (wJ t.mask (hT prog w ns) m).j)
  (q1:∀(i:Nat) c,es[i]?=some (hT prog w ns,.ref c)→TK prog w P s.heap ns c→Q (.there (if adding then none else some i)) s)
  (q2:(∀(i:Nat) e c ms,es[i]?=some e→e.2=.ref c→TK prog w P s.heap ms c→ms≠ns)→∀ d,zGG t (hT prog w ns) N d→Q (.free (d.getD (wJ t.mask (hT prog w ns) N).j) d.isSome) s) :
  ∀(k n fuel:Nat) (d:Option Nat) (stand:Option SetTable.Probe),N-n=k→n≤N→k<fuel→zGG t (hT prog w ns) N d→stand.getD (t.probeStart (hT prog w ns))=At t.mask (hT prog w ns) n d →
   (∀ m,m<n→∀(i:Nat),t.slot (wJ t.mask (hT prog w ns) m).j=.live i→∀ e c ms,es[i]?=some e→e.2=.ref c→TK prog w P s.heap ms c→ms≠ns)→wpAny (model prog w) A (setSearchFrom a (.ref b) (hT prog w ns) adding fuel stand) Q E s:=by
 have hft:t.fits es.size=true:=by
  unfold SetTable.fits
  simp[T.size,T.room]
 have hgw:t.gaveWay=false:=T.msk.odd
 intro k
 induction k using Nat.strongRecOn with
 | ind k ih =>
  intro n fuel d stand hk hn hf hdm hst hno
  obtain⟨fuel,rfl⟩:∃ g,fuel=g+1:=⟨fuel-1,by omega⟩
  unfold setSearchFrom
  refine bI (cT ho hd hft ?_)
  dsimp only
  rw[hgw]
  simp only[bJ,↓reduceIte]
  rw[hst]
  have met:=zLB (t:=t) (f:=sf es) (h:=hT prog w ns) hN hF (N-n) n (10*fg t.mask) d rfl hn (by
   unfold fg
   omega) hdm
  generalize hp:dU t _ _ _=r
  rcases met with ⟨d',a1,a2,a3⟩ | ⟨m,i,d',a1,a2,a3,a4,a5,a6,a7⟩
  ·have hr:r=some (.empty (wJ t.mask (hT prog w ns) N).j d'):=hp.symm.trans a2
   subst hr
   dsimp only
   have none:∀(i:Nat) e c ms,es[i]?=some e→e.2=.ref c→TK prog w P s.heap ms c→ms≠ns:=by
    intro i e c ms e1 e2 e3 e4
    subst e4
    obtain⟨c',ms',z1,z2⟩:=ok i e e1
    have:c'=c:=by rw[z1] at e2;cases e2;rfl
    subst this
    have:=z2.1.inj e3.1
    subst this
    have hi:i<t.place.size:=by rw[T.size];exact(dQ.mp e1).1
    have pl:t.place[i]?=some t.place[i]:=by simp[hi]
    obtain⟨n',w1,w2⟩:=T.way t.place[i] (hT prog w ms') (.ref c') ⟨i,pl,by rw[e1,z1]⟩
    have sl:=zGF T.ris pl
    have lt:n'<N:=by
     rcases Nat.lt_trichotomy n' N with z | z | z
     ·exact z
     ·subst z;rw[w1,sl] at hN;cases hN
     ·exact(w2 N z hN).elim
    rw[← w1] at sl
    rcases dB n' n with z | z
    ·exact hno n' z i sl e c' ms' e1 e2 e3 rfl
    ·refine a3 n' z lt i sl ?_
     unfold sf
     rw[e1,z1]
     rfl
   cases d' with
   | none=>exact bS (q2 none Option.none a1)
   | some dj =>
    dsimp only
    have hdj:=(a1 dj rfl).1
    rw[if_neg (by simp[hdj])]
    exact bS (q2 none (some dj) a1)
  ·have hr:r=some (.candidate (wJ t.mask (hT prog w ns) m).j i (At t.mask (hT prog w ns) (m+1) d')):=hp.symm.trans a6
   subst hr
   dsimp only
   have pl:=zOo a4
   have hi:i<es.size:=by rw[← T.size];exact(dQ.mp pl).1
   obtain⟨c,ms,z1,z2⟩:=ok i es[i] (by simp[hi])
   have ei:es[i]?=some (hT prog w ms,.ref c):=by simp[hi,z1]
   have hseen:∀ v∈(Array.filter (fun x=>x.1==hT prog w ns) es).toList.map (fun x=>x.2),∃ c ms,v=.ref c∧TK prog w P s.heap ms c:=fun v hv=>by
    obtain⟨e,he,rfl⟩:=bY.mp hv
    rw[Array.toList_filter] at he
    obtain⟨i',hi',e'⟩:=dS (cw.mp he).1
    obtain⟨c',ms',y1,y2⟩:=ok i' e (by rw[← e'];simpa using hi')
    exact⟨c',ms',by rw[y1],y2⟩
   refine zRN hb hseen ?_
   simp only[ei]
   refine bI (cY ((tupleKind (intKind prog w)).eqBool (x:=ms) (y:=ns) hA z2.1 hb.1 ?_))
   refine bI (cT ho hd hft ?_)
   dsimp only
   have sm:t.sameMemory t.moves t.mask=some true:=by
    unfold SetTable.sameMemory
    simp
   by_cases e:ms=ns
   ·subst e
    cases adding with
    | true =>
     rw[if_pos (by simp)]
     exact bS (q1 i c ei z2)
    | false =>
     rw[if_neg (by simp),sm]
     simp only[↓reduceIte,a4,ei]
     refine bI (wpAny_isSame_ref_self ?_)
     simp only[↓reduceIte,pure_bind,decide_true]
     exact bS (q1 i c ei z2)
   ·rw[if_neg (by simp[e]),sm]
    simp only[↓reduceIte,a4,ei]
    refine bI (wpAny_isSame_ref_self ?_)
    simp only[↓reduceIte,pure_bind,decide_eq_true_eq,e]
    refine ih (N-(m+1)) (by omega) (m+1) fuel d' _ rfl (by omega) (by omega) a3 rfl ?_
    intro m' hm' i' sl' e' c' ms' f1 f2 f3 f4
    subst f4
    rcases dB m' n with z | z
    ·exact hno m' z i' sl' e' c' ms' f1 f2 f3 rfl
    ·rcases eY (Nat.le_of_lt_succ hm') with y | y
     ·subst y
      rw[a4] at sl'
      cases sl'
      rw[ei] at f1
      cases f1
      cases f2
      exact e (z2.1.inj f3.1)
     ·obtain⟨c2,ms2,y1,y2⟩:=ok i' e' f1
      have:c2=c':=by rw[y1] at f2;cases f2;rfl
      subst this
      have:=y2.1.inj f3.1
      subst this
      refine a7 m' z y i' sl' ?_
      unfold sf
      rw[f1,y1]
      rfl
end
open HI (Ris)
theorem zFE(mask:Nat)(h:Int):∀ n,(wJ mask h n).j+(wJ mask h n).more≤mask∧(wJ mask h n).i≤mask
 | 0=>by
  have hi:cQ h%(mask+1)≤mask:=by have:=Nat.mod_lt (cQ h) (show 0<mask+1 by omega);omega
  show cQ h%(mask+1)+(cU mask (cQ h%(mask+1))-cQ h%(mask+1))≤mask∧cQ h%(mask+1)≤mask
  generalize cQ h%(mask+1)=i at *
  unfold cU
  split<;>omega
 | n+1=>by
  have ih:=zFE mask h n
  show(adv mask (wJ mask h n)).j+(adv mask (wJ mask h n)).more≤mask∧(adv mask (wJ mask h n)).i≤mask
  unfold adv
  split
  ·simp only
   omega
  ·simp only
   have hi:(dO mask (wJ mask h n).i (wJ mask h n).perturb).1≤mask:=by
    unfold dO
    simp only
    have:=Nat.mod_lt ((wJ mask h n).i*5+1+(wJ mask h n).perturb / 32) (show 0<mask+1 by omega)
    omega
   generalize (dO mask (wJ mask h n).i (wJ mask h n).perturb).1=i at *
   unfold cU
   split<;>omega
theorem zEc{t:SetTable}{es:Array (Int×Value)}{j:Nat}{h:Int}{x:Value}:Ent t es j h x↔(j,(h,x))∈t.place.toList.zip es.toList:=by
 unfold Ent
 rw[List.mem_iff_getElem?]
 constructor
 ·rintro⟨i,e1,e2⟩
  exact⟨i,by rw[List.getElem?_zip_eq_some];simpa using⟨e1,e2⟩⟩
 ·rintro⟨i,e⟩
  rw[List.getElem?_zip_eq_some] at e
  exact⟨i,by simpa using e.1,by simpa using e.2⟩
theorem zOr{α β:Type}{l:List α}{l':List β}(hl:l.length=l'.length)(p:Nat)(a:α)(b:β)(z:α×β):z∈(l.take p++a::l.drop p).zip (l'.take p++b::l'.drop p)↔z=(a,b)∨z∈l.zip l':=by
 rw[List.zip_append (by simp[hl])]
 have e:l.zip l'=(l.take p).zip (l'.take p)++(l.drop p).zip (l'.drop p):=by
  rw[← List.zip_append (by simp[hl]),di,di]
 rw[e]
 simp only[List.zip_cons_cons,cH,cI]
 constructor
 ·rintro(h | h | h)
  ·exact .inr (.inl h)
  ·exact .inl h
  ·exact .inr (.inr h)
 ·rintro(h | h | h)
  ·exact .inr (.inl h)
  ·exact .inl h
  ·exact .inr (.inr h)
theorem zb{α:Type}(xs:Array α)(p:Nat):(cx xs p).toList=xs.toList.take p++xs.toList.drop (p+1):=by
 simp[cx,List.extract_eq_take_drop,eV]
theorem zG9{α:Type}(l:List α)(p:Nat):(l.take p++l.drop (p+1)).Sublist l:=by
 conv=>rhs;rw[← di p l]
 exact(List.Sublist.refl _).append (by rw[← List.drop_drop];exact List.drop_sublist 1 _)
theorem zMr{α:Type}{l:List α}{p:Nat}{x y:α}(hp:l[p]?=some x)(hy:y∈l)(hne:y≠x):y∈l.take p++l.drop (p+1):=by
 rw[← di p l] at hy
 rcases cH.mp hy with h | h
 ·exact dc _ h
 ·obtain⟨hlt,e⟩:=bW.mp hp
  rw[List.drop_eq_getElem_cons hlt,e] at h
  rcases cI.mp h with h | h
  ·exact(hne h).elim
  ·exact cS _ h
theorem zJ8{α:Type}{l:List α}{p:Nat}{x:α}(hp:l[p]?=some x):l.Perm (x::(l.take p++l.drop (p+1))):=by
 obtain⟨hlt,e⟩:=bW.mp hp
 conv=>lhs;rw[← di p l,List.drop_eq_getElem_cons hlt,e]
 exact List.perm_middle
theorem zMs{xs:Array Nat}(hr:Ris xs){p j:Nat}(hp:xs.toList[p]?=some j):j∉xs.toList.take p++xs.toList.drop (p+1):=by
 have nd:xs.toList.Nodup:=dW.imp (fun h=>cJ h) hr
 exact(du.mp ((zJ8 hp).nodup_iff.mp nd)).1
theorem zGH{xs:Array Nat}(hr:Ris xs)(p:Nat):Ris (cx xs p):=by
 unfold Ris
 rw[zb]
 exact dW.sublist (zG9 _ _) hr
section
variable {t:SetTable} {es:Array (Int×Value)} {j:Nat} {h:Int} {x:Value}
theorem zHA(hs:t.slot j=.dummy):dX t.dummies j=true:=by
 unfold SetTable.slot at hs
 simp only at hs
 split at hs
 ·cases hs
 ·split at hs
  ·rename_i q;exact q
  ·cases hs
theorem zOs(T:Tab t es){j':Nat}{h':Int}{x':Value}:Ent (t.put j).1 (cN es (t.put j).2 (h,x)) j' h' x'↔(j'=j∧h'=h∧x'=x)∨Ent t es j' h' x':=by
 rw[zEc,zEc]
 show(j',(h',x'))∈(cN t.place (cf t.place j) j).toList.zip (cN es (cf t.place j) (h,x)).toList↔_
 rw[SetTable.toList_insertAt,SetTable.toList_insertAt,zOr (by simpa using T.size)]
 simp
theorem zID(T:Tab t es)(hnl:t.slot j=.empty∨t.slot j=.dummy)(rD:Ris (t.put j).1.dummies)(rP:Ris (t.put j).1.place){i:Nat}(hf:zDt t i):zDt (t.put j).1 i:=by
 rw[zBY rP rD]
 have pm:∀ y,y∈(t.put j).1.place↔y=j∨y∈t.place:=fun y=>by
  show y∈cN t.place (cf t.place j) j↔_
  rw[← de,(dI _ _ _).mem_iff]
  simp[or_comm]
 rcases(zBY T.ris T.risD).mp hf with q | q
 ·exact .inl ((pm i).mpr (.inr q))
 ·by_cases e:i=j
  ·exact .inl ((pm i).mpr (.inl e))
  ·refine .inr ?_
   show i∈(if dX t.dummies j then cx t.dummies (cf t.dummies j) else t.dummies)
   split
   ·rename_i hh
    rw[← de,zb]
    have hp:t.dummies.toList[cf t.dummies j]?=some j:=by
     unfold dX at hh
     simpa using hh
    exact zMr hp (by simpa using q) e
   ·exact q
theorem Tab.put(T:Tab t es){n:Nat}(hj:(wJ t.mask h n).j=j)(hw:∀ m,m<n→zDt t (wJ t.mask h m).j)(hnl:t.slot j=.empty∨t.slot j=.dummy)(rm:t.fill+1≤t.mask) :
  Tab (t.put j).1 (cN es (t.put j).2 (h,x))∧(t.put j).1.fill≤t.fill+1∧(t.slot j=.dummy→(t.put j).1.fill=t.fill):=by
 have hnl':t.place[cf t.place j]?≠some j:=HI.zMi hnl
 have rP:Ris (t.put j).1.place:=HI.zJ3 T.ris hnl'
 have rD:Ris (t.put j).1.dummies:=by
  show Ris (if dX t.dummies j then cx t.dummies (cf t.dummies j) else t.dummies)
  split
  ·exact zGH T.risD _
  ·exact T.risD
 have jm:j≤t.mask:=by have:=(zFE t.mask h n).1;omega
 have pz:(t.put j).1.place.size=t.place.size+1:=by
  have:=(dI t.place (cf t.place j) j).length_eq
  show(cN t.place (cf t.place j) j).size=_
  simpa using this
 have dz:(t.put j).1.dummies.size≤t.dummies.size∧(t.slot j=.dummy→(t.put j).1.dummies.size+1=t.dummies.size):=by
  show(if dX t.dummies j then cx t.dummies (cf t.dummies j) else t.dummies).size≤_∧(_→(if dX t.dummies j then cx t.dummies (cf t.dummies j) else t.dummies).size+1=_)
  split
  ·rename_i hh
   have hp:t.dummies.toList[cf t.dummies j]?=some j:=by
    unfold dX at hh
    simpa using hh
   have hlt:=(bW.mp hp).1
   have e:(cx t.dummies (cf t.dummies j)).size=t.dummies.size-1:=by
    rw[← cD,zb,ci,cK,dF]
    simp only[cD] at *
    omega
   simp only[cD] at hlt
   omega
  ·rename_i hh
   exact⟨bZ _,fun q=>(hh (zHA q)).elim⟩
 have fz:(t.put j).1.fill=(t.put j).1.place.size+(t.put j).1.dummies.size:=rfl
 have fz0:t.fill=t.place.size+t.dummies.size:=rfl
 refine⟨⟨T.msk,?_,rP,rD,fun y hy=>?_,fun y hy=>?_,?_,fun j' h' x' he=>?_,fun y hy hy'=>?_⟩,by omega,fun q=>by have:=dz.2 q;omega⟩
 ·rw[pz,T.size]
  have:=(dI es (t.put j).2 (h,x)).length_eq
  simp at this
  omega
 ·have:y∈cN t.place (cf t.place j) j:=hy
  rw[← de,(dI _ _ _).mem_iff] at this
  rcases(by simpa using this:y∈t.place∨y=j) with q | q
  ·exact T.le y q
  ·rw[q];exact jm
 ·have:y∈(if dX t.dummies j then cx t.dummies (cf t.dummies j) else t.dummies):=hy
  refine T.leD y ?_
  split at this
  ·rw[← de,zb] at this
   simpa using(zG9 _ _).subset this
  ·exact this
 ·show(t.put j).1.fill≤t.mask
  omega
 ·rcases(zOs T).mp he with ⟨rfl,rfl,rfl⟩ | q
  ·exact⟨n,hj,fun m hm=>zID T hnl rD rP (hw m hm)⟩
  ·obtain⟨n',w1,w2⟩:=T.way j' h' x' q
   exact⟨n',w1,fun m hm=>zID T hnl rD rP (w2 m hm)⟩
 ·have hz:y∈(if dX t.dummies j then cx t.dummies (cf t.dummies j) else t.dummies):=hy
  have hz':y∈cN t.place (cf t.place j) j:=hy'
  clear hy hy'
  rw[← de,(dI _ _ _).mem_iff] at hz'
  have hz':y∈t.place∨y=j:=by simpa using hz'
  by_cases hh:dX t.dummies j=true
  ·rw[if_pos hh] at hz
   have hp:t.dummies.toList[cf t.dummies j]?=some j:=by
    unfold dX at hh
    simpa using hh
   rw[← de,zb] at hz
   rcases hz' with q | q
   ·exact T.dis y (by simpa using(zG9 _ _).subset hz) q
   ·rw[q] at hz
    exact zMs T.risD hp hz
  ·rw[if_neg hh] at hz
   rcases hz' with q | q
   ·exact T.dis y hz q
   ·rw[q] at hz
    exact hh ((zG8 T.risD).mpr hz)
end
section
variable {t:SetTable} {es:Array (Int×Value)} {i j:Nat}
theorem zRO{α β:Type}{l:List α}{l':List β}(hl:l.length=l'.length)(p:Nat){z:α×β}(h:z∈(l.take p++l.drop (p+1)).zip (l'.take p++l'.drop (p+1))):z∈l.zip l':=by
 rw[List.zip_append (by simp[hl])] at h
 have e:l.zip l'=(l.take p).zip (l'.take p)++(l.drop p).zip (l'.drop p):=by
  rw[← List.zip_append (by simp[hl]),di,di]
 rw[e]
 rcases cH.mp h with q | q
 ·exact dc _ q
 ·refine cS _ ?_
  rw[← List.drop_drop,← List.drop_drop] at q
  generalize l.drop p=a at q ⊢
  generalize l'.drop p=b at q ⊢
  cases a with
  | nil=>simp at q
  | cons a0 a1 =>
   cases b with
   | nil=>simp at q
   | cons b0 b1 =>
    have q:z∈a1.zip b1:=by simpa using q
    show z∈(a0,b0)::a1.zip b1
    exact ck _ q
theorem Tab.drop(T:Tab t es)(hi:t.place[i]?=some j):Tab (t.drop i) (cx es i)∧(t.drop i).fill=t.fill:=by
 have ed:t.drop i={ t with place:=cx t.place i,dummies:=cN t.dummies (cf t.dummies j) j }:=by
  unfold SetTable.drop
  rw[hi]
 have hp:t.place.toList[i]?=some j:=by simpa using hi
 have jp:j∈t.place:=fE hi
 have jd:j∉t.dummies:=fun q=>T.dis j q jp
 have hlt:i<t.place.size:=(dQ.mp hi).1
 have rP:Ris (cx t.place i):=zGH T.ris i
 have rD:Ris (cN t.dummies (cf t.dummies j) j):=HI.zJ3 T.risD fun q=>jd (fE q)
 have pz:(cx t.place i).size=t.place.size-1:=by
  rw[← cD,zb,ci,cK,dF]
  simp only[cD]
  omega
 have ez:(cx es i).size=es.size-1:=by
  have:=T.size
  rw[← cD,zb,ci,cK,dF]
  simp only[cD]
  omega
 have dz:(cN t.dummies (cf t.dummies j) j).size=t.dummies.size+1:=by
  have:=(dI t.dummies (cf t.dummies j) j).length_eq
  simpa using this
 have dm:∀ y,y∈cN t.dummies (cf t.dummies j) j↔y∈t.dummies∨y=j:=fun y=>by
  rw[← de,(dI _ _ _).mem_iff]
  simp
 rw[ed]
 have fl:∀ y,zDt t y→zDt { t with place:=cx t.place i,dummies:=cN t.dummies (cf t.dummies j) j } y:=fun y q=>by
  rw[zBY rP rD]
  rcases(zBY T.ris T.risD).mp q with z | z
  ·by_cases e:y=j
   ·exact .inr ((dm y).mpr (.inr e))
   ·left
    show y∈cx t.place i
    rw[← de,zb]
    exact zMr hp (by simpa using z) e
  ·exact .inr ((dm y).mpr (.inl z))
 have sb:∀ y,y∈cx t.place i→y∈t.place:=fun y hy=>by
  rw[← de,zb] at hy
  simpa using(zG9 _ _).subset hy
 have fz:SetTable.fill { t with place:=cx t.place i,dummies:=cN t.dummies (cf t.dummies j) j }=t.fill:=by
  show(cx t.place i).size+(cN t.dummies (cf t.dummies j) j).size=t.place.size+t.dummies.size
  omega
 refine⟨⟨T.msk,?_,rP,rD,fun y hy=>T.le y (sb y hy),fun y hy=>?_,?_,fun j' h' x' he=>?_,fun y hy hy'=>?_⟩,fz⟩
 ·show(cx t.place i).size=_
  rw[pz,ez,T.size]
 ·rcases(dm y).mp hy with q | q
  ·exact T.leD y q
  ·rw[q];exact T.le j jp
 ·rw[fz];exact T.room
 ·rw[zEc] at he
  have he:(j',(h',x'))∈(cx t.place i).toList.zip (cx es i).toList:=he
  rw[zb,zb] at he
  obtain⟨n',w1,w2⟩:=T.way j' h' x' (zEc.mpr (zRO (by simpa using T.size) i he))
  exact⟨n',w1,fun m hm=>fl _ (w2 m hm)⟩
 ·rcases(dm y).mp hy with q | q
  ·exact T.dis y q (sb y hy')
  ·subst q
   have hy':y∈cx t.place i:=hy'
   rw[← de,zb] at hy'
   exact zMs T.ris hp hy'
end
open HI (Ris)
noncomputable def hd(mask:Nat)(h:Int):Nat→Nat
 | 0=>0
 | k+1=>hd mask h k+(cU mask (lp mask h k).1-(lp mask h k).1)+1
section
variable {mask:Nat} {h:Int}
theorem zMt:∀ k,wJ mask h (hd mask h k)=⟨(lp mask h k).1,cU mask (lp mask h k).1-(lp mask h k).1,(lp mask h k).1,(lp mask h k).2,none⟩
 | 0=>rfl
 | k+1=>by
  have:=zEa (zMt k) _ (bZ _)
  show adv mask (wJ mask h (hd mask h k+(cU mask (lp mask h k).1-(lp mask h k).1)))=_
  rw[this]
  unfold adv
  rw[if_neg (by simp)]
  rfl
theorem zJI{k m:Nat}(hm:m≤cU mask (lp mask h k).1-(lp mask h k).1):(wJ mask h (hd mask h k+m)).j=(lp mask h k).1+m:=by rw[zEa (zMt k) m hm]
theorem zRP(mask i:Nat):i≤cU mask i:=by
 unfold cU
 split<;>omega
noncomputable def Tk(owner:Array (Option Nat))(j:Nat):Prop:=(owner.getD j (some 0)).isSome=true
theorem zMu{owner:Array (Option Nat)}{R:Nat}(hR:¬ Tk owner (lp mask h R).1):∀(fuel r:Nat),r≤R→R-r<fuel→(∀ m,m<hd mask h r→Tk owner (wJ mask h m).j) →
  ∃ j n,eJ.free mask owner fuel (lp mask h r).1 (lp mask h r).2=some j∧(wJ mask h n).j=j∧¬ Tk owner j∧∀ m,m<n→Tk owner (wJ mask h m).j:=by
 intro fuel
 induction fuel with
 | zero=>intro r u0 h;omega
 | succ fuel ih =>
  intro r hr hf hb
  unfold eJ.free
  have hge:=zRP mask (lp mask h r).1
  cases hfd:(bQ (cU mask (lp mask h r).1+1-(lp mask h r).1)).find? fun k=>(owner.getD ((lp mask h r).1+k) (some 0)).isNone with
  | some k0 =>
   obtain⟨f1,f2,f3⟩:=List.find?_range_eq_some.mp hfd
   have f2:=bX.mp f2
   refine⟨(lp mask h r).1+k0,hd mask h r+k0,by simp only[hfd],?_,?_,?_⟩
   ·exact zJI (by omega)
   ·unfold Tk
    rw[Option.isNone_iff_eq_none] at f1
    rw[f1];simp
   ·intro m hm
    rcases dB m (hd mask h r) with z | z
    ·exact hb m z
    ·obtain⟨d,rfl⟩:∃ d,m=hd mask h r+d:=⟨m-hd mask h r,by omega⟩
     rw[zJI (by omega)]
     have:=f3 d (by omega)
     unfold Tk
     cases q:owner.getD ((lp mask h r).1+d) (some 0) with
     | none=>rw[q] at this;simp at this
     | some _=>rfl
  | none =>
   rw[List.find?_range_eq_none] at hfd
   have all:∀ d,d≤cU mask (lp mask h r).1-(lp mask h r).1→Tk owner ((lp mask h r).1+d):=fun d hd'=>by
    have:=hfd d (by omega)
    unfold Tk
    cases q:owner.getD ((lp mask h r).1+d) (some 0) with
    | none=>rw[q] at this;simp at this
    | some _=>rfl
   have hne:r≠R:=fun e=>by
    subst e
    exact hR (by simpa using all 0 (cW _))
   simp only
   refine ih (r+1) (by omega) (by omega) fun m hm=>?_
   have hm:m<hd mask h r+(cU mask (lp mask h r).1-(lp mask h r).1)+1:=hm
   rcases dB m (hd mask h r) with z | z
   ·exact hb m z
   ·obtain⟨d,rfl⟩:∃ d,m=hd mask h r+d:=⟨m-hd mask h r,by omega⟩
    rw[zJI (by omega)]
    exact all d (by omega)
end
theorem zDV{β:Type}{f g:Nat→Option β}:∀ {l:List Nat},(∀ i∈l,g i=f i)→l.filterMap g=l.filterMap f
 | [],_=>rfl
 | a::l,h=>by
  have ea:=h a cE
  have ih:=zDV fun i hi=>h i (ck _ hi)
  cases q:f a with
  | none=>rw[eP (ea.trans q),eP q,ih]
  | some c=>rw[dN (ea.trans q),dN q,ih]
theorem zMv{β:Type}{f:Nat→Option β}:∀ {l:List Nat},(∀ i∈l,(f i).isSome=true)→(l.filterMap f).length=l.length
 | [],_=>rfl
 | a::l,h=>by
  have ih:=zMv fun i hi=>h i (ck _ hi)
  have ea:=h a cE
  cases q:f a with
  | none=>rw[q] at ea;cases ea
  | some c=>rw[dN q,bO,bO,ih]
theorem zMw{β:Type}{f g:Nat→Option β}{j:Nat}{b:β}(hf:f j=none)(hg:g j=some b):∀ {l:List Nat},l.Nodup→j∈l→(∀ i∈l,i≠j→g i=f i)→(l.filterMap g).Perm (b::l.filterMap f)
 | [],_,hj,_=>by cases hj
 | a::l,nd,hj,ho=>by
  obtain⟨n1,n2⟩:=du.mp nd
  by_cases e:a=j
  ·subst e
   have:l.filterMap g=l.filterMap f:=by
    apply zDV
    intro i hi
    exact ho i (ck _ hi) fun e=>n1 (e▸hi)
   rw[dN hg,eP hf,this]
  ·have hj':j∈l:=by
    rcases cI.mp hj with q | q
    ·exact(e q.symm).elim
    ·exact q
   have ih:=zMw hf hg n2 hj' fun i hi hne=>ho i (ck _ hi) hne
   have ea:=ho a cE e
   cases q:f a with
   | none=>rw[eP (ea.trans q),eP q];exact ih
   | some c =>
    rw[dN (ea.trans q),dN q]
    exact(eQ.cons c ih).trans (eQ.swap _ _ _)
structure zHB (mask:Nat) (hs:List Int) (owner:Array (Option Nat)) (k:Nat):Prop where
 size:owner.size=mask+1
 way:∀(j k':Nat),owner.getD j none=some k'→∃ h n,hs[k']?=some h∧(wJ mask h n).j=j∧∀ m,m<n→(owner.getD (wJ mask h m).j none).isSome=true
 perm:((bQ (mask+1)).filterMap fun j=>owner.getD j none).Perm (bQ k)
theorem zHB.gap{mask:Nat}{hs:List Int}{owner:Array (Option Nat)}{k:Nat}(I:zHB mask hs owner k)(hk:k≤mask):∃ j,j≤mask∧owner.getD j none=none:=by
 by_cases q:∃ j,j≤mask∧owner.getD j none=none
 ·exact q
 ·have:=zMv (f:=fun j=>owner.getD j none) (l:=bQ (mask+1)) fun i hi=>by
   have hi:=bX.mp hi
   cases z:owner.getD i none with
   | none=>exact(q ⟨i,by omega,z⟩).elim
   | some _=>rfl
  rw[I.perm.length_eq,cz,cz] at this
  omega
theorem zJJ{mask:Nat}{hs:List Int}{owner:Array (Option Nat)}{k:Nat}(I:zHB mask hs owner k){j:Nat}(hj:j≤mask):Tk owner j↔(owner.getD j none).isSome=true:=by
 have:j<owner.size:=by rw[I.size];omega
 unfold Tk
 simp[eR,this]
theorem zHB.step{mask:Nat}{hs:List Int}{owner:Array (Option Nat)}{k:Nat}{h:Int}(hm:Msk mask)(I:zHB mask hs owner k)(hk:k≤mask)(e:hs[k]?=some h) :
  ∃ j,eJ.free mask owner (fg mask) (cQ h%(mask+1)) (cQ h)=some j∧zHB mask hs (owner.setIfInBounds j (some k)) (k+1):=by
 obtain⟨j0,h1,h2⟩:=I.gap hk
 obtain⟨R,r1,r2⟩:=heads (h:=h) hm.cyc h1
 obtain⟨j,n,f1,f2,f3,f4⟩:=zMu (mask:=mask) (h:=h) (owner:=owner) (R:=R) (by rw[r2,zJJ I h1,h2];simp) (fg mask) 0 (cW _) (by unfold fg;omega) (fun m hm=>absurd hm (fj _))
 have hj:j≤mask:=by have:=(zFE mask h n).1;omega
 have hjs:j<owner.size:=by rw[I.size];omega
 rw[zJJ I hj] at f3
 have fn:owner.getD j none=none:=by
  cases q:owner.getD j none with
  | none=>rfl
  | some _=>rw[q] at f3;exact(f3 rfl).elim
 have gs:∀ i,(owner.setIfInBounds j (some k)).getD i none=if i=j then some k else owner.getD i none:=fun i=>by
  by_cases e:i=j
  ·subst e;rw[if_pos rfl];simp[eR,hjs]
  ·rw[if_neg e]
   rw[Array.getD_eq_getD_getElem?,Array.getD_eq_getD_getElem?,Array.getElem?_setIfInBounds_ne (Ne.symm e)]
 have mono:∀ i,(owner.getD i none).isSome=true→((owner.setIfInBounds j (some k)).getD i none).isSome=true:=fun i q=>by
  rw[gs]
  split
  ·rfl
  ·exact q
 refine⟨j,f1,⟨by rw[Array.size_setIfInBounds];exact I.size,fun j' k' q=>?_,?_⟩⟩
 ·rw[gs] at q
  split at q
  ·rename_i e'
   cases q
   refine⟨h,n,e,f2.trans e'.symm,fun m hm'=>mono _ ?_⟩
   rw[← zJJ I (by have:=(zFE mask h m).1;omega)]
   exact f4 m hm'
  ·obtain⟨h',n',w1,w2,w3⟩:=I.way j' k' q
   exact⟨h',n',w1,w2,fun m hm'=>mono _ (w3 m hm')⟩
 ·rw[show bQ (k+1)=bQ k++[k] from eM]
  refine(zMw (f:=fun i=>owner.getD i none) (g:=fun i=>(owner.setIfInBounds j (some k)).getD i none) (j:=j) (b:=k) fn ((gs j).trans (if_pos rfl)) dE (bX.mpr (by omega)) fun i u0 hne=>(gs i).trans (if_neg hne)).trans ?_
  refine(eQ.cons k I.perm).trans ?_
  exact(List.perm_append_singleton k _).symm
theorem zMx{mask:Nat}(hm:Msk mask){hs:List Int}(hn:hs.length≤mask):∀(l done:List Int) (owner:Array (Option Nat)),hs=done++l→zHB mask hs owner done.length →
  ∃ owner',(l.foldl (fun(acc:Option (Array (Option Nat)×Nat)) h=>do
   let (owner,k) ← acc
   let j ← eJ.free mask owner (fg mask) (cQ h%(mask+1)) (cQ h)
   pure (owner.setIfInBounds j (some k),k+1)) (some (owner,done.length))).map (·.1)=some owner'∧zHB mask hs owner' hs.length
 | [],done,owner,e,I=>⟨owner,rfl,by rw[e,dY] at *;exact I⟩
 | h::l,done,owner,e,I=>by
  have hk:done.length≤mask:=by rw[e] at hn;simp at hn;omega
  obtain⟨j,f1,I'⟩:=I.step hm hk (h:=h) (by rw[e];simp)
  obtain⟨owner',g1,g2⟩:=zMx hm hn l (done++[h]) (owner.setIfInBounds j (some done.length)) (by rw[e];simp) (by simpa using I')
  refine⟨owner',?_,g2⟩
  rw[← g1]
  rw[List.foldl_cons]
  congr 2
  show(do
   let j ← eJ.free mask owner (fg mask) (cQ h%(mask+1)) (cQ h)
   pure (owner.setIfInBounds j (some done.length),done.length+1))=_
  rw[f1]
  simp
theorem zRQ{mask:Nat}(hm:Msk mask){hashes:Array Int}(hn:hashes.size≤mask):∃ owner,eJ mask hashes=some owner∧zHB mask hashes.toList owner hashes.size:=by
 have g0:∀ j,(Array.replicate (mask+1) (none:Option Nat)).getD j none=none:=fun j=>by
  simp only[eR]
  split
  ·simp
  ·rfl
 obtain⟨owner,h1,h2⟩:=zMx hm (hs:=hashes.toList) (by simpa using hn) hashes.toList [] (Array.replicate (mask+1) none) rfl ⟨by simp,fun j k' q=>(by rw[g0] at q;cases q),by
  have:((bQ (mask+1)).filterMap fun j=>(Array.replicate (mask+1) (none:Option Nat)).getD j none)=[]:=by
   rw[zDV (f:=fun u0=>none) fun i u0=>g0 i]
   simp
  rw[this]
  exact .refl _⟩
 refine⟨owner,?_,by simpa using h2⟩
 unfold eJ
 rw[← Array.foldl_toList]
 exact h1
theorem zJ9{mask finger moves:Nat}{led plain:Bool}{es:Array (Int×Value)}(hm:Msk mask)(hn:es.size≤mask) :
  ∃ t order,SetTable.laid mask finger moves led plain (es.map (·.1))=some (t,order)∧Tab t (order.filterMap (es[·]?))∧(order.filterMap (es[·]?)).toList.Perm es.toList∧t.mask=mask∧t.led=led∧t.plain=plain∧t.dummies=#[]∧t.place.size=es.size:=by
 obtain⟨owner,h1,I⟩:=zRQ hm (hashes:=es.map (·.1)) (by simpa using hn)
 rw[Array.size_map] at I
 have lk:∀ l:List Nat,(l.filterMap fun j=>(owner.getD j none).map (j,·)).map (·.2)=l.filterMap fun j=>owner.getD j none:=fun l=>by
  rw[List.map_filterMap]
  apply zDV
  intro i u0
  cases owner.getD i none<;>rfl
 have lm:∀(l:List Nat) (p:Nat×Nat),p∈(l.filterMap fun j=>(owner.getD j none).map (j,·))↔p.1∈l∧owner.getD p.1 none=some p.2:=fun l p=>by
  rw[List.mem_filterMap]
  constructor
  ·rintro⟨j,hj,e⟩
   cases q:owner.getD j none with
   | none=>rw[q] at e;cases e
   | some k=>rw[q] at e;cases e;exact⟨hj,q⟩
  ·rintro⟨a,b⟩
   exact⟨p.1,a,by rw[b];rfl⟩
 have pm:=I.perm
 have kn:∀ k∈((bQ (mask+1)).filterMap fun j=>(owner.getD j none).map (j,·)).map (·.2),k<es.size:=fun k hk=>by
  rw[lk] at hk
  exact bX.mp (pm.mem_iff.mp hk)
 have es':(((bQ (mask+1)).filterMap fun j=>(owner.getD j none).map (j,·)).map (·.2)).filterMap (es[·]?)=(((bQ (mask+1)).filterMap fun j=>(owner.getD j none).map (j,·)).map (·.2)).map fun k=>es.getD k (0,.none):=by
  have:∀ l:List Nat,(∀ k∈l,k<es.size)→l.filterMap (es[·]?)=l.map fun k=>es.getD k (0,.none):=by
   intro l
   induction l with
   | nil=>intro u0;rfl
   | cons a l ih =>
    intro hl
    have ha:=hl a cE
    rw[dN (b:=es.getD a (0,.none)) (by simp[eR,ha]),cM,ih fun k hk=>hl k (ck _ hk)]
  exact this _ kn
 have hlen:((bQ (mask+1)).filterMap fun j=>(owner.getD j none).map (j,·)).length=es.size:=by
  have:=congrArg List.length (lk (bQ (mask+1)))
  rw[bU,pm.length_eq,cz] at this
  exact this
 generalize hL:(bQ (mask+1)).filterMap (fun j=>(owner.getD j none).map (j,·))=L at *
 refine⟨{ mask,place:=(L.map (·.1)).toArray,dummies:=#[],finger,led,moves,plain },(L.map (·.2)).toArray,?_,?_⟩
 ·unfold SetTable.laid
  rw[h1]
  show some _=_
  rw[hL]
 ·have eo:((L.map (·.2)).toArray.filterMap (es[·]?)).toList=L.map fun p=>es.getD p.2 (0,.none):=by
   rw[Array.toList_filterMap]
   show(L.map (·.2)).filterMap (es[·]?)=_
   rw[es',da]
   rfl
  have rs:Ris (L.map (·.1)).toArray:=by
   unfold Ris
   have:=HI.zBN (fun j=>owner.getD j none) (bQ (mask+1))
   rw[hL] at this
   exact dW.sublist this eW
  have ls:∀ p,p∈L→p.1≤mask∧owner.getD p.1 none=some p.2:=fun p hp=>by
   have:=(lm (bQ (mask+1)) p).mp (by rw[hL];exact hp)
   exact⟨by have:=bX.mp this.1;omega,this.2⟩
  have rd:Ris (#[]:Array Nat):=dW.nil
  refine⟨⟨hm,?_,rs,rd,fun j hj=>?_,fun j hj=>by simp at hj,?_,fun j h x he=>?_,fun j hj=>by simp at hj⟩,?_,rfl,rfl,rfl,rfl,?_⟩
  ·have:=congrArg List.length eo
   rw[cD,bU] at this
   show(L.map (·.1)).toArray.size=_
   rw[this]
   simp
  ·have:j∈L.map (·.1):=by simpa using hj
   obtain⟨p,hp,rfl⟩:=bY.mp this
   exact(ls p hp).1
  ·show(L.map (·.1)).toArray.size+0≤mask
   simp
   omega
  ·obtain⟨i,e1,e2⟩:=he
   have e1':(L.map (·.1))[i]?=some j:=by simpa using e1
   have e2':(L.map fun p=>es.getD p.2 (0,.none))[i]?=some (h,x):=by rw[← eo];simpa using e2
   rw[cC] at e1' e2'
   cases q:L[i]? with
   | none=>rw[q] at e1';cases e1'
   | some p =>
    rw[q] at e1' e2'
    have e1'':p.1=j:=by simpa using e1'
    have e2'':es.getD p.2 (0,.none)=(h,x):=by simpa using e2'
    obtain⟨u0,l2⟩:=ls p (cy q)
    obtain⟨h',n,w1,w2,w3⟩:=I.way p.1 p.2 l2
    have hk:p.2<es.size:=kn p.2 (bY.mpr ⟨p,cy q,rfl⟩)
    have:h'=h:=by
     have w1':(es.map (·.1)).toList[p.2]?=some h':=w1
     simp[hk] at w1'
     have:es[p.2]=(h,x):=by simpa[eR,hk] using e2''
     rw[this] at w1'
     exact w1'.symm
    subst this
    refine⟨n,w2.trans e1'',fun m hm'=>?_⟩
    rw[zBY rs rd]
    left
    have:=w3 m hm'
    have lt:=(zFE mask h' m).1
    cases z:owner.getD (wJ mask h' m).j none with
    | none=>rw[z] at this;cases this
    | some k2 =>
     have:((wJ mask h' m).j,k2)∈L:=by
      rw[← hL]
      exact(lm _ _).mpr ⟨bX.mpr (by simp only;omega),z⟩
     show(wJ mask h' m).j∈(L.map (·.1)).toArray
     simp only[List.mem_toArray]
     exact bY.mpr ⟨_,this,rfl⟩
  ·rw[eo]
   have e3:es.toList=(bQ es.size).map fun k=>es.getD k (0,.none):=by
    apply List.ext_getElem
    ·simp
    ·intro i h1 h2
     have:i<es.size:=by simpa using h1
     simp[eR,this]
   rw[e3]
   have e4:(L.map fun p=>es.getD p.2 (0,.none))=(L.map (·.2)).map fun k=>es.getD k (0,.none):=by rw[da];rfl
   rw[e4]
   refine eQ.map _ ?_
   have:=lk (bQ (mask+1))
   rw[hL] at this
   rw[this]
   exact pm
  ·show(L.map (·.1)).toArray.size=_
   simp[hlen]
open HI (Ris)
noncomputable def zSP:Value→Int
 | .int k _=>k
 | _=>0
noncomputable def kyT(h:Heap)(e:Int×Value):List Int:=match e.2 with
 | .ref c=>(match h.get? c with | some o=>(match o.data with | .seq its _=>its.toList.map zSP | _=>[]) | none=>[])
 | _=>[]
section
variable {prog:Program} {w:World} {P:Addr→Prop} {A:Around} {E:Value→Shared→Prop} {s:Shared}
theorem zLC{ns:List Int}{vs:List Value}(h:ItemsAre (intKind prog w) ns vs):vs.map zSP=ns:=by
 induction h with
 | nil=>rfl
 | cons h1 _ ih =>
  obtain⟨t,rfl⟩:=Value.isInt_shape h1
  rw[cM,ih]
  rfl
theorem zCn{h:Heap}{ns:List Int}{c:Addr}(x:TK prog w P h ns c)(n:Int):kyT h (n,.ref c)=ns:=by
 obtain⟨⟨o,its,m,ho,hc,hd,hi⟩,u0⟩:=x
 unfold kyT
 simp only[ho,hd]
 exact zLC hi
theorem OkT.mem{h:Heap}{es:Array (Int×Value)}(x:OkT prog w P h es):∀ e∈es.toList,∃ c,e=(hT prog w (kyT h e),.ref c)∧TK prog w P h (kyT h e) c:=fun e he=>by
 obtain⟨i,hi,rfl⟩:=dS he
 obtain⟨c,ms,e1,e2⟩:=x i es.toList[i] (by simpa using hi)
 have:kyT h es.toList[i]=ms:=by rw[e1];exact zCn e2 _
 rw[this]
 exact⟨c,e1,e2⟩
theorem OkT.of{h:Heap}{es:Array (Int×Value)}(x:∀ e∈es.toList,∃ c ms,e=(hT prog w ms,.ref c)∧TK prog w P h ms c):OkT prog w P h es:=fun i e he=>x e (by
 have:=cy (l:=es.toList) (i:=i) (a:=e) (by simpa using he)
 exact this)
theorem OkT.perm{h:Heap}{es es':Array (Int×Value)}(x:OkT prog w P h es)(p:es'.toList.Perm es.toList):OkT prog w P h es':=.of fun e he=>by
 obtain⟨c,e1,e2⟩:=x.mem e (p.mem_iff.mp he)
 exact⟨c,_,e1,e2⟩
theorem TK.keep{h h':Heap}{ns:List Int}{c:Addr}(x:TK prog w P h ns c)(k:∀ o,h.get? c=some o→h'.get? c=some o):TK prog w P h' ns c:=let ⟨⟨o,i,n,e,r⟩,q⟩:=x;⟨⟨o,i,n,k o e,r⟩,q⟩
theorem OkT.keep{h h':Heap}{es:Array (Int×Value)}(x:OkT prog w P h es)(k:∀ c o its n,h.get? c=some o→o.data=.seq its n→h'.get? c=some o):OkT prog w P h' es∧es.toList.map (kyT h')=es.toList.map (kyT h):=by
 have tk:∀ {ns c},TK prog w P h ns c→TK prog w P h' ns c:=fun {ns c} q=>let ⟨⟨o,i,n,e,c1,d,r⟩,q⟩:=q;⟨⟨o,i,n,k _ o i n e d,c1,d,r⟩,q⟩
 refine⟨fun i e he=>?_,em fun e he=>?_⟩
 ·obtain⟨c,ms,e1,e2⟩:=x i e he
  exact⟨c,ms,e1,tk e2⟩
 ·obtain⟨c,e1,e2⟩:=x.mem e he
  have h1:=zCn (tk e2) (hT prog w (kyT h e))
  rw[← e1] at h1
  exact h1
noncomputable def ST(prog:Program)(w:World)(P:Addr→Prop)(h:Heap)(a:Addr)(kys:List (List Int)):Prop:=∃ o es ep t,h.get? a=some o∧o.ExactSet∧o.data=.set es ep t∧Tab t es∧OkT prog w P h es∧t.plain=true∧t.led=HI.zAV w∧t.fill*5<t.mask*3∧kys.Perm (es.toList.map (kyT h))∧kys.Nodup
theorem ST.keep{h h':Heap}{a:Addr}{kys:List (List Int)}(x:ST prog w P h a kys)(k:∀ b o,h.get? b=some o→h'.get? b=some o):ST prog w P h' a kys:=by
 obtain⟨o,es,ep,t,h1,h2,h3,h4,h5,h6,h7,h8,h9,h10⟩:=x
 obtain⟨k1,k2⟩:=h5.keep fun c o u0 u0 e u0=>k c o e
 exact⟨o,es,ep,t,k _ _ h1,h2,h3,h4,k1,h6,h7,h8,by rw[k2];exact h9,h10⟩
theorem size_of(n:Nat)(h:n≤63):Msk (cr (n*4)-1)∧n*5<(cr (n*4)-1)*3∧cr (n*4)≤256:=by
 have:∀ n,n<64→((cr (n*4)-1==7||cr (n*4)-1==15||cr (n*4)-1==31||cr (n*4)-1==63||cr (n*4)-1==127||cr (n*4)-1==255)&&decide (n*5<(cr (n*4)-1)*3)&&decide (cr (n*4)≤256))=true:=by decide +kernel
 have:=this n (by omega)
 simp only[dL,Bool.or_eq_true,beq_iff_eq,decide_eq_true_eq] at this
 refine⟨?_,this.1.2,this.2⟩
 unfold Msk
 omega
end
open HI (Ris)
section
variable {prog:Program} {w:World} {P:Addr→Prop} {A:Around} {E:Value→Shared→Prop} {s:Shared}
theorem fits_of{t:SetTable}{es:Array (Int×Value)}(T:Tab t es):t.fits es.size=true:=by
 unfold SetTable.fits
 simp[T.size,T.room]
theorem zDW{h:Heap}{a:Addr}{o:Obj}{es:Array (Int×Value)}{ep:Nat}{t:SetTable}{es':Array (Int×Value)}{t':SetTable}(ho:h.get? a=some o)(hd:o.data=.set es ep t) :
  (h.update a (Obj.putSet es' t')).get? a=some { o with data:=.set es' (ep+1) t' }:=by
 rw[← putSet_of es' t' hd]
 exact eC _ ho (by rw[putSet_of es' t' hd];rfl)
theorem zPz{a:Addr}{o:Obj}{es:Array (Int×Value)}{ep:Nat}{t:SetTable}{n:Nat}{Q:Unit→Shared→Prop}(ho:s.heap.get? a=some o)(hd:o.data=.set es ep t)(T:Tab t es)(hm:Msk (cr n-1))(hn:es.size≤cr n-1)(hz:cr n≤256)
  (h:∀ es' t',Tab t' es'→es'.toList.Perm es.toList→t'.plain=t.plain→t'.led=t.led→t'.mask=cr n-1→t'.fill=es.size→Q () { s with heap:=s.heap.update a (Obj.putSet es' t') }) :
  wpAny (model prog w) A (setRelay a n) Q E s:=by
 obtain⟨t',order,h1,h2,h3,h4,h5,h6,h7,h8⟩:=zJ9 (mask:=cr n-1) (finger:=t.finger) (moves:=t.movedTo (cr n-1)) (led:=t.led) (plain:=t.plain) hm hn
 unfold setRelay
 refine bI (cT ho hd (fits_of T) ?_)
 dsimp only
 rw[if_neg (by rw[sizeLine_eq];omega)]
 have hr:t.relaid (es.map (·.1)) n=some (t',order):=h1
 have sz:(order.filterMap (es[·]?)).size=es.size:=by
  have:=h3.length_eq
  rw[cD,cD] at this
  exact this
 refine bI (wpAny_of_eq (a:=(order.filterMap (es[·]?),t')) ?_ ?_)
 ·rw[hr]
  show(if ((order.filterMap (es[·]?)).size != es.size)=true then _ else _)=_
  rw[if_neg (by rw[sz];simp)]
 ·dsimp only
  refine ft ho hd (h _ t' h2 h3 h6 h5 h4 ?_) ?_
  ·show t'.place.size+t'.dummies.size=_
   rw[h7,h8];rfl
  ·rw[sz,sizeLine_eq];omega
theorem zMy{a b:Addr}{ns:List Int}{kys:List (List Int)}{Q:Bool→Shared→Prop}(hA:A.units<cLine)(hS:ST prog w P s.heap a kys)(hb:TK prog w P s.heap ns b)(room:kys.length≤60)
  (h:∀ h' kys' r,db a s.heap h'→ST prog w P h' a kys'→kys'.Perm (if ns∈kys then kys else kys++[ns])→Q r { s with heap:=h' }):wpAny (model prog w) A (setAddHashed a (.ref b) (hT prog w ns)) Q E s:=by
 obtain⟨o,es,ep,t,h1,h2,h3,h4,h5,h6,h7,h8,h9,h10⟩:=id hS
 have esz:es.size=kys.length:=by have:=h9.length_eq;simp at this;omega
 have hky:∀(i:Nat) e c ms,es[i]?=some e→e.2=.ref c→TK prog w P s.heap ms c→ms∈kys:=fun i e c ms e1 e2 e3=>by
  rw[h9.mem_iff]
  refine bY.mpr ⟨e,cy (l:=es.toList) (i:=i) (by simpa using e1),?_⟩
  obtain⟨e0,ev⟩:=e
  simp only at e2
  subst e2
  exact zCn e3 _
 unfold setAddHashed
 refine cY ?_
 unfold setAddHashedIn
 refine bI (cT h1 h3 (fits_of h4) ?_)
 dsimp only
 rw[if_neg (by simp[byScan,Value.scannable])]
 obtain⟨N,n1,n2,n3⟩:=h4.stop (hT prog w ns)
 refine bI ?_
 unfold setSearch
 refine zSO (Q:=_) hA h1 h3 h4 h5 hb n1 n2 n3 (adding:=true) (fun i c e1 e2=>?_) (fun hno d hd=>?_) (N-0) 0 100000 none none rfl (cW _) ?_ (fun j q=>by cases q) rfl (fun m hm=>absurd hm (fj _))
 ·have hin:ns∈kys:=hky i _ c ns e1 rfl e2
  simp only[↓reduceIte]
  refine bS ?_
  exact h s.heap kys false ⟨rfl,fun u0 u0=>rfl⟩ hS (by rw[if_pos hin])
 ·have hnk:ns∉kys:=fun q=>by
   rw[h9.mem_iff] at q
   obtain⟨e,he,hk⟩:=bY.mp q
   obtain⟨c,e1,e2⟩:=h5.mem e he
   obtain⟨i,hi,e3⟩:=dS he
   rw[hk] at e2
   exact hno i e c ns (by rw[← e3];simpa using hi) (by rw[e1]) e2 rfl
  dsimp only
  refine bI (cT h1 h3 (fits_of h4) ?_)
  dsimp only
  have mge:7≤t.mask:=by rcases h4.msk with z | z | z | z | z | z<;>omega
  -- the place
  have hp:∃ n j,d.getD (wJ t.mask (hT prog w ns) N).j=j∧(wJ t.mask (hT prog w ns) n).j=j∧(∀ m,m<n→zDt t (wJ t.mask (hT prog w ns) m).j)∧(t.slot j=.empty∨t.slot j=.dummy)∧(d.isSome=true→t.slot j=.dummy):=by
   cases d with
   | none=>exact⟨N,_,rfl,rfl,n3,.inl n2,fun q=>by cases q⟩
   | some j =>
    obtain⟨d1,m,d2,d3⟩:=hd j rfl
    exact⟨m,j,rfl,d3,fun m' hm'=>n3 m' (by omega),.inr d1,fun u0=>d1⟩
  obtain⟨n,j,j1,j2,j3,j4,j5⟩:=hp
  rw[j1]
  obtain⟨T',f1,f2⟩:=h4.put (x:=.ref b) j2 j3 j4 (by omega)
  have pl:(t.put j).1.plain=true:=h6
  have ld:(t.put j).1.led=HI.zAV w:=h7
  have mk:(t.put j).1.mask=t.mask:=rfl
  generalize hes':cN es (t.put j).2 (hT prog w ns,.ref b)=es' at T'
  have pm:es'.toList.Perm (es.toList++[(hT prog w ns,.ref b)]):=by
   rw[← hes']
   have:=dI es (t.put j).2 (hT prog w ns,.ref b)
   simpa using this
  have sz':es'.size=es.size+1:=by have:=pm.length_eq;simp at this;omega
  rw[pl]
  simp only[↓reduceIte]
  refine bI (zMq hb ?_)
  simp only[↓reduceIte]
  refine bI (ft h1 h3 ?_ (by rw[sizeLine_eq];omega))
  -- behind the store
  have ok1:OkT prog w P s.heap es':=.of fun e he=>by
   rcases cH.mp (pm.mem_iff.mp he) with q | q
   ·obtain⟨c,e1,e2⟩:=h5.mem e q;exact⟨c,_,e1,e2⟩
   ·rw[cg] at q;exact⟨b,ns,q,hb⟩
  have kp1:kys++[ns]=kys++[ns]:=rfl
  have pk:(kys++[ns]).Perm (es'.toList.map (kyT s.heap)):=by
   refine eQ.trans ?_ (pm.map _).symm
   rw[cX]
   refine h9.append ?_
   rw[List.map_singleton,zCn hb]
  have nd1:(kys++[ns]).Nodup:=eN.mpr ⟨h10,by simp,fun x hx y hy e=>by rw[cg] at hy;exact hnk (by rw[← hy,← e];exact hx)⟩
  have fin:∀(es2:Array (Int×Value)) (t2:SetTable) (ep2:Nat) (h':Heap),db a s.heap h'→h'.get? a=some { o with data:=.set es2 ep2 t2 }→Tab t2 es2→es2.toList.Perm es'.toList→t2.plain=true→t2.led=HI.zAV w→t2.fill*5<t2.mask*3→Q true { s with heap:=h' }:=fun es2 t2 ep2 h' sb g T2 p2 pl2 ld2 fl2=>by
   have kk:∀ c o' its n,s.heap.get? c=some o'→o'.data=.seq its n→h'.get? c=some o':=fun c o' its n e1 e2=>by
    rw[sb.2 c (fun q=>by subst q;rw[h1] at e1;cases e1;rw[h3] at e2;cases e2)];exact e1
   obtain⟨k1,k2⟩:=(ok1.perm p2).keep kk
   refine h h' (kys++[ns]) true sb ⟨_,es2,ep2,t2,g,h2,rfl,T2,k1,pl2,ld2,fl2,?_,nd1⟩ (by rw[if_neg hnk])
   rw[k2]
   exact pk.trans (p2.map _).symm
  have g1:=zDW (es':=es') (t':=(t.put j).1) h1 h3
  have s1:db a s.heap (s.heap.update a (Obj.putSet es' (t.put j).1)):=db.update ..
  by_cases hrl:(!d.isSome&&(t.put j).1.tooFull)=true
  ·rw[if_pos hrl]
   have so:=size_of (es.size+1) (by omega)
   have gw:SetTable.grown (es.size+1)=(es.size+1)*4:=by unfold SetTable.grown;rw[if_neg (by omega)]
   rw[gw]
   refine bI (zPz (s:={ s with heap:=s.heap.update a (Obj.putSet es' (t.put j).1) }) g1 rfl T' so.1 (by rw[sz'];omega) so.2.2 fun es2 t2 T2 p2 pl2 ld2 mk2 fl2=>?_)
   refine bS (fin es2 t2 _ _ (s1.trans (db.update ..)) (zDW (o:={ o with data:=.set es' (ep+1) (t.put j).1 }) g1 rfl) T2 p2 (pl2.trans pl) (ld2.trans ld) ?_)
   rw[fl2,mk2,sz']
   exact so.2.1
  ·rw[if_neg hrl]
   refine bS (fin es' (t.put j).1 _ _ s1 g1 T' (.refl _) pl ld ?_)
   cases hd':d.isSome with
   | true =>
    rw[f2 (j5 hd'),mk]
    exact h8
   | false =>
    rw[hd'] at hrl
    have:(t.put j).1.tooFull=false:=by simpa using hrl
    unfold SetTable.tooFull at this
    simpa using this
 ·rcases h4.msk with z | z | z | z | z | z<;>omega
end
end HT2
namespace HT2
open HI (Ris wn zAV zDU)
noncomputable def Kp(h0 h:Heap):Prop:=∀ b o,h0.get? b=some o→h.get? b=some o
section
variable {prog:Program} {w:World} {P:Addr→Prop} {A:Around} {R:Result→Shared→Prop} {h0:Heap} {S I:Addr} {fp wr:List Addr} {n:Nat} {its:Array Value} {val:Nat→List Int} {St:Nat→Heap→Prop} {g:Array GenState} {d:Drawn} {os:OsState}
theorem zGI(W:Walks prog w A.in1 I fp wr n (fun i v=>its[i]?=some v) St)(hA:A.in1.units<cLine)(hSf:S∉fp)(hS:h0.get? S=none)(hwr:∀ b∈wr,h0.get? b=none)(hwd:∀ i h,St i h→∀ b∈wr,∀ o,h.get? b=some o→∀ its n,o.data≠.seq its n)(hb:n≤60)
  (ht:∀ i v,its[i]?=some v→∃ c,v=.ref c∧TK prog w P h0 (val i) c) :
  ∀(k i:Nat) (h:Heap) (tk:Nat) (kys:List (List Int)),n-i=k→i≤n→Kp h0 h→St i h→ST prog w P h S kys→kys.length≤i→(∀ x,x∈kys↔∃ m,m<i∧val m=x) →
   (∀ h' tk' kys',Kp h0 h'→ST prog w P h' S kys'→kys'.length≤n→(∀ x,x∈kys'↔∃ m,m<n∧val m=x)→R (.ok (.ret .none)) ⟨h',g,d,tk',os⟩) →
   codeAny (model prog w) A (.builtin "set.update.loop" ⟨[.ref S,.ref I],[]⟩) R ⟨h,g,d,tk,os⟩:=by
 have hSw:S∉wr:=fun q=>hSf (W.sub _ q)
 have kpw:∀ {h h':Heap},Kp h0 h→(∀ b o,b∉wr→h.get? b=some o→h'.get? b=some o)→Kp h0 h':=fun {h h'} kp e b o q=>e b o (fun z=>by rw[hwr b z] at q;cases q) (kp b o q)
 have stw:∀ {h h':Heap} {kys},ST prog w P h S kys→(∀ b o,b∉wr→h.get? b=some o→h'.get? b=some o)→(∀ b o,b∈wr→h.get? b=some o→∀ its n,o.data≠.seq its n)→ST prog w P h' S kys:=fun {h h' kys} x e e2=>by
  obtain⟨o,es,ep,t,h1,h2,h3,h4,h5,h6,h7,h8,h9,h10⟩:=x
  obtain⟨k1,k2⟩:=h5.keep fun c o its n q1 q2=>e c o (fun z=>e2 c o z q1 its n q2) q1
  exact⟨o,es,ep,t,e _ _ hSw h1,h2,h3,h4,k1,h6,h7,h8,by rw[k2];exact h9,h10⟩
 intro k
 induction k with
 | zero =>
  intro i h tk kys hk hi kp st hst hl mem hR
  obtain rfl:i=n:=by omega
  refine dt F.entry_set_update_loop ?_
  rw[Around.under_plainId F.plain_set_update_loop _]
  show wpAny _ A.in1 (pyNext (.ref I)>>=_) _ _ _
  refine bI (W.done _ _ _ st fun h' tk' e=>bS (hR h' tk' kys (kpw kp e) (stw hst e fun b o z q=>hwd _ _ st b z o q) hl mem))
 | succ k ih =>
  intro i h tk kys hk hi kp st hst hl mem hR
  have lt:i<n:=by omega
  refine dt F.entry_set_update_loop ?_
  rw[Around.under_plainId F.plain_set_update_loop _]
  show wpAny _ A.in1 (pyNext (.ref I)>>=_) _ _ _
  refine bI (W.item i _ _ _ lt st fun v h1 tk1 hP st1 e1=>?_)
  obtain⟨c,rfl,hc⟩:=ht i v hP
  have kp1:Kp h0 h1:=kpw kp e1
  have hst1:=stw hst e1 fun b o z q=>hwd _ _ st b z o q
  have hc1:TK prog w P h1 (val i) c:=hc.keep fun o q=>kp1 c o q
  show wpAny _ A.in1 (holding [Value.ref c] (setAdd S (.ref c))>>=_) _ _ _
  refine bI (cY ?_)
  unfold setAdd
  refine cY (bI ((tupleKind (intKind prog w)).pyHash (k:=val i) hA hc1.1 ?_))
  refine zMy (s:=⟨h1,g,d,tk1+((val i).length+1),os⟩) hA hst1 hc1 (by omega) fun h2 kys2 r sb st2 pm=>?_
  have len2:kys2.length≤i+1:=by
   rw[pm.length_eq]
   split
   ·omega
   ·rw[ci];simp;omega
  have mem2:∀ x,x∈kys2↔∃ m,m<i+1∧val m=x:=fun x=>by
   rw[pm.mem_iff]
   constructor
   ·intro q
    split at q
    ·obtain⟨m,h1,h2⟩:=(mem x).mp q
     exact⟨m,by omega,h2⟩
    ·rcases cH.mp q with q | q
     ·obtain⟨m,h1,h2⟩:=(mem x).mp q
      exact⟨m,by omega,h2⟩
     ·rw[cg] at q
      exact⟨i,by omega,q.symm⟩
   ·rintro⟨m,h1,h2⟩
    rcases dB m i with z | z
    ·have:=(mem x).mpr ⟨m,z,h2⟩
     split
     ·exact this
     ·exact dc _ this
    ·obtain rfl:m=i:=by omega
     split
     ·rename_i q;rw[← h2];exact q
     ·rw[← h2];simp
  have kp2:Kp h0 h2:=fun b o q=>by
   rw[sb.2 b (fun z=>by subst z;rw[hS] at q;cases q)]
   exact kp1 b o q
  refine bS ⟨plainId_quiet F.plain_set_update_loop _,ih (i+1) h2 _ kys2 (by omega) lt kp2 (W.frame _ _ _ st1 fun b hb' o e=>?_) st2 len2 mem2 hR⟩
  rw[sb.2 b (fun q:b=S=>hSf (by rw[← q];exact hb'))];exact e
end
end HT2
namespace HT2
open PySem PySem.Spec
open HI (Ris)
section
variable {prog:Program} {w:World} {P:Addr→Prop} {A:Around} {E:Value→Shared→Prop} {s:Shared}
theorem zOt{a b:Addr}{ns:List Int}{o:Obj}{es:Array (Int×Value)}{ep:Nat}{t:SetTable}{Q:Option Nat→Shared→Prop}(hA:A.units<cLine)(h1:s.heap.get? a=some o)(h3:o.data=.set es ep t)(h4:Tab t es)(h5:OkT prog w P s.heap es)(hb:TK prog w P s.heap ns b)
  (q1:∀(i:Nat) c,es[i]?=some (hT prog w ns,.ref c)→TK prog w P s.heap ns c→Q (some i) s) (q2:(∀(i:Nat) e c ms,es[i]?=some e→e.2=.ref c→TK prog w P s.heap ms c→ms≠ns)→Q none s) :
  wpAny (model prog w) A (setFind a (.ref b) (hT prog w ns)) Q E s:=by
 unfold setFind setFindIn
 refine bI (cT h1 h3 (fits_of h4) ?_)
 dsimp only
 rw[if_neg (by simp[byScan,Value.scannable])]
 obtain⟨N,n1,n2,n3⟩:=h4.stop (hT prog w ns)
 refine bI ?_
 unfold setSearch
 refine zSO (Q:=_) hA h1 h3 h4 h5 hb n1 n2 n3 (adding:=false) (fun i c e1 e2=>?_) (fun hno d hd=>?_) (N-0) 0 100000 none none rfl (cW _) ?_ (fun j q=>by cases q) rfl (fun m hm=>absurd hm (fj _))
 ·exact bS (q1 i c e1 e2)
 ·exact bS (q2 hno)
 ·rcases h4.msk with z | z | z | z | z | z<;>omega
theorem zJK{a b:Addr}{ns:List Int}{kys:List (List Int)}{Q:Bool→Shared→Prop}(hA:A.units<cLine)(hS:ST prog w P s.heap a kys)(hb:TK prog w P s.heap ns b)
  (h:∀ h' kys',db a s.heap h'→ST prog w P h' a kys'→kys'.Perm (kys.erase ns)→Q (decide (ns∈kys)) { s with heap:=h' }):wpAny (model prog w) A (setDiscardHashed a (.ref b) (hT prog w ns)) Q E s:=by
 obtain⟨o,es,ep,t,h1,h2,h3,h4,h5,h6,h7,h8,h9,h10⟩:=id hS
 unfold setDiscardHashed
 refine bI (zOt hA h1 h3 h4 h5 hb (fun i c e1 e2=>?_) (fun hno=>?_))
 ·dsimp only
  have hi:i<es.size:=(dQ.mp e1).1
  have eL:es.toList[i]?=some (hT prog w ns,.ref c):=by simpa using e1
  have hin:ns∈kys:=by
   rw[h9.mem_iff]
   exact bY.mpr ⟨_,cy eL,zCn e2 _⟩
  have pl:t.place[i]?=some (t.place[i]'(by rw[h4.size];exact hi)):=by simp[h4.size,hi]
  obtain⟨T',fz⟩:=h4.drop pl
  refine bI (cT h1 h3 (fits_of h4) ?_)
  dsimp only
  have sz:(cx es i).size≤es.size:=by
   rw[← cD,zb,ci,cK,dF]
   simp only[cD]
   omega
  have esl:es.size≤255:=by
   have:=h4.size
   have:=h4.room
   have:t.fill=t.place.size+t.dummies.size:=rfl
   rcases h4.msk with z | z | z | z | z | z<;>omega
  refine bI (ft h1 h3 (bI (wpAny_point (bS ?_))) (by rw[sizeLine_eq];omega))
  have sb:db a s.heap (s.heap.update a (Obj.putSet (cx es i) (t.drop i))):=db.update ..
  have g:=zDW (es':=cx es i) (t':=t.drop i) h1 h3
  have pe:es.toList.Perm ((hT prog w ns,.ref c)::(cx es i).toList):=by rw[zb];exact zJ8 eL
  have ok1:OkT prog w P s.heap (cx es i):=.of fun e he=>by
   obtain⟨c,e1,e2⟩:=h5.mem e (pe.mem_iff.mpr (ck _ he))
   exact⟨c,_,e1,e2⟩
  have kk:∀ c o' its n,s.heap.get? c=some o'→o'.data=.seq its n→(s.heap.update a (Obj.putSet (cx es i) (t.drop i))).get? c=some o':=fun c o' its n e1 e2=>by
   rw[sb.2 c (fun q=>by subst q;rw[h1] at e1;cases e1;rw[h3] at e2;cases e2)];exact e1
  obtain⟨k1,k2⟩:=ok1.keep kk
  have pk:(kys.erase ns).Perm ((cx es i).toList.map (kyT s.heap)):=by
   have:=h9.trans (pe.map (kyT s.heap))
   rw[cM,zCn e2] at this
   have:=this.erase ns
   rwa [List.erase_cons_head] at this
  have dr:(t.drop i).mask=t.mask∧(t.drop i).plain=t.plain∧(t.drop i).led=t.led:=by
   unfold SetTable.drop
   rw[pl]
   exact⟨rfl,rfl,rfl⟩
  have:=h _ (kys.erase ns) sb ⟨_,_,_,_,g,h2,rfl,T',k1,dr.2.1.trans h6,dr.2.2.trans h7,by rw[fz,dr.1];exact h8,by rw[k2];exact pk,h10.erase _⟩ (.refl _)
  rwa [decide_eq_true hin] at this
 ·have hnk:ns∉kys:=fun q=>by
   rw[h9.mem_iff] at q
   obtain⟨e,he,hk⟩:=bY.mp q
   obtain⟨c,e1,e2⟩:=h5.mem e he
   obtain⟨i,hi,e3⟩:=dS he
   rw[hk] at e2
   exact hno i e c ns (by rw[← e3];simpa using hi) (by rw[e1]) e2 rfl
  dsimp only
  refine bS ?_
  have:=h s.heap kys ⟨rfl,fun u0 u0=>rfl⟩ hS (by rw[List.erase_of_not_mem hnk])
  rwa [decide_eq_false hnk] at this
noncomputable def zIE(ns:List Int)(kys:List (List Int)):List (List Int):=if ns∈kys then kys.erase ns else kys++[ns]
theorem zOu{a b:Addr}{ns:List Int}{kys:List (List Int)}{Q:Unit→Shared→Prop}(hA:A.units<cLine)(hS:ST prog w P s.heap a kys)(hb:TK prog w P s.heap ns b)(room:kys.length≤60)
  (h:∀ h' kys',db a s.heap h'→ST prog w P h' a kys'→kys'.Perm (zIE ns kys)→Q () { s with heap:=h' }) :
  wpAny (model prog w) A (holding [.ref b] do
   if !(← setDiscardHashed a (.ref b) (hT prog w ns)) then
    let _ ← setAddHashed a (.ref b) (hT prog w ns)) Q E s:=by
 refine cY (bI (zJK hA hS hb fun h1 kys1 sb1 st1 p1=>?_))
 by_cases hin:ns∈kys
 ·rw[decide_eq_true hin]
  simp only[fr,bJ,↓reduceIte]
  exact bS (h h1 kys1 sb1 st1 (by unfold zIE;rw[if_pos hin];exact p1))
 ·rw[decide_eq_false hin]
  simp only[Bool.not_false,↓reduceIte]
  rw[List.erase_of_not_mem hin] at p1
  have hb1:TK prog w P h1 ns b:=by
   obtain⟨⟨o,i,n,e,c,d,r⟩,qp⟩:=hb
   obtain⟨os,es,ep,t,g1,g2,g3,u0⟩:=hS
   exact⟨⟨o,i,n,by rw[sb1.2 b (fun q=>by subst q;rw[g1] at e;cases e;rw[g3] at d;cases d)];exact e,c,d,r⟩,qp⟩
  refine bI (zMy (s:={ s with heap:=h1 }) hA st1 hb1 (by rw[p1.length_eq];exact room) fun h2 kys2 r sb2 st2 p2=>bS ?_)
  have hin1:ns∉kys1:=fun q=>hin (p1.mem_iff.mp q)
  rw[if_neg hin1] at p2
  exact h h2 kys2 (sb1.trans sb2) st2 (by unfold zIE;rw[if_neg hin];exact p2.trans (p1.append_right _))
end
open HI (Ris wn zAV)
section
variable {prog:Program} {w:World} {P:Addr→Prop} {A:Around} {E:Value→Shared→Prop} {s:Shared}
theorem zMz(n:Nat)(h:n≤60):Msk (cr ((0+n)*2)-1)∧(n=0∨n*5<(cr ((0+n)*2)-1)*3)∧cr ((0+n)*2)≤256:=by
 have:∀ n,n<61→((cr ((0+n)*2)-1==7||cr ((0+n)*2)-1==15||cr ((0+n)*2)-1==31||cr ((0+n)*2)-1==63||cr ((0+n)*2)-1==127||cr ((0+n)*2)-1==255)&&decide (n=0∨n*5<(cr ((0+n)*2)-1)*3)&&decide (cr ((0+n)*2)≤256))=true:=by decide +kernel
 have:=this n (by omega)
 simp only[dL,Bool.or_eq_true,beq_iff_eq,decide_eq_true_eq] at this
 refine⟨?_,this.1.2,this.2⟩
 unfold Msk
 omega
structure New (w:World) (h:Heap) (a:Addr) (n:Nat):Prop where
 ex:∃(o:Obj) (ep:Nat) (t:SetTable),h.get? a=some o∧o.ExactSet∧o.data=.set #[] ep t∧Tab t #[]∧t.plain=true∧t.led=zAV w∧t.fill=0∧(n=0∨n*5<t.mask*3)
theorem zOv{w:World}:Tab (.fresh 0 0 (zAV w)) #[]:=⟨.inl rfl,rfl,dW.nil,dW.nil,fun j hj=>(by simp[eD] at hj),fun j hj=>(by simp[eD] at hj),cW _,fun j h x he=>(by
 obtain⟨i,e,u0⟩:=he
 simp[eD] at e),fun j hj=>(by simp[eD] at hj)⟩
theorem zSQ{a:Addr}{n:Nat}{Q:Unit→Shared→Prop}(hn:n≤60)(h0:s.heap.get? a=some (wn w))(h:∀ h',db a s.heap h'→New w h' a n→Q () { s with heap:=h' }):wpAny (model prog w) A (setRoomFor a n) Q E s:=by
 unfold setRoomFor
 refine bI (cT h0 rfl (fits_of zOv) ?_)
 have rf:(eD 0 0 (zAV w)).roomFor n=if n*5≥21 then some ((0+n)*2) else none:=by
  unfold SetTable.roomFor
  show(if (0+n)*5≥7*3 then some ((0+n)*2) else none)=_
  rw[Nat.zero_add]
 dsimp only
 rw[rf]
 have so:=zMz n hn
 split
 ·rename_i wanted hw
  split at hw
  ·cases hw
   refine zPz h0 rfl zOv so.1 (cW _) so.2.2 fun es' t' T' p pl ld mk fl=>?_
   have:es'=#[]:=by
    have:=p.length_eq
    simpa using this
   subst this
   exact h _ (db.update ..) ⟨_,_,t',zDW h0 rfl,⟨rfl,rfl,rfl⟩,rfl,T',pl,ld,fl,by rw[mk];exact so.2.1⟩
  ·cases hw
 ·rename_i hw
  refine bS (h s.heap ⟨rfl,fun u0 u0=>rfl⟩ ⟨_,_,_,h0,⟨rfl,rfl,rfl⟩,rfl,zOv,rfl,rfl,rfl,.inr ?_⟩)
  show n*5<7*3
  rcases dB (n*5) 21 with z | z
  ·exact z
  ·exact(hw _ (if_pos z)).elim
theorem zLD{a r:Addr}{kys:List (List Int)}{each:Sem Unit}{Q:Unit→Shared→Prop}(har:a≠r)(h0:s.heap.get? a=some (wn w))(hS:ST prog w P s.heap r kys)(hn:kys.length≤60)
  (h:∀ h',db a s.heap h'→ST prog w P h' a kys→Q () { s with heap:=h' }):wpAny (model prog w) A (setMerge a r each) Q E s:=by
 obtain⟨o,es,ep,t,h1,h2,h3,h4,h5,h6,h7,h8,h9,h10⟩:=id hS
 have esz:es.size=kys.length:=by have:=h9.length_eq;simp at this;omega
 unfold setMerge
 rw[if_neg (by simpa using har)]
 refine bI (cT h1 h3 (fits_of h4) ?_)
 dsimp only
 have nt:∀ {h':Heap},db a s.heap h'→∀ c o' its n,s.heap.get? c=some o'→o'.data=.seq its n→h'.get? c=some o':=fun {h'} sb c o' its n e1 e2=>by
  rw[sb.2 c (fun q=>by subst q;rw[h0] at e1;cases e1;cases e2)];exact e1
 by_cases he:es.isEmpty=true
 ·rw[if_pos he]
  have e0:es=#[]:=by simpa using he
  subst e0
  have k0:kys=[]:=by simpa using esz.symm
  subst k0
  exact bS (h s.heap ⟨rfl,fun u0 u0=>rfl⟩ ⟨_,#[],_,_,h0,⟨rfl,rfl,rfl⟩,rfl,zOv,fun i e q=>(by simp at q),rfl,rfl,(by show 0*5<7*3;decide),.refl _,List.nodup_nil⟩)
 ·rw[if_neg he]
  refine bI (zSQ (n:=es.size) (by omega) h0 fun h' sb nw=>?_)
  obtain⟨on,epn,tn,g1,g2,g3,g4,g5,g6,g7,g8⟩:=nw.ex
  have hpos:0<es.size:=by
   rcases Nat.eq_zero_or_pos es.size with z | z
   ·exact(he (by simpa using z)).elim
   ·exact z
  have g8:es.size*5<tn.mask*3:=by rcases g8 with z | z<;>omega
  refine bI (cT (s:={ s with heap:=h' }) g1 g3 (fits_of g4) ?_)
  dsimp only
  obtain⟨k1,k2⟩:=h5.keep (nt sb)
  have fin:∀(es2:Array (Int×Value)) (t2:SetTable),Tab t2 es2→es2.toList.Perm es.toList→t2.plain=true→t2.led=zAV w→t2.fill*5<t2.mask*3→es2.size≤sizeLine∧Q () { s with heap:=h'.update a (Obj.putSet es2 t2) }:=fun es2 t2 T2 p2 pl2 ld2 fl2=>by
   have s2:es2.size=es.size:=by have:=p2.length_eq;simpa using this
   refine⟨by rw[s2,sizeLine_eq];omega,?_⟩
   have sb2:db a s.heap (h'.update a (Obj.putSet es2 t2)):=sb.trans (db.update ..)
   obtain⟨j1,j2⟩:=(h5.perm p2).keep (nt sb2)
   refine h _ sb2 ⟨_,es2,_,t2,zDW g1 g3,g2,rfl,T2,j1,pl2,ld2,fl2,?_,h10⟩
   rw[j2]
   exact h9.trans (p2.map _).symm
  have rd:tn.road t=if (tn.mask==t.mask&&t.dummies.isEmpty)=true then .slotForSlot else .clean:=by
   unfold SetTable.road
   rw[g7]
   rfl
  rw[rd]
  by_cases hs:(tn.mask==t.mask&&t.dummies.isEmpty)=true
  ·rw[if_pos hs]
   dsimp only
   obtain⟨f1,f2⟩:=fin es { t with finger:=tn.finger,led:=tn.led&&t.led,moves:=tn.moves,plain:=tn.plain&&t.plain } ⟨h4.msk,h4.size,h4.ris,h4.risD,h4.le,h4.leD,h4.room,h4.way,h4.dis⟩ (.refl _) (by show(tn.plain&&t.plain)=true;rw[g5,h6];rfl) (by show(tn.led&&t.led)=_;rw[g6,h7];simp) h8
   exact ft (s:={ s with heap:=h' }) g1 g3 f2 f1
  ·rw[if_neg hs]
   dsimp only
   obtain⟨t',order,l1,l2,l3,l4,l5,l6,l7,l8⟩:=zJ9 (mask:=tn.mask) (finger:=tn.finger) (moves:=tn.moves) (led:=tn.led&&t.led) (plain:=tn.plain&&t.plain) (es:=es) g4.msk (by omega)
   have sz:(order.filterMap (es[·]?)).size=es.size:=by
    have:=l3.length_eq
    rw[cD,cD] at this
    exact this
   refine bI (wpAny_of_eq (a:=(order.filterMap (es[·]?),t')) ?_ ?_)
   ·rw[l1]
    show(if ((order.filterMap (es[·]?)).size != es.size)=true then _ else _)=_
    rw[if_neg (by rw[sz];simp)]
   ·dsimp only
    obtain⟨f1,f2⟩:=fin (order.filterMap (es[·]?)) t' l2 l3 (by rw[l6,g5,h6];rfl) (by rw[l5,g6,h7];simp) (by
     rw[l4]
     have:t'.fill=t'.place.size+t'.dummies.size:=rfl
     rw[this,l7,l8]
     simpa using g8)
    exact ft (s:={ s with heap:=h' }) g1 g3 f2 f1
end
end HT2
namespace HT2
open HI (Ris wn zAV zBm zCU)
theorem zM0:isSubtype (.type "set") (.type "set")=pure true:=by rw[isSubtype_type];kernel_rfl
section
variable {prog:Program} {w:World} {P:Addr→Prop} {A:Around} {E:Value→Shared→Prop} {s:Shared}
theorem zHC{a:Addr}{o:Obj}{Q:Bool→Shared→Prop}(ho:s.heap.get? a=some o)(hc:o.cls=.type "set")(h:Q true s):wpAny (model prog w) A (Builtin.Frozenset.isAnySet (.ref a)) Q E s:=by
 unfold Builtin.Frozenset.isAnySet
 unfold orM
 refine bI (wpAny_isInstance (T:="set") (b:=true) ⟨o,ho,hc⟩ zM0 ?_)
 exact bS h
theorem zM1{nm:String}{r:Addr}{kys:List (List Int)}{Q:Value→Shared→Prop}(hS:ST prog w P s.heap r kys)(hn:kys.length≤60)
  (h:∀ h',(∀ b o,s.heap.get? b=some o→h'.get? b=some o)→ST prog w P h' s.heap.objs.size kys→Q (.ref s.heap.objs.size) { s with heap:=h' }):wpAny (model prog w) A (Builtin.Frozenset.newFrom nm (.type "set") (.ref r)) Q E s:=by
 obtain⟨o,es,ep,t,h1,h2,h3,h4,u0⟩:=id hS
 have lr:r<s.heap.objs.size:=cc h1
 unfold Builtin.Frozenset.newFrom newSet
 refine bI (bI (zBm ?_))
 dsimp only
 refine df ?_
 refine bI (m:=Builtin.Frozenset.addrOf _) (bS ?_)
 show wpAny _ _ (holding [Value.ref s.heap.objs.size] (Builtin.Frozenset.updateFrom nm s.heap.objs.size (.ref r))>>=fun u0=>pure (Value.ref s.heap.objs.size)) _ _ { s with heap:=s.heap.push (wn w) }
 have h0:(s.heap.push (wn w)).get? s.heap.objs.size=some (wn w):=cb _ rfl
 have h1':(s.heap.push (wn w)).get? r=some o:=bP _ h1
 refine bI (cY ?_)
 unfold Builtin.Frozenset.updateFrom
 refine bI (zHC (s:={ s with heap:=s.heap.push (wn w) }) h1' h2.1 ?_)
 rw[if_pos rfl]
 show wpAny _ _ (Builtin.Frozenset.merge nm s.heap.objs.size r) _ _ _
 unfold Builtin.Frozenset.merge
 refine bI (wpAny_setEpoch_of (s:={ s with heap:=s.heap.push (wn w) }) h1' h3 (fits_of h4) ?_)
 refine zLD (s:={ s with heap:=s.heap.push (wn w) }) (Nat.ne_of_gt lr) h0 (hS.keep fun b o e=>bP _ e) hn fun h' sb st=>bS ?_
 refine h h' (fun b o e=>?_) st
 rw[sb.2 b (cJ (cc e))]
 exact bP _ e
theorem zM2{a c:Addr}{o:Obj}{es:Array (Int×Value)}{ep:Nat}{t:SetTable}{Q:Array (Int×Value)→Shared→Prop}(ho:s.heap.get? a=some o)(hd:o.data=.set es ep t)(hf:t.fits es.size=true)(pl:t.plain=true)(ld:t.led=zAV w)
  (h:∀ xs:Array (Int×Value),xs.toList.Perm es.toList→Q xs s):wpAny (model prog w) A (setWalkUnseen a [c] (some c)) Q E s:=by
 unfold setWalkUnseen
 refine bI (cT ho hd hf (bI (zBm ?_)))
 dsimp only
 have hc:(w.params.followText "set-order"||(t.led&&t.plain)||decide (es.size≤1))=true:=by
  rw[pl,ld]
  unfold HI.zAV
  cases w.params.followText "set-order"<;>rfl
 rw[if_pos hc]
 unfold setWalk
 refine bI (cT ho hd hf (bI (zBm ?_)))
 cases bt:w.params.followText "set-order" with
 | true =>
  simp only[↓reduceIte]
  refine bI (wpAny_askSetting (bS (h _ (zCU _ es))))
 | false =>
  simp only[bJ,↓reduceIte]
  have ld':t.led=true:=by rw[ld];unfold HI.zAV;rw[bt];rfl
  refine eI (fun q=>absurd (show(!t.plain&&decide (es.size>1))=true from q) (by rw[pl];simp)) (fun u0=>?_)
  refine bI (eI (fun q=>absurd q (by rw[ld'];simp)) (fun u0=>bS (bS (h es (.refl _)))))
theorem ST.but{h h':Heap}{a r:Addr}{kys:List (List Int)}(hS:ST prog w P h r kys)(hra:r≠a)(ha:∃ o es ep t,h.get? a=some o∧o.data=.set es ep t)(sb:db a h h'):ST prog w P h' r kys:=by
 obtain⟨o,es,ep,t,h1,h2,h3,h4,h5,h6,h7,h8,h9,h10⟩:=hS
 obtain⟨oa,ea,epa,ta,g1,g2⟩:=ha
 obtain⟨k1,k2⟩:=h5.keep fun c o' its n e1 e2=>by
  rw[sb.2 c (fun q=>by subst q;rw[g1] at e1;cases e1;rw[g2] at e2;cases e2)];exact e1
 exact⟨o,es,ep,t,by rw[sb.2 r hra];exact h1,h2,h3,h4,k1,h6,h7,h8,by rw[k2];exact h9,h10⟩
theorem zM3{ns:List Int}{kys:List (List Int)}(nd:kys.Nodup)(x:List Int):x∈zIE ns kys↔(if x=ns then x∉kys else x∈kys):=by
 unfold zIE
 by_cases hin:ns∈kys
 ·rw[if_pos hin,nd.mem_erase_iff]
  by_cases e:x=ns
  ·subst e;simp[hin]
  ·simp[e]
 ·rw[if_neg hin,cH,cg]
  by_cases e:x=ns
  ·subst e;simp[hin]
  ·simp[e]
theorem zOw{nm:String}{a l:Addr}{K0 kl U:List (List Int)}{Q:Unit→Shared→Prop}(hA:A.units<cLine)(hal:l≠a)(hS:ST prog w P s.heap a K0)(hL:ST prog w P s.heap l kl)(hU:U.length≤60)(u1:∀ x∈K0,x∈U)(u2:∀ x∈kl,x∈U)
  (h:∀ h' kys,db a s.heap h'→ST prog w P h' a kys→(∀ x,x∈kys↔¬ (x∈K0↔x∈kl))→kys.length≤60→Q () { s with heap:=h' }) :
  wpAny (model prog w) A (Builtin.Frozenset.symmetricDifferenceUpdate nm a (.ref l)) Q E s:=by
 obtain⟨o,es,ep,t,h1,h2,h3,h4,h5,h6,h7,h8,h9,h10⟩:=id hL
 obtain⟨oa,ea,epa,ta,g1,g2,g3,u0⟩:=id hS
 unfold Builtin.Frozenset.symmetricDifferenceUpdate
 rw[if_neg (by simpa using hal)]
 refine bI (eS (T:="set") ⟨o,h1,h2.1⟩ ?_)
 rw[if_neg (by decide)]
 refine bI (zHC h1 h2.1 ?_)
 rw[if_pos rfl]
 refine bI (bS (bI (m:=Builtin.Frozenset.addrOf _) (bS ?_)))
 refine bI (wpAny_setEpoch_of h1 h3 (fits_of h4) (cY ?_))
 refine bI (zM2 h1 h3 (fits_of h4) h6 h7 fun xs pm=>?_)
 rw[← Array.forIn_toList]
 have key:∀ e∈xs.toList,∃ c,e=(hT prog w (kyT s.heap e),.ref c)∧TK prog w P s.heap (kyT s.heap e) c:=fun e he=>h5.mem e (pm.mem_iff.mp he)
 have kperm:(xs.toList.map (kyT s.heap)).Perm kl:=(pm.map _).trans h9.symm
 have knd:(xs.toList.map (kyT s.heap)).Nodup:=kperm.nodup_iff.mpr h10
 refine bI (fF _ (fun rest r s'=>∃ done h' kys,xs.toList=done++rest∧s'={ s with heap:=h' }∧db a s.heap h'∧ST prog w P h' a kys∧∀ x,x∈kys↔¬ (x∈K0↔x∈done.map (kyT s.heap))) _ ?_ ?_ _ _ ⟨[],s.heap,K0,rfl,rfl,⟨rfl,fun u0 u0=>rfl⟩,hS,fun x=>by simp⟩)
 ·rintro e rest r s' ⟨done,h',kys,e1,rfl,sb,st,mem⟩
  have he:e∈xs.toList:=by rw[e1];simp
  obtain⟨c,e2,e3⟩:=key e he
  generalize hns:kyT s.heap e=ns at e2 e3
  subst e2
  have e3':TK prog w P h' ns c:=by
   obtain⟨⟨o',i,n,q1,q2,q3,q4⟩,qp⟩:=e3
   exact⟨⟨o',i,n,by rw[sb.2 c (fun q=>by subst q;rw[g1] at q1;cases q1;rw[g3] at q3;cases q3)];exact q1,q2,q3,q4⟩,qp⟩
  have hl':=hL.but hal ⟨oa,ea,epa,ta,g1,g3⟩ sb
  have nd:kys.Nodup:=let ⟨_,_,_,_,_,_,_,_,_,_,_,_,_,q⟩:=st;q
  have sub:∀ x∈kys,x∈U:=fun x hx=>by
   by_cases q:x∈K0
   ·exact u1 x q
   ·have:=(mem x).mp hx
    have:x∈done.map (kyT s.heap):=Classical.byContradiction fun z=>this ⟨fun y=>(q y).elim,fun y=>(z y).elim⟩
    exact u2 x (kperm.mem_iff.mp (by rw[e1,cX];exact dc _ this))
  have len:kys.length≤60:=dh (fB.length_le_of_subset nd sub) hU
  dsimp only
  refine bI (zOu (s:={ s with heap:=h' }) hA st e3' len fun h2 kys2 sb2 st2 p2=>?_)
  unfold Builtin.Frozenset.unchanged
  have g1':h2.get? l=some o:=by rw[sb2.2 l hal,sb.2 l hal];exact h1
  refine bI (bI (wpAny_setEpoch_of (s:={ s with heap:=h2 }) g1' h3 (fits_of h4) ?_))
  rw[if_neg (by simp)]
  refine bS (bS ⟨done++[(hT prog w ns,.ref c)],h2,kys2,by rw[e1];simp,rfl,sb.trans sb2,st2,fun x=>?_⟩)
  have nn:ns∉done.map (kyT s.heap):=fun q=>by
   rw[e1,cX,cM,hns] at knd
   exact(eN.mp knd).2.2 ns q ns (cE) rfl
  rw[p2.mem_iff,zM3 nd,cX,cH,List.map_singleton,hns,cg]
  by_cases e:x=ns
  ·subst e
   rw[if_pos rfl,mem x]
   simp only[nn,or_true,iff_true,iff_false,Classical.not_not,false_or]
  ·rw[if_neg e,mem x]
   simp only[e,or_false]
 ·rintro r s' ⟨done,h',kys,e1,rfl,sb,st,mem⟩
  rw[dY] at e1
  have nd:kys.Nodup:=let ⟨_,_,_,_,_,_,_,_,_,_,_,_,_,q⟩:=st;q
  have mm:∀ x,x∈kys↔¬ (x∈K0↔x∈kl):=fun x=>by rw[mem x,← e1,kperm.mem_iff]
  have sub:∀ x∈kys,x∈U:=fun x hx=>by
   by_cases q:x∈K0
   ·exact u1 x q
   ·have:=(mm x).mp hx
    exact u2 x (Classical.byContradiction fun z=>this ⟨fun y=>(q y).elim,fun y=>(z y).elim⟩)
  exact bS (h h' kys sb st mm (dh (fB.length_le_of_subset nd sub) hU))
end
open HI (Ris wn zAV zDU)
section
variable {prog:Program} {w:World} {P:Addr→Prop} {A:Around} {E:Value→Shared→Prop} {s:Shared}
theorem zM4{h:Heap}:ST prog w P (h.push (wn w)) h.objs.size []:=by
 refine⟨wn w,#[],0,.fresh 0 0 (zAV w),cb _ rfl,⟨rfl,rfl,rfl⟩,rfl,⟨.inl rfl,rfl,dW.nil,dW.nil,fun j hj=>(by simp[eD] at hj),fun j hj=>(by simp[eD] at hj),cW _,fun j h x he=>?_,fun j hj=>(by simp[eD] at hj)⟩,fun i e he=>by simp at he,rfl,rfl,(by show 0*5<7*3;decide),.refl _,List.nodup_nil⟩
 obtain⟨i,e,u0⟩:=he
 simp[eD] at e
theorem zLE{l:Addr}{its:Array Value}{val:Nat→List Int}{Q:Value→Shared→Prop}(hh:A.handled=none)(hA:A.in1.in1.in1.units<cLine)(hl:s.heap.IsList l its)(ht:∀ i v,its[i]?=some v→∃ c,v=.ref c∧TK prog w P s.heap (val i) c)(hb:its.size≤60)
  (h:∀(h':Heap) (tk:Nat) (kys:List (List Int)),ST prog w P h' s.heap.objs.size kys→kys.length≤its.size→(∀ x,x∈kys↔∃ m,m<its.size∧val m=x)→Kp s.heap h'→Q (.ref s.heap.objs.size) { s with heap:=h',toks:=tk }) :
  wpAny (model prog w) A (call (.type "set") [.ref l]) Q E s:=by
 obtain⟨c,tl,hmro⟩:=F.called_set.mro
 have hmade:=F.called_set.made
 have hsub:=F.called_set.sub
 refine wpAny_call (codeAny_of_tree (show wpAny _ _ (callAny (.type "set") _) _ _ _ from bS ⟨Code.quiet_builtin _ (by decide +kernel),dt F.entry_type_call ?_⟩))
 rw[Around.under_plain (weight_type_call_type "set" [.ref l] []) rfl]
 have h1:=F.called_set.notType
 have h2:=F.called_set.canCreate
 have hct:=F.typeCall_set_1 (.ref l)
 (repeat (any_goals (first | assumption | wp_step)))
 refine eh (zDU (.ref l) (E:=E) (Q1:=fun obj z=>obj=.ref s.heap.objs.size∧z={ s with heap:=s.heap.push (wn w) }) ⟨rfl,rfl⟩) fun r z hr=>?_
 cases r with
 | error e=>exact hr
 | ok fl =>
  cases fl with
  | ret obj =>
   obtain⟨rfl,rfl⟩:=hr
   have hT:Shared.TypeIs { s with heap:=s.heap.push (wn w) } (.ref s.heap.objs.size) "set":=⟨_,cb _ rfl,rfl⟩
   have hli:=F.called_set.init.lookup
   have hbi:=F.called_set.init.bind (.ref s.heap.objs.size)
   (repeat (any_goals (first | assumption | wp_step)))
   refine eh (codeAny_call_builtin (R:=wants (fun r z2=>r=.none∧∃ h' tk kys,z2={ s with heap:=h',toks:=tk }∧ST prog w P h' s.heap.objs.size kys∧kys.length≤its.size∧(∀ x,x∈kys↔∃ m,m<its.size∧val m=x)∧Kp s.heap h') E) F.called_set.init.plain F.entry_set_init (check_set_init_1 hT ?_)) fun r2 z2 hr2=>?_
   ·obtain⟨ol,hol,hcl,nl,hdl⟩:=hl
    obtain⟨ocls,odict,odata,oslots⟩:=ol
    simp only at hcl hdl
    subst hcl;subst hdl
    have hol':(s.heap.push (wn w)).get? l=some { cls:=.type "list",dict:=odict,data:=.seq its nl,slots:=oslots }:=bP _ hol
    have hsls:isSubtype (.type "list") (.type "set")=pure false:=by rw[isSubtype_type];kernel_rfl
    have hslf:isSubtype (.type "list") (.type "frozenset")=pure false:=by rw[isSubtype_type];kernel_rfl
    have hne:(Value.type "list"==Value.type "dict")=false:=by decide
    have hl1:(s.heap.push (wn w)).IsList l its:=⟨_,hol',rfl,nl,rfl⟩
    unfold Builtin.«set.__init__» noKeywords Builtin.Frozenset.updateFrom
    generalize hPI:pyIter=PI
    wp_walk
    subst hPI
    refine fu hl1 (bI (wpAny_runValue ?_))
    have lS:l<s.heap.objs.size:=cc hol
    have hh3:A.in1.in1.in1.handled=none:=by simp[hh]
    have neI:l≠(s.heap.push (wn w)).objs.size:=by rw[eG];exact cJ (Nat.lt_succ_of_lt lS)
    have hSf:s.heap.objs.size∉[(s.heap.push (wn w)).objs.size,l]:=by
     rw[eG];simp only[cI,cg,eA,or_false,not_or]
     exact⟨cJ (Nat.lt_succ_self _),Nat.ne_of_gt lS⟩
    have st0:ST prog w P ((s.heap.push (wn w)).push { cls:=.type "list_iterator",data:=.fields #[.ref l,.int 0 0] }) s.heap.objs.size []:=zM4.keep fun b o e=>bP _ e
    refine zGI (h0:=s.heap) (Walks.list hh3 _ l neI its) hA hSf (ff (bZ _)) (fun b hb'=>by
     rw[cg] at hb'
     rw[hb',eG]
     exact ff (eE _)) (fun i h st b hb' o e its n q=>by
     rw[cg] at hb'
     subst hb'
     obtain⟨o2,e2,c2,d2⟩:=st.1
     rw[e2] at e
     cases e
     rw[d2] at q
     cases q) hb ht (its.size-0) 0 _ _ [] (by omega) (cW _) (fun b o e=>bP _ (bP _ e)) ⟨⟨_,cb _ rfl,rfl,rfl⟩,hl1.push _⟩ st0 (bZ _) (fun x=>⟨fun q=>(by simp at q),fun⟨m,q,_⟩=>absurd q (fj _)⟩) ?_
    intro h' tk' kys' kp st len mem
    show wpAny _ _ _ _ _ _
    refine bS ?_
    show wpAny _ _ (ret Value.none) _ _ _
    exact bS ⟨rfl,h',tk',kys',rfl,st,len,mem,kp⟩
   ·cases r2 with
    | error e=>exact hr2
    | ok fl2 =>
     cases fl2 with
     | ret r =>
      obtain⟨rfl,h',tk,kys,rfl,st,len,mem,kp⟩:=hr2
      (repeat (any_goals (first | assumption | wp_step)))
      exact h _ _ kys st len mem kp
     | _=>exact hr2.elim
  | _=>exact hr.elim
theorem zLF{l:Addr}{its:Array Value}{val:Nat→List Int}{Q:Value→Shared→Prop}(hh:A.handled=none)(hA:A.in1.in1.in1.units<cLine)(hl:s.heap.IsTuple l its)(ht:∀ i v,its[i]?=some v→∃ c,v=.ref c∧TK prog w P s.heap (val i) c)(hb:its.size≤60)
  (h:∀(h':Heap) (tk:Nat) (kys:List (List Int)),ST prog w P h' s.heap.objs.size kys→kys.length≤its.size→(∀ x,x∈kys↔∃ m,m<its.size∧val m=x)→Kp s.heap h'→Q (.ref s.heap.objs.size) { s with heap:=h',toks:=tk }) :
  wpAny (model prog w) A (call (.type "set") [.ref l]) Q E s:=by
 obtain⟨c,tl,hmro⟩:=F.called_set.mro
 have hmade:=F.called_set.made
 have hsub:=F.called_set.sub
 refine wpAny_call (codeAny_of_tree (show wpAny _ _ (callAny (.type "set") _) _ _ _ from bS ⟨Code.quiet_builtin _ (by decide +kernel),dt F.entry_type_call ?_⟩))
 rw[Around.under_plain (weight_type_call_type "set" [.ref l] []) rfl]
 have h1:=F.called_set.notType
 have h2:=F.called_set.canCreate
 have hct:=F.typeCall_set_1 (.ref l)
 (repeat (any_goals (first | assumption | wp_step)))
 refine eh (zDU (.ref l) (E:=E) (Q1:=fun obj z=>obj=.ref s.heap.objs.size∧z={ s with heap:=s.heap.push (wn w) }) ⟨rfl,rfl⟩) fun r z hr=>?_
 cases r with
 | error e=>exact hr
 | ok fl =>
  cases fl with
  | ret obj =>
   obtain⟨rfl,rfl⟩:=hr
   have hT:Shared.TypeIs { s with heap:=s.heap.push (wn w) } (.ref s.heap.objs.size) "set":=⟨_,cb _ rfl,rfl⟩
   have hli:=F.called_set.init.lookup
   have hbi:=F.called_set.init.bind (.ref s.heap.objs.size)
   (repeat (any_goals (first | assumption | wp_step)))
   refine eh (codeAny_call_builtin (R:=wants (fun r z2=>r=.none∧∃ h' tk kys,z2={ s with heap:=h',toks:=tk }∧ST prog w P h' s.heap.objs.size kys∧kys.length≤its.size∧(∀ x,x∈kys↔∃ m,m<its.size∧val m=x)∧Kp s.heap h') E) F.called_set.init.plain F.entry_set_init (check_set_init_1 hT ?_)) fun r2 z2 hr2=>?_
   ·obtain⟨ol,hol,hcl,nl,hdl⟩:=hl
    obtain⟨ocls,odict,odata,oslots⟩:=ol
    simp only at hcl hdl
    subst hcl;subst hdl
    have hol':(s.heap.push (wn w)).get? l=some { cls:=.type "tuple",dict:=odict,data:=.seq its nl,slots:=oslots }:=bP _ hol
    have hsls:isSubtype (.type "tuple") (.type "set")=pure false:=by rw[isSubtype_type];kernel_rfl
    have hslf:isSubtype (.type "tuple") (.type "frozenset")=pure false:=by rw[isSubtype_type];kernel_rfl
    have hne:(Value.type "tuple"==Value.type "dict")=false:=by decide
    have hl1:(s.heap.push (wn w)).IsTuple l its:=⟨_,hol',rfl,nl,rfl⟩
    unfold Builtin.«set.__init__» noKeywords Builtin.Frozenset.updateFrom
    generalize hPI:pyIter=PI
    wp_walk
    subst hPI
    refine wpAny_pyIter_tuple hl1 (bI (wpAny_runValue ?_))
    have lS:l<s.heap.objs.size:=cc hol
    have hh3:A.in1.in1.in1.handled=none:=by simp[hh]
    have neI:l≠(s.heap.push (wn w)).objs.size:=by rw[eG];exact cJ (Nat.lt_succ_of_lt lS)
    have hSf:s.heap.objs.size∉[(s.heap.push (wn w)).objs.size,l]:=by
     rw[eG];simp only[cI,cg,eA,or_false,not_or]
     exact⟨cJ (Nat.lt_succ_self _),Nat.ne_of_gt lS⟩
    have st0:ST prog w P ((s.heap.push (wn w)).push { cls:=.type "tuple_iterator",data:=.fields #[.ref l,.int 0 0] }) s.heap.objs.size []:=zM4.keep fun b o e=>bP _ e
    refine zGI (h0:=s.heap) (Walks.tuple hh3 _ l neI its) hA hSf (ff (bZ _)) (fun b hb'=>by
     rw[cg] at hb'
     rw[hb',eG]
     exact ff (eE _)) (fun i h st b hb' o e its n q=>by
     rw[cg] at hb'
     subst hb'
     obtain⟨o2,e2,c2,d2⟩:=st.1
     rw[e2] at e
     cases e
     rw[d2] at q
     cases q) hb ht (its.size-0) 0 _ _ [] (by omega) (cW _) (fun b o e=>bP _ (bP _ e)) ⟨⟨_,cb _ rfl,rfl,rfl⟩,hl1.push _⟩ st0 (bZ _) (fun x=>⟨fun q=>(by simp at q),fun⟨m,q,_⟩=>absurd q (fj _)⟩) ?_
    intro h' tk' kys' kp st len mem
    show wpAny _ _ _ _ _ _
    refine bS ?_
    show wpAny _ _ (ret Value.none) _ _ _
    exact bS ⟨rfl,h',tk',kys',rfl,st,len,mem,kp⟩
   ·cases r2 with
    | error e=>exact hr2
    | ok fl2 =>
     cases fl2 with
     | ret r =>
      obtain⟨rfl,h',tk,kys,rfl,st,len,mem,kp⟩:=hr2
      (repeat (any_goals (first | assumption | wp_step)))
      exact h _ _ kys st len mem kp
     | _=>exact hr2.elim
  | _=>exact hr.elim
end
open HI (Ris Sx Tells zCD zH8 zJ6 zIA zBm zA0 zH7 zFB zD6 zCU zFC)
section
variable {prog:Program} {w:World} {P:Addr→Prop} {A:Around} {E:Value→Shared→Prop} {s:Shared}
theorem zSR{a it:Addr}{es:Array (Int×Value)}{ep:Nat}{t:SetTable}{sl:Nat→Nat}{xs:List Value}(hh:A.handled=none)(T:Tells prog w a es ep t sl xs)(hf:t.fits es.size=true)(hx:xs.length=es.size)(hne:a≠it) :
  Walks prog w A it [it,a] [it] es.size (fun i v=>xs[i]?=some v) (fun i h=>h.get? it=some (zCD (rawInt (sl i)) i a es.size ep)∧Sx h a es ep t) where
 sub:=fun b hb=>by simp at hb ⊢;exact .inl hb
 frame:=fun i h h' st k=>⟨k it (by simp) _ st.1,st.2.keep fun o e=>k a (by simp) o e⟩
 item:=fun i s Q E hi st hQ=>zH8 T hf hx hi st.1 st.2 hne fun h' v hxv e kp=>hQ _ h' s.toks hxv ⟨e,st.2.keep fun o q=>kp a o hne q⟩ fun b o hb q=>kp b o (by simpa using hb) q
 done:=fun s Q E st hQ=>zJ6 hh T hf hx st.1 st.2 fun h' kp=>hQ h' s.toks fun b o hb q=>kp b o (by simpa using hb) q
 self:=fun i s Q E st hQ=>zIA st.1 hQ
noncomputable def Mem(prog:Program)(w:World)(P:Addr→Prop)(h:Heap)(xs:List Value)(kys:List (List Int)):Prop:=(∀ v∈xs,∃ c ns,v=.ref c∧TK prog w P h ns c)∧(xs.map fun v=>kyT h (0,v)).Perm kys
theorem zLG{a:Addr}{kys:List (List Int)}{Q:Value→Shared→Prop}(hS:ST prog w P s.heap a kys)
  (h:∀(h1:Heap) (it:Addr) (fp:List Addr) (St:Nat→Heap→Prop) (xs:List Value),(∀ b o,s.heap.get? b=some o→h1.get? b=some o)→(∀ b∈fp,b=a∨s.heap.objs.size≤b)→s.heap.objs.size≤it →
   (∀ B:Around,B.handled=none→Walks prog w B it fp [it] xs.length (fun i v=>xs[i]?=some v) St)→St 0 h1→Mem prog w P s.heap xs kys→xs.length=kys.length→Q (.ref it) { s with heap:=h1 }):wpAny (model prog w) A (pyIter (.ref a)) Q E s:=by
 obtain⟨o,es,ep,t,ho,hex,hd,T0,ok,pl,hl,fl,pk,nd⟩:=hS
 have hf:=fits_of T0
 have hr:=T0.ris
 have hT:s.TypeIs (.ref a) "set":=⟨o,ho,hex.1⟩
 have la:a<s.heap.objs.size:=cc ho
 refine wpAny_pyIter_slot hT F.slot_set_iter (dP F.slot_set_iter hT zH7 ?_ (F.args_set_iter_1 _))
 unfold Builtin.«frozenset.__iter__» Builtin.Frozenset.slot0
 refine bI (m:=do Builtin.Frozenset.addrOf (← slotArgs "__iter__" 0 _).1) (show wpAny _ _ (pure a) _ _ _ from bS ?_)
 unfold Builtin.Frozenset.sizeOf
 refine bI (bI (wpAny_setEntries_of ho hd hf (bS ?_)))
 unfold setDrawn
 refine bI (bI (cT ho hd hf (bI (zBm (bS ?_)))))
 dsimp only
 have fin:∀(sl:Nat→Nat) (xs:List Value),sl 0=0→Tells prog w a es ep t sl xs→xs.Perm (es.toList.map (·.2))→wpAny (model prog w) A.in1 (do let e ← setEpoch a;let r ← newFields "set_iterator" [rawInt 0,rawInt 0,.ref a,rawInt es.size,rawInt e];ret r) (fun fin s'=>∃ v,fin=.done (.ret v)∧∃ T' r,s'.TypeIs v T'∧typeLookup (.type T') "__next__"=pure (some r)∧Q v s') E s:=fun sl xs h0 T pm=>by
  have hx:xs.length=es.size:=by rw[pm.length_eq];simp
  refine bI (wpAny_setEpoch_of ho hd hf (bI (df (bS ⟨_,rfl,"set_iterator",_,⟨_,cb _ rfl,rfl⟩,zA0.lookup,?_⟩))))
  refine h (s.heap.push (zCD (rawInt 0) 0 a es.size ep)) s.heap.objs.size [s.heap.objs.size,a] (fun i h=>h.get? s.heap.objs.size=some (zCD (rawInt (sl i)) i a es.size ep)∧Sx h a es ep t) xs (fun b o e=>bP _ e) (fun b hb=>?_) (bZ _) (fun B hB=>by rw[hx];exact zSR hB T hf hx (cJ la)) ⟨?_,⟨o,bP _ ho,hex,hd⟩⟩ ⟨fun v hv=>?_,?_⟩ ?_
  ·simp only[cI,eA,or_false] at hb
   rcases hb with e | e
   ·exact .inr (Nat.le_of_eq e.symm)
   ·exact .inl e
  ·rw[h0];exact cb _ rfl
  ·obtain⟨e,he,rfl⟩:=bY.mp (pm.mem_iff.mp hv)
   obtain⟨c,e1,e2⟩:=ok.mem e he
   exact⟨c,_,by rw[e1],e2⟩
  ·refine(pm.map _).trans ?_
   rw[da]
   exact pk.symm
  ·rw[hx]
   have:=pk.length_eq
   simp at this
   omega
 cases bt:w.params.followText "set-order" with
 | true =>
  rw[if_neg (by simp)]
  exact fin (fun u0=>0) _ rfl (zFB hf bt) ((zCU (w.params.setOrder a ep) es).map _)
 | false =>
  have hl':t.led=true:=by rw[hl];unfold HI.zAV;rw[bt];rfl
  have hp:(!t.plain&&decide (es.size>1))=false:=by rw[pl];rfl
  refine eI (fun q=>absurd q (show ¬ (!false&&(!t.plain&&decide (es.size>1)))=true by rw[hp];simp)) (fun u0=>?_)
  exact fin _ _ rfl (zD6 hf hr bt hl' hp) (.refl _)
end
open HI (zFC)
open HS (TI tAt ltI zDq)
section
variable {prog:Program} {w:World} {P:Addr→Prop} {A:Around} {E:Value→Shared→Prop} {s:Shared}
theorem zJL{ns:List Int}{vs:List Value}(h:ItemsAre (intKind prog w) ns vs):IntsAre vs ns:=by
 induction h with
 | nil=>exact .nil
 | cons h1 _ ih =>
  obtain⟨t,rfl⟩:=Value.isInt_shape h1
  exact .cons _ _ ih
theorem zIF{R:Result→Shared→Prop}{a:Addr}{kys:List (List Int)}(hh:A.handled=none)(hS:ST prog w P s.heap a kys)(hlen:kys.length≤1000)(L:Addr)(res:Value)(c0:Nat)(hL:s.heap.get? L=some { cls:=.type "list",data:=.seq #[] c0 })
  (hR:∀ h' tk acc c,(∀ b o,b≠L→s.heap.get? b=some o→h'.get? b=some o)→h'.get? L=some { cls:=.type "list",dict:=none,data:=.seq acc c,slots:=#[] }→Mem prog w P s.heap acc.toList kys→acc.size=kys.length→R (.ok (.ret res)) { s with heap:=h',toks:=tk }) :
  wpAny (model prog w) A.in1 (Builtin.List.listExtendWith (.ref L) (.ref a) res)
   (fun fin s'=>match fin with | .done f=>R (.ok f) s' | .again c'=>c'.quiet=true∧codeAny (model prog w) A c' R s') (fun e s'=>R (.error e) s') s:=by
 obtain⟨o,es,ep,t,ho,hex,hrest⟩:=id hS
 have La:L≠a:=fun e=>by rw[e,ho] at hL;cases hL;have:=hex.1;simp at this
 have lL:L<s.heap.objs.size:=cc hL
 unfold Builtin.List.listExtendWith
 refine bI (eS (T:="set") ⟨o,ho,hex.1⟩ ?_)
 have h1:Builtin.List.listSameRef (.ref L) (.ref a)=false:=by simp[Builtin.List.listSameRef,La]
 have h2:(Value.type "set"==Value.type "list")=false:=by decide
 have h3:(Value.type "set"==Value.type "tuple")=false:=by decide
 simp only[h1,h2,h3,Bool.or_false,bJ,if_false]
 refine bI (zLG hS fun g it fp St xs kp hfp hit W st me xl=>?_)
 have hSf:L∉fp:=fun q=>by
  rcases hfp L q with e | e
  ·exact La e
  ·exact absurd lL (Nat.not_lt.mpr e)
 have W1:=(W A.in1 (by simpa using hh)).toS
 refine bI (cY (zFC (s:={ s with heap:=g }) (kp a o ho) hex.1 ?_))
 have hL1:=kp L _ hL
 refine eI (fun u0=>?_) (fun q=>absurd (by decide +kernel) q)
 refine bI (wpAny_rule (bI ?_))
 show wpAny _ _ (updateSeq L (·.push .none)>>=fun u0=>updateSeq L (·.pop)) _ _ _
 refine bI (wpAny_updateSeq hL1 rfl ?_)
 have hL2:=eC (Obj.mapSeq (·.push Value.none)) hL1 rfl
 refine wpAny_updateSeq (hz:=by seq_fits) hL2 rfl ?_
 have hL3:=eC (Obj.mapSeq (·.pop)) hL2 rfl
 refine bS ⟨plainId_quiet F.plain_extend_loop _,?_⟩
 have old:∀ b ob,b≠L→g.get? b=some ob→((g.update L (Obj.mapSeq (·.push Value.none))).update L (Obj.mapSeq (·.pop))).get? b=some ob:=fun b ob hb e=>by
  rw[eT _ _ _ _ hb,eT _ _ _ _ hb];exact e
 refine codeAny_extend_loopS W1 (by rw[sizeLine_eq];omega) L hSf res xs.length 0 _ #[] _ rfl (cW _) ?_ hL3 (ItemsOf.nil _) fun s' acc c hm hL' hacc=>?_
 ·exact(W A.in1 (by simpa using hh)).frame 0 _ _ st fun b hb ob e=>old b ob (fun z=>hSf (by rw[← z];exact hb)) e
 ·have ea:acc.toList=xs:=by
   refine List.ext_getElem (by simp[hacc.1]) fun i h1 h2=>?_
   have hi:i<acc.size:=by simpa using h1
   have:xs[i]?=some acc[i]:=hacc.2 i acc[i] (getElem?_pos acc i hi)
   rw[dM h2] at this
   have:=Option.some.inj this
   rw[this]
   simp
  rw[Moved.eq_with hm]
  refine hR s'.heap s'.toks acc c (fun b ob hb e=>hm.heap b ob (fun hmem=>?_) (old b ob hb (kp b ob e))) hL' (by rw[ea];exact me) (by rw[hacc.1];exact xl)
  rcases cI.mp hmem with e' | hmem
  ·exact hb e'
  ·exact absurd (cc e) (by rw[cg.mp hmem];exact Nat.not_lt.mpr hit)
theorem zHD{a:Addr}{kys:List (List Int)}{Q:List Value→Shared→Prop}(hh:A.handled=none)(hS:ST prog w P s.heap a kys)(hlen:kys.length≤1000)
  (hQ:∀ h' tk vs,(∀ b o,s.heap.get? b=some o→h'.get? b=some o)→s.heap.objs.size≤h'.objs.size→Mem prog w P s.heap vs kys→vs.length=kys.length→Q vs { s with heap:=h',toks:=tk }):wpAny (model prog w) A (collect (.ref a)) Q E s:=by
 unfold collect
 refine bI (wpAny_runValue (dt PySem.F.entry_proto_collect ?_))
 rw[Around.under_plainId PySem.F.plain_proto_collect _]
 show wpAny _ A.in1 (newList []>>=fun l=>again (.builtin "list.__iadd__" ⟨[l,.ref a],[]⟩)) _ _ s
 refine bI (df (bS ⟨plainId_quiet PySem.F.plain_list_iadd _,dt PySem.F.entry_list_iadd ?_⟩))
 rw[Around.under_plainId PySem.F.plain_list_iadd _]
 show wpAny _ A.in1 (Builtin.List.listExtendWith (.ref s.heap.objs.size) (.ref a) (.ref s.heap.objs.size)) _ _ _
 have hL:(s.heap.push { cls:=.type "list",data:=.seq ([]:List Value).toArray }).get? s.heap.objs.size=some { cls:=.type "list",data:=.seq #[] 0 }:=cb _ rfl
 have memb:∀ {vs:List Value},Mem prog w P (s.heap.push { cls:=.type "list",data:=.seq ([]:List Value).toArray }) vs kys→Mem prog w P s.heap vs kys:=fun {vs} m=>by
  have back:∀ {ns c},TK prog w P (s.heap.push { cls:=.type "list",data:=.seq ([]:List Value).toArray }) ns c→TK prog w P s.heap ns c:=fun {ns c} q=>by
   obtain⟨⟨ob,its,n,e,hc,r⟩,qp⟩:=q
   refine⟨⟨ob,its,n,?_,hc,r⟩,qp⟩
   by_cases z:c=s.heap.objs.size
   ·rw[z,cb _ rfl] at e
    cases e
    simp at hc
   ·rw[Heap.get?_push_ne _ _ _ z] at e
    exact e
  refine⟨fun v hv=>?_,?_⟩
  ·obtain⟨c,ns,rfl,q⟩:=m.1 v hv
   exact⟨c,ns,rfl,back q⟩
  ·refine eQ.trans (.of_eq (em fun v hv=>?_)) m.2
   obtain⟨c,ns,rfl,q⟩:=m.1 v hv
   rw[zCn (back q),zCn q]
 let Pst:Result→Shared→Prop:=fun res s'=>∃(h':Heap) (tk:Nat) (acc:Array Value) (c:Nat),res=.ok (.ret (.ref s.heap.objs.size))∧s'={ s with heap:=h',toks:=tk }∧(∀ b o,s.heap.get? b=some o→h'.get? b=some o)∧h'.get? s.heap.objs.size=some { cls:=.type "list",dict:=none,data:=.seq acc c,slots:=#[] }∧Mem prog w P s.heap acc.toList kys∧acc.size=kys.length
 refine fw (zIF (A:=A) (R:=Pst) (s:={ s with heap:=s.heap.push { cls:=.type "list",data:=.seq ([]:List Value).toArray } }) hh (hS.keep fun b o e=>bP _ e) hlen s.heap.objs.size (.ref s.heap.objs.size) 0 hL fun h' tk acc c kp q1 q2 q3=>?_) (fun fin s' h=>?_) (fun e s' h=>?_)
 ·exact⟨h',tk,acc,c,rfl,rfl,fun b o e=>kp b o (cJ (cc e)) (bP _ e),q1,memb q2,q3⟩
 ·have fin':∀ {r' s''},Pst r' s''→wpAny (model prog w) A (match Value.ref s.heap.objs.size with
     | Value.ref a=>do
      match (← load a).data with
       | Data.seq xs _=>pure xs.toList
       | _=>unsupported "internal:collect"
     | _=>unsupported "internal:collect") Q E s'':=by
   rintro r' s'' ⟨h',tk,acc,c,rfl,rfl,kp,q1,q2,q3⟩
   show wpAny _ A (load s.heap.objs.size>>=_) _ _ _
   exact bI (wpAny_load q1 (bS (hQ h' tk _ kp (ej (cc q1)) q2 (by simpa using q3))))
  cases fin with
  | done f =>
   have hf:=h
   obtain⟨h',tk,acc,c,e,u0⟩:=h
   cases e
   exact fin' hf
  | again c'=>exact⟨h.1,eh h.2 fun r s'' hr=>by
    have hf:=hr
    obtain⟨h',tk,acc,c,e,u0⟩:=hr
    subst e
    exact fin' hf⟩
 ·obtain⟨u0,u0,u0,u0,e,u0⟩:=h
  cases e
theorem zIG{a:Addr}{kys:List (List Int)}{Q:Value→Shared→Prop}(hh:A.handled=none)(hS:ST prog w P s.heap a kys)(h64:kys.length<64)(hne:∀ ns∈kys,ns≠[])
  (h:∀ h' tk l (out:List Value) e,(∀ b o,s.heap.get? b=some o→h'.get? b=some o)→s.heap.objs.size≤l→h'.get? l=some (seqObj "list" out.toArray e)→Mem prog w P s.heap out kys→(out.map fun v=>kyT s.heap (0,v)).Pairwise (fun a b=>ltI b a=false)→Q (.ref l) { s with heap:=h',toks:=tk }) :
  wpAny (model prog w) A (call (.builtin "sorted") [.ref a]) Q E s:=by
 refine Calls.call_function_entry kind_sorted plain_sorted entry_sorted (args_sorted1 _) ?_
 unfold Builtin.«sorted»
 refine bI (m:=checkCount "sorted" 1 1 _) (bS (bI (zHD (by simpa using hh) hS (by omega) fun g tk vs kp lg me vl=>bI (wpAny_newList ?_ (by rw[sizeLine_eq];omega)))))
 have hoL:(g.push (seqObj "list" vs.toArray 0)).get? g.objs.size=some (seqObj "list" vs.toArray 0):=cb _ rfl
 have up:∀ b o,s.heap.get? b=some o→(g.push (seqObj "list" vs.toArray 0)).get? b=some o:=fun b o e=>bP _ (kp b o e)
 show wpAny _ _ _ _ _ { s with heap:=g.push (seqObj "list" vs.toArray 0),toks:=tk }
 have ti:∀ v∈vs,TI (g.push (seqObj "list" vs.toArray 0)) v (kyT s.heap (0,v))∧v≠.ref g.objs.size:=fun v hv=>by
  obtain⟨c,ns,rfl,q⟩:=me.1 v hv
  have ek:=zCn q 0
  rw[ek]
  obtain⟨⟨o,its,n,e,hc,hd,hi⟩,u0⟩:=q
  refine⟨⟨⟨c,o,its,n,rfl,up c o e,hc,hd,zJL hi⟩,hne ns (me.2.mem_iff.mp (bY.mpr ⟨_,hv,ek⟩))⟩,fun z=>?_⟩
  cases z
  exact absurd (cc (kp _ _ e)) (dG _)
 refine bI (cY (dP slot_list_sort ⟨_,hoL,rfl⟩ entry_list_sort (zDq (s:={ s with heap:=g.push (seqObj "list" vs.toArray 0),toks:=tk }) hoL (fun v hv=>⟨⟨_,(ti v hv).1⟩,(ti v hv).2⟩) (by omega) fun out a2 a3=>⟨_,rfl,bS ⟨_,rfl,?_⟩⟩) (args_list_sort _)))
 have at1:((g.push (seqObj "list" vs.toArray 0)).update g.objs.size (Obj.mapSeq fun u0=>#[])).get? g.objs.size=some (seqObj "list" #[] _):=get?_update_seq hoL (fun u0=>#[])
 have at2:((((g.push (seqObj "list" vs.toArray 0)).update g.objs.size (Obj.mapSeq fun u0=>#[])).push (seqObj "tuple" vs.toArray 0)).push (seqObj "list" #[] 0)).get? g.objs.size=some (seqObj "list" #[] _):=bP _ (bP _ at1)
 have at3:=get?_update_seq at2 (fun u0=>out)
 refine h _ tk g.objs.size out.toList _ (fun b o e=>?_) lg at3 ⟨fun v hv=>me.1 v (a2.mem_iff.mp hv),(a2.map _).trans me.2⟩ ?_
 ·have hb:b≠g.objs.size:=cJ (cc (kp b o e))
  unfold sortedHeap
  rw[eT _ _ _ _ hb]
  exact bP _ (bP _ (by rw[eT _ _ _ _ hb];exact bP _ (kp b o e)))
 ·rw[eF]
  intro i j hi hj ij
  have hj':j<out.size:=by simpa using hj
  have hi':i<out.size:=by omega
  have q:=a3 i j (ej ij) hj'
  have gt:∀ k,(hk:k<out.size)→(tAt (g.push (seqObj "list" vs.toArray 0)) (out.getD k .none)).getD []=kyT s.heap (0,out[k]):=fun k hk=>by
   have e:out.getD k .none=out[k]:=by simp[eR,hk]
   rw[e,(ti out[k] (a2.mem_iff.mp (by simp))).1.items]
   rfl
  rw[gt i hi',gt j hj'] at q
  simpa using q
end
theorem zM5:entryFor table "set.__xor__"=some Builtin.«frozenset.__xor__»:=entryFor_alias (id':="frozenset.__xor__") (by kernel_rfl) (by first | rfl | decide +kernel) (by decide +kernel) (by kernel_rfl)
section
variable {prog:Program} {w:World} {P:Addr→Prop} {A:Around} {E:Value→Shared→Prop} {s:Shared}
theorem zM6{l r:Addr}{kl kr U:List (List Int)}{Q:Value→Shared→Prop}(hA:A.in1.units<cLine)(hL:ST prog w P s.heap l kl)(hR:ST prog w P s.heap r kr)(hU:U.length≤60)(u1:∀ x∈kl,x∈U)(u2:∀ x∈kr,x∈U)
  (h:∀ h' kys,(∀ b o,s.heap.get? b=some o→h'.get? b=some o)→ST prog w P h' s.heap.objs.size kys→(∀ x,x∈kys↔¬ (x∈kr↔x∈kl))→kys.length≤60→Q (.ref s.heap.objs.size) { s with heap:=h' }) :
  wpAny (model prog w) A (binaryOp .BitXor (.ref l) (.ref r)) Q E s:=by
 obtain⟨ol,esl,epl,tl,l1,l2,l3,l4,u0⟩:=id hL
 obtain⟨or,esr,epr,tr,r1,r2,r3,r4,u0⟩:=id hR
 have hTl:s.TypeIs (.ref l) "set":=⟨ol,l1,l2.1⟩
 have hTr:s.TypeIs (.ref r) "set":=⟨or,r1,r2.1⟩
 have ll:l<s.heap.objs.size:=cc l1
 have lr:kr.length≤60:=by
  have nd:kr.Nodup:=let ⟨_,_,_,_,_,_,_,_,_,_,_,_,_,q⟩:=hR;q
  exact dh (fB.length_le_of_subset nd u2) hU
 refine wpAny_binaryOp_same hTl hTr F.fills_set_xor F.slot_set_xor (dP F.slot_set_xor hTl zM5 ?_ (F.args_set_xor_2 _ _))
 show wpAny _ _ (Builtin.Frozenset.slot1 "__xor__" ⟨[.ref l,.ref r],[]⟩>>=_) _ _ _
 refine bI (m:=Builtin.Frozenset.slot1 "__xor__" _) (show wpAny _ _ (pure (Value.ref l,Value.ref r)) _ _ _ from bS ?_)
 dsimp only
 simp only[bJ,↓reduceIte]
 unfold andM
 refine bI (bI (zHC l1 l2.1 ?_))
 refine zHC r1 r2.1 ?_
 simp only[fr,bJ,↓reduceIte]
 refine bI (m:=Builtin.Frozenset.addrOf _) (bS ?_)
 refine bI ?_
 show wpAny _ _ (Builtin.Frozenset.baseOf l>>=_) _ _ _
 unfold Builtin.Frozenset.baseOf
 refine bI (bI (wpAny_isInstance (T:="set") (b:=true) hTl zM0 (bS ?_)))
 simp only[↓reduceIte]
 refine bI (zM1 hR lr fun h1 kp st=>?_)
 have hL1:ST prog w P h1 l kl:=hL.keep kp
 show wpAny _ _ (holding [Value.ref s.heap.objs.size] (Builtin.Frozenset.symmetricDifferenceUpdate _ s.heap.objs.size (.ref l))>>=_) _ _ _
 refine bI (cY (zOw (s:={ s with heap:=h1 }) hA (cJ ll) st hL1 hU u2 u1 fun h2 kys sb st2 mem len=>?_))
 refine bS (bS ⟨_,rfl,by simp,h h2 kys (fun b o e=>?_) st2 mem len⟩)
 rw[sb.2 b (cJ (cc e))]
 exact kp b o e
end
end HT2
namespace L2
theorem zRR{X:Cx}{pins:List (Addr×Obj)}{σ:St}{H:Hp}{s:Shared}{i:Nat}{x:Str}{pos:Pos}{v:V}{Q:Value→Shared→Prop}(hN:X.N[i]?=some x)(hv:Vis X.env.scope x)(I:zX X pins σ H s)(e:σ[i]?=some (some v))(h:∀ u,RelV v u→Q u s)
  (hd:(x==("__debug__":Str))=false:=by decide) (hcd:(x==("__classdict__":Str))=false:=by decide):wpAny (model X.prog X.w) X.A (eval (.Name x pos) X.env) Q X.xe s:=by
 obtain⟨m,hn,hl⟩:=I.loc
 obtain⟨u,r,l⟩:=hl i x v hN e hv
 have fin:=h u r
 rcases l with ⟨hk,hm⟩ | ⟨hk,c,hc,hcell⟩
 ·exact wpAny_Name (wpAny_loadName_local I.ok.kind hk hn hm fin) hd
 ·rcases hk with hk | hk
  ·exact wpAny_Name (wpAny_loadName_cell I.ok.kind hk hc hcell fin) hd
  ·exact wpAny_Name (wpAny_loadName_free I.ok.kind hk hc hcell fin hcd) hd
end L2
namespace L3
open L2 HT2 HS
theorem zM7{prog:Program}{w:World}{ns:List Int}{vs:List Value}(h:IntsAre vs ns):ItemsAre (intKind prog w) ns vs:=by
 induction h with
 | nil=>exact .nil
 | cons n t _ ih=>exact .cons (intKind_is _ _ _ _) ih
section
variable {X:Cx} {pins:List (Addr×Obj)} {σ:L2.St} {H:Hp} {s:Shared}
noncomputable def Pd(K:PySem.W.Frag)(H:Hp)(c:Addr):Prop:=∃ ms,zQ K H (tI ms) (.ref c)
theorem zP0(I:zX X pins σ H s){ns:List Int}{c:Addr}(d:zQ X.K H (tI ns) (.ref c)):TK X.prog X.w (Pd X.K H) s.heap ns c:=by
 refine⟨?_,ns,d⟩
 unfold tI zQ at d
 obtain⟨a,zs,e,hs,hd⟩:=d
 cases e
 have hz:=hd.ints_inv
 subst hz
 obtain⟨its,rv,⟨o,h1,h2,n,h3⟩,u0⟩:=I.tuple hs
 exact⟨o,its.toArray,n,h1,h2,h3,zM7 (by simpa using intsAre_of rv)⟩
theorem zM8(I:zX X pins σ H s){nss:List (List Int)}{ys:List V}{its:List Value}(d:Dens X.K H (nss.map tI) ys)(rv:za ys its):∀ i v,its.toArray[i]?=some v→∃ c,v=.ref c∧TK X.prog X.w (Pd X.K H) s.heap (nss.getD i []) c:=fun i v hv=>by
 have hv:its[i]?=some v:=by simpa using hv
 have hi:=(bW.mp hv).1
 have l1:=rv.length
 have l2:=d.length
 rw[bU] at l2
 have hn:i<nss.length:=by omega
 obtain⟨y,e1,e2⟩:=d.get (i:=i) (d:=tI nss[i]) (by rw[cC];simp[hn])
 obtain⟨u,e3,e4⟩:=rv.get e1
 rw[hv] at e3
 cases e3
 have e5:=e2
 unfold tI zQ at e5
 obtain⟨a,zs,rfl,u0,u0⟩:=e5
 cases (show v=Value.ref a from e4)
 have eg:nss.getD i []=nss[i]:=by simp[cP,hn]
 rw[eg]
 exact⟨a,rfl,zP0 I e2⟩
theorem zSS{h:Heap}(I:zX X pins σ H s):∀ {out:List Value},(∀ v∈out,∃ c ns,v=.ref c∧TK X.prog X.w (Pd X.K H) s.heap ns c)→∃ ys:List V,za ys out∧Dens X.K H ((out.map fun v=>kyT s.heap (0,v)).map tI) ys
 | [],_=>⟨[],.nil,.nil⟩
 | v::out,hh=>by
  obtain⟨ys,r,d⟩:=zSS (h:=h) I (out:=out) fun v hv=>hh v (ck _ hv)
  obtain⟨c,ns,rfl,tk⟩:=hh v cE
  obtain⟨ms,dm⟩:=tk.2
  have:=(zP0 I dm).1.inj tk.1
  subst this
  refine⟨.ref c::ys,.cons rfl r,?_⟩
  simp only[cM]
  rw[zCn tk 0]
  exact .cons dm d
end
noncomputable def tXS(K:PySem.W.Frag)(j:Nat)(t:TA):TE:=fun σ H Q=>t σ H fun vs H1=>∃(p:Addr) (ys:List V) (nl:List (List Int)) (q:Addr) (zs:List V) (nr U:List (List Int)),vs=[.ref p]∧SqT K H1 p ys∧Dens K H1 (nl.map tI) ys∧σ[j]?=some (some (.ref q))∧SqL K H1 q zs∧Dens K H1 (nr.map tI) zs∧nl.length≤60∧nr.length≤60∧U.length≤60∧(∀ x∈nl,x∈U)∧(∀ x∈nr,x∈U)∧(∀ x∈U,x≠[]) ∧
 ∀(l:Addr) (ys':List V) (nss':List (List Int)),H1 l=none→nss'.Nodup→(∀ x,x∈nss'↔¬ (x∈nr↔x∈nl))→nss'.Pairwise (fun a b=>ltI b a=false)→Dens K H1 (nss'.map tI) ys'→Q (.ref l) (wj H1 l (.lst ys'))
theorem zJM{X:Cx}{e:Expr}{x:Str}{j:Nat}{t:TA}{p p1 p2 p3 pos pos1 pos2 pos3:Pos}{k:Nat}(hr:wB k X.A)(hc:X.calm=true)(hg:Gl X "sorted")(hm:X.mg "sorted"=none)(hg2:Gl X "set")(hm2:X.mg "set"=none)(ha:PA X [e] t)(hN:X.N[j]?=some x)(hv:Vis X.env.scope x)(hd:(x==("__debug__":Str))=false)(hcd:(x==("__classdict__":Str))=false)
  (he:starEach [.BinOp (.Call (.Name "set" p1) [e] [] pos1) .BitXor (.Call (.Name "set" p2) [.Name x p3] [] pos2) pos3] X.env=(false,eval (.BinOp (.Call (.Name "set" p1) [e] [] pos1) .BitXor (.Call (.Name "set" p2) [.Name x p3] [] pos2) pos3) X.env)::starEach [] X.env) (hpl:(backTo pos (starEach [] X.env)).any (·.1)=false)
  (he1:starEach [e] X.env=(false,eval e X.env)::starEach [] X.env) (hpl1:(backTo pos1 (starEach [] X.env)).any (·.1)=false)
  (he2:starEach [.Name x p3] X.env=(false,eval (.Name x p3) X.env)::starEach [] X.env) (hpl2:(backTo pos2 (starEach [] X.env)).any (·.1)=false) :
  PE X (.Call (.Name "sorted" p) [.BinOp (.Call (.Name "set" p1) [e] [] pos1) .BitXor (.Call (.Name "set" p2) [.Name x p3] [] pos2) pos3] [] pos) (tXS X.K j t):=by
 intro pins s σ H Q I h
 have hu:=hr.units
 have uA:∀ n,n≤50→X.A.units+n<cLine:=fun n hn=>by omega
 refine eX (zBb I hg hm boot_sorted (PyProof.Rows.callWith_builtin1 ?_ he hpl))
 rw[he]
 refine Calls.spliced_cons (wpAny_BinOp (eX (zBb I hg2 hm2 boot_set (PyProof.Rows.callWith_type1 (yi (ha pos1 pins s σ H _ I h) fun us s1 ⟨vs,H1,I1,r1,q1⟩=>?_) he1 hpl1))))
 obtain⟨p0,ys,nl,q,zs,nr,U,rfl,hp,dl,hj,hq,dr,n1,n2,nu,ul,ur,une,fin⟩:=q1
 obtain⟨u,rfl,rx⟩:=vals1 r1
 cases rx
 obtain⟨its,rv,pt,u0⟩:=I1.tuple hp
 have l1:=rv.length
 have l2:=dl.length
 rw[bU] at l2
 refine zLF (P:=Pd X.K H1) (val:=fun i=>nl.getD i []) (I1.ok.hd hc) (by show X.A.units+3<cLine;exact uA 3 (by omega)) (show s1.heap.IsTuple p0 its.toArray from pt) (zM8 I1 dl rv) (by rw[cj];omega) fun h1 tk1 kl stl u0 meml kp1=>?_
 have I2:zX X pins σ H1 { s1 with heap:=h1,toks:=tk1 }:=I1.kept (t':=tk1) kp1
 refine eX (zBb I2 hg2 hm2 boot_set (PyProof.Rows.callWith_type1 ?_ he2 hpl2))
 rw[he2]
 refine Calls.spliced_cons (zRR hN hv I2 hj (fun u ru=>Calls.spliced_nil ?_) hd hcd)
 cases ru
 obtain⟨its2,rv2,pl2,u0⟩:=I2.list hq
 have l3:=rv2.length
 have l4:=dr.length
 rw[bU] at l4
 refine zLE (P:=Pd X.K H1) (s:={ s1 with heap:=h1,toks:=tk1 }) (val:=fun i=>nr.getD i []) (I1.ok.hd hc) (by show X.A.units+3<cLine;exact uA 3 (by omega)) pl2.isList (zM8 I2 dr rv2) (by rw[cj];omega) fun h2 tk2 kr str u0 memr kp2=>?_
 have stl2:ST X.prog X.w (Pd X.K H1) h2 s1.heap.objs.size kl:=stl.keep kp2
 have ml:∀ x,x∈kl↔x∈nl:=fun x=>by
  rw[meml x]
  constructor
  ·rintro⟨m,hm',rfl⟩
   rw[cj] at hm'
   have:m<nl.length:=by omega
   simp[cP,this]
  ·intro hx
   obtain⟨m,hm',rfl⟩:=dS hx
   exact⟨m,by rw[cj];omega,by simp[cP,hm']⟩
 have mr:∀ x,x∈kr↔x∈nr:=fun x=>by
  rw[memr x]
  constructor
  ·rintro⟨m,hm',rfl⟩
   rw[cj] at hm'
   have:m<nr.length:=by omega
   simp[cP,this]
  ·intro hx
   obtain⟨m,hm',rfl⟩:=dS hx
   exact⟨m,by rw[cj];omega,by simp[cP,hm']⟩
 refine zM6 (s:={ s1 with heap:=h2,toks:=tk2 }) (P:=Pd X.K H1) (by show X.A.units+1<cLine;exact uA 1 (by omega)) stl2 str nu (fun x hx=>ul x ((ml x).mp hx)) (fun x hx=>ur x ((mr x).mp hx)) fun h3 kys kp3 st3 mem3 len3=>?_
 refine Calls.spliced_nil ?_
 have I3:zX X pins σ H1 { s1 with heap:=h3,toks:=tk2 }:=I1.kept (t':=tk2) fun b o e=>kp3 b o (kp2 b o (kp1 b o e))
 have mk:∀ x,x∈kys↔¬ (x∈nr↔x∈nl):=fun x=>by rw[mem3 x,ml x,mr x]
 have kne:∀ ns∈kys,ns≠[]:=fun ns hns=>une ns (by
  by_cases z:ns∈nr
  ·exact ur ns z
  ·exact ul ns (Classical.byContradiction fun y=>(mk ns).mp hns ⟨fun a=>(z a).elim,fun a=>(y a).elim⟩))
 refine zIG (s:={ s1 with heap:=h3,toks:=tk2 }) (P:=Pd X.K H1) (I1.ok.hd hc) st3 (by omega) kne fun h4 tk4 l out ee kp4 hl4 hget me so=>?_
 have sz:s1.heap.objs.size≤h3.objs.size:=by
  have g1:s1.heap.objs.size<h1.objs.size:=by obtain⟨o,u0,u0,u0,ho,u0⟩:=stl;exact cc ho
  have g2:s1.heap.objs.size<h2.objs.size:=by obtain⟨o,u0,u0,u0,ho,u0⟩:=stl2;exact cc ho
  have g3:h2.objs.size<h3.objs.size:=by obtain⟨o,u0,u0,u0,ho,u0⟩:=st3;exact cc ho
  omega
 have sl:s1.heap.objs.size≤l:=dh sz hl4
 obtain⟨ys',rv',d'⟩:=zSS (h:=h4) I3 me.1
 have hn:H1 l=none:=I1.hok.fresh sl
 have nd:kys.Nodup:=let ⟨_,_,_,_,_,_,_,_,_,_,_,_,_,q⟩:=st3;q
 have ol:out.length=kys.length:=by have:=me.2.length_eq;simpa using this
 refine⟨.ref l,_,I3.laid (t':=tk4) (o:=.lst ys') kp4 hl4 ⟨by have:=rv'.length;rw[sizeLine_eq];omega,out,ee,rv',by rw[hget]⟩,rfl,fin l ys' _ hn (me.2.nodup_iff.mpr nd) (fun x=>(me.2.mem_iff).trans (mk x)) so d'⟩
noncomputable def xXS(j:Nat)(t:wN):TL2:=fun σ G R=>t σ G fun ds G1=>match ds with
 | [.tup xs]=>∃(nl nr U:List (List Int)) (q:Addr),xs=nl.map tI∧σ[j]?=some (some (.adr q))∧Ls G1 q (nr.map tI)∧nl.length≤60∧nr.length≤60∧U.length≤60∧(∀ x∈nl,x∈U)∧(∀ x∈nr,x∈U)∧(∀ x∈U,x≠[]) ∧
  ∀ nss':List (List Int),nss'.Nodup→(∀ x,x∈nss'↔¬ (x∈nr↔x∈nl))→nss'.Pairwise (fun a b=>ltI b a=false)→R (nss'.map tI) G1
 | _=>False
theorem zLH{X:Cx}{e:Expr}{x:Str}(j:Nat){t:wN}{p p1 p2 p3 pos pos1 pos2 pos3:Pos}{k:Nat}(hr:wB k X.A)(hc:X.calm=true)(hg:Gl X "sorted")(hm:X.mg "sorted"=none)(hg2:Gl X "set")(hm2:X.mg "set"=none)(ha:A2 X [e] t)(hN:X.N[j]?=some x:=by rfl)(hv:Vis X.env.scope x:=by first | exact Or.inl rfl | exact Or.inr (Or.inl rfl) | exact Or.inr (Or.inr rfl))(hd:(x==("__debug__":Str))=false:=by decide)(hcd:(x==("__classdict__":Str))=false:=by decide)
  (he:starEach [.BinOp (.Call (.Name "set" p1) [e] [] pos1) .BitXor (.Call (.Name "set" p2) [.Name x p3] [] pos2) pos3] X.env=(false,eval (.BinOp (.Call (.Name "set" p1) [e] [] pos1) .BitXor (.Call (.Name "set" p2) [.Name x p3] [] pos2) pos3) X.env)::starEach [] X.env:=by rfl) (hpl:(backTo pos (starEach [] X.env)).any (·.1)=false:=by rfl)
  (he1:starEach [e] X.env=(false,eval e X.env)::starEach [] X.env:=by rfl) (hpl1:(backTo pos1 (starEach [] X.env)).any (·.1)=false:=by rfl)
  (he2:starEach [.Name x p3] X.env=(false,eval (.Name x p3) X.env)::starEach [] X.env:=by rfl) (hpl2:(backTo pos2 (starEach [] X.env)).any (·.1)=false:=by rfl) :
  F2 X (.Call (.Name "sorted" p) [.BinOp (.Call (.Name "set" p1) [e] [] pos1) .BitXor (.Call (.Name "set" p2) [.Name x p3] [] pos2) pos3] [] pos) (xXS j t):=by
 refine PE.mono (zJM hr hc hg hm hg2 hm2 ha hN hv hd hcd he hpl he1 hpl1 he2 hpl2) ?_
 rintro σ1 H Q ⟨σ,G,R,rl,q,k'⟩
 refine⟨σ,G,_,rl,q,fun ds G1 q1 vs H1 g1 r1 d1=>?_⟩
 split at q1
 ·rename_i xs
  obtain⟨nl,nr,U,qa,rfl,hj,hls,b1,b2,b3,b4,b5,b6,q1⟩:=q1
  obtain⟨v,rfl,d2⟩:=zAi d1
  unfold zQ at d2
  obtain⟨a,us,rfl,h1,h2⟩:=d2
  obtain⟨v2,e2,d3⟩:=rl.val j _ hj
  unfold zQ at d3
  subst d3
  obtain⟨zs,s1,t1⟩:=r1.sq hls
  exact⟨a,us,nl,qa,zs,nr,U,rfl,h1,h2,e2,s1,t1,b1,b2,b3,b4,b5,b6,fun l' ys' nss' n' c1 c2 c3 c4=>k' _ G1 (q1 nss' c1 c2 c3) l' _ _ (g1.trans (.fresh n')) (r1.fresh n') (r1.free n') zu (c4.grow (.fresh n'))⟩
 ·exact q1.elim
end L3
namespace L3
open L2
section
variable {X:Cx} {elt iter:Expr} {pos:Pos} {te:zk} {ifs:List Expr} {sc:Scope} {N0:List Str} {wi:TI2} {tc:TT2}
end
end L3
namespace HZ
section
variable {prog:Program} {w:World} {A:Around} {E:Value→Shared→Prop} {s:Shared} {e it l:Addr} {xs:Array Value} (Z:Zs prog w it l xs)
end
end HZ
namespace L2
open HZ
end L2
namespace L3
open L2
end L3
namespace HZ
end HZ
namespace L2
open HZ
end L2
namespace L3
open L2
end L3
namespace HI
section
variable {prog:Program} {w:World} {A:Around} {E:Value→Shared→Prop} {s:Shared}
end
end HI
namespace L2
open HI
variable {X:Cx} {e:Expr} {t:TA} {p p2 pos pos2:Pos}
end L2
namespace L3
open L2
section
variable {X:Cx} {e:Expr} {p p2 pos pos2:Pos}
end
end L3
namespace L2
section
variable {X:Cx} {pos:Pos}
theorem zLI(hc:X.calm=true):yg X (.builtin "sum") (fun xs H Q=>∃(l:Addr) (ns:List Int),xs=[.ref l]∧SqL X.K H l (ns.map V.int)∧ns.length≤100∧(∀ a∈ns,0≤a∧a≤1000000)∧Q (.int ns.sum) H):=by
 intro pins s σ H xs us Q I r h
 obtain⟨l,ns,rfl,hs,hp,hb,q⟩:=h
 obtain⟨u,rfl,ru⟩:=vals1 r
 cases (show u=Value.ref l from ru)
 obtain⟨its,rv,pl,hz⟩:=I.list hs
 have hi:IntsAre its ns:=intsAre_of rv
 have ha:AllInts its.toArray:=hi.allInts
 have hn:numsOf its.toArray.toList=ns:=by rw[show its.toArray.toList=its from rfl,hi.numsOf]
 have hl:=pl.isList
 have hl2:its.length=ns.length:=hi.length
 have hz2:its.toArray.size=ns.length:=by simp;omega
 generalize its.toArray=arr at ha hn hl hz2
 obtain⟨zs,rfl⟩:=ha.items
 rw[nums_intItems] at hn
 have hsz:zs.size=ns.length:=by simpa[intItems] using hz2
 have sm:∀(l:List Int),(∀ a∈l,0≤a∧a≤1000000)→0≤l.sum∧l.sum≤1000000*l.length:=fun l=>by
  induction l with
  | nil=>intro u0;simp
  | cons a r ih =>
   intro h
   have h1:=h a cE
   have h2:=ih fun x hx=>h x (ck _ hx)
   rw[fk,bO]
   omega
 refine sum_intList (I.ok.hd hc) hl (fun j hj=>?_) fun h' tk t' hk=>?_
 ·have hm:numAt zs j∈ns:=by rw[← hn,numAt_eq];exact getD_mem (by rw[bU,cD];omega)
  have h1:=hb _ hm
  rw[preSum_eq]
  have h2:=sm ((zs.toList.map (·.1)).take (j+1)) fun a ha=>hb a (by rw[← hn];exact eH ha)
  have h3:((zs.toList.map (·.1)).take (j+1)).length≤100:=by
   have:(zs.toList.map (·.1)).length=zs.size:=by simp
   rw[cK,this];omega
  unfold InLong
  exact⟨by constructor<;>omega,by constructor<;>omega⟩
 ·refine⟨.int _,H,I.kept (t':=tk) hk,⟨_,rfl⟩,?_⟩
  rw[preSum_eq,eV (by simp),hn]
  exact q
end
end L2
namespace L3
open L2
section
variable {X:Cx} {e o:Expr} {te to:zk} {t:wN} {tl:TL2} {pos p apos cpos:Pos}
noncomputable def zP1:wm:=fun ds G R=>∃ ns:List Int,ds=ns.map D.int∧ns.length≤100∧(∀ a∈ns,0≤a∧a≤1000000)∧R (.int ns.sum) G
theorem zOx(hc:X.calm=true)(hg:Gl X "sum")(hm:X.mg "sum"=none)(ha:F2 X e tl)(he:starEach [e] X.env=(false,eval e X.env)::starEach [] X.env:=by rfl)(hpl:(backTo pos (starEach [] X.env)).any (·.1)=false:=by rfl) :
  E2 X (.Call (.Name "sum" p) [e] [] pos) (zc zP1 tl):=zDF (zLI hc) (by
   rintro ds G R l xs H Q ⟨ns,rfl,hp,hb,h⟩ r e d k
   have:=d.ints_inv
   subst this
   exact⟨l,ns,rfl,.of e,hp,hb,k _ G h _ H (.refl H) r (by unfold zQ;rfl)⟩) hg hm (by decide +kernel) ha (by decide) (by decide) he hpl
theorem zS3{st:Stmt}:P2 X st (fun u0 u0 u0=>False):=by
 rintro pins s σ H E I ⟨σ',G,D2,r,q,k⟩
 exact q.elim
end
end L3
namespace K
open L2 L3
theorem zDu{σ:S2}{G:Gp}{t u:zk}{l:Addr}{ds:List D}{k:Int}{d:D}(h:zi t σ G (.adr l))(h':zi u σ G (.int k))(hl:Ls G l ds)(e:atI ds k=some d):zi (zO yS t u) σ G d:=yF h h' fun G2 e2 R q=>⟨ds,d,e2.ls hl,e,q⟩
theorem zM9{σ:S2}{G:Gp}{i:Nat}{tl:TL2}{u:ye}{E:yO}{ds:List D}(h:PuL tl σ G ds)(h':∀ l,G.m l=none→u E (σ.set i (some (.adr l))) (zU G l ds)):zT (zAx i tl) u E σ G:=h G (.refl G) _ h'
theorem zOy{σ:S2}{G:Gp}{tc:TT2}{u:ye}{E:yO}{b:Bool}{te:zk}(h:PuT tc σ G b)(hy:b=true→zl te E σ G)(hn:b=false→u E σ G):zT (xIf tc (zl te) zy) u E σ G:=by
 cases b with
 | false=>exact zAJ h (hn rfl)
 | true=>exact h G (.refl G) _ (by rw[if_pos rfl];exact hy rfl)
theorem zKA{σ:S2}{G:Gp}{tl:TL2}{R:Q2}(h:tl σ G fun ds G1=>∀ l,G1.m l=none→R (.adr l) (zU G1 l ds)):yJ tl σ G R:=h
theorem zRS{σ:S2}{G:Gp}{f:D→D→Gp→Q2→Prop}{ta tb:zk}{R:Q2}(h:ta σ G fun x G1=>tb σ G1 fun y G2=>f x y G2 R):zO f ta tb σ G R:=h
theorem zCE(q:Nat×Nat→Bool)(i j:Nat):yW q i j=yW q j i:=by
 unfold yW
 rw[Nat.min_comm,Nat.max_comm]
 congr 1
 rw[cF];simp;omega
set_option genInjectivity true in
inductive Reach (n:Nat) (q:Nat×Nat→Bool) (i:Nat):Nat→Prop where
 | refl:i<n→Reach n q i i
 | step {j k:Nat}:Reach n q i j→k<n→yW q j k=true→Reach n q i k
section
variable {n:Nat} {q:Nat×Nat→Bool}
theorem Reach.lt{i j:Nat}(h:Reach n q i j):j<n:=by cases h<;>assumption
theorem Reach.trans{i j k:Nat}(h:Reach n q i j)(h':Reach n q j k):Reach n q i k:=by
 induction h' with
 | refl _=>exact h
 | step _ a b ih=>exact .step ih a b
theorem Reach.symm{i j:Nat}(h:Reach n q i j):Reach n q j i:=by
 induction h with
 | refl h=>exact .refl h
 | @step j k h1 hk ha ih=>exact(Reach.step (.refl hk) h1.lt (by rw[zCE];exact ha)).trans ih
noncomputable def dec (p:Prop):Bool:=@decide p (Classical.propDecidable p)
theorem zKB{p:Prop}:dec p=true↔p:=by unfold dec;exact @decide_eq_true_iff p (Classical.propDecidable p)
noncomputable def comp (n:Nat) (q:Nat×Nat→Bool) (i:Nat):List Nat:=(bQ n).filter fun j=>dec (Reach n q i j)
theorem wD{i j:Nat}:j∈comp n q i↔Reach n q i j:=by
 unfold comp
 rw[cw,bX,zKB]
 exact⟨fun h=>h.2,fun h=>⟨h.lt,h⟩⟩
theorem zC2{i:Nat}:(comp n q i).Nodup:=dE.filter _
theorem zOz{i:Nat}:(comp n q i).Pairwise (·≤·):=zG0
theorem zFF{i:Nat}:(comp n q i).length≤n:=by
 have:=dk (fun j=>dec (Reach n q i j)) (bQ n)
 simpa[comp] using this
noncomputable def zBO (n:Nat) (q:Nat×Nat→Bool) (i:Nat):Bool:=dec (∀ j,j<i→¬ Reach n q i j)
theorem zBn{i:Nat}:zBO n q i=true↔∀ j,j<i→¬ Reach n q i j:=zKB
noncomputable def zAj (n:Nat) (q:Nat×Nat→Bool) (k:Nat):List (List Nat):=((bQ k).filter (zBO n q)).map (comp n q)
theorem zHE{P:Nat→Prop}:∀ {m:Nat},P m→∃ i,P i∧i≤m∧∀ j,j<i→¬ P j:=by
 intro m
 induction m using Nat.strongRecOn with
 | ind m ih =>
  intro h
  by_cases hx:∃ j,j<m∧P j
  ·obtain⟨j,hj,hp⟩:=hx
   obtain⟨i,h1,h2,h3⟩:=ih j hj hp
   exact⟨i,h1,by omega,h3⟩
  ·exact⟨m,h,bZ _,fun j hj hp=>hx ⟨j,hj,hp⟩⟩
theorem zIH{k:Nat}(hk:k<n):∃ i,i≤k∧zBO n q i=true∧Reach n q i k:=by
 obtain⟨i,h1,h2,h3⟩:=zHE (P:=fun j=>Reach n q k j) (m:=k) (.refl hk)
 exact⟨i,h2,zBn.mpr fun j hj hr=>h3 j hj (h1.trans hr),h1.symm⟩
theorem zO0{k:Nat}(hk:k<n):((zAj n q k).any fun l=>decide (k∈l))=!zBO n q k:=by
 rw[cF,fh,Bool.not_eq_true',Bool.eq_false_iff,Ne,zBn]
 constructor
 ·rintro⟨l,hl,hm⟩ hn
  obtain⟨i,hi,rfl⟩:=bY.mp hl
  have h2:=bX.mp (cw.mp hi).1
  exact hn i h2 (wD.mp (of_decide_eq_true hm)).symm
 ·intro hn
  obtain⟨i,h1,h2,h3⟩:=zIH (q:=q) hk
  have hik:i≠k:=fun e=>by subst e;exact hn (zBn.mp h2)
  exact⟨comp n q i,bY.mpr ⟨i,cw.mpr ⟨bX.mpr (by omega),h2⟩,rfl⟩,decide_eq_true (wD.mpr h3)⟩
end
noncomputable abbrev tD(l:List Nat):D:=.tup (l.map nD)
noncomputable def zAW:wm:=fun ds G R=>∃(n:Nat) (q:Nat×Nat→Bool) (i:Nat),ds=[zS n q,nD i]∧i<n∧n≤50∧R (tD (comp n q i)) G
noncomputable def zBo:ye:=(zT (zq (yJ (wq (zA (zB 1) zH))) (gN 2)) (zT (zq (xC (.int 0)) (gN 3)) (zT (zGt (xB (zO (fII fun i j=>.bl (decide (i<j))) (zB 3) (zJ zo (zA (zB 2) zH)))) (zT (wQ (iV (zJ zAG (zA (zB 0) (zA (zO yS (zB 2) (zB 3)) zH)))) (gN 4) (xIf (xB (zO (fIn true) (zB 4) (zB 2))) (wC (zEF (zB 2) (zA (zB 4) zH))) zy)) (zFd 3 (xC (.int 1)) fun a b=>a+b))) (zl (zc zz (zGr (zA (zB 2) zH)))))))
structure Far (n:Nat) (q:Nat×Nat→Bool) (i:Nat) (r:List Nat) (d:Nat):Prop where
 nd:r.Nodup
 all:∀ x∈r,Reach n q i x
 st:i∈r
 dn:d≤r.length
 nb:∀(m x y:Nat),m<d→r[m]?=some x→y<n→yW q x y=true→y∈r
theorem Far.len{n:Nat}{q:Nat×Nat→Bool}{i d:Nat}{r:List Nat}(f:Far n q i r d):r.length≤n:=by
 have:=fB.length_le_of_subset f.nd (l₂:=bQ n) fun x hx=>bX.mpr (f.all x hx).lt
 simpa using this
theorem Far.end{n:Nat}{q:Nat×Nat→Bool}{i:Nat}{r:List Nat}(f:Far n q i r r.length):r.Perm (comp n q i):=by
 refine(List.perm_ext_iff_of_nodup f.nd zC2).mpr fun x=>?_
 rw[wD]
 refine⟨f.all x,fun h=>?_⟩
 induction h with
 | refl _=>exact f.st
 | @step j k h1 hk ha ih =>
  obtain⟨m,hm⟩:=ec ih
  exact f.nb m j k (bW.mp hm).1 hm hk ha
theorem Far.turn{n:Nat}{q:Nat×Nat→Bool}{i d:Nat}{r r':List Nat}{x:Nat}(f:Far n q i r d)(hx:r[d]?=some x)(pre:∃ t,r'=r++t)(nd:r'.Nodup)(all:∀ y∈r',Reach n q i y)(nb:∀ y,y<n→yW q x y=true→y∈r'):Far n q i r' (d+1):=by
 obtain⟨t,rfl⟩:=pre
 have hd:d<r.length:=(bW.mp hx).1
 refine⟨nd,all,dc _ f.st,by rw[ci];omega,fun m z y hm hz hy ha=>?_⟩
 rw[cR (by omega)] at hz
 by_cases hmd:m=d
 ·subst hmd
  rw[hx] at hz;cases hz
  exact nb y hy ha
 ·exact dc _ (f.nb m z y (by omega) hz hy ha)
theorem zJN(ds:List D)(G:Gp)(R:Q2)(h:zAW ds G R):ds.length=2∧zBo (zg R) (zR ["web","place","reached","done","other"] ds) G:=by
 obtain⟨n,q,i,rfl,hi,hn,h⟩:=h
 refine⟨rfl,?_⟩
 unfold zBo
 refine yQ (zCA (ds:=[nD i]) (fun G2 e R q=>zDT (zF (zE rfl) zM G2 e _ ⟨by rw[sizeLine_eq];simp,q⟩)) fun l hl=>?_)
 refine wI (yC (d:=.int 0)) ?_
 show zT _ _ _ [some (zS n q),some (nD i),some (.adr l),some (.int 0),none] (zU G l [nD i])
 refine Fg.of ⟨fun m σ G'=>∃(r:List Nat) (d:Nat) (o:Option D),σ=[some (zS n q),some (nD i),some (.adr l),some (nD d),o]∧m+d=n∧Far n q i r d∧G'.m l=some (r.map nD)∧Sub G G',⟨n,[i],0,none,rfl,rfl,⟨by simp,fun x hx=>?_,by simp,cW _,fun m x y hm=>by omega⟩,zK,.new hl⟩,?_⟩
 ·rw[cg] at hx;subst hx;exact .refl hi
 rintro m σ G1 ⟨r,d,o,rfl,hm,F,h1,h2⟩
 have lenP:zi (zJ zo (zA (zB 2) zH)) [some (zS n q),some (nD i),some (.adr l),some (nD d),o] G1 (nD r.length):=zn (zF (zE rfl) zM) fun G2 e R q=>⟨r.map nD,e.ls (.inl h1),by rw[bU];exact q⟩
 refine wW (zHr (zE (i:=3) rfl) lenP) G1 (.refl _) _ ?_
 by_cases hd:d<r.length
 ·rw[decide_eq_true (by omega),if_pos rfl]
  have hrl:=F.len
  obtain⟨x,hx⟩:∃ x,r[d]?=some x:=⟨r[d],by simp[hd]⟩
  have hxn:x<n:=(F.all x (cy hx)).lt
  have ix:zi (zO yS (zB 2) (zB 3)) [some (zS n q),some (nD i),some (.adr l),some (nD d),none] G1 (nD x):=yF (zE rfl) (zE rfl) fun G2 e R q=>⟨r.map nD,nD x,e.ls (.inl h1),wS (by rw[cC,hx];rfl),q⟩
  refine zOi (σ':=[some (zS n q),some (nD i),some (.adr l),some (nD d),none]) (.keep (.keep (.keep (.keep (.skip .nil))))) (zS0 (ds:=((bQ n).filter (yW q x)).map nD) (zn (zF (zE rfl) (zF ix zM)) fun u0 u0 u0 hh=>⟨n,q,x,rfl,hxn,by omega,hh⟩) ?_)
  refine zAS (fun k G'=>∃ r',G'.m l=some (r'.map nD)∧(∃ t,r'=r++t)∧r'.Nodup∧(∀ y∈r',Reach n q i y)∧(∀ y∈((bQ n).filter (yW q x)).take k,y∈r')∧Sub G G') ⟨r,h1,⟨[],by simp⟩,F.nd,F.all,by simp,h2⟩ (fun u0 u0 u0=>trivial) ?_ ?_
  ·rintro k y hy G2 ⟨r',a1,a2,a3,a4,a5,a6⟩
   obtain⟨y,hyk,rfl⟩:=zC8 hy
   obtain⟨hyn,hya⟩:=cw.mp (cy hyk)
   have hyn:=bX.mp hyn
   show xIf _ _ _ _ [some (zS n q),some (nD i),some (.adr l),some (nD d),some (nD y)] G2
   have hin:zi (zO (fIn true) (zB 4) (zB 2)) [some (zS n q),some (nD i),some (.adr l),some (nD d),some (nD y)] G2 (.bl (!decide (y∈r'))):=yF (zE (d:=nD y) rfl) (zE (d:=.adr l) rfl) fun G3 e R q=>⟨r'.map nD,e.ls (.inl a1),rfl,yf _,by rw[if_pos rfl,zCz];exact q⟩
   have tk:∀ z∈((bQ n).filter (yW q x)).take (k+1),z∈((bQ n).filter (yW q x)).take k∨z=y:=fun z hz=>by
    rw[yU hyk] at hz
    simpa using hz
   by_cases hyr:y∈r'
   ·rw[show(!decide (y∈r'))=false from by simp[hyr]] at hin
    refine zJv (wW hin) ⟨.keep (.keep (.keep (.keep (.skip .nil)))),G2,.refl _,r',a1,a2,a3,a4,fun z hz=>?_,a6⟩
    rcases tk z hz with hz | rfl
    ·exact a5 z hz
    ·exact hyr
   ·rw[show(!decide (y∈r'))=true from by simp[hyr]] at hin
    refine zJA (wW hin) ?_
    have nd':(r'++[y]).Nodup:=by
     rw[eN]
     refine⟨a3,by simp,fun u hu v hv=>?_⟩
     rw[cg] at hv
     subst hv
     exact fun e=>hyr (e▸hu)
    have all':∀ z∈r'++[y],Reach n q i z:=fun z hz=>by
     rcases cH.mp hz with hz | hz
     ·exact a4 z hz
     ·rw[cg] at hz
      subst hz
      exact .step (F.all x (cy hx)) hyn hya
    have hlen:r'.length≤n:=by
     have:=fB.length_le_of_subset a3 (l₂:=bQ n) fun x hx=>bX.mpr (a4 x hx).lt
     simpa using this
    refine zES (d:=nD y) rfl a1 (fun Q q=>zF (zE rfl) zM G2 (.refl _) _ q) (by rw[bU];omega) ⟨.keep (.keep (.keep (.keep (.skip .nil)))),_,.refl _,r'++[y],?_,?_,nd',all',fun z hz=>?_,a6.put hl⟩
    ·rw[zK];simp
    ·obtain⟨t,rfl⟩:=a2
     exact⟨t++[y],by simp⟩
    ·rcases tk z hz with hz | rfl
     ·exact dc _ (a5 z hz)
     ·simp
  ·rintro G2 ⟨r',a1,a2,a3,a4,a5,a6⟩
   rw[bU,e8] at a5
   have F':Far n q i r' (d+1):=F.turn hx a2 a3 a4 fun y hy ha=>a5 y (cw.mpr ⟨bX.mpr hy,ha⟩)
   refine .of ⟨m-1,by have:=F'.dn;have:=F'.len;omega,r',d+1,none,?_,by have:=F'.dn;have:=F'.len;omega,F',a1,a6⟩
   show[some (zS n q),some (nD i),some (.adr l),some (.int ((d:Int)+1)),none]=_
   rw[show((d:Int)+1)=((d+1:Nat):Int) by omega]
 ·rw[decide_eq_false (by omega),if_neg (by simp)]
  have hdl:d=r.length:=by have:=F.dn;omega
  subst hdl
  have P:=F.end
  have fin:=zBU (zJE (σ:=[some (zS n q),some (nD i),some (.adr l),some (nD r.length),o]) (G:=G1) (t:=zA (zB 2) zH) (d:=.adr l) (l:=r) (s:=comp n q i) (zF (zE rfl) zM) (Or.inl h1:Ls G1 l (r.map nD)) (by have:=F.len;omega) P.symm zOz)
  exact fin G1 (.refl _) _ ⟨G,h2,h⟩
noncomputable def wK:List D→Gp→(List D→Gp→Prop)→Prop:=fun ds G R=>∃(n:Nat) (q:Nat×Nat→Bool),ds=[zS n q]∧n≤50∧R ((zAj n q n).map tD) G
theorem zII:∀ ds G R R',(∀ ls G',R ls G'→R' ls G')→wK ds G R→wK ds G R':=by
 rintro ds G R R' h ⟨n,q,e,hn,q'⟩
 exact⟨n,q,e,hn,h _ _ q'⟩
noncomputable def zDX:ye:=(zT (zq (yJ (wq zH)) (gN 1)) (zT (wQ (iR1 (zA (zO yS (zB 0) (xC (.int 0))) zH)) (gN 2) (xIf (zAU (xB (zc zQ6 (yA (iV (zB 1)) bd1 zBw (zO (fIn false) (zB 2) (zB 3)))))) (wC (zEF (zB 1) (zA (zJ zAW (zA (zB 0) (zA (zB 2) zH))) zH))) zy)) (zl (zB 1))))
theorem zNA(ds:List D)(G:Gp)(R:Q2)(h:spL wK ds G R):ds.length=1∧zDX (zg R) (zR ["web","found","place"] ds) G:=by
 obtain⟨n,q,rfl,hn,h⟩:=h
 refine⟨rfl,?_⟩
 unfold zDX
 refine yQ (zCA (ds:=[]) (fun G2 e R q=>zDT (wR ⟨by rw[sizeLine_eq];simp,q⟩)) fun f hf=>?_)
 show zT _ _ _ [some (zS n q),some (.adr f),none] (zU G f [])
 refine zI5 (n:=n) (zF (zD2 (zE rfl)) zM) (by omega) ?_
 refine zAS (fun k G'=>G'.m f=some ((zAj n q k).map tD)∧Sub G G') ⟨zK,.new hf⟩ (fun u0 u0 u0=>trivial) ?_ ?_
 ·rintro k x hx G2 ⟨h1,h2⟩
  obtain⟨rfl,hk⟩:=zGy hx
  show xIf _ _ _ _ [some (zS n q),some (.adr f),some (nD k)] G2
  have cm:=zDn (σ:=[some (zS n q),some (.adr f),some (nD k)]) (G:=G2) (bd:=bd1) (te:=zO (fIn false) (zB 2) (zB 3)) (fun d=>match d with | .tup xs=>.bl (xs.any fun z=>wP z (nD k)) | _=>.bl false) (fun d=>[d]) (zCO (zE (i:=1) rfl) (.inl h1)) fun x hx=>by
   obtain⟨p,hp,rfl⟩:=bY.mp hx
   exact⟨rfl,zI8 (zE (i:=2) (d:=nD k) rfl) (zE (i:=3) (d:=tD p) rfl) rfl (yf _) rfl⟩
  have e:ce (fun d=>match d with | .tup xs=>D.bl (xs.any fun z=>wP z (nD k)) | _=>.bl false) ((zAj n q k).map tD)=((zAj n q k).map fun l=>decide (k∈l)).map D.bl:=by
   rw[da,da]
   refine em fun l u0=>?_
   simp only[Function.comp,zCz]
  rw[e] at cm
  have ca:=zRE cm
  rw[List.any_map,show(id∘fun l=>decide (k∈l))=fun l=>decide (k∈l) from rfl,zO0 hk] at ca
  have hto:zAj n q (k+1)=zAj n q k++(if zBO n q k=true then [comp n q k] else []):=by
   unfold zAj
   rw[eM,dH,cX]
   congr 1
   by_cases hb:zBO n q k=true
   ·rw[if_pos hb];simp[hb]
   ·rw[if_neg hb];simp[hb]
  have hlen:(zAj n q k).length≤k:=by
   unfold zAj
   rw[bU]
   have:=dk (zBO n q) (bQ k)
   simpa using this
  cases hb:zBO n q k with
  | true =>
   rw[hb] at ca
   refine zJA (zCN (b:=false) (wW ca)) ?_
   refine zES (d:=tD (comp n q k)) rfl h1 (fun Q q'=>zF (zn (zF (zE rfl) (zF (zE rfl) zM)) fun u0 u0 u0 hh=>⟨n,q,k,rfl,hk,hn,hh⟩) zM G2 (.refl _) _ q') (by rw[bU];omega) ⟨.keep (.keep (.skip .nil)),_,.refl _,?_,h2.put hf⟩
   rw[zK,hto,hb];simp
  | false =>
   rw[hb] at ca
   refine zJv (zCN (b:=true) (wW ca)) ⟨.keep (.keep (.skip .nil)),G2,.refl _,?_,h2⟩
   rw[hto,hb];simpa using h1
 ·rintro G2 ⟨h1,h2⟩
  rw[bU,cz] at h1
  show FgR R (.adr f) G2
  refine⟨zU G f ((zAj n q n).map tD),⟨fun a o e=>?_,fun a o e=>h2.ro a o e⟩,h f hf⟩
  by_cases ha:a=f
  ·subst ha;rw[zK] at e;cases e;exact h1
  ·rw[ze ha] at e;exact h2.m a o e
theorem zDY(q:Nat×Nat→Bool)(ps:List Nat)(a b:Nat):yW (yd q ps) a b=yW q (ps.getD a 0) (ps.getD b 0):=by
 by_cases h:a=b
 ·subst h;simp[yW]
 ·have:yW (yd q ps) a b=yd q ps (min a b,max a b):=by unfold yW;simp[h]
  rw[this]
  unfold yd
  dsimp only
  rcases Nat.le_total a b with hab | hab
  ·rw[dJ hab,fG hab]
  ·rw[Nat.min_eq_right hab,Nat.max_eq_left hab,zCE]
section
variable {n:Nat} {q:Nat×Nat→Bool}
end
noncomputable def trn{α:Type}(l:List α)(b:Nat):List α:=l.drop b++l.take b
theorem zJO{l:List D}{k:Nat}(h:k≤l.length):L3.cutD l none (some (k:Int))=l.take k:=by
 unfold L3.cutD
 rw[HT.zHc,HT.zCK]
 simp[h]
theorem zNB{l:List D}{k:Nat}(h:k≤l.length):L3.cutD l (some (k:Int)) none=l.drop k:=by
 unfold L3.cutD
 rw[HT.zHc,HT.zCK,dJ h]
 rw[eV (by simp)]
theorem zST{σ:S2}{G:Gp}{t u:zk}{xs:List D}{k:Nat}(h:zi t σ G (.tup xs))(h1:zi u σ G (nD k))(hk:k≤xs.length):zi (zAD t wt (zAB u)) σ G (.tup (xs.take k)):=fun G2 e R q=>h G2 e _ (h1 G2 e _ (by show R (.tup (L3.cutD xs none (some (k:Int)))) G2;rw[zJO hk];exact q))
theorem zO1{σ:S2}{G:Gp}{t u:zk}{xs:List D}{k:Nat}(h:zi t σ G (.tup xs))(h1:zi u σ G (nD k))(hk:k≤xs.length):zi (zAD t (zAB u) wt) σ G (.tup (xs.drop k)):=fun G2 e R q=>h G2 e _ (h1 G2 e _ (by show R (.tup (L3.cutD xs (some (k:Int)) none)) G2;rw[zNB hk];exact q))
noncomputable abbrev uD(l:List Nat):D:=.tup (l.map nD)
theorem zSU{σ:S2}{G:Gp}{te:zk}{g:TG2}{E:yO}{d:D}(h:zi te σ G d)(h':g d σ G fun σ' G'=>E.nx σ' G'):zq te g E σ G:=h G (.refl G) _ h'
end K
namespace K
open L3
theorem zHF{σ:S2}{G:Gp}{te:zk}{E:yO}(h:te σ G fun u0 G1=>E.nx σ G1):wC te E σ G:=h
end K
namespace K
open L2 L3
end K
namespace L3
open L2
section
variable {X:Cx} {a b e:Expr} {ta tb te:zk} {t:wN} {p pos:Pos}
theorem zIJ{v:V}{u:Value}(h:RelV v u):(u==Value.none)=decide (v=V.non):=by
 cases v with
 | non=>cases h;rfl
 | bl b=>cases h;rfl
 | int i=>obtain⟨u0,rfl⟩:=h;rfl
 | str i=>obtain⟨u0,rfl⟩:=h;rfl
 | byt i=>obtain⟨u0,rfl⟩:=h;rfl
 | flt i=>obtain⟨u0,rfl⟩:=h;rfl
 | ref i=>cases h;rfl
 | ty i=>cases h;rfl
theorem zIn:OpR X (compareOp .Is) (fun x y H Q=>y=.non∧Q (.bl (decide (x=.non))) H):=by
 intro pins s σ H x y v u Q I rx ry h
 obtain⟨rfl,q⟩:=h
 cases ry
 refine is_none_gen ?_
 rw[zIJ rx]
 exact⟨.bl _,H,I,rfl,q⟩
theorem zGJ:OpR X (compareOp .IsNot) (fun x y H Q=>y=.non∧Q (.bl (!decide (x=.non))) H):=by
 intro pins s σ H x y v u Q I rx ry h
 obtain⟨rfl,q⟩:=h
 cases ry
 refine isnot_none_gen ?_
 rw[zIJ rx]
 exact⟨.bl _,H,I,rfl,q⟩
noncomputable def zGK:D→Bool
 | .non=>true
 | _=>false
theorem zO2{K:PySem.W.Frag}{H:Hp}{d:D}{v:V}(h:zQ K H d v):decide (v=V.non)=zGK d:=by
 cases d with
 | non=>unfold zQ at h;subst h;rfl
 | tup xs=>unfold zQ at h;obtain⟨a,us,rfl,u0⟩:=h;rfl
 | dic a=>unfold zQ at h;obtain⟨rfl,u0⟩:=h;rfl
 | _=>unfold zQ at h;subst h;rfl
noncomputable def wx(ng:Bool):D→D→Gp→Q2→Prop:=fun x y G R=>match y with | .non=>R (.bl (if ng then !zGK x else zGK x)) G | _=>False
theorem zEd{K:PySem.W.Frag}{ng:Bool}:Fit K (fun x y H Q=>y=V.non∧Q (.bl (if ng then !decide (x=V.non) else decide (x=V.non))) H) (wx ng):=by
 intro dx dy G R x y H Q h r d1 d2 k
 unfold wx at h
 split at h
 ·unfold zQ at d2
  refine⟨d2,k _ G h _ H (.refl H) r ?_⟩
  rw[zO2 d1]
  unfold zQ;rfl
 ·exact h.elim
theorem zFG(ha:E2 X a ta)(hb:E2 X b tb):E2 X (.Compare a [.Is] [b] pos) (zO (wx false) ta tb):=zFv zIn (zEd (ng:=false)) ha hb (zAC _)
theorem zNC(ha:E2 X a ta)(hb:E2 X b tb):E2 X (.Compare a [.IsNot] [b] pos) (zO (wx true) ta tb):=zFv zGJ (zEd (ng:=true)) ha hb (zAC _)
theorem zP2(ha:E2 X a ta)(hb:E2 X b tb):T2 X (.Compare a [.Is] [b] pos) (xB (zO (wx false) ta tb)):=zCi zIn (zEd (ng:=false)) ha hb (zAC _)
theorem zIK(ha:E2 X a ta)(hb:E2 X b tb):T2 X (.Compare a [.IsNot] [b] pos) (xB (zO (wx true) ta tb)):=zCi zGJ (zEd (ng:=true)) ha hb (zAC _)
end
end L3
namespace L3
open L2 HT2 HS
end L3
namespace L3
open L2
section
variable {X:Cx} {e:Expr} {p pos:Pos}
end
section
variable {X:Cx} {a b:Expr} {ta tb:zk} {pos:Pos}
theorem zP3(ha:E2 X a ta)(hb:E2 X b tb):E2 X (.BinOp a .LShift b pos) (zO (yY zEC fun i j=>.int (i*2 ^ j.toNat)) ta tb):=zHj zQc (zDC fun u0 u0=>⟨rfl,rfl⟩) ha hb
theorem zM5(ha:E2 X a ta)(hb:E2 X b tb):E2 X (.BinOp a .BitXor b pos) (zO (fII fun i j=>.int (Builtin.bitXor i j)) ta tb):=zHj zQd (zCu fun u0 u0=>⟨rfl,rfl⟩) ha hb
end
theorem zIL(a b:Nat):(a ^^^ b)+2*(a &&& b)=a+b:=by
 induction a using Nat.strongRecOn generalizing b with
 | _ a ih =>
  by_cases h:a=0
  ·subst h;simp
  ·have h0:=ih (a / 2) (by omega) (b / 2)
   rw[← Nat.xor_div_two,← Nat.and_div_two] at h0
   have h1:=@Nat.xor_mod_two_eq_one a b
   have h2:=@Nat.and_mod_two_eq_one a b
   have h3:(a ^^^ b)%2+2*((a &&& b)%2)=a%2+b%2:=by
    clear h0 ih h
    rcases fc a with x | x<;>rcases fc b with y | y<;>rcases fc (a &&& b) with z | z<;>rcases fc (a ^^^ b) with w | w<;>rw[x,y,z,w]<;>rw[x,y,z] at h2<;>rw[x,y,w] at h1<;>simp at h1 h2 ⊢
   generalize a ^^^ b=u at h0 h3 ⊢
   generalize a &&& b=v at h0 h3 ⊢
   omega
theorem zJP(a b:Nat):Builtin.bitXor (a:Int) (b:Int)=((a ^^^ b:Nat):Int):=by
 have e:Builtin.bitAnd (a:Int) (b:Int)=((a &&& b:Nat):Int):=by
  unfold Builtin.bitAnd
  have h1:decide ((0:Int)≤(a:Int))=true:=decide_eq_true (by omega)
  have h2:decide ((0:Int)≤(b:Int))=true:=decide_eq_true (by omega)
  rw[h1,h2]
  rfl
 have h:=zIL a b
 rw[PyProof.Rows.bitXor_and,e]
 omega
end L3
namespace K
noncomputable def red(free:List Nat)(x:Nat):Nat:=free.foldl (fun x b=>min x (x ^^^ b)) x
noncomputable def zSV(free:List Nat)(row:Nat):List Nat:=if red free row≠0 then free++[red free row] else free
end K
namespace K
open L2 L3
theorem snoc_ind{P:List Nat→Prop}(nil:P [])(append_singleton:∀ l o,P l→P (l++[o]))(l:List Nat):P l:=by
 rw[← List.reverse_reverse l]
 induction l.reverse with
 | nil=>exact nil
 | cons a r ih=>rw[eK];exact append_singleton _ _ ih
noncomputable def zAX(l:List Nat):Nat:=(l.map fun o=>2 ^ o).sum
theorem zO3:∀(l:List Nat) (m:Nat),l.Pairwise (·<·)→(∀ x∈l,x<m)→zAX l<2 ^ m:=by
 intro l
 induction l using snoc_ind with
 | nil=>intro m u0 u0;exact Nat.two_pow_pos m
 | append_singleton l o ih =>
  intro m hp hm
  have hp':=List.pairwise_append.mp hp
  have h1:=ih o hp'.1 fun x hx=>hp'.2.2 x hx o (by simp)
  have ho:=hm o (by simp)
  have h2:2 ^ (o+1)≤2 ^ m:=Nat.pow_le_pow_right (by omega) ho
  unfold zAX at *
  rw[cX,List.sum_append]
  simp only[cM,fC,fk,List.sum_nil]
  rw[Nat.pow_succ] at h2
  omega
theorem zND:∀(l:List Nat),l.Pairwise (·<·)→∀ i,(zAX l).testBit i=decide (i∈l):=by
 intro l
 induction l using snoc_ind with
 | nil=>intro u0 i;simp[zAX]
 | append_singleton l o ih =>
  intro hp i
  have hp':=List.pairwise_append.mp hp
  have hl:=zO3 l o hp'.1 fun x hx=>hp'.2.2 x hx o (by simp)
  have h1:=ih hp'.1 i
  have e:zAX (l++[o])=2 ^ o*1+zAX l:=by
   unfold zAX
   rw[cX,List.sum_append]
   simp;omega
  rw[e,Nat.testBit_two_pow_mul_add _ hl]
  by_cases hi:i<o
  ·rw[if_pos hi,h1]
   have:i≠o:=by omega
   simp[this]
  ·rw[if_neg hi]
   have hni:i∉l:=fun z=>by have:=hp'.2.2 i z o (by simp);omega
   by_cases hio:i=o
   ·subst hio;simp
   ·obtain⟨j,hj⟩:∃ j,i-o=j+1:=⟨i-o-1,by omega⟩
    rw[hj,Nat.testBit_succ]
    simp[hni,hio]
noncomputable def oth(n:Nat)(ps:List Nat):List Nat:=(bQ n).filter fun x=>!decide (x∈ps)
theorem zHG{n:Nat}{ps:List Nat}{x:Nat}(h:x∈oth n ps):x<n:=bX.mp (cw.mp h).1
noncomputable def mask(q:Nat×Nat→Bool)(i:Nat)(os:List Nat):Nat:=zAX (os.filter (yW q i))
theorem zNE(l:List Nat):(l.map fun(x:Nat)=>(x:Int)).sum=((l.sum:Nat):Int):=by
 induction l with
 | nil=>rfl
 | cons a r ih=>rw[cM,fk,ih,fk];omega
noncomputable def rk(n:Nat)(q:Nat×Nat→Bool)(ps:List Nat):List Nat:=(ps.map fun i=>mask q i (oth n ps)).foldl zSV []
theorem zO4{σ:S2}{G:Gp}{t u:zk}{a b:Nat}(h:zi t σ G (nD a))(h':zi u σ G (nD b)):zi (zO (fII fun i j=>.int (Builtin.bitXor i j)) t u) σ G (nD (a ^^^ b)):=by
 have:=zHr (g:=fun i j=>.int (Builtin.bitXor i j)) h h'
 rw[zJP] at this
 exact this
end K
namespace K
open L2 L3 HS
noncomputable def pI(p:Nat×Nat):List Int:=[(p.1:Int),(p.2:Int)]
theorem zNF(l:List (Nat×Nat)):l.map yw=(l.map pI).map tI:=by rw[da];rfl
theorem zRT{a b:Nat×Nat}(h:ltP a b):ltI (pI b) (pI a)=false:=by
 unfold ltP at h
 unfold pI
 simp only[ltI]
 split
 ·split
  ·rfl
  ·simp only[decide_eq_false_iff_not];omega
 ·simp only[decide_eq_false_iff_not];omega
theorem zSW{l:List (Nat×Nat)}:∀ ns∈l.map pI,ns≠[]:=fun ns h=>by
 obtain⟨p,u0,rfl⟩:=bY.mp h
 simp[pI]
theorem zNG:∀ n,n<10→(wG n).length≤36:=by decide +kernel
theorem zNH{n:Nat}{l:List (Nat×Nat)}(nd:l.Nodup)(hp:∀ p∈l,p.1<p.2∧p.2<n)(hn:n≤9):l.length≤36 :=
 dh (nd.length_le_of_subset fun p h=>wH.mpr (hp p h)) (zNG n (by omega))
theorem zJQ{n:Nat}{l:List (Nat×Nat)}{m:List (List Int)}(nd:l.Nodup)(hp:∀ p∈l,p.1<p.2∧p.2<n)(pm:m.Perm (l.map pI))(hm:m.Pairwise (fun a b=>ltI b a=false)):m=((wG n).filter fun p=>decide (p∈l)).map pI:=by
 have rs:((wG n).filter fun p=>decide (p∈l)).Pairwise ltP:=(zH2 n).filter _
 refine eQ.eq_of_pairwise (fun a b u0 u0 h1 h2=>zEY a b h2 h1) hm ?_ (pm.trans (eQ.map _ ?_))
 ·rw[List.pairwise_map]
  exact rs.imp zRT
 ·refine(List.perm_ext_iff_of_nodup nd ((zF6 n).filter _)).mpr fun p=>?_
  rw[cw,wH]
  constructor
  ·intro h;exact⟨hp p h,decide_eq_true h⟩
  ·rintro⟨u0,h⟩;exact of_decide_eq_true h
theorem zLJ{σ:S2}{G:Gp}{t:zk}{a:Addr}{n:Nat}{l:List (Nat×Nat)}(h:zi t σ G (.adr a))(hl:Ls G a (l.map yw))(nd:l.Nodup)(hp:∀ p∈l,p.1<p.2∧p.2<n)(hn:n≤9):zi (zc zz (zCC (zA t zH))) σ G (.tup (((wG n).filter fun p=>decide (p∈l)).map yw)):=fun G2 e R q=>h G2 e _ (by
 refine⟨l.map pI,?_,by have:=zNH nd hp hn;rw[bU];omega,zSW,fun m pm hm=>?_⟩
 ·rw[← zNF];exact e.ls hl
 ·rw[zJQ nd hp pm hm,← zNF]
  exact q)
end K
namespace L2
section
variable {X:Cx} {z:Str} {tg elt iter:Expr} {ifs:List Expr} {sc:Scope} {pos:Pos} {N0 own:List Str} {wi:TI} {g:TG} {tc:TT} {te:TE}
end
end L2
namespace L3
open L2
section
variable {X:Cx} {elt iter:Expr} {pos:Pos} {te:zk} {ifs:List Expr} {sc:Scope} {N0:List Str} {wi:TI2} {tc:TT2}
end
end L3
namespace K
open L2 L3
end K
namespace HZ
end HZ
namespace L2
open HZ
end L2
namespace L3
open L2
end L3
namespace K
open L2 L3 HS
theorem zHH{σ:S2}{G:Gp}{t:zk}{a:Addr}{xs:List D}(h:zi t σ G (.adr a))(hl:Ls G a xs):zi (zJ zo (zA t zH)) σ G (nD xs.length):=zn (zF h zM) fun u0 e u0 q=>⟨xs,e.ls hl,q⟩
theorem zO5(n:Nat):yG 1 n=(bQ n).map fun k=>nD (k+1):=by
 unfold yG
 refine em fun k u0=>?_
 show D.int _=D.int _
 congr 1
 omega
theorem zO6{n i:Nat}{x:D}(h:((bQ n).map fun k=>nD (k+1))[i]?=some x):x=nD (i+1)∧i<n:=by
 rw[cC] at h
 by_cases hi:i<n
 ·rw[List.getElem?_range hi] at h
  cases h
  exact⟨rfl,hi⟩
 ·rw[List.getElem?_eq_none (by rw[cz];omega)] at h
  cases h
end K
namespace K
open L3
noncomputable def mkW(r:List Nat)(a j:Nat):Nat:=((r.drop a).take j).foldl (fun m x=>m ^^^ 2 ^ x) 0
noncomputable def tog(l:List Nat)(x:Nat):List Nat:=if x∈l then l.filter (fun y=>decide (y≠x)) else l++[x]
noncomputable def odW(r:List Nat)(a j:Nat):List Nat:=((r.drop a).take j).foldl tog []
theorem zHI{l:List Nat}{x i:Nat}:i∈tog l x↔(i∈l∧i≠x)∨(i=x∧x∉l):=by
 unfold tog
 by_cases h:x∈l
 ·rw[if_pos h,cw]
  simp only[decide_eq_true_eq]
  constructor
  ·intro q;exact .inl q
  ·rintro(q | ⟨u0,q⟩)
   ·exact q
   ·exact absurd h q
 ·rw[if_neg h,cH,cg]
  constructor
  ·rintro(q | q)
   ·exact .inl ⟨q,fun z=>h (by rw[← z];exact q)⟩
   ·exact .inr ⟨q,h⟩
  ·rintro(q | q)
   ·exact .inl q.1
   ·exact .inr q.1
theorem zLK{l:List Nat}{x:Nat}(h:l.Nodup):(tog l x).Nodup:=by
 unfold tog
 by_cases hx:x∈l
 ·rw[if_pos hx];exact h.filter _
 ·rw[if_neg hx]
  exact eN.mpr ⟨h,by simp,fun a ha b hb e=>by rw[cg.mp hb] at e;exact hx (by rw[← e];exact ha)⟩
theorem zGL:∀(xs l:List Nat) (m:Nat),l.Nodup→(∀ i,m.testBit i=decide (i∈l))→(xs.foldl tog l).Nodup∧∀ i,(xs.foldl (fun m x=>m ^^^ 2 ^ x) m).testBit i=decide (i∈xs.foldl tog l)
 | [],l,m,h,e=>⟨h,e⟩
 | x::xs,l,m,h,e=>by
  refine zGL xs (tog l x) (m ^^^ 2 ^ x) (zLK h) fun i=>?_
  rw[Nat.testBit_xor,e,Nat.testBit_two_pow,cF]
  simp only[decide_eq_true_eq,bne_iff_ne,ne_eq,decide_eq_decide,zHI]
  by_cases h1:i∈l<;>by_cases h2:x=i
  ·subst h2;simp[h1]
  ·simp[h1,h2,Ne.symm h2,eq_comm]
  ·subst h2;simp[h1]
  ·simp[h1,h2,Ne.symm h2,eq_comm]
theorem zRU(r:List Nat)(a j:Nat):(odW r a j).Nodup∧∀ i,(mkW r a j).testBit i=decide (i∈odW r a j):=zGL _ [] 0 List.nodup_nil fun i=>by simp
theorem zIM{r:List Nat}{a j:Nat}(h:a+j<r.length):mkW r a (j+1)=mkW r a j ^^^ 2 ^ (r.getD (a+j) 0):=by
 unfold mkW
 have e:(r.drop a)[j]?=some (r.getD (a+j) 0):=by
  rw[List.getElem?_drop]
  simp[cP,h]
 rw[yU e,List.foldl_append];rfl
theorem zO7{r:List Nat}{a j:Nat}(h:r.length≤a+j):mkW r a (j+1)=mkW r a j:=by
 unfold mkW
 rw[eV (by rw[dF];omega),eV (by rw[dF];omega)]
noncomputable def zDv(r:List Nat)(p a b:Nat):List Nat:=r.take a++[p]++(r.drop a).take (b-a)++[p]++r.drop b
noncomputable def zEH(r:List Nat)(p W a j:Nat):List (List Nat):=((bQ j).filter fun d=>decide (mkW r a d=W)).map fun d=>zDv r p a (a+d)
noncomputable def zBH(r:List Nat)(p W:Nat):Nat→List (List Nat)
 | 0=>[]
 | i+1=>zBH r p W i++zEH r p W (i+1) (r.length-i)
noncomputable def wch(r:List Nat)(p W:Nat):List (List Nat):=zBH r p W r.length
theorem zCV{r:List Nat}{p W a j:Nat}:zEH r p W a (j+1)=zEH r p W a j++(if mkW r a j=W then [zDv r p a (a+j)] else []):=by
 unfold zEH
 rw[eM,dH,cX]
 by_cases h:mkW r a j=W<;>simp[h]
theorem zIN{f:Nat→Bool}:∀ j,(∀ d,d+1<j→¬ (f d=true∧f (d+1)=true))→((bQ j).filter f).length≤(j+1) / 2
 | 0,_=>by simp
 | 1,_=>by
  have:=dk f (bQ 1)
  simpa using this
 | j+2,h=>by
  have ih:=zIN j fun d hd=>h d (by omega)
  rw[eM,eM,dH,dH,ci,ci]
  have:=h j (by omega)
  cases h1:f j<;>cases h2:f (j+1)<;>simp_all<;>omega
theorem zIO{r:List Nat}{p W a j:Nat}(hj:a+j≤r.length+1):(zEH r p W a j).length≤(j+1) / 2:=by
 unfold zEH
 rw[bU]
 refine zIN j fun d hd=>?_
 rintro⟨h1,h2⟩
 have h1:=of_decide_eq_true h1
 have h2:=of_decide_eq_true h2
 rw[zIM (by omega),h1] at h2
 have h3:=congrArg (fun z=>z ^^^ W) h2
 simp only[Nat.xor_self] at h3
 rw[Nat.xor_comm W,Nat.xor_assoc,Nat.xor_self,Nat.xor_zero] at h3
 have:0<2 ^ (r.getD (a+d) 0):=Nat.pow_pos (by omega)
 omega
theorem zO8{r:List Nat}{p a b:Nat}(h:a≤b)(hb:b≤r.length):(zDv r p a b).length=r.length+2∧∀ x∈zDv r p a b,x=p∨x∈r:=by
 unfold zDv
 constructor
 ·simp only[ci,cK,dF,bO,bR]
  omega
 ·intro x hx
  simp only[cH,cI,eA,or_false] at hx
  rcases hx with (((hx | hx) | hx) | hx) | hx
  ·exact .inr (eH hx)
  ·exact .inl hx
  ·exact .inr (List.mem_of_mem_drop (eH hx))
  ·exact .inl hx
  ·exact .inr (List.mem_of_mem_drop hx)
theorem zGM{r:List Nat}{p W:Nat}{x:List Nat}:∀ i,i≤r.length→x∈zBH r p W i→x.length=r.length+2∧∀ y∈x,y=p∨y∈r
 | 0,_,h=>by cases h
 | i+1,hi,h=>by
  rcases cH.mp (show x∈zBH r p W i++zEH r p W (i+1) (r.length-i) from h) with h | h
  ·exact zGM i (by omega) h
  ·obtain⟨d,hd,rfl⟩:=bY.mp h
   have hd:=bX.mp (cw.mp hd).1
   exact zO8 (by omega) (by omega)
end K
namespace K
open L2 L3
section
variable {α:Type}
theorem zO9(X Y:List α):trn (X++Y) X.length=Y++X:=by unfold trn;simp
end
noncomputable def zDw:List Nat→Bool
 | a::b::c::_=>decide (a≠b)&&decide (b≠c)
 | _=>false
theorem yD(r:List Nat)(p:Nat×Nat):zd r p=zDw (both r p):=by
 unfold zd zDw
 rfl
theorem four{w:List Nat}{i j:Nat}(h:w.length=4)(hm:∀ x∈w,x=i∨x=j)(hi:w.count i=2)(hij:i≠j) :
  w=[i,i,j,j]∨w=[i,j,i,j]∨w=[i,j,j,i]∨w=[j,i,i,j]∨w=[j,i,j,i]∨w=[j,j,i,i]:=by
 match w,h with
 | [a,b,c,d],_ =>
  have ji:¬ j=i:=fun e=>hij e.symm
  have ha:=hm a (by simp)
  have hb:=hm b (by simp)
  have hc:=hm c (by simp)
  have hd:=hm d (by simp)
  rcases ha with rfl | rfl<;>rcases hb with rfl | rfl<;>rcases hc with rfl | rfl<;>rcases hd with rfl | rfl<;>simp_all [cL]
theorem zPA{w:List Nat}{i j:Nat}(h:w.length=4)(hm:∀ x∈w,x=i∨x=j)(hi:w.count i=2)(hij:i≠j){k:Nat}(hk:k≤4):zDw (trn w k)=zDw w:=by
 have ji:¬ j=i:=fun e=>hij e.symm
 have:k=0∨k=1∨k=2∨k=3∨k=4:=by omega
 rcases four h hm hi hij with rfl | rfl | rfl | rfl | rfl | rfl<;>rcases this with rfl | rfl | rfl | rfl | rfl<;>simp[trn,zDw,hij,ji]
theorem zGN(r:List Nat)(i j:Nat):both r (i,j)=both r (j,i):=by
 unfold both
 exact eO fun x u0=>Bool.or_comm _ _
theorem zLL{r:List Nat}{f:Nat→Nat}{u v:Nat}(hf:∀ x∈r,∀ y∈r,f x=f y→x=y)(hu:u∈r)(hv:v∈r):zd (r.map f) (f u,f v)=zd r (u,v):=by
 rw[yD,yD]
 have e:both (r.map f) (f u,f v)=(both r (u,v)).map f:=by
  unfold both
  rw[en]
  congr 1
  refine eO fun x hx=>?_
  have h1:(f x=f u)=(x=u):=propext ⟨fun q=>hf x hx u hu q,fun q=>by rw[q]⟩
  have h2:(f x=f v)=(x=v):=propext ⟨fun q=>hf x hx v hv q,fun q=>by rw[q]⟩
  simp[h1,h2]
 rw[e]
 have hm:∀ x∈both r (u,v),x∈r:=fun x hx=>(cw.mp hx).1
 generalize both r (u,v)=w at hm
 match w,hm with
 | [],_=>rfl
 | [a],_=>rfl
 | [a,b],_=>rfl
 | a::b::c::t,hm =>
  have ma:=hm a (by simp)
  have mb:=hm b (by simp)
  have mc:=hm c (by simp)
  have h1:(f a=f b)=(a=b):=propext ⟨fun q=>hf a ma b mb q,fun q=>by rw[q]⟩
  have h2:(f b=f c)=(b=c):=propext ⟨fun q=>hf b mb c mc q,fun q=>by rw[q]⟩
  simp[zDw,h1,h2]
noncomputable def nm(od:List Nat)(x:Nat):Nat:=od.idxOf x
theorem zIP{od:List Nat}(nd:od.Nodup){i:Nat}(hi:i<od.length):nm od (od.getD i 0)=i:=by
 unfold nm
 have:od.getD i 0=od[i]:=by simp[cP,hi]
 rw[this]
 exact fB.idxOf_getElem nd i hi
theorem zP4{od:List Nat}{x:Nat}(h:x∈od):nm od x<od.length:=List.idxOf_lt_length_of_mem h
theorem zDZ{od:List Nat}{x:Nat}(h:x∈od):od.getD (nm od x) 0=x:=by
 have:=zP4 h
 simp only[cP,dM this,Option.getD_some]
 exact List.getElem_idxOf this
theorem zNI{od:List Nat}(nd:od.Nodup):od.map (nm od)=bQ od.length:=by
 apply List.ext_getElem
 ·simp
 ·intro i h1 h2
  rw[bU] at h1
  have:=zIP nd h1
  rw[show od.getD i 0=od[i] by simp[cP,h1]] at this
  simp[this]
noncomputable def wo(r od:List Nat):List Nat:=(r.filter fun x=>decide (x∈od)).map (nm od)
theorem zRV{r od:List Nat}(h:∀ x∈r,x∈od):wo r od=r.map (nm od):=by
 unfold wo
 rw[List.filter_eq_self.mpr (fun x hx=>by simpa using h x hx)]
end K
namespace K
open L3
structure yE (q:Nat×Nat→Bool) (S w:List Nat):Prop where
 cnt:∀ x,w.count x=if x∈S then 2 else 0
 crs:∀ i∈S,∀ j∈S,i≠j→zd w (i,j)=yW q i j
theorem yE.mem{q:Nat×Nat→Bool}{S w:List Nat}(h:yE q S w){x:Nat}:x∈w↔x∈S:=by
 rw[← List.count_pos_iff,h.cnt x]
 by_cases hx:x∈S<;>simp[hx]
theorem yE.two{q:Nat×Nat→Bool}{S w:List Nat}(h:yE q S w){x:Nat}(hx:x∈S):w.count x=2:=by rw[h.cnt,if_pos hx]
theorem yE.congr{q:Nat×Nat→Bool}{S T w:List Nat}(h:yE q S w)(e:∀ x,x∈S↔x∈T):yE q T w :=
 ⟨fun x=>by rw[h.cnt x];simp only[e x],fun i hi j hj n=>h.crs i ((e i).mpr hi) j ((e j).mpr hj) n⟩
theorem zIQ{w:List Nat}{p:Nat→Bool}{i j:Nat}(hi:p i=true)(hj:p j=true):both (w.filter p) (i,j)=both w (i,j):=by
 unfold both
 rw[List.filter_filter]
 refine eO fun x u0=>?_
 by_cases h1:x=i
 ·subst h1;simp[hi]
 ·by_cases h2:x=j
  ·subst h2;simp[hj]
  ·simp[h1,h2]
theorem zDa{w:List Nat}{p:Nat→Bool}{i j:Nat}(hi:p i=true)(hj:p j=true):zd (w.filter p) (i,j)=zd w (i,j):=by
 rw[yD,yD,zIQ hi hj]
theorem yE.sub{q:Nat×Nat→Bool}{S T w:List Nat}(h:yE q S w)(hT:∀ x∈T,x∈S):yE q T (w.filter fun x=>decide (x∈T)):=by
 refine⟨fun x=>?_,fun i hi j hj n=>?_⟩
 ·by_cases hx:x∈T
  ·rw[if_pos hx,List.count_filter (by simp[hx]),h.two (hT x hx)]
  ·rw[if_neg hx]
   exact e7.mpr fun z=>hx (by simpa using(cw.mp z).2)
 ·rw[zDa (by simp[hi]) (by simp[hj])]
  exact h.crs i (hT i hi) j (hT j hj) n
theorem zGO{i j:Nat}(hij:i≠j)(l:List Nat):(both l (i,j)).length=l.count i+l.count j:=by
 unfold both
 induction l with
 | nil=>rfl
 | cons a r ih =>
  simp only[eB,cL]
  by_cases ha:a=i
  ·subst ha
   simp[hij,ih];omega
  ·by_cases hb:a=j
   ·subst hb;simp[ha,ih];omega
   ·simp[ha,hb,ih]
theorem zLM{A B:List Nat}{i j:Nat}(hij:i≠j)(hi:(A++B).count i=2)(hj:(A++B).count j=2):zd (B++A) (i,j)=zd (A++B) (i,j):=by
 rw[yD,yD]
 have e:both (B++A) (i,j)=trn (both (A++B) (i,j)) (both A (i,j)).length:=by
  have b1:∀ X Y:List Nat,both (X++Y) (i,j)=both X (i,j)++both Y (i,j):=fun X Y=>dH _ _
  rw[b1 A B,zO9,b1]
 have l4:=zGO hij (A++B)
 have lA:(both A (i,j)).length≤(both (A++B) (i,j)).length:=by
  have b1:both (A++B) (i,j)=both A (i,j)++both B (i,j):=dH _ _
  rw[b1,ci];omega
 rw[hi,hj] at l4
 rw[e]
 refine zPA l4 (fun x hx=>?_) ?_ hij (by omega)
 ·simpa using(cw.mp hx).2
 ·unfold both;rw[List.count_filter (by simp)];exact hi
theorem yE.rot{q:Nat×Nat→Bool}{S A B:List Nat}(h:yE q S (A++B)):yE q S (B++A):=by
 refine⟨fun x=>?_,fun i hi j hj n=>?_⟩
 ·rw[← h.cnt x,cO,cO,Nat.add_comm]
 ·rw[zLM n (h.two hi) (h.two hj)]
  exact h.crs i hi j hj n
theorem yE.begin{q:Nat×Nat→Bool}{S w:List Nat}(h:yE q S w){o:Nat}(ho:o∈S):∃ t,yE q S (o::t):=by
 obtain⟨A,B,rfl⟩:=List.append_of_mem (h.mem.mpr ho)
 exact⟨B++A,h.rot⟩
theorem zBp(w:List Nat)(i j:Nat):zd w (i,j)=zd w (j,i):=by rw[yD,yD,zGN]
theorem zIR(i:Nat):∀(B l:List Nat),i∈B.foldl tog l↔(if i∈l then B.count i%2=0 else B.count i%2=1)
 | [],l=>by by_cases h:i∈l<;>simp[h]
 | x::B,l=>by
  rw[List.foldl_cons,zIR i B (tog l x),cL]
  by_cases hx:x=i
  ·subst hx
   have e:x∈tog l x↔x∉l:=by rw[zHI];simp
   by_cases h:x∈l
   ·simp only[e,h,not_true,if_false,if_true,beq_self_eq_true];omega
   ·simp only[e,h,not_false_iff,if_true,if_false,beq_self_eq_true];omega
  ·have e:i∈tog l x↔i∈l:=by rw[zHI];simp[Ne.symm hx]
   have:(x==i)=false:=by simpa using hx
   simp only[e,this,bJ,if_false,Nat.add_zero]
theorem zKC{A B C:List Nat}(i:Nat):(mkW (A++B++C) A.length B.length).testBit i=decide (B.count i%2=1):=by
 rw[(zRU _ _ _).2 i]
 unfold odW
 have e:((A++B++C).drop A.length).take B.length=B:=by
  rw[dg,List.drop_left];exact List.take_left' rfl
 rw[e,cF,decide_eq_true_eq,decide_eq_true_eq,zIR]
 simp
theorem zLN{l l':List Nat}(h:l.Perm l'):zAX l=zAX l':=by
 unfold zAX
 induction h with
 | nil=>rfl
 | cons x _ ih=>simp only[cM,fk,ih]
 | swap x y l=>simp only[cM,fk];omega
 | trans _ _ h1 h2=>exact h1.trans h2
theorem zGP{l:List Nat}(h:l.Nodup)(i:Nat):(zAX l).testBit i=decide (i∈l):=by
 rw[← zLN (zC0 l)]
 have hs:(zJw l).Pairwise (·<·):=by
  have nd:(zJw l).Nodup:=(zC0 l).nodup_iff.mpr h
  have:=(zMb l).and nd
  exact this.imp fun⟨a,b⟩=>Nat.lt_of_le_of_ne a b
 rw[zND _ hs i,cF,decide_eq_true_eq,decide_eq_true_eq]
 exact(zC0 l).mem_iff
theorem zGQ{r:List Nat}{p W:Nat}{w:List Nat}:∀ i,i≤r.length→(w∈zBH r p W i↔∃ a d,1≤a∧a≤i∧a+d≤r.length∧mkW r a d=W∧w=zDv r p a (a+d))
 | 0,_=>by
  constructor
  ·intro h;cases h
  ·rintro⟨a,d,h1,h2,u0⟩;omega
 | i+1,hi=>by
  show w∈zBH r p W i++zEH r p W (i+1) (r.length-i)↔_
  rw[cH,zGQ i (by omega)]
  unfold zEH
  rw[bY]
  constructor
  ·rintro(⟨a,d,h1,h2,h3,h4,h5⟩ | ⟨d,hd,e⟩)
   ·exact⟨a,d,h1,by omega,h3,h4,h5⟩
   ·obtain⟨h1,h2⟩:=cw.mp hd
    have h1:=bX.mp h1
    exact⟨i+1,d,by omega,by omega,by omega,of_decide_eq_true h2,e.symm⟩
  ·rintro⟨a,d,h1,h2,h3,h4,h5⟩
   by_cases h:a≤i
   ·exact .inl ⟨a,d,h1,h,h3,h4,h5⟩
   ·obtain rfl:a=i+1:=by omega
    exact .inr ⟨d,cw.mpr ⟨bX.mpr (by omega),decide_eq_true h4⟩,h5.symm⟩
theorem zKD{r:List Nat}{p W:Nat}{w:List Nat}:w∈wch r p W↔∃ A B C,A≠[]∧r=A++B++C∧mkW r A.length B.length=W∧w=A++p::(B++p::C):=by
 unfold wch
 rw[zGQ _ (bZ _)]
 constructor
 ·rintro⟨a,d,h1,u0,h3,h4,rfl⟩
  refine⟨r.take a,(r.drop a).take d,r.drop (a+d),fun z=>?_,?_,?_,?_⟩
  ·have:=congrArg List.length z
   rw[cK,bR] at this;omega
  ·rw[dg,← List.drop_drop,di,di]
  ·rw[cK,cK,dF,dJ (by omega),dJ (by omega)];exact h4
  ·unfold zDv
   rw[show a+d-a=d by omega]
   simp
 ·rintro⟨A,B,C,hA,rfl,hW,rfl⟩
  have hA':1≤A.length:=by cases A with | nil=>exact absurd rfl hA | cons a t=>simp
  refine⟨A.length,B.length,hA',by simp,by simp,hW,?_⟩
  unfold zDv
  have e1:(A++B++C).take A.length=A:=by rw[dg];exact List.take_left' rfl
  have e2:((A++B++C).drop A.length).take B.length=B:=by rw[dg,List.drop_left];exact List.take_left' rfl
  have e3:(A++B++C).drop (A.length+B.length)=C:=by rw[← ci];exact List.drop_left' rfl
  rw[show A.length+B.length-A.length=B.length by omega,e1,e2,e3]
  simp
theorem zEe(A B C:List Nat)(p x:Nat):(A++p::(B++p::C)).count x=(A++B++C).count x+if p=x then 2 else 0:=by
 simp only[cO,cL,beq_iff_eq]
 split<;>omega
theorem zFH{A B C:List Nat}{p:Nat}(h:p∉A++B++C):(A++p::(B++p::C)).filter (fun x=>decide (x≠p))=A++B++C:=by
 have f:∀ X:List Nat,p∉X→X.filter (fun x=>decide (x≠p))=X:=fun X hX=>List.filter_eq_self.mpr fun x hx=>by
  have:x≠p:=fun e=>hX (e▸hx)
  simp[this]
 simp only[cH,not_or] at h
 simp only[dH,eB,f A h.1.1,f B h.1.2,f C h.2]
 simp
theorem yE.put{q:Nat×Nat→Bool}{S r w:List Nat}{p:Nat}(h:yE q S r)(hp:p∉S)(nd:S.Nodup)(hw:w∈wch r p (zAX (S.filter (yW q p)))):yE q (S++[p]) w∧w.filter (fun x=>decide (x≠p))=r∧w.head?=r.head?:=by
 obtain⟨A,B,C,hA,rfl,hW,rfl⟩:=zKD.mp hw
 have hpr:p∉A++B++C:=fun z=>hp (h.mem.mp z)
 have hf:=zFH hpr
 refine⟨⟨fun x=>?_,?_⟩,hf,?_⟩
 ·rw[zEe,h.cnt x]
  by_cases hx:p=x
  ·subst hx;simp[hp]
  ·simp[hx,Ne.symm hx]
 ·have old:∀ i∈S,∀ j∈S,i≠j→zd (A++p::(B++p::C)) (i,j)=yW q i j:=fun i hi j hj n=>by
   rw[← h.crs i hi j hj n,← hf]
   refine(zDa ?_ ?_).symm
   ·have:i≠p:=fun e=>hp (e▸hi)
    simp[this]
   ·have:j≠p:=fun e=>hp (e▸hj)
    simp[this]
  have new:∀ j∈S,zd (A++p::(B++p::C)) (p,j)=yW q p j:=fun j hj=>by
   have hpj:p≠j:=fun e=>hp (e▸hj)
   simp only[cH,not_or] at hpr
   have c2:(A++p::(B++p::C)).count j=2:=by rw[zEe,h.two hj,if_neg hpj]
   rw[zCB hpj hpr.1.1 hpr.1.2 hpr.2 c2]
   have b1:=zKC (A:=A) (B:=B) (C:=C) j
   rw[hW,zGP (nd.filter _) j] at b1
   have hB:B.count j≤2:=by have:=h.two hj;simp only[cO] at this;omega
   have e:(p::B).count j=B.count j:=by rw[cL];simp[hpj]
   rw[e]
   have e2:decide (B.count j=1)=decide (B.count j%2=1):=by rw[decide_eq_decide];omega
   rw[e2,← b1,cF,decide_eq_true_eq,cw]
   simp[hj]
  intro i hi j hj n
  rcases cH.mp hi with hi | hi<;>rcases cH.mp hj with hj | hj
  ·exact old i hi j hj n
  ·rw[cg.mp hj,zBp,zCE];exact new i hi
  ·rw[cg.mp hi];exact new j hj
  ·rw[cg.mp hi,cg.mp hj] at n;exact absurd rfl n
 ·cases A with
  | nil=>exact absurd rfl hA
  | cons a t=>rfl
theorem yE.cut{q:Nat×Nat→Bool}{S t:List Nat}{o p:Nat}(h:yE q (S++[p]) (o::t))(hp:p∉S)(nd:S.Nodup)(ho:o≠p):o::t∈wch ((o::t).filter fun x=>decide (x≠p)) p (zAX (S.filter (yW q p))):=by
 obtain⟨A,B,C,e,hA,hB,hC⟩:=zJF (h.two (x:=p) (by simp))
 have hpr:p∉A++B++C:=by simp[hA,hB,hC]
 rw[e] at h ⊢
 rw[zFH hpr]
 refine zKD.mpr ⟨A,B,C,fun z=>?_,rfl,?_,rfl⟩
 ·subst z
  rw[bV] at e
  exact ho (List.cons.inj e).1
 ·refine Nat.eq_of_testBit_eq fun j=>?_
  rw[zKC,zGP (nd.filter _) j,cF,decide_eq_true_eq,decide_eq_true_eq,cw]
  by_cases hj:j∈S
  ·have hpj:p≠j:=fun z=>hp (z▸hj)
   have c2:(A++p::(B++p::C)).count j=2:=h.two (by simp[hj])
   have:=h.crs p (by simp) j (by simp[hj]) hpj
   rw[zCB hpj hA hB hC c2] at this
   rw[← this]
   have e3:(p::B).count j=B.count j:=by rw[cL];simp[hpj]
   rw[zEe,if_neg hpj,cO,cO] at c2
   rw[e3]
   simp only[hj,true_and,decide_eq_true_eq]
   omega
  ·simp only[hj,false_and,iff_false]
   have:B.count j=0:=by
    by_cases hpj:p=j
    ·subst hpj;exact e7.mpr hB
    ·have c0:=h.cnt j
     rw[if_neg (by simp[hj,Ne.symm hpj]),zEe,if_neg hpj,cO,cO] at c0
     omega
   omega
noncomputable def zRW(q:Nat×Nat→Bool)(os:List Nat)(k:Nat)(r:List Nat):List (List Nat):=wch r (os.getD k 0) (zAX ((os.take k).filter (yW q (os.getD k 0))))
noncomputable def wX(q:Nat×Nat→Bool)(os:List Nat):Nat→Nat→List Nat→Option (List Nat)
 | 0,_,_=>none
 | d+1,k,r=>if k=os.length then some r else (zRW q os k r).findSome? (wX q os d (k+1))
theorem zAs{os:List Nat}{k:Nat}(h:k<os.length):os.take (k+1)=os.take k++[os.getD k 0]:=yU (by simp[cP,h])
theorem zCF{os:List Nat}{k:Nat}(nd:os.Nodup)(h:k<os.length):os.getD k 0∉os.take k:=by
 have:(os.take (k+1)).Nodup:=nd.sublist (fA _ _)
 rw[zAs h] at this
 intro z
 exact(eN.mp this).2.2 _ z _ (cg.mpr rfl) rfl
theorem zD7{q:Nat×Nat→Bool}{os:List Nat}(nd:os.Nodup):∀(d k:Nat) (r w:List Nat),k≤os.length→yE q (os.take k) r→wX q os d k r=some w→yE q os w
 | 0,_,_,_,_,_,h=>by cases h
 | d+1,k,r,w,hk,ht,h=>by
  unfold wX at h
  by_cases he:k=os.length
  ·rw[if_pos he] at h
   cases h
   rw[he,e8] at ht
   exact ht
  ·rw[if_neg he] at h
   obtain⟨x,hx,hw⟩:=List.exists_of_findSome?_eq_some h
   have hk':k<os.length:=by omega
   refine zD7 nd d (k+1) x w (by omega) ?_ hw
   rw[zAs hk']
   exact(ht.put (zCF nd hk') (nd.sublist (fA _ _)) hx).1
theorem zIS{os t:List Nat}{o:Nat}(nd:os.Nodup){k:Nat}(hk:k<os.length):((o::t).filter fun x=>decide (x∈os.take (k+1))).filter (fun x=>decide (x≠os.getD k 0))=(o::t).filter fun x=>decide (x∈os.take k):=by
 rw[List.filter_filter]
 refine eO fun x u0=>?_
 rw[zAs hk,cF]
 have:=zCF nd hk
 simp only[dL,decide_eq_true_eq,cH,cg]
 constructor
 ·rintro⟨h1,h2 | h2⟩
  ·exact h2
  ·exact absurd h2 h1
 ·intro h
  exact⟨fun z=>this (z▸h),.inl h⟩
theorem zFI{q:Nat×Nat→Bool}{os t:List Nat}{o:Nat}(nd:os.Nodup)(h0:∃ tl,os=o::tl)(ht:yE q os (o::t)):∀(d k:Nat),1≤k→k≤os.length→os.length<d+k→wX q os d k ((o::t).filter fun x=>decide (x∈os.take k))≠none
 | 0,k,_,h2,h3=>by omega
 | d+1,k,h1,h2,h3=>by
  unfold wX
  by_cases he:k=os.length
  ·rw[if_pos he];simp
  ·rw[if_neg he]
   have hk:k<os.length:=by omega
   have ok:o∈os.take k:=by
    obtain⟨tl,rfl⟩:=h0
    cases k with
    | zero=>omega
    | succ k=>simp
   have ok1:o∈os.take (k+1):=by rw[zAs hk];exact dc _ ok
   have op:o≠os.getD k 0:=fun z=>zCF nd hk (z▸ok)
   have T1:=ht.sub (T:=os.take (k+1)) fun x hx=>eH hx
   have e1:(o::t).filter (fun x=>decide (x∈os.take (k+1)))=o::t.filter (fun x=>decide (x∈os.take (k+1))):=List.filter_cons_of_pos (by simp[ok1])
   have e2:=zIS (t:=t) (o:=o) nd hk
   rw[e1] at T1 e2
   rw[zAs hk] at T1
   have hm:=T1.cut (zCF nd hk) (nd.sublist (fA _ _)) op
   rw[← zAs hk,e2] at hm
   have ih:=zFI nd h0 ht d (k+1) (by omega) (by omega) (by omega)
   rw[e1] at ih
   intro z
   exact ih (List.findSome?_eq_none_iff.mp z _ hm)
noncomputable def Told(n:Nat)(q:Nat×Nat→Bool):Prop:=∃ w,yE q (bQ n) w
theorem zNJ(q:Nat×Nat→Bool)(o:Nat):yE q [o] [o,o]:=by
 refine⟨fun x=>?_,fun i hi j hj n=>?_⟩
 ·rw[cL,cL,List.count_nil]
  by_cases h:o=x
  ·subst h;simp
  ·simp[h,Ne.symm h]
 ·rw[cg.mp hi,cg.mp hj] at n
  exact absurd rfl n
structure Ord (n:Nat) (os:List Nat):Prop where
 nd:os.Nodup
 len:os.length=n
 lt:∀ x∈os,x<n
theorem Ord.mem{n:Nat}{os:List Nat}(h:Ord n os)(x:Nat):x∈os↔x∈bQ n:=by
 constructor
 ·intro q;exact bX.mpr (h.lt x q)
 ·intro q
  refine Classical.byContradiction fun hx=>?_
  have:=(du.mpr ⟨hx,h.nd⟩).length_le_of_subset (l₂:=bQ n) fun y hy=>by
   rcases cI.mp hy with rfl | hy
   ·exact q
   ·exact bX.mpr (h.lt y hy)
  rw[bO,cz,h.len] at this
  omega
theorem zGR{n:Nat}{q:Nat×Nat→Bool}{o:Nat}{tl:List Nat}(h:Ord n (o::tl))(d:Nat)(hd:n≤d) :
  (∀ w,wX q (o::tl) d 1 [o,o]=some w→yE q (bQ n) w)∧(Told n q→wX q (o::tl) d 1 [o,o]≠none):=by
 constructor
 ·intro w hw
  exact(zD7 h.nd d 1 _ w (by simp) (zNJ q o) hw).congr h.mem
 ·rintro⟨w,hw⟩
  have hw2:yE q (o::tl) w:=hw.congr fun x=>(h.mem x).symm
  obtain⟨t,ht⟩:=hw2.begin (cE ..)
  have:=zFI h.nd ⟨tl,rfl⟩ ht d 1 (bZ _) (by simp) (by rw[h.len];omega)
  have e:(o::t).filter (fun x=>decide (x∈(o::tl).take 1))=[o,o]:=by
   have c:=ht.two (x:=o) (by simp)
   have:∀ l:List Nat,l.filter (fun x=>decide (x∈(o::tl).take 1))=cq (l.count o) o:=by
    intro l
    induction l with
    | nil=>rfl
    | cons a r ih =>
     rw[eB,cL,ih]
     by_cases ha:a=o
     ·subst ha;simp[bM]
     ·have:(a==o)=false:=by simpa using ha
      simp[ha]
   rw[this,c];rfl
  rw[e] at this
  exact this
theorem yE.ring{n:Nat}{q:Nat×Nat→Bool}{w:List Nat}(h:yE q (bQ n) w):zAH n w:=by
 refine List.perm_iff_count.mpr fun x=>?_
 rw[h.cnt x,cO,zD3]
 by_cases hx:x<n
 ·rw[if_pos (bX.mpr hx),if_pos hx]
 ·rw[if_neg (fun z=>hx (bX.mp z)),if_neg hx]
theorem yE.web{n:Nat}{q:Nat×Nat→Bool}{w:List Nat}(h:yE q (bQ n) w):zS n (zd w)=zS n q:=zJC fun p hp=>by
 obtain⟨i,j⟩:=p
 obtain⟨h1,h2⟩:=wH.mp hp
 dsimp only at h1 h2
 rw[h.crs i (bX.mpr (by omega)) j (bX.mpr h2) (by omega)]
 unfold yW
 rw[dJ (by omega),fG (by omega)]
 simp;omega
theorem zPB{n:Nat}{q:Nat×Nat→Bool}{w:List Nat}(h:zAH n w)(e:∀ p∈wG n,zd w p=q p):yE q (bQ n) w:=by
 refine⟨fun x=>?_,fun i hi j hj ne=>?_⟩
 ·by_cases hx:x<n
  ·rw[if_pos (bX.mpr hx),h.count hx]
  ·rw[if_neg (fun z=>hx (bX.mp z))]
   exact e7.mpr fun z=>hx (h.mem.mp z)
 ·have hi:=bX.mp hi
  have hj:=bX.mp hj
  unfold yW
  rcases Nat.lt_or_gt_of_ne ne with z | z
  ·rw[e (i,j) (wH.mpr ⟨z,hj⟩),dJ (by omega),fG (by omega)];simp[ne]
  ·rw[zBp,e (j,i) (wH.mpr ⟨z,hi⟩),Nat.min_eq_right (by omega),Nat.max_eq_left (by omega)];simp[ne]
theorem zIT{X:List Nat}{i j:Nat}(hi:i∉X)(hj:j∉X):both X (i,j)=[]:=by
 rw[zBW hi,e7.mpr hj];rfl
theorem zA1(X Y:List Nat)(p:Nat×Nat):both (X++Y) p=both X p++both Y p:=dH _ _
theorem zNK(q:Nat×Nat→Bool):yE q [] []:=⟨fun x=>by simp,fun i hi=>by cases hi⟩
theorem yE.glue{q:Nat×Nat→Bool}{S T u v:List Nat}(hu:yE q S u)(hv:yE q T v)(dj:∀ x∈S,x∉T)(hq:∀ x∈T,∀ y∈S,yW q x y=false):yE q (S++T) (u++v):=by
 have oS:∀ x∈S,x∉v:=fun x hx z=>dj x hx (hv.mem.mp z)
 have oT:∀ x∈T,x∉u:=fun x hx z=>dj x (hu.mem.mp z) hx
 have mix:∀ i∈S,∀ j∈T,zd (u++v) (i,j)=false:=fun i hi j hj=>by
  have hij:i≠j:=fun e=>dj i hi (e▸hj)
  rw[yD,zA1,zGN u,zBW (oT j hj),zBW (oS i hi),hu.two hi,hv.two hj]
  simp[zDw,bM]
 refine⟨fun x=>?_,fun i hi j hj n=>?_⟩
 ·rw[cO,hu.cnt x,hv.cnt x]
  by_cases h1:x∈S
  ·simp[h1,dj x h1]
  ·by_cases h2:x∈T<;>simp[h1,h2]
 ·rcases cH.mp hi with hi | hi<;>rcases cH.mp hj with hj | hj
  ·rw[yD,zA1,zIT (oS i hi) (oS j hj),dY,← yD]
   exact hu.crs i hi j hj n
  ·rw[mix i hi j hj,zCE,hq j hj i hi]
  ·rw[zBp,mix j hj i hi,hq i hi j hj]
  ·rw[yD,zA1,zIT (oT i hi) (oT j hj),bV,← yD]
   exact hv.crs i hi j hj n
end K
namespace K
open L2 L3 HS
noncomputable def toI(p:Nat×Nat):List Int:=[(p.1:Int),(p.2:Int)]
theorem zKE{p q:Nat×Nat}(h:toI p=toI q):p=q:=by
 unfold toI at h
 simp only[List.cons.injEq,and_true] at h
 exact Prod.ext (by omega) (by omega)
theorem zJR(l:List (Nat×Nat)):l.map yw=(l.map toI).map tI:=by
 rw[da];rfl
noncomputable def inB(q:Nat×Nat→Bool)(i:Nat)(p:Nat×Nat):Bool:=yW q i p.1&&yW q i p.2
noncomputable def tq(q:Nat×Nat→Bool)(i:Nat)(p:Nat×Nat):Bool:=q p != inB q i p
noncomputable abbrev arL(n:Nat)(q:Nat×Nat→Bool)(i:Nat):List Nat:=(bQ n).filter (yW q i)
noncomputable abbrev zFJ(ar:List Nat):List (Nat×Nat):=(wG ar.length).map fun p=>(ar.getD p.1 0,ar.getD p.2 0)
theorem zNL{ar:List Nat}(hr:ar.Pairwise (·<·)){p:Nat×Nat}:p∈zFJ ar↔p.1<p.2∧p.1∈ar∧p.2∈ar:=by
 constructor
 ·intro h
  obtain⟨c,hc,rfl⟩:=bY.mp h
  obtain⟨c1,c2⟩:=wH.mp hc
  have h1:c.1<ar.length:=by omega
  have e1:ar.getD c.1 0=ar[c.1]:=by simp[cP,h1]
  have e2:ar.getD c.2 0=ar[c.2]:=by simp[cP,c2]
  simp only
  rw[e1,e2]
  exact⟨eF.mp hr c.1 c.2 h1 c2 c1,cZ _,cZ _⟩
 ·rintro⟨h0,h1,h2⟩
  obtain⟨i,hi,e1⟩:=dS h1
  obtain⟨j,hj,e2⟩:=dS h2
  have hij:i<j:=by
   rcases Nat.lt_trichotomy i j with z | z | z
   ·exact z
   ·subst z;omega
   ·have:=eF.mp hr j i hj hi z
    omega
  refine bY.mpr ⟨(i,j),wH.mpr ⟨hij,hj⟩,?_⟩
  have g1:ar.getD i 0=ar[i]:=by simp[cP,hi]
  have g2:ar.getD j 0=ar[j]:=by simp[cP,hj]
  simp only
  rw[g1,g2,e1,e2]
theorem zHJ{n i:Nat}{q:Nat×Nat→Bool}{p:Nat×Nat}:p∈zFJ (arL n q i)↔p∈wG n∧inB q i p=true:=by
 rw[zNL (eW.filter _),wH]
 unfold inB
 simp only[cw,bX,dL]
 constructor
 ·rintro⟨a,⟨b,c⟩,d,e⟩
  exact⟨⟨a,d⟩,c,e⟩
 ·rintro⟨⟨a,d⟩,c,e⟩
  exact⟨a,⟨by omega,c⟩,d,e⟩
theorem zSX{a b:Nat×Nat}(h:ltP a b):ltI (toI b) (toI a)=false:=by
 unfold ltP at h
 unfold toI
 simp only[ltI]
 split
 ·split
  ·rfl
  ·simp only[decide_eq_false_iff_not];omega
 ·simp only[decide_eq_false_iff_not];omega
theorem zNM:∀ n,n<10→(wG n).length≤60:=by decide +kernel
theorem zLO{n i:Nat}{q:Nat×Nat→Bool}{nss:List (List Int)}(nd:nss.Nodup)(hm:∀ x,x∈nss↔¬ (x∈(zFJ (arL n q i)).map toI↔x∈((wG n).filter q).map toI))(hs:nss.Pairwise (fun a b=>ltI b a=false)):nss=((wG n).filter (tq q i)).map toI:=by
 have rs:((wG n).filter (tq q i)).Pairwise ltP:=(zH2 n).filter _
 refine eQ.eq_of_pairwise (fun a b u0 u0 h1 h2=>zEY a b h2 h1) hs ?_ ?_
 ·rw[List.pairwise_map]
  exact rs.imp zSX
 ·have nd2:(((wG n).filter (tq q i)).map toI).Nodup:=by
   unfold fB
   rw[List.pairwise_map]
   refine rs.imp fun h e=>?_
   have:=zKE e
   subst this
   unfold ltP at h
   omega
  refine(List.perm_ext_iff_of_nodup nd nd2).mpr fun x=>?_
  rw[hm x]
  have m1:x∈(zFJ (arL n q i)).map toI↔∃ p∈wG n,inB q i p=true∧toI p=x:=by
   rw[bY]
   constructor
   ·rintro⟨p,hp,e⟩;obtain⟨a,b⟩:=zHJ.mp hp;exact⟨p,a,b,e⟩
   ·rintro⟨p,a,b,e⟩;exact⟨p,zHJ.mpr ⟨a,b⟩,e⟩
  have m2:∀ f:Nat×Nat→Bool,x∈((wG n).filter f).map toI↔∃ p∈wG n,f p=true∧toI p=x:=fun f=>by
   rw[bY]
   constructor
   ·rintro⟨p,hp,e⟩;obtain⟨a,b⟩:=cw.mp hp;exact⟨p,a,b,e⟩
   ·rintro⟨p,a,b,e⟩;exact⟨p,cw.mpr ⟨a,b⟩,e⟩
  rw[m1,m2 q,m2 (tq q i)]
  by_cases hx:∃ p∈wG n,toI p=x
  ·obtain⟨p,hp,rfl⟩:=hx
   have s:∀ f:Nat×Nat→Bool,(∃ p'∈wG n,f p'=true∧toI p'=toI p)↔f p=true:=fun f=>by
    constructor
    ·rintro⟨p',u0,b,e⟩;rw[← zKE e];exact b
    ·intro b;exact⟨p,hp,b,rfl⟩
   rw[s (inB q i),s q,s (tq q i)]
   unfold tq
   cases q p<;>cases inB q i p<;>simp
  ·constructor
   ·intro h
    exact(h ⟨fun⟨p,a,_,e⟩=>(hx ⟨p,a,e⟩).elim,fun⟨p,a,_,e⟩=>(hx ⟨p,a,e⟩).elim⟩).elim
   ·rintro⟨p,a,u0,e⟩
    exact(hx ⟨p,a,e⟩).elim
noncomputable def ya:wm:=fun ds G R=>∃(n:Nat) (q:Nat×Nat→Bool) (i:Nat),ds=[zS n q,nD i]∧i<n∧n≤9∧R (zS n (tq q i)) G
noncomputable def zAl:ye:=(zT (zq (yJ (zx yL (zA (zJ zAG (zA (zB 0) (zA (zB 1) zH))) zH))) (gN 2)) (zl (yZ (zA (zO yS (zB 0) (xC (.int 0))) (zA (zc zz (xXS 2 (zA (zO yS (zB 0) (xC (.int 1))) zH))) zH)))))
theorem zS4{σ:S2}{G:Gp}{ta tb:zk}{d:D}{E:yO}(h:zi ta σ G d)(h':tb σ G fun d2 G2=>[d,d2].length≤sizeLine∧E.rt (.tup [d,d2]) G2):zl (yZ (zA ta (zA tb zH))) E σ G:=h G (.refl G) _ h'
theorem zRX{σ:S2}{G:Gp}{tl:TL2}{R:Q2}(h:tl σ G fun ds G1=>R (.tup ds) G1):zc zz tl σ G R:=h
theorem zS5{σ:S2}{G:Gp}{t:wN}{j:Nat}{R:List D→Gp→Prop}{xs:List D}(h:PuA t σ G [.tup xs])(h':∃(nl nr U:List (List Int)) (q:Addr),xs=nl.map tI∧σ[j]?=some (some (.adr q))∧Ls G q (nr.map tI)∧nl.length≤60∧nr.length≤60∧U.length≤60∧(∀ x∈nl,x∈U)∧(∀ x∈nr,x∈U)∧(∀ x∈U,x≠[]) ∧
  ∀ nss':List (List Int),nss'.Nodup→(∀ x,x∈nss'↔¬ (x∈nr↔x∈nl))→nss'.Pairwise (fun a b=>ltI b a=false)→R (nss'.map tI) G):xXS j t σ G R:=h G (.refl G) _ h'
theorem zHK(ds:List D)(G:Gp)(R:Q2)(h:ya ds G R):ds.length=2∧zAl (zg R) (zR ["web","place","near"] ds) G:=by
 obtain⟨n,q,i,rfl,hi,hn,h⟩:=h
 refine⟨rfl,?_⟩
 unfold zAl
 have hal:(arL n q i).length≤n:=by
  have:=dk (yW q i) (bQ n)
  simpa using this
 refine yQ (zCA (ds:=(zFJ (arL n q i)).map yw) (zDI (zF (zn (d:=.tup ((arL n q i).map nD)) (zF (zE (d:=zS n q) rfl) (zF (zE (d:=nD i) rfl) zM)) fun u0 u0 u0 hh=>⟨n,q,i,rfl,hi,by omega,hh⟩) zM) fun u0 u0 u0 hh=>⟨arL n q i,rfl,by omega,hh⟩) fun l hl=>?_)
 show zl _ _ [some (zS n q),some (nD i),some (.adr l)] (zU G l ((zFJ (arL n q i)).map yw))
 refine zS4 (zD2 (zE (i:=0) rfl)) (zRX (zS5 (xs:=((wG n).filter q).map yw) (zF (zPv (zE (i:=0) rfl)) zM) ⟨((wG n).filter q).map toI,(zFJ (arL n q i)).map toI,(wG n).map toI,l,zJR _,rfl,.inl (by rw[zK,zJR]),?_,?_,?_,?_,?_,?_,fun nss c1 c2 c3=>⟨by rw[sizeLine_eq];simp,?_⟩⟩))
 ·rw[bU]
  have:=dk q (wG n)
  have:=zNM n (by omega)
  omega
 ·rw[bU,bU]
  exact zNM _ (by omega)
 ·rw[bU]
  exact zNM n (by omega)
 ·intro x hx
  obtain⟨p,hp,rfl⟩:=bY.mp hx
  exact bY.mpr ⟨p,(cw.mp hp).1,rfl⟩
 ·intro x hx
  obtain⟨p,hp,rfl⟩:=bY.mp hx
  exact bY.mpr ⟨p,(zHJ.mp hp).1,rfl⟩
 ·intro x hx
  obtain⟨p,u0,rfl⟩:=bY.mp hx
  unfold toI
  simp
 ·rw[zLO c1 c2 c3,← zJR]
  exact⟨G,.new hl,h⟩
end K
namespace K
open L3
theorem zGS{f:Nat→Nat}{x:Nat}:∀ {w:List Nat},(∀ y∈w,f y=f x→y=x)→(w.map f).count (f x)=w.count x
 | [],_=>rfl
 | a::w,h=>by
  rw[cM,cL,cL,zGS fun y hy=>h y (ck _ hy)]
  by_cases e:a=x
  ·subst e;simp
  ·have:f a≠f x:=fun z=>e (h a (cE ..) z)
   simp[e,this]
theorem yE.map{q q':Nat×Nat→Bool}{S w:List Nat}{f:Nat→Nat}(h:yE q S w)(hf:∀ x∈S,∀ y∈S,f x=f y→x=y)(hq:∀ x∈S,∀ y∈S,x≠y→yW q' (f x) (f y)=yW q x y):yE q' (S.map f) (w.map f):=by
 refine⟨fun z=>?_,fun i hi j hj n=>?_⟩
 ·by_cases hz:z∈S.map f
  ·rw[if_pos hz]
   obtain⟨x,hx,rfl⟩:=bY.mp hz
   rw[zGS fun y hy e=>hf y (h.mem.mp hy) x hx e]
   exact h.two hx
  ·rw[if_neg hz]
   refine e7.mpr fun m=>hz ?_
   obtain⟨x,hx,rfl⟩:=bY.mp m
   exact bY.mpr ⟨x,h.mem.mp hx,rfl⟩
 ·obtain⟨x,hx,rfl⟩:=bY.mp hi
  obtain⟨y,hy,rfl⟩:=bY.mp hj
  have ne:x≠y:=fun e=>n (by rw[e])
  rw[zLL (fun a ha b hb e=>hf a (h.mem.mp ha) b (h.mem.mp hb) e) (h.mem.mpr hx) (h.mem.mpr hy),hq x hx y hy ne]
  exact h.crs x hx y hy ne
theorem yE.congrQ{q q':Nat×Nat→Bool}{S w:List Nat}(h:yE q S w)(e:∀ x∈S,∀ y∈S,x≠y→yW q' x y=yW q x y):yE q' S w :=
 ⟨h.cnt,fun i hi j hj n=>by rw[e i hi j hj n];exact h.crs i hi j hj n⟩
theorem getD_at{ps:List Nat}{k:Nat}(h:k<ps.length):ps.getD k 0∈ps:=by simp[cP,h]
theorem zDx{q:Nat×Nat→Bool}{ps:List Nat}(nd:ps.Nodup):(∃ w,yE q ps w)↔Told ps.length (yd q ps):=by
 constructor
 ·rintro⟨w,h⟩
  have:=h.map (q':=yd q ps) (f:=nm ps) (fun x hx y hy e=>by rw[← zDZ hx,← zDZ hy,e]) fun x hx y hy u0=>by rw[zDY,zDZ hx,zDZ hy]
  rw[zNI nd] at this
  exact⟨_,this⟩
 ·rintro⟨w,h⟩
  have:=h.map (q':=q) (f:=fun k=>ps.getD k 0) (fun x hx y hy e=>by
   have hx:=bX.mp hx
   have hy:=bX.mp hy
   rw[← zIP nd hx,← zIP nd hy]
   exact congrArg _ e) fun x hx y hy u0=>by rw[zDY]
  have e:(bQ ps.length).map (fun k=>ps.getD k 0)=ps:=by
   refine List.ext_getElem (by simp) fun i h1 h2=>?_
   simp[cP,h2]
  rw[e] at this
  exact⟨_,this⟩
theorem Told.sub{n:Nat}{q:Nat×Nat→Bool}{ps:List Nat}(h:Told n q)(nd:ps.Nodup)(hl:∀ x∈ps,x<n):Told ps.length (yd q ps):=by
 obtain⟨w,h⟩:=h
 exact(zDx nd).mp ⟨_,h.sub (T:=ps) fun x hx=>bX.mpr (hl x hx)⟩
theorem zJS{n:Nat}{q:Nat×Nat→Bool}{od:List Nat}(h:od.Perm (bQ n)):Told od.length (yd q od)↔Told n q:=by
 rw[← zDx (h.nodup_iff.mpr dE)]
 constructor
 ·rintro⟨w,hw⟩;exact⟨w,hw.congr fun x=>h.mem_iff⟩
 ·rintro⟨w,hw⟩;exact⟨w,hw.congr fun x=>h.mem_iff.symm⟩
theorem zIU{n:Nat}{q:Nat×Nat→Bool}:Told n q↔∀ c∈zAj n q n,Told c.length (yd q c):=by
 constructor
 ·intro h c hc
  obtain⟨i,hi,rfl⟩:=bY.mp hc
  exact h.sub zC2 fun x hx=>(wD.mp hx).lt
 ·intro h
  have key:∀ k,k≤n→∃ w S,yE q S w∧∀ x,x∈S↔∃ i,i<k∧zBO n q i=true∧Reach n q i x:=by
   intro k
   induction k with
   | zero=>intro u0;exact⟨[],[],zNK q,fun x=>by simp⟩
   | succ k ih =>
    intro hk
    obtain⟨w,S,hw,hS⟩:=ih (by omega)
    by_cases hl:zBO n q k=true
    ·have hc:comp n q k∈zAj n q n:=bY.mpr ⟨k,cw.mpr ⟨bX.mpr (by omega),hl⟩,rfl⟩
     obtain⟨v,hv⟩:=(zDx zC2).mpr (h _ hc)
     have lk:=zBn.mp hl
     refine⟨w++v,S++comp n q k,hw.glue hv (fun x hx z=>?_) (fun x hx y hy=>?_),fun x=>?_⟩
     ·obtain⟨i,hi,u0,r⟩:=(hS x).mp hx
      exact lk i hi ((wD.mp z).trans r.symm)
     ·obtain⟨i,hi,u0,r⟩:=(hS y).mp hy
      cases e:yW q x y with
      | false=>rfl
      | true=>exact absurd (((wD.mp hx).step r.lt e).trans r.symm) (lk i hi)
     ·rw[cH,hS,wD]
      constructor
      ·rintro(⟨i,hi,a,b⟩ | z)
       ·exact⟨i,by omega,a,b⟩
       ·exact⟨k,by omega,hl,z⟩
      ·rintro⟨i,hi,a,b⟩
       by_cases e:i=k
       ·subst e;exact .inr b
       ·exact .inl ⟨i,by omega,a,b⟩
    ·refine⟨w,S,hw,fun x=>?_⟩
     rw[hS]
     constructor
     ·rintro⟨i,hi,a,b⟩;exact⟨i,by omega,a,b⟩
     ·rintro⟨i,hi,a,b⟩
      by_cases e:i=k
      ·subst e;exact absurd a hl
      ·exact⟨i,by omega,a,b⟩
  obtain⟨w,S,hw,hS⟩:=key n (bZ n)
  refine⟨w,hw.congr fun x=>?_⟩
  rw[hS,bX]
  constructor
  ·rintro⟨i,u0,u0,r⟩;exact r.lt
  ·intro hx
   obtain⟨i,h1,h2,h3⟩:=zIH (q:=q) hx
   exact⟨i,by omega,h2,h3⟩
theorem zFK{q:Nat×Nat→Bool}{p i j:Nat}(h:i≠j):yW (tq q p) i j=(yW q i j != (yW q p i&&yW q p j)):=by
 unfold yW tq inB
 rcases Nat.lt_or_gt_of_ne h with z | z
 ·simp only[dJ (ej z),fG (ej z),h]
  simp[yW,h]
 ·simp only[Nat.min_eq_right (ej z),Nat.max_eq_left (ej z),h]
  simp[yW,h,Bool.and_comm]
noncomputable def zSY:List (List Bool):=[[true,true,false,false],[true,false,true,false],[true,false,false,true],[false,true,true,false],[false,true,false,true],[false,false,true,true]]
noncomputable def zPC:List Bool→Bool
 | a::b::c::_=>(a != b)&&(b != c)
 | _=>false
theorem zNN:∀ v∈zSY,∀ m:Fin 5,∀ k:Fin 5,m.val+k.val≤4→zPC (v.take m.val++((v.drop m.val).take k.val).reverse++v.drop (m.val+k.val))=(zPC v != (decide (((v.drop m.val).take k.val).count true=1)&&decide (((v.drop m.val).take k.val).count false=1))):=by decide +kernel
theorem zKF{i j:Nat}(hij:i≠j):∀ v:List Bool,zDw (v.map fun b=>bif b then i else j)=zPC v
 | []=>rfl
 | [_]=>rfl
 | [_,_]=>rfl
 | a::b::c::_=>by
  have ji:j≠i:=Ne.symm hij
  cases a<;>cases b<;>cases c<;>simp[zDw,zPC,hij,ji]
theorem zKG{i j:Nat}(hij:i≠j)(v:List Bool):(v.map fun b=>bif b then i else j).count i=v.count true∧(v.map fun b=>bif b then i else j).count j=v.count false:=by
 have ji:j≠i:=Ne.symm hij
 induction v with
 | nil=>exact⟨rfl,rfl⟩
 | cons a v ih=>cases a<;>simp[cL,ih.1,ih.2,hij,ji]
theorem zNO{i j:Nat}(hij:i≠j){w:List Nat}(h:w=[i,i,j,j]∨w=[i,j,i,j]∨w=[i,j,j,i]∨w=[j,i,i,j]∨w=[j,i,j,i]∨w=[j,j,i,i]){m k:Nat}(hmk:m+k≤4) :
  zDw (w.take m++((w.drop m).take k).reverse++w.drop (m+k))=(zDw w != (decide (((w.drop m).take k).count i=1)&&decide (((w.drop m).take k).count j=1))):=by
 obtain⟨v,hv,rfl⟩:∃ v∈zSY,w=v.map fun b=>bif b then i else j:=by
  rcases h with rfl | rfl | rfl | rfl | rfl | rfl
  ·exact⟨[true,true,false,false],by decide,rfl⟩
  ·exact⟨[true,false,true,false],by decide,rfl⟩
  ·exact⟨[true,false,false,true],by decide,rfl⟩
  ·exact⟨[false,true,true,false],by decide,rfl⟩
  ·exact⟨[false,true,false,true],by decide,rfl⟩
  ·exact⟨[false,false,true,true],by decide,rfl⟩
 rw[← List.map_take,← List.map_drop,← List.map_take,← List.map_drop,← List.map_reverse,← cX,← cX,zKF hij,zKF hij,(zKG hij _).1,(zKG hij _).2]
 exact zNN v hv ⟨m,by omega⟩ ⟨k,by omega⟩ hmk
theorem zPD{i j:Nat}(hij:i≠j){x y z:List Nat}(hl:(x++y++z).length=4)(hm:∀ u∈x++y++z,u=i∨u=j)(hi:(x++y++z).count i=2):zDw (x++y.reverse++z)=(zDw (x++y++z) != (decide (y.count i=1)&&decide (y.count j=1))):=by
 have:=zNO hij (four hl hm hi hij) (m:=x.length) (k:=y.length) (by simp only[ci] at hl;omega)
 have e1:(x++y++z).take x.length=x:=by rw[dg];exact List.take_left' rfl
 have e2:((x++y++z).drop x.length).take y.length=y:=by rw[dg,List.drop_left];exact List.take_left' rfl
 have e3:(x++y++z).drop (x.length+y.length)=z:=by rw[← ci];exact List.drop_left' rfl
 rw[e1,e2,e3] at this
 exact this
noncomputable def zD8(A B C:List Nat)(p:Nat):List Nat:=A++p::(B.reverse++p::C)
theorem zAm{p i j:Nat}(h1:p≠i)(h2:p≠j)(X:List Nat):both (p::X) (i,j)=both X (i,j):=by
 unfold both;simp[h1,h2]
theorem zIV{i j:Nat}(X:List Nat):(both X (i,j)).count i=X.count i:=by unfold both;rw[List.count_filter (by simp)]
theorem zLP{i j:Nat}(X:List Nat):(both X (i,j)).count j=X.count j:=by unfold both;rw[List.count_filter (by simp)]
theorem yE.turn{q:Nat×Nat→Bool}{S A B C:List Nat}{p:Nat}(h:yE q S (A++p::(B++p::C)))(hA:p∉A)(hB:p∉B)(hC:p∉C):yE (tq q p) S (zD8 A B C p):=by
 have hp:p∈S:=h.mem.mp (by simp)
 have cn:∀ x,(zD8 A B C p).count x=(A++p::(B++p::C)).count x:=fun x=>by
  unfold zD8
  simp only[cO,cL,List.count_reverse]
 have hBr:p∉B.reverse:=fun z=>hB (List.mem_reverse.mp z)
 have app:∀ j∈S,p≠j→yW q p j=decide (B.count j=1):=fun j hj n=>by
  rw[← h.crs p hp j hj n,zCB n hA hB hC (h.two hj),cL]
  simp[n]
 refine⟨fun x=>by rw[cn];exact h.cnt x,fun i hi j hj n=>?_⟩
 have withP:∀ j∈S,p≠j→zd (zD8 A B C p) (p,j)=yW (tq q p) p j:=fun j hj n=>by
  rw[zFK n,show yW q p p=false by unfold yW;simp,Bool.false_and,Bool.bne_false,app j hj n]
  unfold zD8
  rw[zCB n hA hBr hC (by have:=cn j;unfold zD8 at this;rw[this];exact h.two hj),cL,List.count_reverse]
  simp[n]
 by_cases hpi:p=i
 ·subst hpi;exact withP j hj n
 ·by_cases hpj:p=j
  ·subst hpj
   rw[zBp,zCE]
   exact withP i hi (Ne.symm n)
  ·rw[zFK n,← h.crs i hi j hj n,app i hi hpi,app j hj hpj,yD,yD]
   have e1:both (zD8 A B C p) (i,j)=both A (i,j)++(both B (i,j)).reverse++both C (i,j):=by
    unfold zD8
    rw[zA1,zAm hpi hpj,zA1,zAm hpi hpj,dg]
    congr 2
    unfold both;rw[List.filter_reverse]
   have e2:both (A++p::(B++p::C)) (i,j)=both A (i,j)++both B (i,j)++both C (i,j):=by
    rw[zA1,zAm hpi hpj,zA1,zAm hpi hpj,dg]
   rw[e1,e2]
   have l4:=zGO n (A++p::(B++p::C))
   rw[h.two hi,h.two hj,e2] at l4
   have:=zPD n (x:=both A (i,j)) (y:=both B (i,j)) (z:=both C (i,j)) l4 (fun u hu=>by
    rw[← e2] at hu
    simpa using(cw.mp hu).2) (by rw[← e2,zIV];exact h.two hi)
   rw[this,zIV,zLP]
theorem Told.turn{n:Nat}{q:Nat×Nat→Bool}{p:Nat}(hp:p<n)(h:Told n q):Told n (tq q p):=by
 obtain⟨w,hw⟩:=h
 obtain⟨A,B,C,rfl,hA,hB,hC⟩:=zJF (hw.two (bX.mpr hp))
 exact⟨_,hw.turn hA hB hC⟩
theorem zSZ{q:Nat×Nat→Bool}{p i j:Nat}(h:i≠j):yW (tq (tq q p) p) i j=yW q i j:=by
 have pp:∀ k,yW (tq q p) p k=yW q p k:=fun k=>by
  by_cases e:p=k
  ·subst e;unfold yW;simp
  ·rw[zFK e,show yW q p p=false by unfold yW;simp,Bool.false_and,Bool.bne_false]
 rw[zFK h,zFK h,pp,pp]
 cases yW q i j<;>cases yW q p i<;>cases yW q p j<;>rfl
theorem zLQ{n:Nat}{q:Nat×Nat→Bool}{p:Nat}(hp:p<n):Told n (tq q p)↔Told n q:=by
 refine⟨fun h=>?_,.turn hp⟩
 obtain⟨w,hw⟩:=h.turn hp
 exact⟨w,hw.congrQ fun x u0 y u0 ne=>(zSZ ne).symm⟩
noncomputable def zFL:List (Nat×Nat):=[(0,1),(0,2),(0,3),(0,4),(0,5),(1,2),(1,5),(2,3),(3,4),(4,5)]
noncomputable def zAL:Nat×Nat→Bool:=fun p=>decide (p∈zFL)
theorem zJT:wX zAL [0,1,2,3,4,5] 8 1 [0,0]=none:=by decide +kernel
theorem zDb:¬ Told 6 zAL:=fun h=>(zGR (o:=0) (tl:=[1,2,3,4,5]) ⟨by decide,rfl,by decide⟩ 8 (by decide)).2 h zJT
theorem zFg:¬ Told 7 zAL:=fun h=>by
 have:=h.sub (ps:=bQ 6) dE (fun x hx=>by have:=bX.mp hx;omega)
 obtain⟨w,hw⟩:=this
 refine zDb ⟨w,hw.congrQ fun x hx y hy ne=>?_⟩
 have hx:=bX.mp hx
 have hy:=bX.mp hy
 simp only[cz] at hx hy
 rw[zDY]
 simp[cP,hx,hy]
end K
namespace L3
open L2
noncomputable def cInt:Expr→Option Int
 | .Constant (.int i) _ _=>some i
 | _=>none
noncomputable def zNP:Expr→Option D
 | .Tuple [a,b] _ _=>match cInt a,cInt b with
  | some i,some j=>some (.tup [.int i,.int j])
  | _,_=>none
 | _=>none
noncomputable def zHL:List Expr→Option (List D)
 | []=>some []
 | e::es=>match zNP e,zHL es with
  | some d,some ds=>some (d::ds)
  | _,_=>none
noncomputable def zRY:Expr→Option D
 | .Tuple [a,.Tuple es _ _] _ _=>match cInt a,zHL es with
  | some i,some ds=>if ds.length≤1000 then some (.tup [.int i,.tup ds]) else none
  | _,_=>none
 | _=>none
section
variable {X:Cx}
theorem zGT{e:Expr}{i:Int}(h:cInt e=some i):E2 X e (xC (.int i))∧∀ es,starEach (e::es) X.env=(false,eval e X.env)::starEach es X.env:=by
 unfold cInt at h
 split at h
 ·cases h;exact⟨zN,fun u0=>rfl⟩
 ·cases h
theorem zJU{es:List Expr}{ds:List D}{x1}{pos:Pos}(h:A2 X es (fun u0 G R=>R ds G))(hl:ds.length≤1000):E2 X (.Tuple es x1 pos) (xC (.tup ds)):=by
 refine PE.mono (wp h) ?_
 rintro σ1 H Q ⟨σ,G,R,r,q,k⟩
 exact⟨σ,G,R,r,⟨by rw[sizeLine_eq];omega,q⟩,k⟩
theorem zDc{e:Expr}{es:List Expr}{d:D}{ds:List D}(h:E2 X e (xC d))(h':A2 X es (fun u0 G R=>R ds G))(hs:starEach (e::es) X.env=(false,eval e X.env)::starEach es X.env):A2 X (e::es) (fun u0 G R=>R (d::ds) G):=zC h h' hs
theorem zNQ{e:Expr}{d:D}(h:zNP e=some d):E2 X e (xC d)∧∀ es,starEach (e::es) X.env=(false,eval e X.env)::starEach es X.env:=by
 unfold zNP at h
 split at h
 ·rename_i a b x1 pos
  split at h
  ·rename_i i j h1 h2
   cases h
   exact⟨zJU (zDc (zGT h1).1 (zDc (zGT h2).1 zI ((zGT h2).2 _)) ((zGT h1).2 _)) (by simp),fun u0=>rfl⟩
  ·cases h
 ·cases h
theorem zKH:∀ {es:List Expr} {ds:List D},zHL es=some ds→A2 X es (fun u0 G R=>R ds G)
 | [],ds,h=>by cases h;exact zI
 | e::es,ds,h=>by
  unfold zHL at h
  split at h
  ·rename_i d ds' h1 h2
   cases h
   exact zDc (zNQ h1).1 (zKH h2) ((zNQ h1).2 _)
  ·cases h
theorem zRZ{e:Expr}{d:D}(h:zRY e=some d):E2 X e (xC d):=by
 unfold zRY at h
 split at h
 ·rename_i a es x1 p1 x2 p2
  split at h
  ·rename_i i ds h1 h2
   split at h
   ·rename_i hl
    cases h
    exact zJU (zDc (zGT h1).1 (zDc (zJU (zKH h2) hl) zI rfl) ((zGT h1).2 _)) (by simp)
   ·cases h
  ·cases h
 ·cases h
theorem zPE{e:Expr}{pos:Pos}{d:D}{x:Str}{pos':Pos}{rest:List Stmt}{u:ye}(i:Nat)(hN:X.N.Nodup)(h:zRY e=some d)(hi:X.N[i]?=some x)(hx:Loc X.env.scope x)(hs:swapsWith e (some (.Name x pos')) pos.line X.env=pure false)(hf:X.fn x=true∨X.env.scope.names.lookup x=some .local)(hr:Ps2 X rest u) :
  Ps2 X (.Assign [.Name x pos'] e pos::rest) (zT (zq (xC d) (gN i)) u):=zL (zt i hN (zRZ h) hi hx hs hf) hr
end
section
variable {X:Cx} {pins:List (Addr×Obj)} {σ1:L2.St} {H:Hp} {s:Shared} {A:Around}
end
section
variable {X:Cx} {a b:Expr} {pos p:Pos} {ta tb te:zk}
end
end L3
namespace K
open L2 L3
noncomputable def WkT(t:TT2)(σ:S2)(G:Gp)(b:Bool):Prop:=∀ G2,Ext G G2→∀ R:Bool→Gp→Prop,(∀ G3,Ext G2 G3→R b G3)→t σ G2 R
noncomputable def WkE(t:zk)(σ:S2)(G:Gp)(d:D):Prop:=∀ G2,Ext G G2→∀ R:D→Gp→Prop,(∀ G3,Ext G2 G3→R d G3)→t σ G2 R
theorem zi.wk{t:zk}{σ:S2}{G:Gp}{d:D}(h:zi t σ G d):WkE t σ G d:=fun G2 e R q=>h G2 e R (q G2 (.refl _))
theorem zNR{σ:S2}{G:Gp}{wi:TI2}{bd:D→Option (List D)}{tc:TT2}{te:zk}{ds:List D}(p:D→Bool)(f:D→D)(us:D→List D)(hw:PuI wi σ G ds)
  (hx:∀ x∈ds,bd x=some (us x)∧WkT tc (σ++(us x).map some) G (p x)∧(p x=true→WkE te (σ++(us x).map some) G (f x))):PuL (yA wi bd tc te) σ G ((ds.filter p).map f):=by
 intro G2 e R q
 refine hw G2 e _ fun gd G3 e3 hgd A nA=>?_
 refine⟨fun i acc G'=>G'=zU G3 A acc∧acc=((ds.take i).filter p).map f,⟨rfl,by simp⟩,?_,?_,?_⟩
 ·rintro i acc G' hi ⟨rfl,rfl⟩
  refine⟨hgd _ (.new nA),zK,?_⟩
  rw[bU]
  exact dh (dk _ _) (by rw[cK];omega)
 ·rintro i x acc G' hi ⟨rfl,rfl⟩
  obtain⟨hb,ht,he⟩:=hx x (cy hi)
  rw[hb]
  dsimp only
  have ex:Ext G (zU G3 A (((ds.take i).filter p).map f)):=(e.trans e3).trans (.new nA)
  refine ht _ ex _ fun G5 e5=>?_
  cases hp:p x with
  | false =>
   rw[if_neg (by simp)]
   exact⟨_,e5.sub,rfl,by rw[yU hi];simp[hp]⟩
  | true =>
   rw[if_pos rfl]
   refine he hp _ (ex.trans e5) _ fun G6 e6=>?_
   have e56:=e5.trans e6
   refine⟨e56.sub.m _ _ zK,zU G3 A (((ds.take i).filter p).map f++[f x]),⟨fun a o ha=>?_,fun a o ha=>e56.sub.ro a o ha⟩,rfl,by rw[yU hi];simp[hp]⟩
   by_cases hz:a=A
   ·subst hz
    rw[zK] at ha ⊢
    exact ha
   ·rw[ze hz] at ha ⊢
    exact e56.sub.m a o (by rw[ze hz];exact ha)
 ·rintro acc G' ⟨rfl,rfl⟩
  exact⟨G2,e3.own nA,e3.sub.trans (.new nA),by rw[e8];exact q⟩
end K
namespace K
open L2 L3 HS
theorem zBZ{σ:S2}{G:Gp}{sp:List D→Gp→(List D→Gp→Prop)→Prop}{t:wN}{R:List D→Gp→Prop}(h:t σ G fun ds G1=>sp ds G1 R):zx sp t σ G R:=h
theorem zCW{wi:TI2}{g:TG2}{tb u:ye}{E:yO}{σ:S2}{G:Gp}(h:wQ wi g tb { E with nx:=u E } σ G):zT (wQ wi g tb) u E σ G:=h
theorem zPF{σ:S2}{G:Gp}{tc:TT2}{t u:ye}{E:yO}{b:Bool}(h:WkT tc σ G b)(hy:b=true→∀ G3,Ext G G3→t E σ G3)(hn:b=false→∀ G3,Ext G G3→u E σ G3):xIf tc t u E σ G:=h G (.refl G) _ fun G3 e=>by
 cases b
 ·rw[if_neg (by simp)];exact hn rfl G3 e
 ·rw[if_pos rfl];exact hy rfl G3 e
theorem zS6{σ:S2}{G:Gp}{t:zk}{b:Bool}(h:WkE t σ G (.bl b)):WkT (xB t) σ G b:=fun G2 e R q=>h G2 e _ q
theorem zRa{σ:S2}{G:Gp}{f:D→D→Gp→Q2→Prop}{ta tb:zk}{x y d:D}(h:zi ta σ G x)(h':WkE tb σ G y)(hf:∀ G2 (R:Q2),R d G2→f x y G2 R):WkE (zO f ta tb) σ G d:=fun G2 e R q=>h G2 e _ (h' G2 e _ fun G3 e3=>hf G3 R (q G3 e3))
theorem zHM{σ:S2}{G:Gp}{to:zk}{t:wN}{R:Q2}{l:Addr}{xs:List D}(ho:zi to σ G (.adr l))(h:G.m l=some xs)(ht:t σ G fun ds G2=>match ds with | [d]=>∃ ys,G2.m l=some ys∧ys.length≤1000000∧R .non (zU G2 l (ys++[d])) | _=>False):zEF to t σ G R:=by
 refine ho G (.refl G) _ ?_
 show match G.m l with | some _=>_ | none=>_
 rw[h]
 have:∀(ds:List D) (G2:Gp),(match ds with | [d]=>∃ ys,G2.m l=some ys∧ys.length≤1000000∧R .non (zU G2 l (ys++[d])) | _=>False)=(match ds with | [d]=>(match G2.m l with | some xs=>xs.length≤1000000∧R .non (zU G2 l (xs++[d])) | none=>False) | _=>False):=fun ds G2=>by
  split
  ·rename_i d
   cases q:G2.m l with
   | none=>simp
   | some ys=>simp
  ·rfl
 simp only[this] at ht
 exact ht
noncomputable def wE:wm:=fun ds G R=>∃ a b:Nat,ds=[nD a,nD b]∧a≤b∧R .non G
noncomputable def zAT:ye:=(xIf (xB (zO (fII fun i j=>.bl (decide (j<i))) (zB 0) (zB 1))) (fun u0 u0 u0=>False) zy)
theorem zFh(ds:List D)(G:Gp)(R:Q2)(h:wE ds G R):ds.length=2∧zAT (zg R) (zR ["many","most"] ds) G:=by
 obtain⟨a,b,rfl,hab,h⟩:=h
 refine⟨rfl,?_⟩
 unfold zAT
 have:=zHr (g:=fun i j=>.bl (decide (j<i))) (zE (σ:=[some (nD a),some (nD b)]) (G:=G) (i:=0) (d:=nD a) rfl) (zE (i:=1) (d:=nD b) rfl)
 rw[decide_eq_false (show ¬ ((b:Int)<(a:Int)) by omega)] at this
 exact zJv (σ:=[some (nD a),some (nD b)]) (wW this) (FgR.of h)
theorem zPG{l:List D}{a b:Nat}(h:a≤b)(hb:b≤l.length):L3.cutD l (some (a:Int)) (some (b:Int))=(l.drop a).take (b-a):=by
 unfold L3.cutD
 rw[HT.zCK,HT.zCK,dJ hb,dJ (by omega)]
theorem zPH{σ:S2}{G:Gp}{u v:zk}{r:List Nat}{p a b:Nat}(h0:look σ 0=some (uD r))(h1:look σ 1=some (nD p))(hu:zi u σ G (nD a))(hv:zi v σ G (nD b))(hab:a≤b)(hb:b≤r.length)(hl:r.length≤1000) :
  zi (zO yv (zO yv (zO yv (zO yv (zAD (zB 0) wt (zAB u)) (yZ (zA (zB 1) zH))) (zAD (zB 0) (zAB u) (zAB v))) (yZ (zA (zB 1) zH))) (zAD (zB 0) (zAB v) wt)) σ G (uD (zDv r p a b)):=by
 have lm:(r.map nD).length=r.length:=bU _
 have s1:=zST (xs:=r.map nD) (zE (σ:=σ) (G:=G) h0) hu (by omega)
 have s2:=zH0 (xs:=r.map nD) (zE (σ:=σ) (G:=G) h0) hu hv
 rw[zPG hab (by omega)] at s2
 have s3:=zO1 (xs:=r.map nD) (zE (σ:=σ) (G:=G) h0) hv (by omega)
 have s4:zi (yZ (zA (zB 1) zH)) σ G (.tup [nD p]):=zBe (zF (zE h1) zM) (by simp)
 have e:uD (zDv r p a b)=.tup (((((r.map nD).take a++[nD p])++((r.map nD).drop a).take (b-a))++[nD p])++(r.map nD).drop b):=by
  show D.tup ((zDv r p a b).map nD)=_
  unfold zDv
  simp only[cX,List.map_take,List.map_drop,cM,fC]
 rw[e]
 refine zG4 (zG4 (zG4 (zG4 s1 s4 ?_) s2 ?_) s4 ?_) s3 ?_ <;>
 ·simp only[ci,cK,dF,bO,bR,bU]
  omega
theorem zPI(a n:Nat):yG (a:Int) n=(bQ n).map fun k=>nD (a+k):=by
 unfold yG
 refine em fun k u0=>?_
 show D.int _=D.int _
 congr 1
theorem zPJ{a n i:Nat}{x:D}(h:((bQ n).map fun k=>nD (a+k))[i]?=some x):x=nD (a+i)∧i<n:=by
 rw[cC] at h
 by_cases hi:i<n
 ·rw[List.getElem?_range hi] at h
  cases h
  exact⟨rfl,hi⟩
 ·rw[List.getElem?_eq_none (by rw[cz];omega)] at h
  cases h
theorem zPK{σ:S2}{G:Gp}{tc:TT2}{t u v:ye}{E:yO}{b:Bool}(h:PuT tc σ G b)(hy:b=true→t { E with nx:=v E } σ G)(hn:b=false→u { E with nx:=v E } σ G):zT (xIf tc t u) v E σ G:=h G (.refl G) _ (by
 cases b
 ·rw[if_neg (by simp)];exact hn rfl
 ·rw[if_pos rfl];exact hy rfl)
theorem ifB{σ:S2}{G:Gp}{tc:TT2}{t u:ye}{E:yO}{b:Bool}(h:PuT tc σ G b)(hy:b=true→t E σ G)(hn:b=false→u E σ G):xIf tc t u E σ G:=h G (.refl G) _ (by
 cases b
 ·rw[if_neg (by simp)];exact hn rfl
 ·rw[if_pos rfl];exact hy rfl)
theorem zIW{σ:S2}{G:Gp}{r:List Nat}(h0:look σ 0=some (uD r)):zi (zO yv (zJ zo (zA (zB 0) zH)) (xC (.int 1))) σ G (nD (r.length+1)):=zGz (zET (zE h0)) yC
noncomputable def yb:List D→Gp→(List D→Gp→Prop)→Prop:=fun ds G R=>∃(r cs:List Nat) (p:Nat) (l:Addr),ds=[uD r,nD p,.adr l]∧Ls G l (cs.map nD)∧r.length≤20∧(∀ x∈r,x≤9)∧(∀ x∈cs,x≤9)∧cs.length≤9∧R ((wch r p (zAX cs)).map uD) G
theorem zEI:∀ ds G R R',(∀ ls G',R ls G'→R' ls G')→yb ds G R→yb ds G R':=by
 rintro ds G R R' h ⟨r,cs,p,l,e,h1,h2,h3,h4,h5,q⟩
 exact⟨r,cs,p,l,e,h1,h2,h3,h4,h5,h _ _ q⟩
noncomputable def zAn:ye:=(zT (zq (zc zP1 (yA (iV (zB 2)) bd1 zBw (zO (yY zEC fun i j=>.int (i*2 ^ j.toNat)) (xC (.int 1)) (zB 8)))) (gN 3)) (zT (zq (yJ (wq zH)) (gN 4)) (zT (wQ (iR2 (zA (xC (.int 1)) (zA (zO yv (zJ zo (zA (zB 0) zH)) (xC (.int 1))) zH))) (gN 5) (zT (zq (xC (.int 0)) (gN 6)) (wQ (iR2 (zA (zB 5) (zA (zO yv (zJ zo (zA (zB 0) zH)) (xC (.int 1))) zH))) (gN 7) (zT (xIf (xB (zO (fEq false) (zB 6) (zB 3))) (wC (zEF (zB 4) (zA (zO yv (zO yv (zO yv (zO yv (zAD (zB 0) wt (zAB (zB 5))) (yZ (zA (zB 1) zH))) (zAD (zB 0) (zAB (zB 5)) (zAB (zB 7)))) (yZ (zA (zB 1) zH))) (zAD (zB 0) (zAB (zB 7)) wt)) zH))) zy) (xIf (xB (zO (fII fun i j=>.bl (decide (i<j))) (zB 7) (zJ zo (zA (zB 0) zH)))) (zq (zO (fII fun i j=>.int (Builtin.bitXor i j)) (zB 6) (zO (yY zEC fun i j=>.int (i*2 ^ j.toNat)) (xC (.int 1)) (zO yS (zB 0) (zB 7)))) (gN 6)) zy))))) (zl (zB 4)))))
theorem zFM{r:List Nat}{p W:Nat}(h:r.length≤20):∀ i,i≤r.length→(zBH r p W i).length≤21*i
 | 0,_=>bZ _
 | i+1,hi=>by
  have h1:=zFM h i (by omega) (p:=p) (W:=W)
  have h2:=zIO (r:=r) (p:=p) (W:=W) (a:=i+1) (j:=r.length-i) (by omega)
  show(zBH r p W i++zEH r p W (i+1) (r.length-i)).length≤_
  rw[ci]
  omega
theorem zHN(ds:List D)(G:Gp)(R:Q2)(h:spL yb ds G R):ds.length=3∧zAn (zg R) (zR ["ring","place","crossed","wanted","found","first","inside","second"] ds) G:=by
 obtain⟨r,cs,p,l,rfl,hl,hr,hrx,hcx,hcl,h⟩:=h
 refine⟨rfl,?_⟩
 unfold zAn
 rw[show zR ["ring","place","crossed","wanted","found","first","inside","second"] [uD r,nD p,.adr l]=[some (uD r),some (nD p),some (.adr l),none,none,none,none,none] from rfl]
 -- wanted
 have c:=zDn (σ:=[some (uD r),some (nD p),some (.adr l),none,none,none,none,none]) (G:=G) (bd:=bd1) (te:=(zO (yY zEC fun i j=>.int (i*2 ^ j.toNat)) (xC (.int 1)) (zB 8))) (fun d=>match d with | .int v=>nD (2 ^ v.toNat) | _=>.non) (fun d=>[d]) (zCO (zE (i:=2) (d:=.adr l) rfl) hl) fun x hx=>by
  obtain⟨k,hk,rfl⟩:=bY.mp hx
  refine⟨rfl,yF (x:=.int 1) (y:=nD k) yC (zE rfl) fun u0 u0 u0 q'=>⟨⟨by omega,by have:=hcx k hk;omega,by decide⟩,?_⟩⟩
  dsimp only
  have:(1:Int)*2 ^ ((k:Int)).toNat=((2 ^ k:Nat):Int):=by simp
  rw[this]
  exact q'
 have e:ce (fun d=>match d with | .int v=>nD (2 ^ v.toNat) | _=>.non) (cs.map nD)=((cs.map fun o=>2 ^ o).map fun(x:Nat)=>(x:Int)).map D.int:=by
  rw[da,da,da];rfl
 rw[e] at c
 refine wI (d:=nD (zAX cs)) (fun G2 e2 R' q'=>c G2 e2 _ ⟨_,rfl,by simp only[bU];omega,fun a ha=>by
   obtain⟨b,hb,rfl⟩:=bY.mp ha
   obtain⟨o,ho',rfl⟩:=bY.mp hb
   have:=hcx o ho'
   have h2:2 ^ o≤2 ^ 9:=Nat.pow_le_pow_right (by omega) (by omega)
   generalize 2 ^ o=z at h2 ⊢
   omega,by rw[zNE];exact q'⟩) ?_
 simp only[gN,bL,bK]
 generalize zAX cs=W at h
 clear c e
 refine yQ (zCA (ds:=[]) (fun G2 e R q=>zDT (wR ⟨by rw[sizeLine_eq];simp,q⟩)) fun f hf=>?_)
 simp only[gN,bL,bK]
 refine zCW (zI6 (i:=1) (j:=((r.length+1:Nat):Int)) (zF yC (zF (zIW rfl) zM)) (by omega) ?_)
 rw[show(((r.length+1:Nat):Int)-1).toNat=r.length by omega,zO5]
 refine zAS (fun i G'=>G'.m f=some ((zBH r p W i).map uD)∧L3.Sub G G') ⟨zK,.new hf⟩ (fun u0 u0 u0=>trivial) ?_ ?_
 ·rintro i x hx G1 ⟨gf,sb⟩
  obtain⟨rfl,hi⟩:=zO6 hx
  simp only[gN,bL,bK]
  refine wI (d:=nD 0) yC ?_
  simp only[gN,bL,bK]
  refine zI6 (i:=((i+1:Nat):Int)) (j:=((r.length+1:Nat):Int)) (zF (zE rfl) (zF (zIW rfl) zM)) (by omega) ?_
  rw[show(((r.length+1:Nat):Int)-((i+1:Nat):Int)).toNat=r.length-i by omega,zPI]
  have wl:=zFM (p:=p) (W:=W) hr i (by omega)
  refine⟨fun j σ' G'=>σ'=[some (uD r),some (nD p),some (.adr l),some (nD W),some (.adr f),some (nD (i+1)),some (nD (mkW r (i+1) j)),none]∧G'.m f=some ((zBH r p W i++zEH r p W (i+1) j).map uD)∧L3.Sub G G',⟨rfl,?_,sb⟩,fun u0 u0 u0 u0 u0=>trivial,?_,?_⟩
  ·show G1.m f=some ((zBH r p W i++[]).map uD)
   rw[dY];exact gf
  ·rintro j x σ' G2 hx ⟨rfl,gf2,sb2⟩
   obtain⟨rfl,hj⟩:=zPJ hx
   simp only[gN,bL,bK]
   have wr:=zIO (r:=r) (p:=p) (W:=W) (a:=i+1) (j:=j) (by omega)
   have t1:PuT (xB (zO (fEq false) (zB 6) (zB 3))) [some (uD r),some (nD p),some (.adr l),some (nD W),some (.adr f),some (nD (i+1)),some (nD (mkW r (i+1) j)),some (nD (i+1+j))] G2 (decide (mkW r (i+1) j=W)):=wW (zE6 (x:=nD (mkW r (i+1) j)) (y:=nD W) (zE rfl) (zE rfl) rfl rfl (by rw[if_neg (by simp),zBM]))
   have tail:∀(E:yO) (G3:Gp),G3.m f=some ((zBH r p W i++zEH r p W (i+1) (j+1)).map uD)→L3.Sub G G3→(∀ o7,E.nx [some (uD r),some (nD p),some (.adr l),some (nD W),some (.adr f),some (nD (i+1)),some (nD (mkW r (i+1) (j+1))),o7] G3) →
     (xIf (xB (zO (fII fun i j=>.bl (decide (i<j))) (zB 7) (zJ zo (zA (zB 0) zH)))) (zq (zO (fII fun i j=>.int (Builtin.bitXor i j)) (zB 6) (zO (yY zEC fun i j=>.int (i*2 ^ j.toNat)) (xC (.int 1)) (zO yS (zB 0) (zB 7)))) (gN 6)) zy) E [some (uD r),some (nD p),some (.adr l),some (nD W),some (.adr f),some (nD (i+1)),some (nD (mkW r (i+1) j)),some (nD (i+1+j))] G3:=fun E G3 g3 s3 fin=>by
    have t2:PuT (xB (zO (fII fun i j=>.bl (decide (i<j))) (zB 7) (zJ zo (zA (zB 0) zH)))) [some (uD r),some (nD p),some (.adr l),some (nD W),some (.adr f),some (nD (i+1)),some (nD (mkW r (i+1) j)),some (nD (i+1+j))] G3 (decide (i+1+j<r.length)):=by
     have:=zHr (g:=fun i j=>.bl (decide (i<j))) (zE (σ:=[some (uD r),some (nD p),some (.adr l),some (nD W),some (.adr f),some (nD (i+1)),some (nD (mkW r (i+1) j)),some (nD (i+1+j))]) (G:=G3) (i:=7) (d:=nD (i+1+j)) rfl) (zET (ps:=r) (zE (i:=0) rfl))
     have e:decide ((((i+1+j:Nat)):Int)<(r.length:Int))=decide (i+1+j<r.length):=by rw[cF];simp only[decide_eq_true_eq];omega
     rw[← e];exact wW this
    refine ifB t2 (fun hb=>?_) fun hb=>?_
    ·have hlt:=of_decide_eq_true hb
     have hx9:r.getD (i+1+j) 0≤9:=by
      have:r.getD (i+1+j) 0=r[i+1+j]:=by simp[cP,hlt]
      rw[this]
      exact hrx _ (cZ _)
     refine zSU (d:=nD (mkW r (i+1) j ^^^ 2 ^ (r.getD (i+1+j) 0))) (zO4 (zE rfl) (yF (x:=.int 1) (y:=nD (r.getD (i+1+j) 0)) yC (zG2 (ps:=r) (zE rfl) (zE rfl) hlt) fun u0 u0 u0 q'=>⟨⟨by omega,by omega,by decide⟩,?_⟩)) ?_
     ·dsimp only
      have:(1:Int)*2 ^ (((r.getD (i+1+j) 0:Nat):Int)).toNat=((2 ^ (r.getD (i+1+j) 0):Nat):Int):=by simp
      rw[this]
      exact q'
     ·simp only[gN,bL,bK]
      rw[← zIM hlt]
      exact fin _
    ·have hge:=of_decide_eq_false hb
     have:=fin (some (nD (i+1+j)))
     rw[zO7 (by omega)] at this
     exact this
   refine zPK t1 (fun hb=>?_) fun hb=>?_
   ·have hW:=of_decide_eq_true hb
    refine zHF (zHM (l:=f) (zE rfl) gf2 (ym (d:=uD (zDv r p (i+1) (i+1+j))) (zPH rfl rfl (zE rfl) (zE rfl) (by omega) (by omega) (by omega)) (wR ⟨_,gf2,by rw[bU,ci];omega,?_⟩)))
    refine tail _ _ ?_ (sb2.put hf) fun o7=>?_
    ·rw[zK,zCV,if_pos hW,← dg]
     simp only[cX,cM,fC]
    ·refine⟨_,_,.keep (.keep (.keep (.keep (.keep (.keep (.keep (.skip .nil))))))),.refl _,rfl,?_,sb2.put hf⟩
     rw[zK,zCV,if_pos hW,← dg]
     simp only[cX,cM,fC]
   ·have hW:=of_decide_eq_false hb
    refine tail _ _ ?_ sb2 fun o7=>?_
    ·rw[zCV,if_neg hW,dY];exact gf2
    ·refine⟨_,_,.keep (.keep (.keep (.keep (.keep (.keep (.keep (.skip .nil))))))),.refl _,rfl,?_,sb2⟩
     rw[zCV,if_neg hW,dY];exact gf2
  ·rintro σ' G2 ⟨rfl,gf2,sb2⟩
   rw[bU,cz] at gf2
   exact⟨.keep (.keep (.keep (.keep (.keep (.skip (.skip (.skip .nil))))))),G2,.refl _,gf2,sb2⟩
 ·rintro G1 ⟨gf,sb⟩
  rw[bU,cz] at gf
  show FgR R (.adr f) G1
  refine⟨zU G f ((wch r p W).map uD),⟨fun a o e=>?_,fun a o e=>sb.ro a o e⟩,h f hf⟩
  by_cases ha:a=f
  ·subst ha;rw[zK] at e;cases e;exact gf
  ·rw[ze ha] at e;exact sb.m a o e
theorem zLR{σ:S2}{G:Gp}{t:zk}{d:D}{ds:List D}(h:zi t σ G d)(hs:zBs G d ds):PuI (iV t) σ G ds:=by
 cases d with
 | tup xs =>
  have e:xs=ds:=hs
  subst e
  exact zBV h
 | adr l=>exact zCO h hs
 | _=>exact hs.elim
noncomputable def zw:List D→Gp→(List D→Gp→Prop)→Prop:=fun ds G R=>∃(n:Nat) (q:Nat×Nat→Bool) (i:Nat) (os:List Nat) (d:D),ds=[zS n q,nD i,d]∧zBs G d (os.map nD)∧i<n∧(∀ x∈os,x<n)∧R ((os.filter (yW q i)).map nD) G
theorem zBu:∀ ds G R R',(∀ ls G',R ls G'→R' ls G')→zw ds G R→zw ds G R':=by
 rintro ds G R R' h ⟨n,q,i,os,d,e,hs,h1,h2,q'⟩
 exact⟨n,q,i,os,d,e,hs,h1,h2,h _ _ q'⟩
noncomputable def zAo:ye:=(zl (yJ (yA (iV (zB 2)) bd1 (xB (zJ wT (zA (zB 0) (zA (zB 1) (zA (zB 3) zH))))) (zB 3))))
theorem zHO(ds:List D)(G:Gp)(R:Q2)(h:spL zw ds G R):ds.length=3∧zAo (zg R) (zR ["web","place","others"] ds) G:=by
 obtain⟨n,q,i,os,d,rfl,hs,hi,ho,h⟩:=h
 refine⟨rfl,?_⟩
 unfold zAo zl yJ
 have c:=wu (σ:=zR ["web","place","others"] [zS n q,nD i,d]) (G:=G) (bd:=bd1) (tc:=(xB (zJ wT (zA (zB 0) (zA (zB 1) (zA (zB 3) zH)))))) (te:=zB 3) (fun d=>match d with | .int v=>yW q i v.toNat | _=>false) (fun d=>d) (fun d=>[d]) (zLR (zE (i:=2) (d:=d) rfl) hs) fun x hx=>by
  obtain⟨k,hk,rfl⟩:=bY.mp hx
  exact⟨rfl,wW (zn (zF (zE (d:=zS n q) rfl) (zF (zE (d:=nD i) rfl) (zF (zE (d:=nD k) rfl) zM))) fun u0 u0 u0 q'=>⟨n,q,i,k,rfl,hi,ho k hk,q'⟩),fun u0=>zE rfl⟩
 have e:ce (fun d=>d) (List.filter (fun d=>match d with | .int v=>yW q i v.toNat | _=>false) (os.map nD))=(os.filter (yW q i)).map nD:=by
  rw[fb,en];rfl
 rw[e] at c
 exact c G (.refl G) _ fun l hl=>FgR.of (h l hl)
end K
namespace HT3
open PySem
section
variable {mask:Nat} {h:Int}
end
open HI (Ris)
theorem zBG{P:Nat→Prop}[DecidablePred P]{M:Nat}{l:List Nat}(h:∀ j,j<M→P j→j∈l)(hl:l.length<M):∃ j,j<M∧¬ P j:=by
 by_cases q:∃ j,j<M∧¬ P j
 ·exact q
 ·have hs:bQ M ⊆ l:=fun j hj=>by
   have hj:=bX.mp hj
   by_cases z:P j
   ·exact h j hj z
   ·exact(q ⟨j,hj,z⟩).elim
  have:=fB.length_le_of_subset dE hs
  simp at this
  omega
end HT3
namespace HX
open HT
section
variable {prog:Program} {w:World} {A:Around} {R:Result→Shared→Prop} {I:Addr} {fp wr:List Addr} {n:Nat} {P:Nat→Value→Prop} {St:Nat→Heap→Prop}
structure zPL (prog:Program) (w:World) (A:Around) (P:Nat→Value→Prop) (bt:Nat→Nat→Bool) (wr:List Addr) (S:Addr) (Kp:Heap→Prop):Prop where
 cmp:∀ i j vi vj (s:Shared) (Q:Value→Shared→Prop) (E:Value→Shared→Prop),Kp s.heap→P i vi→P j vj→Q (.bool (bt i j)) s→wpAny (model prog w) A (richCompare .Gt vi vj) Q E s
 keep:∀ h h':Heap,Kp h→(∀ b o,b∉wr→b≠S→h.get? b=some o→h'.get? b=some o)→Kp h'
theorem zNS(W:Walks prog w A.in1 I fp wr n P St)(bt:Nat→Nat→Bool){Kp:Heap→Prop}(S:Addr)(C  :zPL prog w A.in1 P bt wr S Kp)(hSf:S∉fp) :
  ∀(k j:Nat) (s:Shared) (vb:Value) (c:Nat),n-(j+1)=k→j+1≤n→St (j+1) s.heap→Kp s.heap→P (argBest bt j) vb →
  s.heap.get? S=some { cls:=.type "list",dict:=none,data:=.seq #[vb,vb] c,slots:=#[] } →
  (∀ v h' tk,P (argBest bt (n-1)) v→(∀ b o,b∉wr→b≠S→s.heap.get? b=some o→h'.get? b=some o)→R (.ok (.ret v)) { s with heap:=h',toks:=tk }) →
  codeAny (model prog w) A (.builtin "max.loop" ⟨[.ref I,.none,.ref S],[]⟩) R s:=by
 have nw:S∉wr:=fun h=>hSf (W.sub _ h)
 have nm:(toString "max"++toString ".loop":String)="max.loop":=by decide
 intro k
 induction k with
 | zero =>
  intro j s vb c hk hj st kp pb hS fin
  have hin:j+1=n:=by omega
  refine dt PySem.F.entry_max_loop ?_
  rw[Around.under_plainId PySem.F.plain_max_loop _]
  show wpAny _ A.in1 (seqItems? (.ref S)>>=_) _ _ s
  refine bI (wpAny_seqItems hS rfl ?_)
  show wpAny _ A.in1 (tryCatch (pyNext (.ref I)) _>>=_) _ _ s
  refine bI (wpAny_tryCatch (W.done s _ _ (hin▸st) fun h' tk hk'=>?_))
  have hS':=hk' S _ nw hS
  show wpAny _ A.in1 (updateSeq S (fun u0=>#[])>>=_) _ _ _
  refine bI ?_
  refine wpAny_updateSeq hS' rfl (bI (wpAny_letGo (bS ?_)))
  exact fin vb _ tk (by rw[← hin];exact pb) fun b o h1 h2 e=>(dC _ _ (Ne.symm h2)).trans (hk' b o h1 e)
 | succ k ih =>
  intro j s vb c hk hj st kp pb hS fin
  have lt:j+1<n:=by omega
  refine dt PySem.F.entry_max_loop ?_
  rw[Around.under_plainId PySem.F.plain_max_loop _]
  show wpAny _ A.in1 (seqItems? (.ref S)>>=_) _ _ s
  refine bI (wpAny_seqItems hS rfl ?_)
  show wpAny _ A.in1 (tryCatch (pyNext (.ref I)) _>>=_) _ _ s
  refine bI (wpAny_tryCatch (W.item (j+1) s _ _ lt st fun v h' tk pv st' hk'=>?_))
  have hS':=hk' S _ nw hS
  have kp':Kp h':=C.keep _ _ kp fun b o h1 u0 e=>hk' b o h1 e
  show wpAny _ A.in1 (tryCatch (holding [v,v] (richCompare .Gt v vb>>=_)) _>>=_) _ _ _
  refine bI (wpAny_tryCatch (cY (bI (C.cmp (j+1) (argBest bt j) v vb _ _ _ kp' pv pb ?_))))
  refine bI (cY (dR ?_))
  refine bI (wpAny_letGo (bS ?_))
  cases hb:bt (j+1) (argBest bt j) with
  | true =>
   simp only[if_true]
   refine bI ?_
   refine wpAny_updateSeq hS' rfl (bI (wpAny_letGo ?_))
   rw[nm]
   refine bS ⟨plainId_quiet PySem.F.plain_max_loop _,ih (j+1) _ v _ (by omega) lt (W.frame _ _ _ st' fun b hbf o e=>?_) (C.keep _ _ kp' fun b o u0 h2 e=>(dC _ _ (Ne.symm h2)).trans e) (by simp only[argBest,hb,if_true];exact pv) (eC _ hS' rfl)
    fun v' h'' tk'' pv' hk''=>?_⟩
   ·exact(dC _ _ (fun h:S=b=>hSf (by rw[h];exact hbf))).trans e
   ·exact fin v' h'' tk'' pv' fun b o h1 h2 e=>hk'' b o h1 h2 ((dC _ _ (Ne.symm h2)).trans (hk' b o h1 e))
  | false =>
   simp only[bJ,if_false]
   refine bI (wpAny_letGo ?_)
   rw[nm]
   refine bS ⟨plainId_quiet PySem.F.plain_max_loop _,ih (j+1) _ vb c (by omega) lt st' kp' (by simp only[argBest,hb,bJ,if_false];exact pb) hS' fun v' h'' tk'' pv' hk''=>?_⟩
   exact fin v' h'' tk'' pv' fun b o h1 h2 e=>hk'' b o h1 h2 (hk' b o h1 e)
theorem zLS(W:Walks prog w A.in1 I fp wr n P St)(bt:Nat→Nat→Bool){Kp:Heap→Prop}(S:Addr)(C  :zPL prog w A.in1 P bt wr S Kp)(hSf:S∉fp)(hn:0<n){s:Shared}{c:Nat}(st:St 0 s.heap)(kp:Kp s.heap)
  (hS:s.heap.get? S=some { cls:=.type "list",dict:=none,data:=.seq #[] c,slots:=#[] })
  (fin:∀ v h' tk,P (argBest bt (n-1)) v→(∀ b o,b∉wr→b≠S→s.heap.get? b=some o→h'.get? b=some o)→R (.ok (.ret v)) { s with heap:=h',toks:=tk }) :
  codeAny (model prog w) A (.builtin "max.loop" ⟨[.ref I,.none,.ref S],[]⟩) R s:=by
 have nw:S∉wr:=fun h=>hSf (W.sub _ h)
 have nm:(toString "max"++toString ".loop":String)="max.loop":=by decide
 refine dt PySem.F.entry_max_loop ?_
 rw[Around.under_plainId PySem.F.plain_max_loop _]
 show wpAny _ A.in1 (seqItems? (.ref S)>>=_) _ _ s
 refine bI (wpAny_seqItems hS rfl ?_)
 show wpAny _ A.in1 (tryCatch (pyNext (.ref I)) _>>=_) _ _ s
 refine bI (wpAny_tryCatch (W.item 0 s _ _ hn st fun v h' tk pv st' hk'=>?_))
 have hS':=hk' S _ nw hS
 show wpAny _ A.in1 (updateSeq S (fun u0=>#[v,v])>>=_) _ _ _
 refine bI ?_
 refine wpAny_updateSeq hS' rfl ?_
 rw[nm]
 refine bS ⟨plainId_quiet PySem.F.plain_max_loop _,zNS W bt S C hSf _ 0 _ v _ rfl hn (W.frame _ _ _ st' fun b hbf o e=>?_) (C.keep _ _ kp fun b o h1 h2 e=>(dC _ _ (Ne.symm h2)).trans (hk' b o h1 e)) pv (eC _ hS' rfl) fun v' h'' tk'' pv' hk''=>?_⟩
 ·exact(dC _ _ (fun h:S=b=>hSf (by rw[h];exact hbf))).trans e
 ·exact fin v' h'' tk'' pv' fun b o h1 h2 e=>hk'' b o h1 h2 ((dC _ _ (Ne.symm h2)).trans (hk' b o h1 e))
end
section
variable {prog:Program} {w:World} {A:Around} {E:Value→Shared→Prop} {s:Shared}
noncomputable def gtT(nss:List (List Int))(i j:Nat):Bool:=lexLt (nss.getD j []) (nss.getD i [])
theorem zLT{as:List Addr}{nss:List (List Int)}{wr:List Addr}{S:Addr}(hu:A.units<cLine)(h1:∀ a∈as,a∉wr)(h2:S∉as) :
  zPL prog w A (fun i v=>(as.map Value.ref)[i]?=some v) (gtT nss) wr S (fun h=>zBi h as nss) where
 cmp:=fun i j vi vj s Q E kp pi pj q=>by
  have gi:∀ {i:Nat} {v:Value},(as.map Value.ref)[i]?=some v→∃ a,as[i]?=some a∧v=Value.ref a:=fun {i v} e=>by
   rw[cC] at e
   cases q:as[i]? with
   | none=>rw[q] at e;cases e
   | some a=>rw[q] at e;cases e;exact⟨a,rfl,rfl⟩
  obtain⟨a,ea,rfl⟩:=gi pi
  obtain⟨b,eb,rfl⟩:=gi pj
  have li:i<nss.length:=by rw[← kp.1];exact(bW.mp ea).1
  have lj:j<nss.length:=by rw[← kp.1];exact(bW.mp eb).1
  obtain⟨its,t1,i1⟩:=kp.2 i a nss[i] ea (by simp)
  obtain⟨its2,t2,i2⟩:=kp.2 j b nss[j] eb (by simp)
  have e:gtT nss i j=lexLt nss[j] nss[i]:=by simp[gtT,cP,li,lj]
  rw[e] at q
  exact zJG t1 t2 i1 i2 hu q
 keep:=fun h h' kp k=>kp.keep fun a ha o e=>k a o (h1 a ha) (fun z=>h2 (z▸ha)) e
noncomputable def zSa(prog:Program)(w:World)(A:Around)(Q:Value→Shared→Prop)(it:Value)(s₂:Shared):Prop:=∃ I fp wr n P St bt Kp,it=.ref I∧Walks prog w A.in1 I fp wr n P St∧St 0 s₂.heap∧(∀ b∈fp,b<s₂.heap.objs.size)∧0<n∧zPL prog w A.in1 P bt wr s₂.heap.objs.size Kp∧Kp s₂.heap ∧
 ∀ v h' tk,P (argBest bt (n-1)) v→(∀ b o,b∉wr→s₂.heap.get? b=some o→h'.get? b=some o)→Q v { s₂ with heap:=h',toks:=tk }
theorem zNT{Q:Value→Shared→Prop}{it:Value}{s₂:Shared}(h₂:zSa prog w A Q it s₂):wpAny (model prog w) A.in1 (newList []>>=fun best=>again (.builtin "max.loop" ⟨[it,.none,best],[]⟩)) (fun fin s'=>match fin with | .done f=>wants Q E (.ok f) s' | .again c'=>c'.quiet=true∧codeAny (model prog w) A c' (wants Q E) s') (fun e s'=>wants Q E (.error e) s') s₂:=by
 obtain⟨I,fp,wr,n,P,St,bt,Kp,rfl,W,hst,hfp,hn,C,kp,hQ⟩:=h₂
 refine bI (df ?_)
 have hSf:s₂.heap.objs.size∉fp:=fun hm=>dG _ (hfp _ hm)
 refine bS ⟨plainId_quiet PySem.F.plain_max_loop _,zLS W bt s₂.heap.objs.size C hSf hn (W.frame _ _ _ hst fun b u0 o e=>bP _ e) (C.keep _ _ kp fun b o u0 u0 e=>bP _ e) (cb _ rfl) fun v h' tk hP hk=>?_⟩
 exact hQ v h' tk hP fun b o hbw e=>hk b o hbw (cJ (cc e)) (bP _ e)
theorem zLU{x:Value}{Q:Value→Shared→Prop}(h:wpAny (model prog w) A.in1 (pyIter x) (zSa prog w A Q) E s) :
  wpAny (model prog w) A (call (.builtin "max") [x]) Q E s:=by
 have nm:(toString "max"++toString ".loop":String)="max.loop":=by decide
 refine call_function_tree PySem.F.kind_max PySem.F.plain_max PySem.F.entry_max (PySem.F.args_max1 _) ?_
 show wpAny _ A.in1 (Builtin.Builtins.bindParams "max" ["key","default"] 0 ⟨[],[]⟩>>=_) _ _ s
 refine bI (wpAny_of_eq (show Builtin.Builtins.bindParams "max" ["key","default"] 0 ⟨[],[]⟩=pure [none,none] from rfl) ?_)
 refine bI (bS ?_)
 refine bI (fw h (fun it s₂ h₂=>?_) fun u0 u0 e=>e)
 have:=zNT (E:=E) h₂
 rw[nm]
 exact this
theorem max_list{l:Addr}{as:List Addr}{nss:List (List Int)}{Q:Value→Shared→Prop}(hh:A.handled=none)(hu:A.in1.units<cLine)(hl:s.heap.IsList l (as.map Value.ref).toArray)(hne:0<as.length)(ht:zBi s.heap as nss)
  (h:∀ h' tk v,(as.map Value.ref)[argBest (gtT nss) (as.length-1)]?=some v→(∀ d o,s.heap.get? d=some o→h'.get? d=some o)→Q v { s with heap:=h',toks:=tk }) :
  wpAny (model prog w) A (call (.builtin "max") [.ref l]) Q E s:=by
 refine zLU (fu hl ?_)
 have la:∀ x∈as,x<s.heap.objs.size:=ht.lt
 have ll:l<s.heap.objs.size:=by obtain⟨o,e,u0⟩:=hl;exact cc e
 refine⟨_,[_,l],[_],_,_,_,gtT nss,fun h=>zBi h as nss,rfl,Walks.list (A:=A.in1) hh _ l (cJ ll) (as.map Value.ref).toArray,
  ⟨⟨_,cb _ rfl,rfl,rfl⟩,hl.push _⟩,fun d hd=>?_,by simpa using hne,?_,ht.keep fun x hx o e=>bP _ e,fun v h' tk hP hk=>?_⟩
 ·show d<(s.heap.push _).objs.size
  rw[eG]
  rcases cI.mp hd with rfl | hd
  ·exact Nat.lt_succ_self _
  ·rcases cI.mp hd with rfl | hd
   ·exact Nat.lt_succ_of_lt ll
   ·cases hd
 ·have:=zLT (prog:=prog) (w:=w) (A:=A.in1) (as:=as) (nss:=nss) (wr:=[s.heap.objs.size]) (S:=s.heap.objs.size+1) hu (fun x hx z=>by
   have h1:=la x hx
   rw[cg] at z
   rw[z] at h1
   exact absurd h1 (dG _)) (fun z=>absurd (la _ z) (Nat.not_lt.mpr (eE _)))
  refine⟨fun i j vi vj s Q E kp pi pj q=>this.cmp i j vi vj s Q E kp (by simpa using pi) (by simpa using pj) q,fun h h' kp k=>this.keep h h' kp fun b o h1 h2 e=>k b o h1 ?_ e⟩
  show b≠(s.heap.push _).objs.size
  rw[eG];exact h2
 ·have hold:∀ d o,s.heap.get? d=some o→h'.get? d=some o:=fun d o e=>by
   refine hk d o (fun hm=>?_) (bP _ e)
   rcases cI.mp hm with e1 | hm
   ·have:=cc e;rw[e1] at this;exact dG _ this
   ·cases hm
  exact h h' tk v (by simpa using hP) hold
end
end HX
namespace L3
open L2
section
variable {X:Cx} {a b c e o:Expr} {es:List Expr} {pos p:Pos} {ta tb te:zk} {tl:TL2}
theorem zLV(hc:X.calm=true)(hu:X.A.units+10<cLine):yg X (.builtin "max") (fun xs H Q=>∃ l as nss,xs=[.ref l]∧SqL X.K H l (as.map V.ref)∧0<as.length∧zGA X.K H as nss∧∀ d,as[argBest (HX.gtT nss) (as.length-1)]?=some d→Q (.ref d) H):=by
 intro pins s σ H xs us Q I r h
 obtain⟨l,as,nss,rfl,hs,hp,ht,q⟩:=h
 obtain⟨u,rfl,rx⟩:=vals1 r
 cases rx
 obtain⟨its,rv,pl,hzz⟩:=I.list hs
 have:its=as.map Value.ref:=by
  clear hs pl hzz hp ht q
  induction as generalizing its with
  | nil=>cases rv;rfl
  | cons a as ih =>
   rw[cM] at rv
   cases rv with
   | cons r1 r2=>cases r1;rw[ih _ r2];rfl
 subst this
 refine HX.max_list (I.ok.hd hc) (by show X.A.in1.units<cLine;simp[Around.in1] at *;omega) pl.isList hp (ht.at I) fun h' tk v hv kp=>?_
 rw[cC] at hv
 cases q':as[argBest (HX.gtT nss) (as.length-1)]? with
 | none=>rw[q'] at hv;cases hv
 | some d =>
  rw[q'] at hv
  cases hv
  exact⟨.ref d,H,I.kept (t':=tk) kp,rfl,q d q'⟩
noncomputable def zBq(nss:List (List Int)):List Int:=nss.getD (argBest (HX.gtT nss) (nss.length-1)) []
noncomputable def zNU:wm:=fun ds G R=>∃ nss:List (List Int),ds=nss.map tupI∧0<nss.length∧R (tupI (zBq nss)) G
theorem zGA.pickG{K:PySem.W.Frag}{H:Hp}{as:List Addr}{nss:List (List Int)}(h:zGA K H as nss)(hp:0<nss.length){d:Addr}(hd:as[argBest (HX.gtT nss) (as.length-1)]?=some d):zQ K H (tupI (zBq nss)) (.ref d):=by
 rw[h.1] at hd
 have hl:argBest (HX.gtT nss) (nss.length-1)<nss.length:=by have:=zC1 (HX.gtT nss) (nss.length-1);omega
 refine zH3 (h.2 _ d _ hd ?_)
 unfold zBq
 simp[cP,hl]
theorem zRb{k:Nat}(hr:wB k X.A)(hc:X.calm=true)(hg:Gl X "max")(hm:X.mg "max"=none)(ha:F2 X e tl)(he:starEach [e] X.env=(false,eval e X.env)::starEach [] X.env:=by rfl)(hpl:(backTo pos (starEach [] X.env)).any (·.1)=false:=by rfl) :
  E2 X (.Call (.Name "max" p) [e] [] pos) (zc zNU tl):=zDF (zLV hc (by have:=hr.units;omega)) (by
   rintro ds G R l xs H Q ⟨nss,rfl,hp,h⟩ r e d k
   obtain⟨as,rfl,ha⟩:=zGB d
   exact⟨l,as,nss,rfl,.of e,by rw[ha.1];exact hp,ha,fun d hd=>k _ G h _ H (.refl H) r (ha.pickG hp hd)⟩) hg hm (by decide +kernel) ha (by decide) (by decide) he hpl
end
end L3
namespace K
open L2 L3 HS
theorem zPM{σ:S2}{G:Gp}{t u:zk}{x y:D}(h:WkE t σ G x)(h':zi u σ G y):WkE (yZ (zA t (zA u zH))) σ G (.tup [x,y]):=fun G2 e R q=>h G2 e _ fun G3 e3=>h' G3 (e.trans e3) _ ⟨by rw[sizeLine_eq];simp,q G3 e3⟩
theorem zIX{nss:List (List Int)}(h:0<nss.length):zBq nss∈nss:=by
 unfold zBq
 have hl:argBest (HX.gtT nss) (nss.length-1)<nss.length:=by have:=zC1 (HX.gtT nss) (nss.length-1);omega
 simp[cP,hl]
noncomputable def zLW(n:Nat)(q:Nat×Nat→Bool)(os:List Nat):List (List Int):=(oth n os).map fun j=>[((os.filter (yW q j)).length:Int),(j:Int)]
noncomputable def zAY(n:Nat)(q:Nat×Nat→Bool):Nat→List Nat
 | 0=>[]
 | k+1=>zAY n q k++[((zBq (zLW n q (zAY n q k))).getD 1 0).toNat]
theorem zNV{n:Nat}{os:List Nat}(h:os.length<n):∃ y,y∈oth n os:=by
 obtain⟨y,h1,h2⟩:=HT3.zBG (P:=fun j=>j∈os) (M:=n) (l:=os) (fun j u0 hj=>hj) h
 exact⟨y,cw.mpr ⟨bX.mpr h1,by simp[h2]⟩⟩
theorem zGU{n:Nat}{q:Nat×Nat→Bool}{os:List Nat}(h:os.length<n):∃ z,z∈oth n os∧zBq (zLW n q os)=[((os.filter (yW q z)).length:Int),(z:Int)]:=by
 obtain⟨y,hy⟩:=zNV h
 obtain⟨z,hz,hz2⟩:=bY.mp (zIX (nss:=zLW n q os) (by unfold zLW;rw[bU];exact et hy))
 exact⟨z,hz,hz2.symm⟩
theorem zDd{n:Nat}{q:Nat×Nat→Bool}:∀ k,k≤n→(zAY n q k).Nodup∧(zAY n q k).length=k∧∀ x∈zAY n q k,x<n
 | 0,_=>⟨List.nodup_nil,rfl,fun x hx=>by cases hx⟩
 | k+1,hk=>by
  obtain⟨h1,h2,h3⟩:=zDd (n:=n) (q:=q) k (by omega)
  obtain⟨z,hz,e⟩:=zGU (n:=n) (q:=q) (os:=zAY n q k) (by omega)
  have e2:zAY n q (k+1)=zAY n q k++[z]:=by rw[zAY,e];rfl
  rw[e2]
  have hzo:z∉zAY n q k:=by
   have:=(cw.mp hz).2
   simpa using this
  refine⟨eN.mpr ⟨h1,by simp,fun a ha b hb e=>by rw[cg.mp hb] at e;exact hzo (by rw[← e];exact ha)⟩,by rw[ci,h2];rfl,fun x hx=>?_⟩
  rcases cH.mp hx with hx | hx
  ·exact h3 x hx
  ·rw[cg.mp hx];exact zHG hz
theorem zIY(n:Nat)(q:Nat×Nat→Bool):Ord n (zAY n q n):=⟨(zDd n (bZ n)).1,(zDd n (bZ n)).2.1,(zDd n (bZ n)).2.2⟩
noncomputable def yM:List D→Gp→(List D→Gp→Prop)→Prop:=fun ds G R=>∃(n:Nat) (q:Nat×Nat→Bool),ds=[zS n q]∧1≤n∧n≤9∧R ((zAY n q n).map nD) G
theorem zEJ:∀ ds G R R',(∀ ls G',R ls G'→R' ls G')→yM ds G R→yM ds G R':=by
 rintro ds G R R' h ⟨n,q,e,h1,h9,k⟩
 exact⟨n,q,e,h1,h9,h _ _ k⟩
noncomputable def zAp:ye:=(zT (zq (yJ (wq zH)) (gN 1)) (zT (zGt (xB (zO (fII fun i j=>.bl (decide (i<j))) (zJ zo (zA (zB 1) zH)) (zO yS (zB 0) (xC (.int 0))))) (zT (zAx 2 (yA (iR1 (zA (zO yS (zB 0) (xC (.int 0))) zH)) bd1 (xB (zO (fIn true) (zB 3) (zB 1))) (zB 3))) (wC (zEF (zB 1) (zA (zO yS (zc zNU (yA (iV (zB 2)) bd1 zBw (yZ (zA (zJ zo (zA (yJ (zx zw (zA (zB 0) (zA (zB 3) (zA (zB 1) zH))))) zH)) (zA (zB 3) zH))))) (xC (.int 1))) zH))))) (zl (zB 1))))
theorem zHP(ds:List D)(G:Gp)(R:Q2)(h:spL yM ds G R):ds.length=1∧zAp (zg R) (zR ["web","order","rest"] ds) G:=by
 obtain⟨n,q,rfl,h1,h9,h⟩:=h
 refine⟨rfl,?_⟩
 unfold zAp
 rw[show zR ["web","order","rest"] [zS n q]=[some (zS n q),none,none] from rfl]
 refine yQ (zCA (ds:=[]) (fun G2 e R q=>zDT (wR ⟨by rw[sizeLine_eq];simp,q⟩)) fun l hl=>?_)
 simp only[gN,bL,bK]
 refine Fg.of ⟨fun m σ G'=>∃(os:List Nat) (o:Option D),σ=[some (zS n q),some (.adr l),o]∧m+os.length=n∧os=zAY n q os.length∧G'.m l=some (os.map nD)∧L3.Sub G G',⟨n,[],none,rfl,rfl,rfl,zK,.new hl⟩,?_⟩
 rintro m σ G1 ⟨os,o,rfl,hm,hos,g1,sb⟩
 obtain⟨nd,u0,hlt⟩:=zDd (n:=n) (q:=q) os.length (by omega)
 rw[← hos] at nd hlt
 have t0:=zHr (g:=fun i j=>.bl (decide (i<j))) (zHH (t:=zB 1) (σ:=[some (zS n q),some (.adr l),o]) (G:=G1) (a:=l) (zE rfl) (.inl g1)) (zD2 (n:=n) (q:=q) (zE (i:=0) rfl))
 refine wW t0 G1 (.refl _) _ ?_
 rw[bU]
 by_cases hd:os.length<n
 ·rw[decide_eq_true (by omega),if_pos rfl]
  have c:=wu (σ:=[some (zS n q),some (.adr l),o]) (G:=G1) (bd:=bd1) (tc:=(xB (zO (fIn true) (zB 3) (zB 1)))) (te:=zB 3) (fun d=>match d with | .int v=>!decide (v.toNat∈os) | _=>false) (fun d=>d) (fun d=>[d])
   (show PuI (iR1 (zA (zO yS (zB 0) (xC (.int 0))) zH)) _ _ ((bQ n).map nD) by
    rw[← wU]
    exact zAr (zF (zD2 (q:=q) (zE rfl)) zM) (by omega)) fun x hx=>by
   obtain⟨j,u0,rfl⟩:=bY.mp hx
   refine⟨rfl,wW (yF (x:=nD j) (y:=.adr l) (zE rfl) (zE rfl) fun G2 e R q'=>⟨os.map nD,e.ls (.inl g1),rfl,yf os,?_⟩),fun u0=>zE rfl⟩
   rw[if_pos rfl,zCz];exact q'
  have e:ce (fun d=>d) (List.filter (fun d=>match d with | .int v=>!decide (v.toNat∈os) | _=>false) ((bQ n).map nD))=(oth n os).map nD:=by
   rw[fb,en];rfl
  rw[e] at c
  refine zM9 c fun lr hlr=>?_
  simp only[bL,bK]
  have nlr:l≠lr:=fun z=>by rw[z] at g1;rw[g1] at hlr;cases hlr
  have g2:(zU G1 lr ((oth n os).map nD)).m l=some (os.map nD):=by rw[ze nlr];exact g1
  have g2r:Ls (zU G1 lr ((oth n os).map nD)) lr ((oth n os).map nD):=.own
  have sb2:L3.Sub G (zU G1 lr ((oth n os).map nD)):=sb.trans (.new hlr)
  generalize zU G1 lr ((oth n os).map nD)=G2 at g2 g2r sb2
  obtain⟨y,hy⟩:∃ y,y∈oth n os:=by
   obtain⟨y,h1,h2⟩:=HT3.zBG (P:=fun j=>j∈os) (M:=n) (l:=os) (fun j u0 hj=>hj) hd
   exact⟨y,cw.mpr ⟨bX.mpr h1,by simp[h2]⟩⟩
  have cm:=zNR (σ:=[some (zS n q),some (.adr l),some (.adr lr)]) (G:=G2) (bd:=bd1) (tc:=zBw) (te:=yZ (zA (zJ zo (zA (yJ (zx zw (zA (zB 0) (zA (zB 3) (zA (zB 1) zH))))) zH)) (zA (zB 3) zH))) (fun u0=>true) (fun d=>match d with | .int v=>.tup [nD (os.filter (yW q v.toNat)).length,.int v] | _=>.non) (fun d=>[d]) (zCO (zE (i:=2) (d:=.adr lr) rfl) g2r) fun x hx=>by
   obtain⟨j,hj,rfl⟩:=bY.mp hx
   refine⟨rfl,fun G3 e R q'=>q' G3 (.refl _),fun u0=>zPM (x:=nD (os.filter (yW q j)).length) (y:=nD j) (fun G3 e R q'=>?_) (zE rfl)⟩
   refine(show zJ zo _ _ _ _ from zB9 (zKA (zBZ (ym (d:=zS n q) (zE rfl) (ym (d:=nD j) (zE rfl) (ym (d:=.adr l) (zE rfl) (wR ⟨n,q,j,os,.adr l,rfl,e.ls (.inl g2),zHG hj,hlt,fun lt hlt'=>?_⟩)))))))
   exact wR ⟨_,.own,by rw[bU];exact q' _ (.new hlt')⟩
  rw[List.filter_eq_self.mpr (fun u0 u0=>rfl)] at cm
  have e2:ce (fun d=>match d with | .int v=>D.tup [nD (os.filter (yW q v.toNat)).length,.int v] | _=>.non) ((oth n os).map nD)=((oth n os).map fun j=>[((os.filter (yW q j)).length:Int),(j:Int)]).map tupI:=by
   rw[da,da];rfl
  rw[e2] at cm
  have ln:0<((oth n os).map fun j=>[((os.filter (yW q j)).length:Int),(j:Int)]).length:=by
   rw[bU];exact et hy
  obtain⟨z,hz,hz2⟩:=zGU (q:=q) hd
  have hz2:=hz2.symm
  unfold zLW at hz2
  have pz:zi (zO yS (zc zNU (yA (iV (zB 2)) bd1 zBw (yZ (zA (zJ zo (zA (yJ (zx zw (zA (zB 0) (zA (zB 3) (zA (zB 1) zH))))) zH)) (zA (zB 3) zH))))) (xC (.int 1))) [some (zS n q),some (.adr l),some (.adr lr)] G2 (nD z):=by
   refine yF (x:=tupI [((os.filter (yW q z)).length:Int),(z:Int)]) (y:=.int 1) (fun G3 e R q'=>cm G3 e _ ⟨_,rfl,ln,?_⟩) yC fun u0 u0 u0 q'=>q'
   rw[← hz2];exact q'
  refine zHF (zHM (l:=l) (zE rfl) g2 (ym pz (wR ⟨_,g2,by rw[bU];omega,?_⟩)))
  refine⟨[some (zS n q),some (.adr l),none],_,.keep (.keep (.skip .nil)),.refl _,m-1,by omega,os++[z],none,rfl,by rw[ci];simp only[bO,bR];omega,?_,?_,sb2.put hl⟩
  ·rw[ci,show([z]:List Nat).length=1 from rfl,zAY,← hos]
   unfold zLW
   rw[← hz2]
   rfl
  ·rw[zK,cX];rfl
 ·rw[decide_eq_false (by omega),if_neg (by simp)]
  have hlen:os.length=n:=by
   have:os.length≤n:=by
    have:=nd.length_le_of_subset (l₂:=bQ n) fun x hx=>bX.mpr (hlt x hx)
    rw[cz] at this;exact this
   omega
  show FgR R (.adr l) G1
  rw[hlen] at hos
  rw[← hos] at h
  refine⟨zU G l (os.map nD),⟨fun a o e=>?_,fun a o e=>sb.ro a o e⟩,h l hl⟩
  by_cases ha:a=l
  ·subst ha;rw[zK] at e;cases e;exact g1
  ·rw[ze ha] at e;exact sb.m a o e
theorem zJV{σ:S2}{G:Gp}{t u:zk}{l:Addr}{ds:List D}{i:Int}{R:List D→Gp→Prop}(h:zi t σ G (.adr l))(h1:zi u σ G (.int i))(hl:Ls G l ds)(q:R (L3.cutD ds none (some i)) G):zG5 t wt (zAB u) σ G R:=h G (.refl G) _ (h1 G (.refl G) _ ⟨ds,hl,q⟩)
noncomputable def zC3:Option (List Nat)→D
 | none=>.non
 | some r=>uD r
noncomputable def yH(d:Nat):wm:=fun ds G R=>∃(n:Nat) (q:Nat×Nat→Bool) (os:List Nat) (k:Nat) (r:List Nat) (lo:Addr),ds=[zS n q,.adr lo,nD k,uD r]∧Ls G lo (os.map nD)∧os.length=n∧n≤7∧(∀ x∈os,x<n)∧1≤k∧k≤n∧n<d+k∧r.length=2*k∧(∀ x∈r,x≤9)∧R (zC3 (wX q os d k r)) G
theorem zNW{ds:List D}{G:Gp}{R:Q2}(h:yH 0 ds G R):False:=by
 obtain⟨n,q,os,k,r,lo,u0,u0,u0,u0,u0,u0,h1,h2,u0⟩:=h
 omega
noncomputable def zEf(d:Nat):ye:=(zT (xIf (xB (zO (fEq false) (zB 2) (zJ zo (zA (zB 1) zH)))) (zl (zB 3)) zy) (zT (zq (zO yS (zB 1) (zB 2)) (gN 4)) (zT (wQ (iF (zx yb (zA (zB 3) (zA (zB 4) (zA (yJ (zx zw (zA (zB 0) (zA (zB 4) (zA (yJ (zG5 (zB 1) wt (zAB (zB 2)))) zH))))) zH))))) (gN 5) (zT (zq (zJ (yH d) (zA (zB 0) (zA (zB 1) (zA (zO yv (zB 2) (xC (.int 1))) (zA (zB 5) zH))))) (gN 6)) (xIf (xB (zO (wx true) (zB 6) (xC .non))) (zl (zB 6)) zy))) (zl (xC .non)))))
theorem zPN(d:Nat)(ds:List D)(G:Gp)(R:Q2)(h:yH (d+1) ds G R):ds.length=4∧zEf d (zg R) (zR ["web","order","done","ring","place","longer","found"] ds) G:=by
 obtain⟨n,q,os,k,r,lo,rfl,hlo,hon,hn,hlt,hk1,hkn,hd,hr,hrx,h⟩:=h
 refine⟨rfl,?_⟩
 unfold zEf
 rw[show zR ["web","order","done","ring","place","longer","found"] [zS n q,.adr lo,nD k,uD r]=[some (zS n q),some (.adr lo),some (nD k),some (uD r),none,none,none] from rfl]
 have t0:PuT (xB (zO (fEq false) (zB 2) (zJ zo (zA (zB 1) zH)))) [some (zS n q),some (.adr lo),some (nD k),some (uD r),none,none,none] G (decide (k=n)):=wW (zE6 (x:=nD k) (y:=nD n) (zE rfl) (by
  have:=zHH (t:=zB 1) (σ:=[some (zS n q),some (.adr lo),some (nD k),some (uD r),none,none,none]) (G:=G) (a:=lo) (zE rfl) hlo
  rw[bU,hon] at this
  exact this) rfl rfl (by rw[if_neg (by simp),zBM]))
 refine zOy t0 (fun hb=>zD4 (zE rfl) (.of (by rw[wX,if_pos (by rw[hon];exact of_decide_eq_true hb)] at h;exact h))) fun hb=>?_
 have hkn':k<n:=by have:=of_decide_eq_false hb;omega
 have hko:k<os.length:=by omega
 rw[wX,if_neg (by omega)] at h
 have hwch:zRW q os k r=wch r os[k] (zAX ((os.take k).filter (yW q os[k]))):=by unfold zRW;simp[cP,hko]
 rw[hwch] at h
 clear hwch
 have ixp:zi (zO yS (zB 1) (zB 2)) [some (zS n q),some (.adr lo),some (nD k),some (uD r),none,none,none] G (nD os[k]):=zDu (k:=k) (zE (d:=.adr lo) rfl) (zE rfl) hlo (wS (by rw[cC];simp[hko]))
 have hp:os[k]<n:=hlt _ (cZ _)
 refine wI ixp ?_
 simp only[gN,bL,bK]
 generalize os[k]=p at hp h
 refine zCW (zDp (zOh (zBZ (ym (d:=uD r) (zE rfl) (ym (d:=nD p) (zE rfl) (zB9 (zKA (zBZ (ym (d:=zS n q) (zE rfl) (ym (d:=nD p) (zE rfl) (zB9 (zKA (zJV (i:=(k:Int)) (zE (i:=1) (d:=.adr lo) rfl) (zE (i:=2) (d:=nD k) rfl) hlo fun ls hls=>?_)))))))))))))
 rw[zJO (by rw[bU];omega),← List.map_take]
 refine wR ⟨n,q,p,os.take k,.adr ls,rfl,.inl zK,hp,fun x hx=>hlt x (eH hx),fun lc hlc=>?_⟩
 have cl:((os.take k).filter (yW q p)).length≤9:=by
  have a:=dk (yW q p) (os.take k)
  rw[cK] at a
  omega
 refine wR ⟨r,(os.take k).filter (yW q p),p,lc,rfl,.own,by omega,hrx,fun x hx=>?_,cl,fun lw hlw=>?_⟩
 ·have:=hlt x (eH (cw.mp hx).1);omega
 have hG3:(zU (zU (zU G ls ((os.take k).map nD)) lc (((os.take k).filter (yW q p)).map nD)) lw ((wch r p (zAX ((os.take k).filter (yW q p)))).map uD)).m lw=some ((wch r p (zAX ((os.take k).filter (yW q p)))).map uD):=zK
 have sG:L3.Sub G (zU (zU (zU G ls ((os.take k).map nD)) lc (((os.take k).filter (yW q p)).map nD)) lw ((wch r p (zAX ((os.take k).filter (yW q p)))).map uD)):=((L3.Sub.new hls).trans (.new hlc)).trans (.new hlw)
 generalize zU (zU (zU G ls ((os.take k).map nD)) lc (((os.take k).filter (yW q p)).map nD)) lw ((wch r p (zAX ((os.take k).filter (yW q p)))).map uD)=G3 at sG hG3 ⊢
 have own3:=hG3
 clear hG3
 generalize hws:wch r p (zAX ((os.take k).filter (yW q p)))=ws at h own3 ⊢
 refine zAS (fun i G'=>G'=G3∧∀ w∈ws.take i,wX q os d (k+1) w=none) ⟨rfl,fun w hw=>by simp at hw⟩ (fun i G' hI=>by rw[hI.1];exact .inl own3) ?_ ?_
 ·rintro i x hx G' ⟨rfl,hno⟩
  rw[cC] at hx
  obtain⟨w,hw,rfl⟩:=Option.map_eq_some_iff.mp hx
  obtain⟨w1,w2⟩:=zGM r.length (bZ _) (show w∈zBH r p (zAX ((os.take k).filter (yW q p))) r.length from by rw[show zBH r p (zAX ((os.take k).filter (yW q p))) r.length=ws from hws];exact cy hw)
  simp only[gN,bL,bK]
  refine yQ (zBL (ds:=[zS n q,.adr lo,nD (k+1),uD w]) (zF (zE rfl) (zF (zE rfl) (zF (d:=nD (k+1)) (zGz (i:=(k:Int)) (j:=1) (zE rfl) yC) (zF (zE rfl) zM)))) ⟨n,q,os,k+1,w,lo,rfl,hlo.sub sG,hon,hn,hlt,by omega,by omega,by omega,by omega,fun x hx=>?_,?_⟩)
  ·rcases w2 x hx with rfl | z
   ·omega
   ·exact hrx x z
  ·simp only[gN,bL,bK]
   cases hg:wX q os d (k+1) w with
   | none =>
    refine zJv (wW (yF (x:=.non) (y:=.non) (zE rfl) yC fun u0 u0 u0 q'=>q')) ⟨.keep (.keep (.keep (.keep (.keep (.skip (.skip .nil)))))),_,.refl _,rfl,fun w' hw'=>?_⟩
    rw[yU hw] at hw'
    rcases cH.mp hw' with z | z
    ·exact hno w' z
    ·rw[cg.mp z];exact hg
   | some r' =>
    refine zJA (wW (yF (x:=uD r') (y:=.non) (zE rfl) yC fun u0 u0 u0 q'=>q')) (zD4 (d:=uD r') (zE rfl) ⟨G,sG,?_⟩)
    have:ws.findSome? (wX q os d (k+1))=some r':=by
     have e:ws=ws.take i++w::ws.drop (i+1):=by
      have h1:ws=ws.take i++ws.drop i:=(di i ws).symm
      have h2:ws.drop i=w::ws.drop (i+1):=by
       obtain⟨hi,he⟩:=bW.mp hw
       rw[List.drop_eq_getElem_cons hi,he]
      rw[← h2];exact h1
     rw[e,List.findSome?_append,List.findSome?_eq_none_iff.mpr hno,List.findSome?_cons,hg]
     rfl
    rw[this] at h
    exact h
 ·rintro G' ⟨rfl,hno⟩
  dsimp only
  rw[bU,e8] at hno
  rw[List.findSome?_eq_none_iff.mpr hno] at h
  exact zD4 (d:=.non) yC ⟨G,sG,h⟩
noncomputable def yI(n:Nat)(q:Nat×Nat→Bool):Option (List Nat):=match zAY n q n with
 | []=>none
 | o::tl=>wX q (o::tl) 8 1 [o,o]
theorem zIZ{n:Nat}{q:Nat×Nat→Bool}(h1:1≤n)(h7:n≤7):(∀ w,yI n q=some w→yE q (bQ n) w)∧(Told n q→yI n q≠none):=by
 have o:=zIY n q
 unfold yI
 cases h:zAY n q n with
 | nil=>rw[h] at o;have:=o.len;simp at this;omega
 | cons p t=>rw[h] at o;exact zGR o 8 (by omega)
noncomputable def zj:wm:=fun ds G R=>∃(n:Nat) (q:Nat×Nat→Bool),ds=[zS n q]∧1≤n∧n≤7∧R (zC3 (yI n q)) G
noncomputable def zCX:ye:=(zT (wC (zJ wE (zA (zO yS (zB 0) (xC (.int 0))) (zA (xC (.int 7)) zH)))) (zT (zq (yJ (zx yM (zA (zB 0) zH))) (gN 1)) (zl (zJ (yH 8) (zA (zB 0) (zA (zB 1) (zA (xC (.int 1)) (zA (yZ (zA (zO yS (zB 1) (xC (.int 0))) (zA (zO yS (zB 1) (xC (.int 0))) zH))) zH))))))))
theorem zLX(ds:List D)(G:Gp)(R:Q2)(h:zj ds G R):ds.length=1∧zCX (zg R) (zR ["web","order"] ds) G:=by
 obtain⟨n,q,rfl,h1,h7,h⟩:=h
 refine⟨rfl,?_⟩
 unfold zCX
 rw[show zR ["web","order"] [zS n q]=[some (zS n q),none] from rfl]
 refine(show zT (wC _) _ _ _ _ from zBL (ds:=[nD n,nD 7]) (zF (zD2 (q:=q) (zE rfl)) (zF yC zM)) ⟨n,7,rfl,h7,?_⟩)
 show zT (zq (yJ (zx yM (zA (zB 0) zH))) (gN 1)) _ (zg R) [some (zS n q),none] G
 refine yQ (zKA (zBZ (ym (d:=zS n q) (zE rfl) (wR ⟨n,q,rfl,h1,by omega,fun lo hlo=>?_⟩))))
 simp only[gN,bL,bK]
 obtain⟨nd,hl,hlt⟩:=zIY n q
 unfold yI at h
 generalize zAY n q n=os at nd hl hlt hlo h ⊢
 obtain⟨p,t,rfl⟩:∃ p t,os=p::t:=by
  cases os with
  | nil=>simp at hl;omega
  | cons p t=>exact⟨p,t,rfl⟩
 have ix:∀ {σ:S2},look σ 1=some (.adr lo)→zi (zO yS (zB 1) (xC (.int 0))) σ (zU G lo ((p::t).map nD)) (nD p):=fun {σ} hs=>zDu (k:=0) (zE hs) yC .own (wS (j:=0) rfl)
 have hp:=hlt p (cE ..)
 refine zBL (ds:=[zS n q,.adr lo,nD 1,uD [p,p]]) (zF (zE rfl) (zF (zE rfl) (zF yC (zF (zBe (zF (ix rfl) (zF (ix rfl) zM)) (by simp)) zM)))) ⟨n,q,p::t,1,[p,p],lo,rfl,.own,hl,h7,hlt,by omega,by omega,by omega,rfl,fun x hx=>?_,?_⟩
 ·simp only[cI,eA,or_false] at hx
  rcases hx with rfl | rfl<;>omega
 ·exact⟨G,.new hlo,h⟩
end K
namespace HT
section
variable {prog:Program} {w:World} {A:Around} {E:Value→Shared→Prop} {s:Shared}
end
end HT
namespace L3
open L2
section
variable {X:Cx} {a b c d e o:Expr} {es:List Expr} {pos p:Pos} {ta tb tc td te:zk} {tl:TL2}
end
section
variable {X:Cx} {a b e o:Expr} {pos p apos cpos:Pos} {ta tb te:zk} {tl:TL2} {t:wN}
theorem zLY:yg X (.type "int") (fun xs H Q=>∃ n:Int,xs=[.str (Str.ofString (toString n))]∧0≤n∧n<10 ^ 10∧Q (.int n) H):=by
 intro pins s σ H xs us Q I r h
 obtain⟨n,rfl,h0,h1,q⟩:=h
 obtain⟨u,rfl,ru⟩:=vals1 r
 obtain⟨t,rfl⟩:=ru
 exact PySem.W.KIN.call_num h0 h1 ⟨.int n,H,I.tok _,⟨_,rfl⟩,q⟩
noncomputable def zBP:wm:=fun ds G R=>match ds with | [.str z]=>∃ n:Nat,z=Str.ofString (toString (n:Int))∧n<1000∧R (.int n) G | _=>False
theorem zNX{K:PySem.W.Frag}:zHn K (fun xs H Q=>∃ n:Int,xs=[.str (Str.ofString (toString n))]∧0≤n∧n<10 ^ 10∧Q (.int n) H) zBP:=by
 intro ds G R vs H Q h r d k
 unfold zBP at h
 split at h
 ·rename_i z
  obtain⟨n,rfl,h1,h⟩:=h
  obtain⟨v,rfl,d1⟩:=zAi d
  unfold zQ at d1
  subst d1
  refine⟨n,rfl,by omega,?_,k _ G h _ H (.refl H) r (by unfold zQ;rfl)⟩
  have:(1000:Int)≤10 ^ 10:=by decide
  omega
 ·exact h.elim
theorem zNY(hg:Gl X "int")(hm:X.mg "int"=none)(ha:A2 X [e] t)(he:starEach [e] X.env=(false,eval e X.env)::starEach [] X.env:=by rfl)(hpl:(backTo pos (starEach [] X.env)).any (·.1)=false:=by rfl) :
  E2 X (.Call (.Name "int" p) [e] [] pos) (zJ zBP t):=zEv zLY zNX hg hm (by decide +kernel) ha (by decide) (by decide) he hpl
theorem zCG:∀ l:List (Str×Tok),za ((l.map (·.1)).map V.str) (strValues l)
 | []=>.nil
 | (a,tk)::r=>.cons ⟨tk,rfl⟩ (zCG r)
theorem zNZ:MtR X "str.split" (fun x xs H Q=>∃ z sep,x=.str z∧xs=[.str sep]∧(sep.length==0)=false∧z.length≤1000000∧∀ l,H l=none→Q (.ref l) (wj H l (.lst ((Txt.split z sep).map V.str)))):=by
 intro pins s σ H x xs v us Q I rx rs h
 obtain⟨z,sep,rfl,rfl,hy,hz,q⟩:=h
 obtain⟨tk,rfl⟩:=rx
 obtain⟨u,rfl,ru⟩:=vals1 rs
 obtain⟨tu,rfl⟩:=ru
 have hx:z.length≤sizeLine:=by rw[sizeLine_eq];omega
 have hl:=split_le z sep
 have fin:∀(l:List (Str×Tok)) (k:Nat),l.map (·.1)=Txt.split z sep→EP X pins σ Q (.ref s.heap.objs.size) { s with toks:=k,heap:=s.heap.push { cls:=.type "list",data:=.seq (strValues l).toArray } }:=fun l k e=>by
  refine⟨.ref _,_,I.laid (t':=k) (o:=.lst ((Txt.split z sep).map V.str)) (fun b ob q=>bP _ q) (bZ _) ?_,rfl,q _ (I.hok.fresh (bZ _))⟩
  refine⟨by rw[bU,sizeLine_eq];omega,strValues l,0,?_,cb _ rfl⟩
  rw[← e]
  exact zCG l
 cases h1:(decide (z.length<sep.length)||decide (Builtin.Str.strKind z<Builtin.Str.strKind sep))
 ·cases hf:(Builtin.Str.occurrences z sep 0 z.length (z.length+1)).isEmpty
  ·have hn:(Builtin.Str.partsBetween z (Builtin.Str.occurrences z sep 0 z.length (z.length+1)) sep.length).length≤sizeLine:=by
    have:Txt.split z sep=Builtin.Str.partsBetween z (Builtin.Str.occurrences z sep 0 z.length (z.length+1)) sep.length:=(if_neg (ne_true_of_eq_false h1)).trans (if_neg (ne_true_of_eq_false hf))
    rw[← this,sizeLine_eq];omega
   refine call_meets F.slot_str_split (typeIs_str _ _ _) F.entry_str_split (F.args_str_split_2 _ _) (meets_str_split_sep z sep tk tu h1 hy hf hx hn) ?_
   show EP X pins σ Q _ { s with toks:=_,heap:=s.heap.push { cls:=.type "list",data:=.seq (strsFrom s.toks (Builtin.Str.partsBetween z (Builtin.Str.occurrences z sep 0 z.length (z.length+1)) sep.length)).toArray } }
   rw[strsFrom_eq]
   exact fin (numbered s.toks _) _ ((numbered_texts _ _).trans ((if_neg (ne_true_of_eq_false h1)).trans (if_neg (ne_true_of_eq_false hf))).symm)
  ·exact call_meets F.slot_str_split (typeIs_str _ _ _) F.entry_str_split (F.args_str_split_2 _ _) (meets_str_split_not_found z sep tk tu h1 hy hf)
    (fin [(z,tk)] _ ((if_neg (ne_true_of_eq_false h1)).trans (if_pos hf)).symm)
 ·exact call_meets F.slot_str_split (typeIs_str _ _ _) F.entry_str_split (F.args_str_split_2 _ _) (meets_str_split_cannot_occur z sep tk tu h1)
   (fin [(z,tk)] _ (if_pos h1).symm)
noncomputable def zHQ(to:zk)(t:wN):TL2:=fun σ G R=>to σ G fun d G1=>match d with | .str z=>t σ G1 fun ds G2=>(match ds with | [.str sep]=>(sep.length==0)=false∧z.length≤1000000∧R ((Txt.split z sep).map D.str) G2 | _=>False) | _=>False
theorem zFN{K:PySem.W.Frag}{H:Hp}:∀ ls:List Str,Dens K H (ls.map D.str) (ls.map V.str)
 | []=>by unfold Dens;rfl
 | a::r=>by
  unfold Dens
  exact⟨_,_,rfl,by unfold zQ;rfl,zFN r⟩
theorem zPO{to:zk}(ho:E2 X o to)(ha:A2 X [e] t)
  (hbase:attributeBase o "split" X.env (eval o X.env)=eval o X.env:=by rfl)
  (hfew:((backTo cpos (starEach [e] X.env)).all (fun x=>!x.1)&&(backToKw cpos (keywordEach [] X.env)).all (fun x=>x.1.isSome)
   && decide ([e].length+([]:List Keyword).length+(if ([]:List Keyword).isEmpty then 0 else 1)<30))=true:=by rfl)
  (hline:(apos.endLine==cpos.line)=true:=by rfl) (hs:starEach [e] X.env=(false,eval e X.env)::starEach [] X.env:=by rfl) (hplain:(backTo cpos (starEach [] X.env)).any (·.1)=false:=by rfl) :
  F2 X (.Call (.Attribute o "split" apos) [e] [] cpos) (zHQ to t):=by
 refine PE.mono (zJj F.plainAttrs_str F.slot_str_split F.type_str_split zNZ ho ha hbase hfew hline hs hplain) ?_
 rintro σ1 H Q ⟨σ,G,R,r,q,k⟩
 refine⟨σ,G,_,r,q,fun d G1 q1 v H1 g1 r1 d1=>?_⟩
 cases d with
 | str z =>
  unfold zQ at d1
  subst d1
  refine⟨rfl,σ,G1,_,r.to g1 r1,q1,fun ds G2 q2 vs H2 g2 r2 d2=>?_⟩
  split at q2
  ·rename_i sep
   obtain⟨w,rfl,d3⟩:=zAi d2
   unfold zQ at d3
   subst d3
   refine⟨z,sep,rfl,rfl,q2.1,q2.2.1,fun l hl=>?_⟩
   exact k _ G2 q2.2.2 l _ _ ((g1.trans g2).trans (.fresh hl)) (r2.fresh hl) (r2.free hl) zu (zFN _)
  ·exact q2.elim
 | _=>exact q1.elim
end
section
variable {X:Cx} {a b o:Expr} {pos:Pos} {ta tb to:zk}
noncomputable def zCf:D→D→Gp→Q2→Prop:=fun x y G R=>match x,y with
 | .str z,.int i=>z.length≤1000000∧(match atI z.cps.toList i with | some c=>R (.str ⟨#[c]⟩) G | none=>False)
 | _,_=>False
theorem zPP{K:PySem.W.Frag}:Fit K zR3 zCf:=by
 intro dx dy G R x y H Q h r d1 d2 k
 unfold zCf at h
 split at h
 ·rename_i z i
  obtain⟨hz,h⟩:=h
  split at h
  ·rename_i c e2
   unfold zQ at d1 d2
   exact⟨z,i,c,d1,d2,by rw[sizeLine_eq];omega,e2,k _ G h _ H (.refl H) r (by unfold zQ;rfl)⟩
  ·exact h.elim
 ·exact h.elim
theorem zNa(ha:E2 X a ta)(hb:E2 X b tb)(hs:zGg b:=by intro u0 u0;rfl):E2 X (.Subscript a b pos) (zO zCf ta tb) :=
 PE.mono (zPg zQm ha hb hs) fun σ1 H Q h=>zHi zPP h
end
end L3
namespace K
open L2 L3
theorem zKI{σ:S2}{G:Gp}{t:zk}{r:List Nat}{n:Nat}(h:zi t σ G (.tup (r.map nD)))(hl:r.length=2*n):zi (zO (yY zFa fun i j=>.int (i / j)) (zJ zo (zA t zH)) (xC (.int 2))) σ G (nD n):=by
 have e:(((r.map nD).length:Int) / 2)=(n:Int):=by rw[bU,hl];omega
 exact yF (zG3 h) yC fun u0 u0 u0 q=>⟨⟨by decide,by decide⟩,by dsimp only;rw[e];exact q⟩
theorem zIa{σ:S2}{G:Gp}{t:zk}{n:Nat}(h:zi t σ G (nD n))(hn:n≤1000):zi (zO (yY zC7 fun i j=>.int (i*j)) (xC (.int 2)) t) σ G (nD (2*n)):=by
 refine yF (x:=.int 2) (y:=nD n) yC h fun u0 u0 u0 q=>⟨by unfold zC7;omega,?_⟩
 have e2:(2:Int)*(n:Int)=((2*n:Nat):Int):=by omega
 dsimp only
 rw[e2]
 exact q
theorem zNb{od:List Nat}{x:Nat}(h:x∈od):zDN (od.map nD) (nD x) 0 (nm od x):=by
 have hl:=zP4 h
 have ha:=zDZ h
 refine⟨cW _,⟨nD x,?_,by rw[zBM];simp⟩,fun m z u0 hm hz=>?_⟩
 ·rw[cC,dM hl]
  have:od[nm od x]=x:=by simpa[cP,hl] using ha
  rw[this];rfl
 ·rw[cC,dM (by omega)] at hz
  cases hz
  rw[zBM]
  have:od[m]'(by omega)≠x:=fun e=>by
   have:=List.not_of_lt_findIdx (p:=fun y=>y==x) (xs:=od) hm
   simp at this
   exact this e
  simpa using this
noncomputable def zA2:wm:=fun ds G R=>∃(n:Nat) (r:List Nat),ds=[.tup (r.map nD)]∧zAH n r∧1≤n∧n≤9∧R (.bl true) G
noncomputable def zCY:ye:=(zT (xIf (zB0 (zAU (xB (zHq "tuple" (zB 0)))) (zAU (xB (zEQ (fII fun i j=>.bl (decide (i≤j))) (fII fun i j=>.bl (decide (i≤j))) (xC (.int 2)) (zJ zo (zA (zB 0) zH)) (zO (yY zC7 fun i j=>.int (i*j)) (xC (.int 2)) (xC (.int 9))))))) (zl (xC (.bl false))) zy) (zT (xIf (zAU (xB (zc zMR (yA (iV (zB 0)) bd1 zBw (zJ yo (zA (zB 2) zH)))))) (zl (xC (.bl false))) zy) (zT (zq (zO (yY zFa fun i j=>.int (i / j)) (zJ zo (zA (zB 0) zH)) (xC (.int 2))) (gN 1)) (zl (zIv (zO (fEq false) (zJ zo (zA (zB 0) zH)) (zO (yY zC7 fun i j=>.int (i*j)) (xC (.int 2)) (zB 1))) (zc zMR (yA (iR1 (zA (zB 1) zH)) bd1 zBw (zO (fEq false) (xMt zAF (zB 0) (zA (zB 2) zH)) (xC (.int 2))))))))))
theorem zNc{α:Type}(l:List α):ce (fun u0=>D.bl true) l=(cq l.length true).map D.bl:=by
 rw[List.map_replicate]
 refine List.eq_replicate_iff.mpr ⟨by simp,fun b hb=>?_⟩
 obtain⟨u0,u0,rfl⟩:=bY.mp hb
 rfl
theorem zKJ{σ:S2}{G:Gp}{tl:TL2}{α:Type}{l:List α}(h:PuL tl σ G (l.map fun u0=>D.bl true)):zi (zc zMR tl) σ G (.bl true):=by
 rw[zNc] at h
 have:=zRD h
 rwa [show(cq l.length true).all id=true from by simp] at this
theorem zLZ(ds:List D)(G:Gp)(R:Q2)(h:zA2 ds G R):ds.length=1∧zCY (zg R) (zR ["thing","many"] ds) G:=by
 obtain⟨n,r,rfl,hr,h1,h9,h⟩:=h
 have hl:=hr.len
 refine⟨rfl,?_⟩
 unfold zCY
 have hc:(decide ((2:Int)≤((2*n:Nat):Int))&&decide (((2*n:Nat):Int)≤((2*9:Nat):Int)))=true:=by rw[decide_eq_true (by omega),decide_eq_true (by omega)];rfl
 have vl:∀ {σ:S2} {G:Gp},look σ 0=some (.tup (r.map nD))→zi (zJ zo (zA (zB 0) zH)) σ G (nD (2*n)):=fun {σ G} hh=>by
  have:=zG3 (σ:=σ) (G:=G) (t:=zB 0) (ds:=r.map nD) (zE hh)
  rwa [bU,hl] at this
 have ch:=zK0 (σ:=zR ["thing","many"] [.tup (r.map nD)]) (G:=G) (f:=fun i j=>decide (i≤j)) (g:=fun i j=>decide (i≤j)) (yC (d:=.int 2)) (vl rfl) (zIa (n:=9) (yC (d:=.int 9)) (by omega))
 rw[hc] at ch
 refine zAJ (zMa (zOd (T:="tuple") (d:=.tup (r.map nD)) (zE rfl) rfl) (zCN (wW ch))) ?_
 have a1:=zDn (σ:=zR ["thing","many"] [.tup (r.map nD)]) (G:=G) (bd:=bd1) (te:=zJ yo (zA (zB 2) zH)) (fun u0=>.bl true) (fun d=>[d]) (zBV (zE (i:=0) (d:=.tup (r.map nD)) rfl)) fun x hx=>by
  obtain⟨p,hp,rfl⟩:=bY.mp hx
  exact⟨rfl,zKz (zE rfl)⟩
 refine zAJ (zCN (wW (zKJ a1))) ?_
 refine wI (zKI (n:=n) (r:=r) (zE rfl) hl) ?_
 show zl _ _ [some (.tup (r.map nD)),some (nD n)] G
 have hw:PuI (iR1 (zA (zB 1) zH)) [some (.tup (r.map nD)),some (nD n)] G ((bQ n).map nD):=by
  rw[← wU]
  exact zAr (zF (zE rfl) zM) (by omega)
 have a2:=zDn (σ:=[some (.tup (r.map nD)),some (nD n)]) (G:=G) (bd:=bd1) (te:=(zO (fEq false) (xMt zAF (zB 0) (zA (zB 2) zH)) (xC (.int 2)))) (fun u0=>.bl true) (fun d=>[d]) hw fun x hx=>by
  obtain⟨i,hi,rfl⟩:=bY.mp hx
  have hi:=bX.mp hi
  refine⟨rfl,zE6 (x:=nD 2) (y:=.int 2) (zHz (xs:=r.map nD) (zE rfl) (zF (zE (d:=nD i) rfl) zM) fun u0 u0 u0 q=>⟨rfl,yf _,?_⟩) yC rfl rfl (by rw[if_neg (by simp)];exact zB2 _ 8 rfl)⟩
  rw[zF9,hr.count hi]
  exact q
 refine zD4 (zRF (zE6 (x:=nD (2*n)) (y:=nD (2*n)) (vl rfl) (zIa (zE rfl) (by omega)) rfl rfl (by rw[if_neg (by simp)];exact zB2 _ 8 rfl)) (zKJ a2)) (FgR.of h)
noncomputable def yz:wm:=fun ds G R=>∃(r od:List Nat),ds=[.tup (r.map nD),.tup (od.map nD)]∧(∀ x∈r,x∈od)∧R (.tup ((r.map (nm od)).map nD)) G
noncomputable def zAq:ye:=(zl (zc zz (yA (iV (zB 0)) bd1 zBw (xMt wF (zB 1) (zA (zB 2) zH)))))
noncomputable def unD:D→Nat
 | .int i=>i.toNat
 | _=>0
theorem zKK(f:Nat→Nat)(r:List Nat):(r.map nD).map (fun d=>nD (f (unD d)))=(r.map f).map nD:=by
 rw[da,da];rfl
theorem zHR(ds:List D)(G:Gp)(R:Q2)(h:yz ds G R):ds.length=2∧zAq (zg R) (zR ["ring","order"] ds) G:=by
 obtain⟨r,od,rfl,hm,h⟩:=h
 refine⟨rfl,?_⟩
 unfold zAq
 have a1:=zDn (σ:=zR ["ring","order"] [.tup (r.map nD),.tup (od.map nD)]) (G:=G) (bd:=bd1) (te:=(xMt wF (zB 1) (zA (zB 2) zH))) (fun d=>nD (nm od (unD d))) (fun d=>[d]) (zBV (zE (i:=0) (d:=.tup (r.map nD)) rfl)) fun x hx=>by
  obtain⟨p,hp,rfl⟩:=bY.mp hx
  exact⟨rfl,zHz (xs:=od.map nD) (zE rfl) (zF (zE (d:=nD p) rfl) zM) fun u0 u0 u0 q=>⟨_,_,rfl,rfl,yf _,zNb (hm p hp),q⟩⟩
 rw[zKK] at a1
 exact zD4 (zBU a1) (FgR.of h)
noncomputable def zAM:wm:=fun ds G R=>∃(n:Nat) (r ps:List Nat),ds=[.tup (r.map nD),.tup (ps.map nD)]∧r.length=2*n∧n≤100∧R (.tup ((wo r ((bQ n).filter fun x=>!decide (x∈ps))).map nD)) G
noncomputable def zCZ:ye:=(zT (zq (yJ (yA (iR1 (zA (zO (yY zFa fun i j=>.int (i / j)) (zJ zo (zA (zB 0) zH)) (xC (.int 2))) zH)) bd1 (xB (zO (fIn true) (zB 3) (zB 1))) (zB 3))) (gN 2)) (zl (zc zz (yA (iV (zB 0)) bd1 (xB (zO (fIn false) (zB 3) (zB 2))) (xMt wF (zB 2) (zA (zB 3) zH))))))
theorem zFO(p:Nat→Bool)(r:List Nat):(r.map nD).filter (fun d=>p (unD d))=(r.filter p).map nD:=by
 rw[en];rfl
theorem zLa(ds:List D)(G:Gp)(R:Q2)(h:zAM ds G R):ds.length=2∧zCZ (zg R) (zR ["ring","places","others"] ds) G:=by
 obtain⟨n,r,ps,rfl,hl,hn,h⟩:=h
 refine⟨rfl,?_⟩
 unfold zCZ
 have hw:PuI (iR1 (zA (zO (yY zFa fun i j=>.int (i / j)) (zJ zo (zA (zB 0) zH)) (xC (.int 2))) zH)) (zR ["ring","places","others"] [.tup (r.map nD),.tup (ps.map nD)]) G ((bQ n).map nD):=by
  rw[← wU]
  exact zAr (zF (zKI (r:=r) (zE rfl) hl) zM) (by omega)
 have a1:=wu (σ:=zR ["ring","places","others"] [.tup (r.map nD),.tup (ps.map nD)]) (G:=G) (bd:=bd1) (tc:=(xB (zO (fIn true) (zB 3) (zB 1)))) (te:=zB 3) (fun d=>!decide (unD d∈ps)) (fun d=>d) (fun d=>[d]) hw fun x hx=>by
  obtain⟨i,hi,rfl⟩:=bY.mp hx
  exact⟨rfl,wW (zI8 (x:=nD i) (ds:=ps.map nD) (zE rfl) (zE rfl) rfl (yf _) (by rw[if_pos rfl,zCz];rfl)),fun u0=>zE rfl⟩
 rw[fb,zFO (fun x=>!decide (x∈ps))] at a1
 generalize (bQ n).filter (fun x=>!decide (x∈ps))=od at a1 h
 refine yQ (zCA a1 fun l hl'=>?_)
 show zl (zc zz (yA (iV (zB 0)) bd1 (xB (zO (fIn false) (zB 3) (zB 2))) (xMt wF (zB 2) (zA (zB 3) zH)))) (zg R) [some (.tup (r.map nD)),some (.tup (ps.map nD)),some (.adr l)] (zU G l (od.map nD))
 have ls:∀ {G2:Gp},Ext (zU G l (od.map nD)) G2→Ls G2 l (od.map nD):=fun {G2} e=>e.ls .own
 have a2:=wu (σ:=[some (.tup (r.map nD)),some (.tup (ps.map nD)),some (.adr l)]) (G:=zU G l (od.map nD)) (bd:=bd1) (tc:=(xB (zO (fIn false) (zB 3) (zB 2)))) (te:=(xMt wF (zB 2) (zA (zB 3) zH))) (fun d=>decide (unD d∈od)) (fun d=>nD (nm od (unD d))) (fun d=>[d]) (zBV (zE (i:=0) (d:=.tup (r.map nD)) rfl)) fun x hx=>by
  obtain⟨i,hi,rfl⟩:=bY.mp hx
  refine⟨rfl,wW (yF (x:=nD i) (y:=.adr l) (zE rfl) (zE rfl) fun G3 e R q=>⟨od.map nD,ls e,rfl,yf _,?_⟩),fun hmem=>?_⟩
  ·rw[if_neg (by simp),zCz];exact q
  ·have hmem:i∈od:=of_decide_eq_true hmem
   intro G3 e R q
   exact zE (d:=.adr l) rfl G3 e _ ⟨⟨od.map nD,ls e⟩,zF (zE (d:=nD i) rfl) zM G3 e _ ⟨od.map nD,nm od i,ls e,rfl,yf _,zNb hmem,q⟩⟩
 rw[zFO (fun x=>decide (x∈od)),zKK] at a2
 exact zD4 (zBU a2) ⟨G,.new hl',h⟩
end K
namespace K
open L2 L3 HS
theorem zPQ{σ:S2}{G:Gp}{tc:TT2}{t u v:ye}{E:yO}(h:tc σ G fun b G1=>if b=true then t { E with nx:=v E } σ G1 else u { E with nx:=v E } σ G1):zT (xIf tc t u) v E σ G:=h
theorem zGV{α β:Type}(f:α→β):∀(l:List α) (i:Nat),(l.map f).eraseIdx i=(l.eraseIdx i).map f
 | [],_=>rfl
 | _::_,0=>rfl
 | a::l,i+1=>congrArg (f a::·) (zGV f l i)
theorem zNd{tc:TT2}{t u v:ye}{E:yO}{σ:S2}{G:Gp}(h:xIf tc t u { E with nx:=v E } σ G):zT (xIf tc t u) v E σ G:=h
noncomputable def mm(f:Nat→Nat)(p:Nat×Nat):Nat×Nat:=(min (f p.1) (f p.2),max (f p.1) (f p.2))
theorem zRc{f:Nat→Nat}{n:Nat}(hf:∀ x,x<n→∀ y,y<n→f x=f y→x=y){p r:Nat×Nat}(hp:p.1<p.2∧p.2<n)(hr:r.1<r.2∧r.2<n)(e:mm f p=mm f r):p=r:=by
 obtain⟨a,b⟩:=p
 obtain⟨c,d⟩:=r
 unfold mm at e
 dsimp only at *
 obtain⟨e1,e2⟩:=Prod.mk.inj e
 have:(f a=f c∧f b=f d)∨(f a=f d∧f b=f c):=by omega
 rcases this with ⟨h1,h2⟩ | ⟨h1,h2⟩
 ·rw[hf a (by omega) c (by omega) h1,hf b (by omega) d (by omega) h2]
 ·have:=hf a (by omega) d (by omega) h1
  have:=hf b (by omega) c (by omega) h2
  omega
theorem zIb{f:Nat→Nat}{n:Nat}(hf:∀ x,x<n→∀ y,y<n→f x=f y→x=y):∀(ps:List (Nat×Nat)),ps.Nodup→(∀ p∈ps,p.1<p.2∧p.2<n)→(ps.map (mm f)).Nodup
 | [],_,_=>List.nodup_nil
 | p::ps,nd,h=>by
  obtain⟨h1,h2⟩:=du.mp nd
  refine du.mpr ⟨fun z=>?_,zIb hf ps h2 fun q hq=>h q (ck _ hq)⟩
  obtain⟨r,hr,e⟩:=bY.mp z
  exact h1 (zRc hf (h r (ck _ hr)) (h p (cE ..)) e▸hr)
theorem zSb{f:Nat→Nat}{n:Nat}(hf:∀ x,x<n→∀ y,y<n→f x=f y→x=y)(hl:∀ x,x<n→f x<n){p:Nat×Nat}(hp:p.1<p.2∧p.2<n):(mm f p).1<(mm f p).2∧(mm f p).2<n:=by
 obtain⟨a,b⟩:=p
 unfold mm
 dsimp only at *
 have h1:=hl a (by omega)
 have h2:=hl b (by omega)
 have h3:f a≠f b:=fun e=>by have:=hf a (by omega) b (by omega) e;omega
 omega
noncomputable def wdS(p:Nat×Nat):Str:=⟨#[48+p.1,48+p.2]⟩
noncomputable def whl(b:Bool):Str:=if b then "01 03 05 12 16 23 34 45 56" else "01 02 03 04 05 12 15 23 34 45"
noncomputable def whp(b:Bool):List (Nat×Nat):=if b then [(0,1),(0,3),(0,5),(1,2),(1,6),(2,3),(3,4),(4,5),(5,6)] else [(0,1),(0,2),(0,3),(0,4),(0,5),(1,2),(1,5),(2,3),(3,4),(4,5)]
noncomputable def whn(b:Bool):Nat:=if b then 7 else 6
theorem zLb(b:Bool):Txt.split (whl b) " "=(whp b).map wdS:=by cases b<;>decide +kernel
theorem zRd(b:Bool):(whp b).Nodup∧(whp b).length≤10∧1≤(whp b).length∧∀ p∈whp b,p.1<p.2∧p.2<whn b:=by cases b<;>decide
theorem zHS(b:Bool):(whl b).length≤1000000∧atI (whl b).cps.toList (-1)=some (if b then 54 else 53):=by cases b<;>decide +kernel
theorem zPR:∀ d:Fin 10,(⟨#[48+d.val]⟩:Str)=Str.ofString (toString ((d.val:Nat):Int)):=by decide +kernel
theorem zLc{σ:S2}{G:Gp}{t u:zk}{a b:Nat}(h:zi t σ G (nD a))(h':zi u σ G (nD b)):PuL (zB4 (wq (zA t (zA u zH)))) σ G ([min a b,max a b].map nD):=by
 refine zKt (l:=[a,b]) (fun G2 e R q=>zDT ((zF h (zF h' zM)) G2 e _ ⟨by rw[sizeLine_eq];simp,q⟩)) (by simp) ?_ ?_
 ·by_cases hab:a≤b
  ·rw[dJ hab,fG hab]
  ·rw[Nat.min_eq_right (by omega),Nat.max_eq_left (by omega)]
   exact eQ.swap _ _ _
 ·simp only[List.pairwise_cons,cg,eA,dW.nil,and_true,false_imp_iff,implies_true]
  rintro x rfl
  omega
theorem zNe{σ:S2}{G:Gp}{t u:zk}{p:Nat×Nat}{k d:Nat}(h:zi t σ G (.str (wdS p)))(hu:zi u σ G (nD k))(hd:d<10)(hk:(wdS p).cps.toList[k]?=some (48+d)):zi (zJ zBP (zA (zO zCf t u) zH)) σ G (nD d):=by
 have e:atI (wdS p).cps.toList (k:Int)=some (48+d):=wS hk
 have:=yF (f:=zCf) (d:=.str ⟨#[48+d]⟩) h hu fun G2 e2 R q=>⟨(show 2≤1000000 by omega),by rw[e];exact q⟩
 exact zn (zF this zM) fun G2 e2 R q=>⟨d,zPR ⟨d,hd⟩,by omega,q⟩
theorem zS7{σ:S2}{G:Gp}{to:zk}{t:wN}{R:Q2}{l:Addr}{xs:List D}(ho:zi to σ G (.adr l))(h:G.m l=some xs)(ht:t σ G fun ds G2=>match ds with
   | [.int i]=>(match G2.m l with
    | some xs=>(0≤i∧i<xs.length∧i≤1000000)∧(match xs[i.toNat]? with | some d=>R d (zU G2 l (xs.eraseIdx i.toNat)) | none=>False)
    | none=>False)
   | _=>False):zGn to t σ G R:=by
 refine ho G (.refl G) _ ?_
 show match G.m l with | some _=>_ | none=>_
 rw[h]
 exact ht
noncomputable def yy:wm:=fun ds G R=>∃(l:Addr),ds=[.adr l]∧zAg G l∧∀(n:Nat) (q:Nat×Nat→Bool) (G':Gp),6≤n→n≤7→Dr l G G'→R (zS n q) G'
noncomputable abbrev zHT:ye:=(zT (zq (yJ (wq zH)) (gN 5)) (zT (wQ (iF (zHQ (zB 1) (zA (xC (.str " ")) zH))) (gN 6) (zT (zq (yJ (zB4 (wq (zA (zO yS (zB 4) (zJ zBP (zA (zO zCf (zB 6) (xC (.int 0))) zH))) (zA (zO yS (zB 4) (zJ zBP (zA (zO zCf (zB 6) (xC (.int 1))) zH))) zH))))) (gN 7)) (wC (zEF (zB 5) (zA (yZ (zA (zO yS (zB 7) (xC (.int 0))) (zA (zO yS (zB 7) (xC (.int 1))) zH))) zH))))) (zT (xIf (xB (zO (fEq false) (zJ zh (zA (zB 0) (zA (xC (.int 4)) zH))) (xC (.int 0)))) (wC (zGn (zB 5) (zA (zJ zh (zA (zB 0) (zA (zJ zo (zA (zB 5) zH)) zH))) zH))) zy) (zl (yZ (zA (zB 2) (zA (zc zz (zCC (zA (zB 5) zH))) zH)))))))
noncomputable def wy:ye:=(zT (zq (zO yS (yJ (wq (zA (xC (.str "01 02 03 04 05 12 15 23 34 45")) (zA (xC (.str "01 03 05 12 16 23 34 45 56")) zH)))) (zJ zh (zA (zB 0) (zA (xC (.int 2)) zH)))) (gN 1)) (zT (zq (zO yv (xC (.int 6)) (zJ zDr (zA (zO (fEq false) (zO zCf (zB 1) (zK1 (xC (.int 1)))) (xC (.str "6"))) zH))) (gN 2)) (zT (zq (yJ (zCv (zA (zB 2) zH))) (gN 3)) (zT (zAx 4 (yA (iR1 (zA (zB 2) zH)) bd1 zBw (zGn (zB 3) (zA (zJ zh (zA (zB 0) (zA (zJ zo (zA (zB 3) zH)) zH))) zH)))) (zT (zq (yJ (wq zH)) (gN 5)) (zT (wQ (iF (zHQ (zB 1) (zA (xC (.str " ")) zH))) (gN 6) (zT (zq (yJ (zB4 (wq (zA (zO yS (zB 4) (zJ zBP (zA (zO zCf (zB 6) (xC (.int 0))) zH))) (zA (zO yS (zB 4) (zJ zBP (zA (zO zCf (zB 6) (xC (.int 1))) zH))) zH))))) (gN 7)) (wC (zEF (zB 5) (zA (yZ (zA (zO yS (zB 7) (xC (.int 0))) (zA (zO yS (zB 7) (xC (.int 1))) zH))) zH))))) (zT (xIf (xB (zO (fEq false) (zJ zh (zA (zB 0) (zA (xC (.int 4)) zH))) (xC (.int 0)))) (wC (zGn (zB 5) (zA (zJ zh (zA (zB 0) (zA (zJ zo (zA (zB 5) zH)) zH))) zH))) zy) (zl (yZ (zA (zB 2) (zA (zc zz (zCC (zA (zB 5) zH))) zH)))))))))))
theorem zPS{l lf a:Addr}{n:Nat}{z:Str}{ps:List (Nat×Nat)}{ys:List Nat}{G G3:Gp}{R:Q2}(hs:zAg G l)(h:∀(n:Nat) (q:Nat×Nat→Bool) (G':Gp),6≤n→n≤7→Dr l G G'→R (zS n q) G')(hn67:6≤n∧n≤7)(wp1:ps.Nodup)(wp2:ps.length≤10)(wp3:1≤ps.length)(wp4:∀ p∈ps,p.1<p.2∧p.2<n)(wsp:Txt.split z " "=ps.map wdS)(wln:z.length≤1000000)(hp:ys.Perm (bQ n))(hd3:DrS l G G3)(ha:G3.m a=none) :
  zHT (zg R) [some (.adr l),some (.str z),some (nD n),some (.adr lf),some (.adr a),none,none,none] (zU G3 a (ys.map nD)):=by
 unfold zHT
 have ha0:=hd3.own hs ha
 have al:a≠l:=hd3.st.ne ha
 have hd4:DrS l G (zU G3 a (ys.map nD)):=hd3.put hs ha0
 have g4:(zU G3 a (ys.map nD)).m a=some (ys.map nD):=zK
 generalize zU G3 a (ys.map nD)=G4 at hd4 g4
 have ylen:ys.length=n:=by rw[hp.length_eq,cz]
 have ynd:ys.Nodup:=hp.nodup_iff.mpr dE
 have yl:∀ x,x<n→ys.getD x 0<n:=fun x hx=>bX.mp (hp.mem_iff.mp (by simp[cP,ylen,hx]))
 have yinj:∀ x,x<n→∀ y,y<n→ys.getD x 0=ys.getD y 0→x=y:=fun x hx y hy e=>by
  rw[← zIP ynd (i:=x) (by omega),← zIP ynd (i:=y) (by omega),e]
 -- the ties
 refine yQ (zCA (ds:=[]) (fun G2 e R q=>zDT (wR ⟨by rw[sizeLine_eq];simp,q⟩)) fun f hf=>?_)
 simp only[gN,bL,bK]
 have hf0:=hd4.own hs hf
 have fl:f≠l:=hd4.st.ne hf
 have fa:a≠f:=fun e=>by rw[e] at g4;rw[g4] at hf;cases hf
 have hd5:DrS l G (zU G4 f []):=hd4.put hs hf0
 have g5:(zU G4 f []).m a=some (ys.map nD):=by rw[ze fa];exact g4
 have g5f:(zU G4 f []).m f=some []:=zK
 generalize zU G4 f []=G5 at hd5 g5 g5f
 refine zCW (zDp (zOh (show zHQ _ _ _ _ _ from zE (i:=1) (d:=.str z) rfl G5 (.refl _) _ (ym (d:=.str " ") yC (wR ⟨rfl,wln,fun lw hlw=>?_⟩)))))
 have hlw0:=hd5.own hs hlw
 have lwl:lw≠l:=hd5.st.ne hlw
 have alw:a≠lw:=fun e=>by rw[e] at g5;rw[g5] at hlw;cases hlw
 have flw:f≠lw:=fun e=>by rw[e] at g5f;rw[g5f] at hlw;cases hlw
 rw[wsp]
 refine zAS (fun k G'=>G'.m a=some (ys.map nD)∧G'.m f=some (((ps.take k).map (mm fun i=>ys.getD i 0)).map yw)∧G'.m lw=some ((ps.map wdS).map D.str)∧DrS l G G') ⟨by rw[ze alw];exact g5,by rw[ze flw];exact g5f,zK,hd5.put hs hlw0⟩ (fun k G' hI=>.inl hI.2.2.1) ?_ ?_
 ·rintro k x hx G6 ⟨i1,i2,i3,i4⟩
  rw[da] at hx
  obtain⟨p,hpk,rfl⟩:=zC8 hx
  obtain⟨pa,pb⟩:=p
  obtain⟨hp1,hp2⟩:=wp4 (pa,pb) (cy hpk)
  dsimp only at hp1 hp2
  simp only[gN,bL,bK]
  have q1:zi (zO yS (zB 4) (zJ zBP (zA (zO zCf (zB 6) (xC (.int 0))) zH))) [some (.adr l),some (.str z),some (nD n),some (.adr lf),some (.adr a),some (.adr f),some ((D.str∘wdS) (pa,pb)),none] G6 (nD (ys.getD pa 0)):=zDu (l:=a) (k:=(pa:Int)) (zE rfl) (zNe (p:=(pa,pb)) (k:=0) (d:=pa) (zE rfl) yC (by omega) rfl) (.inl i1) (zJD (by omega))
  have q2:zi (zO yS (zB 4) (zJ zBP (zA (zO zCf (zB 6) (xC (.int 1))) zH))) [some (.adr l),some (.str z),some (nD n),some (.adr lf),some (.adr a),some (.adr f),some ((D.str∘wdS) (pa,pb)),none] G6 (nD (ys.getD pb 0)):=zDu (l:=a) (k:=(pb:Int)) (zE rfl) (zNe (p:=(pa,pb)) (k:=1) (d:=pb) (zE rfl) yC (by omega) rfl) (.inl i1) (zJD (by omega))
  refine yQ (zCA (zLc q1 q2) fun le hle=>?_)
  simp only[gN,bL,bK]
  have hle0:=i4.own hs hle
  have ale:a≠le:=fun e=>by rw[e] at i1;rw[i1] at hle;cases hle
  have fle:f≠le:=fun e=>by rw[e] at i2;rw[i2] at hle;cases hle
  have wle:lw≠le:=fun e=>by rw[e] at i3;rw[i3] at hle;cases hle
  generalize hxa:ys.getD pa 0=xa
  generalize hxb:ys.getD pb 0=xb
  have gle:Ls (zU G6 le ([min xa xb,max xa xb].map nD)) le ([min xa xb,max xa xb].map nD):=.own
  have pt:zi (yZ (zA (zO yS (zB 7) (xC (.int 0))) (zA (zO yS (zB 7) (xC (.int 1))) zH))) [some (.adr l),some (.str z),some (nD n),some (.adr lf),some (.adr a),some (.adr f),some ((D.str∘wdS) (pa,pb)),some (.adr le)] (zU G6 le ([min xa xb,max xa xb].map nD)) (yw (min xa xb,max xa xb)) :=
   zBe (zF (zDu (l:=le) (k:=0) (zE rfl) yC gle (wS (j:=0) rfl)) (zF (zDu (l:=le) (k:=1) (zE rfl) yC gle (wS (j:=1) rfl)) zM)) (by simp)
  refine zHF (zHM (l:=f) (zE rfl) (by rw[ze fle];exact i2) (ym pt (wR ⟨_,by rw[ze fle];exact i2,by simp only[bU,cK];omega,?_⟩)))
  refine⟨.keep (.keep (.keep (.keep (.keep (.keep (.skip (.skip .nil))))))),_,.refl _,by rw[ze fa,ze ale];exact i1,?_,by rw[ze (Ne.symm flw),ze wle];exact i3,(i4.put hs hle0).put hs hf0⟩
  rw[zK,yU hpk,cX,cX]
  unfold mm
  dsimp only
  rw[← hxa,← hxb]
  rfl
 ·rintro G6 ⟨i1,i2,i3,i4⟩
  rw[bU,bU,e8] at i2
  have tnd:=zIb yinj ps wp1 wp4
  have tlt:∀ p∈ps.map (mm fun i=>ys.getD i 0),p.1<p.2∧p.2<n:=fun p hp=>by
   obtain⟨r,hr,rfl⟩:=bY.mp hp
   exact zSb yinj yl (wp4 r hr)
  have tl:(ps.map (mm fun i=>ys.getD i 0)).length≤10∧1≤(ps.map (mm fun i=>ys.getD i 0)).length:=by rw[bU];exact⟨wp2,wp3⟩
  generalize ps.map (mm fun i=>ys.getD i 0)=ts at i2 tnd tlt tl
  dsimp only
  have fin:∀(ts:List (Nat×Nat)) (G7:Gp),ts.Nodup→(∀ p∈ts,p.1<p.2∧p.2<n)→G7.m f=some (ts.map yw)→DrS l G G7→zl (yZ (zA (zB 2) (zA (zc zz (zCC (zA (zB 5) zH))) zH))) (zg R) [some (.adr l),some (.str z),some (nD n),some (.adr lf),some (.adr a),some (.adr f),none,none] G7:=by
   intro ts G7 a1 a2 a3 a4
   refine zD4 (d:=zS n fun p=>decide (p∈ts)) (zBe (zF (zE rfl) (zF (zLJ (zE (i:=5) rfl) (.inl a3) a1 a2 (by omega)) zM)) (by simp)) (a4.fin fun G' d=>h n _ G' hn67.1 hn67.2 d)
  refine zNd (show xIf (xB (zO _ _ _)) _ _ _ _ _ from zBL (zF (zE (d:=.adr l) rfl) (zF (yC (d:=nD 4)) zM)) ⟨l,4,rfl,i4.st,by omega,by omega,fun r G7 hr d7=>?_⟩)
  have g7:G7.m f=some (ts.map yw):=by rw[d7.ne fl];exact i2
  have hd7:=i4.dr d7
  refine yC (d:=.int 0) G7 (.refl _) _ ⟨rfl,rfl,?_⟩
  dsimp only
  rw[if_neg (show ¬ false=true by simp)]
  by_cases hb:wP (nD r) (.int 0)=true
  ·rw[if_pos hb]
   refine zHF (zS7 (l:=f) (zE (i:=5) rfl) g7 (zB9 (zJB (ym (d:=.adr l) (zE rfl) (ym (d:=nD ts.length) (by
    have:=zHH (t:=zB 5) (σ:=[some (.adr l),some (.str z),some (nD n),some (.adr lf),some (.adr a),some (.adr f),none,none]) (G:=G7) (a:=f) (zE rfl) (.inl g7)
    rw[bU] at this
    exact this) (wR ⟨l,ts.length,rfl,hd7.st,by omega,by omega,fun r2 G8 hr2 d8=>?_⟩))))))
   have g8:G8.m f=some (ts.map yw):=by rw[d8.ne fl];exact g7
   refine wR ?_
   show match G8.m f with | some xs=>_ | none=>False
   rw[g8]
   refine⟨⟨by omega,by rw[bU];omega,by omega⟩,?_⟩
   have er:((r2:Int)).toNat=r2:=by omega
   have ex:(ts.map yw)[((r2:Int)).toNat]?=some (yw ts[r2]):=by rw[er,cC];simp[hr2]
   rw[ex,er]
   dsimp only
   refine fin (ts.eraseIdx r2) _ (tnd.sublist (List.eraseIdx_sublist ..)) (fun p hp=>tlt p (List.mem_of_mem_eraseIdx hp)) ?_ ((hd7.dr d8).put hs hf0)
   rw[zK,zGV]
  ·rw[if_neg hb]
   exact fin ts G7 tnd tlt g7 hd7
theorem zFP(ds:List D)(G:Gp)(R:Q2)(h:yy ds G R):ds.length=1∧wy (zg R) (zR ["state","some","many","left","names","ties","word","ends"] ds) G:=by
 obtain⟨l,rfl,hs,h⟩:=h
 refine⟨rfl,?_⟩
 unfold wy
 rw[show zR ["state","some","many","left","names","ties","word","ends"] [.adr l]=[some (.adr l),none,none,none,none,none,none,none] from rfl]
 refine yQ (zRS (zCA (ds:=[.str (whl false),.str (whl true)]) (fun G2 e R q=>zDT (ym (d:=.str (whl false)) yC (ym (d:=.str (whl true)) yC (wR ⟨by rw[sizeLine_eq];simp,q⟩)))) fun c0 hc0=>?_))
 have c0l:c0≠l:=hs.ne hc0
 have hd0:DrS l G (zU G c0 [.str (whl false),.str (whl true)]):=(DrS.refl hs).put hs hc0
 refine zBL (zF (zE (d:=.adr l) rfl) (zF (yC (d:=nD 2)) zM)) ⟨l,2,rfl,hs.ext (.new hc0),by omega,by omega,fun r G1 hr d1=>?_⟩
 have m1:G1.m c0=some [.str (whl false),.str (whl true)]:=by rw[d1.ne c0l];exact zK
 have hd1:=hd0.dr d1
 obtain⟨b,hb⟩:∃ b:Bool,atI [D.str (whl false),.str (whl true)] (r:Int)=some (.str (whl b)):=by
  match r,hr with
  | 0,_=>exact⟨false,rfl⟩
  | 1,_=>exact⟨true,rfl⟩
 refine⟨_,_,.inl m1,hb,?_⟩
 clear m1 hb hd0 d1 c0l hc0
 simp only[gN,bL,bK]
 have pm:zi (zO yv (xC (.int 6)) (zJ zDr (zA (zO (fEq false) (zO zCf (zB 1) (zK1 (xC (.int 1)))) (xC (.str "6"))) zH))) [some (.adr l),some (.str (whl b)),none,none,none,none,none,none] G1 (nD (whn b)):=by
  have p1:zi (zO zCf (zB 1) (zK1 (xC (.int 1)))) [some (.adr l),some (.str (whl b)),none,none,none,none,none,none] G1 (.str ⟨#[if b then 54 else 53]⟩):=yF (x:=.str (whl b)) (y:=.int (-1)) (zE rfl) (fun G2 e R q=>q) fun G2 e2 R q=>⟨(zHS b).1,by rw[(zHS b).2];exact q⟩
  have p2:zi (zO (fEq false) (zO zCf (zB 1) (zK1 (xC (.int 1)))) (xC (.str "6"))) [some (.adr l),some (.str (whl b)),none,none,none,none,none,none] G1 (.bl b):=zE6 p1 yC rfl rfl (by cases b<;>rfl)
  have p3:=zGz (i:=6) (j:=if b then 1 else 0) (yC (d:=.int 6)) (zn (zF p2 zM) fun G2 e R q=>q:zi (zJ zDr (zA (zO (fEq false) (zO zCf (zB 1) (zK1 (xC (.int 1)))) (xC (.str "6"))) zH)) [some (.adr l),some (.str (whl b)),none,none,none,none,none,none] G1 (.int (if b then 1 else 0)))
  have e:nD (whn b)=.int (6+if b then 1 else 0):=by cases b<;>rfl
  rw[e]
  exact p3
 refine wI pm ?_
 simp only[gN,bL,bK]
 have hn67:6≤whn b∧whn b≤7:=by cases b<;>decide
 obtain⟨wp1,wp2,wp3,wp4⟩:=zRd b
 have wsp:=zLb b
 have wln:=(zHS b).1
 generalize hn:whn b=n at hn67 wp4
 generalize whp b=ps at wp1 wp2 wp3 wp4 wsp
 generalize whl b=z at wsp wln
 clear pm hn
 have pl:PuL (zCv (zA (zB 2) zH)) [some (.adr l),some (.str z),some (nD n),none,none,none,none,none] G1 ((bQ n).map nD):=fun G2 e R q=>zF (d:=nD n) (zE rfl) zM G2 e _ ⟨by omega,by rw[wU];exact q⟩
 refine yQ (zCA pl fun lf hlf=>?_)
 simp only[gN,bL,bK]
 have hlf0:=hd1.own hs hlf
 have la:lf≠l:=hd1.st.ne hlf
 have hd2:DrS l G (zU G1 lf ((bQ n).map nD)):=hd1.put hs hlf0
 have pn:zi (zB 2) [some (.adr l),some (.str z),some (nD n),some (.adr lf),none,none,none,none] (zU G1 lf ((bQ n).map nD)) (nD (bQ n).length):=by
  rw[cz];exact zE rfl
 refine(show zT (zAx 4 _) _ _ _ _ from ?_)
 have hh:∀(ys:List Nat) (G3:Gp),ys.Perm (bQ n)→DrS l G G3→∀ a,G3.m a=none→zHT (zg R) [some (.adr l),some (.str z),some (nD n),some (.adr lf),some (.adr a),none,none,none] (zU G3 a (ys.map nD)):=by
  intro ys G3 hp hd3 a ha
  exact zPS hs h hn67 wp1 wp2 wp3 wp4 wsp wln hp hd3 ha
 have key:=drawn (σ:=[some (.adr l),some (.str z),some (nD n),some (.adr lf),none,none,none,none]) (G:=zU G1 lf ((bQ n).map nD)) (G0:=G) (k:=8) (xs:=bQ n) (i0:=0) (i2:=3) (t:=zA (zB 2) zH)
  (R:=fun d G1=>match d with | .tup ds=>∀ a,G1.m a=none→zHT (zg R) [some (.adr l),some (.str z),some (nD n),some (.adr lf),some (.adr a),none,none,none] (zU G1 a ds) | _=>False) rfl rfl rfl (zF pn zM) hd2.st hs la zK hlf0 hd2 (by simp;omega) hh
 exact key
theorem zC4(n:Nat)(q:Nat×Nat→Bool):flat 8 (zS n q)=true:=by
 unfold zS
 show([nD n,.tup (((wG n).filter q).map yw)]:List D).all (flat 7)=true
 simp only[List.all_cons,List.all_nil,Bool.and_true,dL]
 refine⟨rfl,?_⟩
 show(((wG n).filter q).map yw).all (flat 6)=true
 rw[eU]
 intro x hx
 obtain⟨p,u0,rfl⟩:=bY.mp hx
 rfl
noncomputable def zAZ:wm:=fun ds G R=>∃(n:Nat) (r:List Nat) (v:D),ds=[.tup (r.map nD),v]∧zAH n r∧n≤100∧flat 8 v=true∧R (.bl (wP (zS n (zd r)) v)) G
noncomputable def zEg:ye:=(zl (zO (fEq false) (zJ zAK (zA (zB 0) zH)) (zB 1)))
theorem zPT(ds:List D)(G:Gp)(R:Q2)(h:zAZ ds G R):ds.length=2∧zEg (zg R) (zR ["ring","web"] ds) G:=by
 obtain⟨n,r,v,rfl,hr,hn,fv,h⟩:=h
 refine⟨rfl,?_⟩
 unfold zEg
 exact zD4 (zE6 (x:=zS n (zd r)) (y:=v) (zn (zF (zE rfl) zM) fun u0 u0 u0 q=>⟨n,r,rfl,hr,hn,q⟩) (zE rfl) (zC4 _ _) fv rfl) (.of h)
theorem zFQ{σ:S2}{G:Gp}{t u:zk}{n:Nat}{q:Nat×Nat→Bool}{w:List Nat}(h:zi t σ G (uD w))(h':zi u σ G (zS n q))(T:yE q (bQ n) w)(hn:n≤100):zi (zJ zAZ (zA t (zA u zH))) σ G (.bl true) :=
 zn (zF h (zF h' zM)) fun G2 e R q'=>⟨n,w,_,rfl,T.ring,hn,zC4 n q,by rw[T.web,zB2 _ 8 (zC4 n q)];exact q'⟩
theorem zKL{n:Nat}{q:Nat×Nat→Bool}{w ps:List Nat}(h:yE q (bQ n) w)(nd:ps.Nodup)(hl:∀ x∈ps,x<n):yE (yd q ps) (bQ ps.length) (wo w ps):=by
 have:=(h.sub (T:=ps) fun x hx=>bX.mpr (hl x hx)).map (q':=yd q ps) (f:=nm ps) (fun x hx y hy e=>by rw[← zDZ hx,← zDZ hy,e]) fun x hx y hy u0=>by rw[zDY,zDZ hx,zDZ hy]
 rw[zNI nd] at this
 exact this
theorem zGW{σ:S2}{G:Gp}{t u:zk}{n:Nat}{q:Nat×Nat→Bool}{ps:List Nat}(h:zi t σ G (zS n q))(h':zi u σ G (.tup (ps.map nD)))(hl:∀ x∈ps,x<n)(hn:ps.length≤100):zi (zJ yn (zA t (zA u zH))) σ G (zS ps.length (yd q ps)) :=
 zn (zF h (zF h' zM)) fun u0 u0 u0 q'=>⟨n,q,ps,rfl,hl,hn,q'⟩
theorem zFR{σ:S2}{G:Gp}{t u:zk}{n:Nat}{q:Nat×Nat→Bool}{ps:List Nat}(h:zi t σ G (zS n q))(h':zi u σ G (.tup (ps.map nD)))(hl:∀ x∈ps,x<n)(hn:ps.length≤100):zi (zJ ww (zA t (zA u zH))) σ G (zS ps.length (yd q ps)) :=
 zn (zF h (zF h' zM)) fun u0 u0 u0 q'=>⟨n,q,ps,rfl,hl,hn,q'⟩
theorem wb{σ:S2}{G:Gp}{t:zk}{n:Nat}{q:Nat×Nat→Bool}(h:zi t σ G (zS n q))(h1:1≤n)(h7:n≤7):zi (zJ zj (zA t zH)) σ G (zC3 (yI n q)) :=
 zn (zF h zM) fun u0 u0 u0 q'=>⟨n,q,rfl,h1,h7,q'⟩
theorem zLd(o:Option (List Nat)):zGK (zC3 o)=o.isNone:=by cases o<;>rfl
theorem wz{σ:S2}{G:Gp}{t:zk}{o:Option (List Nat)}(ng:Bool)(h:zi t σ G (zC3 o)):zi (zO (wx ng) t (xC .non)) σ G (.bl (if ng then !o.isNone else o.isNone)):=yF h yC fun G2 e R q'=>by
 show R (.bl (if ng then !zGK (zC3 o) else zGK (zC3 o))) G2
 rw[zLd];exact q'
theorem zDe{n:Nat}{q:Nat×Nat→Bool}(h1:1≤n)(h7:n≤7):(yI n q).isNone=true↔¬ Told n q:=by
 obtain⟨a,b⟩:=zIZ (q:=q) h1 h7
 cases h:yI n q with
 | none=>simp only[Option.isNone_none,true_iff];intro z;exact b z h
 | some w=>simp only[Option.isNone_some,bJ,false_iff,Classical.not_not];exact⟨w,a w h⟩
theorem zIc{n n':Nat}{q q':Nat×Nat→Bool}(h1:1≤n)(h7:n≤7)(h1':1≤n')(h7':n'≤7)(h:Told n q↔Told n' q'):(yI n q).isNone=(yI n' q').isNone:=by
 rw[cF,zDe h1 h7,zDe h1' h7',h]
noncomputable def zAN:wm:=fun ds G R=>∃(n:Nat) (q:Nat×Nat→Bool) (w od cu:List Nat),ds=[zS n q,uD w,.tup (od.map nD),.tup (cu.map nD)]∧yE q (bQ n) w∧od.Perm (bQ n)∧(∃ x,x<n∧x∉cu)∧1≤n∧n≤7∧R (.bl true) G
noncomputable def zDf:ye:=(zT (xIf (zB0 (xB (zO (fIs true) (zJ zA2 (zA (zB 1) zH)) (xC (.bl true)))) (xB (zO (fIs true) (zJ zAZ (zA (zB 1) (zA (zB 0) zH))) (xC (.bl true))))) (zl (xC (.bl false))) zy) (zT (xIf (xB (zO (fIs true) (zJ zAZ (zA (zJ yz (zA (zB 1) (zA (zB 2) zH))) (zA (zJ ww (zA (zB 0) (zA (zB 2) zH))) zH))) (xC (.bl true)))) (zl (xC (.bl false))) zy) (zT (zq (zc zz (yA (iR1 (zA (zO yS (zB 0) (xC (.int 0))) zH)) bd1 (xB (zO (fIn true) (zB 5) (zB 3))) (zB 5))) (gN 4)) (zl (zIv (zO (fIs false) (zJ zAZ (zA (zJ zAM (zA (zB 1) (zA (zB 3) zH))) (zA (zJ yn (zA (zB 0) (zA (zB 4) zH))) zH))) (xC (.bl true))) (zO (wx true) (zJ zj (zA (zJ yn (zA (zB 0) (zA (zB 4) zH))) zH)) (xC .non)))))))
theorem zNf(ds:List D)(G:Gp)(R:Q2)(h:zAN ds G R):ds.length=4∧zDf (zg R) (zR ["web","ring","order","places","left"] ds) G:=by
 obtain⟨n,q,w,od,cu,rfl,T,hod,⟨x0,hx0,hx0c⟩,h1,h7,h⟩:=h
 refine⟨rfl,?_⟩
 unfold zDf
 rw[show zR ["web","ring","order","places","left"] [zS n q,uD w,.tup (od.map nD),.tup (cu.map nD)]=[some (zS n q),some (uD w),some (.tup (od.map nD)),some (.tup (cu.map nD)),none] from rfl]
 have odn:od.Nodup:=hod.nodup_iff.mpr dE
 have odl:∀ x∈od,x<n:=fun x hx=>bX.mp (hod.mem_iff.mp hx)
 have odln:od.length=n:=by rw[hod.length_eq,cz]
 refine zAJ (zMa (wW (yF (zn (d:=.bl true) (zF (zE (d:=uD w) rfl) zM) fun u0 u0 u0 q'=>⟨n,w,rfl,T.ring,h1,by omega,q'⟩) yC fun u0 u0 u0 q'=>q')) (wW (yF (zFQ (zE rfl) (zE rfl) T (by omega)) yC fun u0 u0 u0 q'=>q'))) ?_
 have To:yE (yd q od) (bQ od.length) (w.map (nm od)):=by
  have:=zKL T odn odl
  rw[zRV fun x hx=>hod.mem_iff.mpr (T.mem.mp hx)] at this
  exact this
 have pr:zi (zJ yz (zA (zB 1) (zA (zB 2) zH))) [some (zS n q),some (uD w),some (.tup (od.map nD)),some (.tup (cu.map nD)),none] G (uD (w.map (nm od))):=zn (zF (zE (d:=uD w) rfl) (zF (zE (d:=.tup (od.map nD)) rfl) zM)) fun u0 u0 u0 q'=>⟨w,od,rfl,fun x hx=>hod.mem_iff.mpr (T.mem.mp hx),q'⟩
 refine zAJ (wW (yF (zFQ pr (zFR (zE rfl) (zE rfl) odl (by omega)) To (by omega)) yC fun u0 u0 u0 q'=>q')) ?_
 have c:=wu (σ:=[some (zS n q),some (uD w),some (.tup (od.map nD)),some (.tup (cu.map nD)),none]) (G:=G) (bd:=bd1) (tc:=(xB (zO (fIn true) (zB 5) (zB 3)))) (te:=zB 5) (fun d=>match d with | .int v=>!decide (v.toNat∈cu) | _=>false) (fun d=>d) (fun d=>[d])
  (show PuI (iR1 (zA (zO yS (zB 0) (xC (.int 0))) zH)) _ _ ((bQ n).map nD) by
   rw[← wU]
   exact zAr (zF (zD2 (q:=q) (zE rfl)) zM) (by omega)) fun x hx=>by
  obtain⟨j,u0,rfl⟩:=bY.mp hx
  refine⟨rfl,wW (yF (x:=nD j) (y:=.tup (cu.map nD)) (zE rfl) (zE rfl) fun G2 e R q'=>⟨rfl,yf cu,?_⟩),fun u0=>zE rfl⟩
  rw[if_pos rfl,zCz];exact q'
 have e:ce (fun d=>d) (List.filter (fun d=>match d with | .int v=>!decide (v.toNat∈cu) | _=>false) ((bQ n).map nD))=(oth n cu).map nD:=by
  rw[fb,en];rfl
 rw[e] at c
 refine wI (zBU c) ?_
 simp only[gN,bL,bK]
 have lnd:(oth n cu).Nodup:=dE.filter _
 have lln:(oth n cu).length≤n:=by
  have:=dk (fun x=>!decide (x∈cu)) (bQ n)
  rw[cz] at this;exact this
 have l1:1≤(oth n cu).length:=et (a:=x0) (cw.mpr ⟨bX.mpr hx0,by simp[hx0c]⟩)
 have Tl:=zKL T lnd fun x hx=>zHG hx
 have pw:zi (zJ zAM (zA (zB 1) (zA (zB 3) zH))) [some (zS n q),some (uD w),some (.tup (od.map nD)),some (.tup (cu.map nD)),some (.tup ((oth n cu).map nD))] G (uD (wo w (oth n cu))):=zn (zF (zE (d:=uD w) rfl) (zF (zE (d:=.tup (cu.map nD)) rfl) zM)) fun u0 u0 u0 q'=>⟨n,w,cu,rfl,T.ring.len,by omega,q'⟩
 have pk:zi (zJ yn (zA (zB 0) (zA (zB 4) zH))) [some (zS n q),some (uD w),some (.tup (od.map nD)),some (.tup (cu.map nD)),some (.tup ((oth n cu).map nD))] G (zS (oth n cu).length (yd q (oth n cu))):=zGW (zE rfl) (zE rfl) (fun x hx=>zHG hx) (by omega)
 have a1:=yF (f:=fIs false) (d:=.bl true) (zFQ pw pk Tl (by omega)) (yC (d:=.bl true)) fun u0 u0 u0 q'=>q'
 have a2:=wz true (wb pk l1 (by omega))
 have hz:(yI (oth n cu).length (yd q (oth n cu))).isNone=false:=by
  rw[Bool.eq_false_iff,Ne,zDe l1 (by omega),Classical.not_not]
  exact⟨_,Tl⟩
 refine a1 G (.refl _) _ ?_
 dsimp only
 rw[if_pos rfl]
 refine a2 G (.refl _) _ ?_
 rw[if_pos rfl,hz]
 exact .of h
theorem zPU{i j:Int}{G:Gp}{R:Q2}(h:R (.int (i+j)) G):yv (.int i) (.int j) G R:=h
noncomputable abbrev zKM:ye:=(zT (xIf (zBr (xB (zO (wx true) (zB 5) (xC .non))) (zAU (xB (zJ zAN (zA (zB 4) (zA (zB 5) (zA (zB 6) (zA (zB 7) zH)))))))) (zl (xC (.bl false))) zy) (zT (zAx 8 (yA (iF (zx wK (zA (zB 4) zH))) bd1 (xB (zO (wx false) (zJ zj (zA (zJ yn (zA (zB 4) (zA (zB 10) zH))) zH)) (xC .non))) (zB 10))) (zT (xIf (zB0 (xB (zO (fEq true) (zO (wx false) (zB 5) (xC .non)) (zO (fEq true) (zB 8) (yJ (wq zH))))) (xB (zO (fEq true) (zO (wx false) (zB 5) (xC .non)) (zO (wx false) (zJ zj (zA (zJ ww (zA (zB 4) (zA (zB 6) zH))) zH)) (xC .non))))) (zl (xC (.bl false))) zy) (xIf (xB (zO (fEq true) (zO (wx false) (zB 5) (xC .non)) (zO (wx false) (zJ zj (zA (zJ ya (zA (zB 4) (zA (zO yS (zB 6) (xC (.int 0))) zH))) zH)) (xC .non)))) (zl (xC (.bl false))) zy))))
theorem zPV{σ:S2}{G:Gp}{t u:TT2}(h:WkT t σ G false)(h':WkT u σ G false):WkT (zB0 t u) σ G false:=fun G2 e R q=>h G2 e _ fun G3 e3=>by
 rw[if_neg (by simp)]
 exact h' G3 (e.trans e3) _ fun G4 e4=>q G4 (e3.trans e4)
theorem zHU{σ:S2}{G:Gp}{ta tb:zk}{a b:Bool}(ha:zi ta σ G (.bl a))(hb:WkE tb σ G (.bl b))(e:a=b):WkT (xB (zO (fEq true) ta tb)) σ G false:=zS6 (zRa ha hb fun G2 R q=>⟨rfl,rfl,by subst e;rw[if_pos rfl];cases a<;>exact q⟩)
theorem zLe{l:List (List Nat)}:eqDs (l.map tD) []=decide (l=[]):=by cases l<;>simp[eqDs]
theorem zNg{E:yO}{G:Gp}{x0 x1 x2 x3 x8 x9:Option D}{n k:Nat}{q:Nat×Nat→Bool}{od:List Nat}(h1:1≤n)(h7:n≤7)(hod:od.Perm (bQ n))(hk:k<n)
  (h:∀ G' x8,L3.Sub G G'→E.nx [x0,x1,x2,x3,some (zS n q),some (zC3 (yI n q)),some (.tup (od.map nD)),some (.tup ((od.take k).map nD)),x8,x9] G') :
  zKM E [x0,x1,x2,x3,some (zS n q),some (zC3 (yI n q)),some (.tup (od.map nD)),some (.tup ((od.take k).map nD)),x8,x9] G:=by
 have odn:od.Nodup:=hod.nodup_iff.mpr dE
 have odl:∀ x∈od,x<n:=fun x hx=>bX.mp (hod.mem_iff.mp hx)
 have odln:od.length=n:=by rw[hod.length_eq,cz]
 unfold zKM
 have t1:PuT (zBr (xB (zO (wx true) (zB 5) (xC .non))) (zAU (xB (zJ zAN (zA (zB 4) (zA (zB 5) (zA (zB 6) (zA (zB 7) zH)))))))) [x0,x1,x2,x3,some (zS n q),some (zC3 (yI n q)),some (.tup (od.map nD)),some (.tup ((od.take k).map nD)),x8,x9] G false:=by
  have p5:=wz (σ:=[x0,x1,x2,x3,some (zS n q),some (zC3 (yI n q)),some (.tup (od.map nD)),some (.tup ((od.take k).map nD)),x8,x9]) (G:=G) true (zE (i:=5) rfl)
  intro G2 e R q'
  refine wW p5 G2 e _ ?_
  cases hr:yI n q with
  | none=>exact q'
  | some w =>
   rw[if_pos (by rfl)]
   have T:=(zIZ (q:=q) h1 h7).1 w hr
   refine zCN (b:=true) (wW (zn (zF (zE (i:=4) (d:=zS n q) rfl) (zF (zE (i:=5) (d:=uD w) rfl) (zF (zE (i:=6) rfl) (zF (zE (i:=7) rfl) zM)))) fun u0 u0 u0 q2=>⟨n,q,w,od,od.take k,rfl,T,hod,⟨od.getD k 0,odl _ (getD_at (by omega)),zCF odn (by omega)⟩,h1,h7,q2⟩)) G2 (.refl _) _ q'
 refine zAJ t1 ?_
 have c:=wu (σ:=[x0,x1,x2,x3,some (zS n q),some (zC3 (yI n q)),some (.tup (od.map nD)),some (.tup ((od.take k).map nD)),x8,x9]) (G:=G) (bd:=bd1) (tc:=(xB (zO (wx false) (zJ zj (zA (zJ yn (zA (zB 4) (zA (zB 10) zH))) zH)) (xC .non)))) (te:=zB 10) (fun d=>match d with | .tup ds=>(yI ds.length (yd q (ds.map unD))).isNone | _=>false) (fun d=>d) (fun d=>[d])
  (show PuI (iF (zx wK (zA (zB 4) zH))) _ _ ((zAj n q n).map tD) from fun G2 e R q'=>zOh (zBZ (ym (d:=zS n q) (zE (i:=4) rfl) (wR ⟨n,q,rfl,by omega,fun a ha=>q' _ _ (.new ha) fun G4 e4=>e4.ls .own⟩)))) fun x hx=>by
  obtain⟨pc,hpc,rfl⟩:=bY.mp hx
  obtain⟨i,hi,rfl⟩:=bY.mp hpc
  have hin:=bX.mp (cw.mp hi).1
  have cl:(comp n q i).length≤n:=zFF
  have c1:1≤(comp n q i).length:=et (a:=i) (wD.mpr (.refl hin))
  refine⟨rfl,wW ?_,fun u0=>zE rfl⟩
  have:=wz false (wb (zGW (σ:=[x0,x1,x2,x3,some (zS n q),some (zC3 (yI n q)),some (.tup (od.map nD)),some (.tup ((od.take k).map nD)),x8,x9]++[some (tD (comp n q i))]) (G:=G) (t:=zB 4) (u:=zB 10) (n:=n) (q:=q) (ps:=comp n q i) (zE rfl) (zE rfl) (fun y hy=>(wD.mp hy).lt) (by omega)) c1 (by omega))
  have e:(yI ((comp n q i).map nD).length (yd q (((comp n q i).map nD).map unD))).isNone=(yI (comp n q i).length (yd q (comp n q i))).isNone:=by
   rw[bU,da]
   have:(comp n q i).map (unD∘nD)=comp n q i:=by rw[show unD∘nD=id from rfl,List.map_id]
   rw[this]
  show zi _ _ _ (.bl (yI ((comp n q i).map nD).length (yd q (((comp n q i).map nD).map unD))).isNone)
  rw[e]
  exact this
 have e2:∃ no:List (List Nat),ce (fun d=>d) (List.filter (fun d=>match d with | .tup ds=>(yI ds.length (yd q (ds.map unD))).isNone | _=>false) ((zAj n q n).map tD))=no.map tD∧(no=[]↔Told n q):=by
  refine⟨(zAj n q n).filter fun c=>(yI c.length (yd q c)).isNone,?_,?_⟩
  ·rw[fb,en]
   congr 1
   refine eO fun c u0=>?_
   show(yI (c.map nD).length (yd q ((c.map nD).map unD))).isNone=_
   rw[bU,da]
   have:c.map (unD∘nD)=c:=by rw[show unD∘nD=id from rfl,List.map_id]
   rw[this]
  ·rw[List.filter_eq_nil_iff,zIU]
   constructor
   ·intro hz c hc
    have:=hz c hc
    obtain⟨i,hi,rfl⟩:=bY.mp hc
    have hin:=bX.mp (cw.mp hi).1
    have cl:(comp n q i).length≤n:=zFF
    have c1:1≤(comp n q i).length:=et (a:=i) (wD.mpr (.refl hin))
    rw[zDe c1 (by omega),Classical.not_not] at this
    exact this
   ·intro hz c hc z
    have:=hz c hc
    obtain⟨i,hi,rfl⟩:=bY.mp hc
    have hin:=bX.mp (cw.mp hi).1
    have cl:(comp n q i).length≤n:=zFF
    have c1:1≤(comp n q i).length:=et (a:=i) (wD.mpr (.refl hin))
    exact(zDe c1 (by omega)).mp z this
 obtain⟨no,e2,hno⟩:=e2
 rw[e2] at c
 refine zM9 c fun ln hln=>?_
 simp only[bL,bK]
 have gn:Ls (zU G ln (no.map tD)) ln (no.map tD):=.own
 have sb:L3.Sub G (zU G ln (no.map tD)):=.new hln
 generalize zU G ln (no.map tD)=G1 at gn sb
 generalize hσ:[x0,x1,x2,x3,some (zS n q),some (zC3 (yI n q)),some (.tup (od.map nD)),some (.tup ((od.take k).map nD)),some (.adr ln),x9]=σ
 have v4:∀ {G:Gp},zi (zB 4) σ G (zS n q):=fun {G}=>zE (by rw[← hσ];rfl)
 have v5:∀ {G:Gp},zi (zB 5) σ G (zC3 (yI n q)):=fun {G}=>zE (by rw[← hσ];rfl)
 have v6:∀ {G:Gp},zi (zB 6) σ G (.tup (od.map nD)):=fun {G}=>zE (by rw[← hσ];rfl)
 have v8:∀ {G:Gp},zi (zB 8) σ G (.adr ln):=fun {G}=>zE (by rw[← hσ];rfl)
 have b5:∀ {G:Gp},zi (zO (wx false) (zB 5) (xC .non)) σ G (.bl (yI n q).isNone):=fun {G}=>wz false v5
 have fT:∀ d∈no.map tD,flat 8 d=true:=fun d hd=>by
  obtain⟨w,u0,rfl⟩:=bY.mp hd
  show(w.map nD).all (flat 7)=true
  rw[eU]
  intro x hx
  obtain⟨k,u0,rfl⟩:=bY.mp hx
  rfl
 have w8:WkE (zO (fEq true) (zB 8) (yJ (wq zH))) σ G1 (.bl (!decide (no=[]))):=fun G2 e R q'=>zRS (v8 G2 (.refl _) _ (zCA (ds:=[]) (fun G2 e R q=>zDT (wR ⟨by rw[sizeLine_eq];simp,q⟩)) fun b hb=>by
  refine⟨no.map tD,[],(e.ls gn).sub (.new hb),.own,fT,(fun d hd=>by cases hd),?_⟩
  rw[if_pos rfl,zLe]
  exact q' _ (.new hb)))
 have q1:(yI n q).isNone=!decide (no=[]):=by
  rw[cF,zDe h1 h7]
  simp[hno]
 have q2:(yI n q).isNone=(yI od.length (yd q od)).isNone:=zIc h1 h7 (by omega) (by omega) (zJS hod).symm
 have o0:od.getD 0 0<n:=odl _ (getD_at (by omega))
 have q3:(yI n q).isNone=(yI n (tq q (od.getD 0 0))).isNone:=zIc h1 h7 h1 h7 (zLQ o0).symm
 have pN:=wz (G:=G1) false (wb (zFR (G:=G1) v4 v6 odl (by omega)) (by omega) (by omega))
 refine zPQ ((zPV (zHU b5 w8 q1) (zHU b5 (zi.wk pN) q2)) G1 (.refl _) _ fun G2 e2=>?_)
 rw[if_neg (by simp)]
 dsimp only[zy]
 have pT:=wz (G:=G2) false (wb (zn (G:=G2) (sp:=ya) (d:=zS n (tq q (od.getD 0 0))) (zF v4 (zF (zG2 (i:=0) v6 (yC (d:=nD 0)) (by omega)) zM)) fun u0 u0 u0 q'=>⟨n,q,od.getD 0 0,rfl,o0,by omega,q'⟩) h1 h7)
 refine zPF (zHU b5 (zi.wk pT) q3) (fun z=>by cases z) fun u0 G3 e3=>?_
 rw[← hσ]
 exact h G3 _ (sb.trans (e2.sub.trans e3.sub))
noncomputable def zKN:ye:=(zT (wQ (iR1 (zA (zJ zBT (zA (xC (.int 1)) (zA (zJ zBA (zA (zJ zo (zA (zB 0) zH)) (zA (xC (.int 4)) zH))) zH))) zH)) (gN 1) (zT (zq (yJ (zx yk (zA (zB 0) (zA (zB 1) zH)))) (gN 2)) (zT (zq (zJ zAK (zA (zJ zAI (zA (zB 2) (zA (zO yv (xC (.int 1)) (zJ zh (zA (zB 2) (zA (xC (.int 7)) zH)))) zH))) zH)) (gN 3)) (zT (xIf (xB (zO (wx false) (zJ zj (zA (zB 3) zH)) (xC .non))) (zl (xC (.bl false))) zy) (wQ (iF (wq (zA (zB 3) (zA (zJ zB8 (zA (zB 2) (zA (xC (.int 7)) zH))) (zA (zJ yy (zA (zB 2) zH)) zH))))) (gN 4) (zT (zq (zJ zj (zA (zB 4) zH)) (gN 5)) (zT (zq (zJ zAz (zA (zB 2) (zA (zO yS (zB 4) (xC (.int 0))) zH))) (gN 6)) (zT (zq (zAD (zB 6) wt (zAB (zJ zh (zA (zB 2) (zA (zO yS (zB 4) (xC (.int 0))) zH))))) (gN 7)) (zT (xIf (zBr (xB (zO (wx true) (zB 5) (xC .non))) (zAU (xB (zJ zAN (zA (zB 4) (zA (zB 5) (zA (zB 6) (zA (zB 7) zH)))))))) (zl (xC (.bl false))) zy) (zT (zAx 8 (yA (iF (zx wK (zA (zB 4) zH))) bd1 (xB (zO (wx false) (zJ zj (zA (zJ yn (zA (zB 4) (zA (zB 10) zH))) zH)) (xC .non))) (zB 10))) (zT (xIf (zB0 (xB (zO (fEq true) (zO (wx false) (zB 5) (xC .non)) (zO (fEq true) (zB 8) (yJ (wq zH))))) (xB (zO (fEq true) (zO (wx false) (zB 5) (xC .non)) (zO (wx false) (zJ zj (zA (zJ ww (zA (zB 4) (zA (zB 6) zH))) zH)) (xC .non))))) (zl (xC (.bl false))) zy) (xIf (xB (zO (fEq true) (zO (wx false) (zB 5) (xC .non)) (zO (wx false) (zJ zj (zA (zJ ya (zA (zB 4) (zA (zO yS (zB 6) (xC (.int 0))) zH))) zH)) (xC .non)))) (zl (xC (.bl false))) zy)))))))))))) (zT (zq (xC (.tup [.int 6,.tup [.tup [.int 0,.int 1],.tup [.int 0,.int 2],.tup [.int 0,.int 3],.tup [.int 0,.int 4],.tup [.int 0,.int 5],.tup [.int 1,.int 2],.tup [.int 1,.int 5],.tup [.int 2,.int 3],.tup [.int 3,.int 4],.tup [.int 4,.int 5]]])) (gN 9)) (zl (zIv (zO (wx false) (zJ zj (zA (zB 9) zH)) (xC .non)) (zO (wx false) (zJ zj (zA (yZ (zA (xC (.int 7)) (zA (zO yS (zB 9) (xC (.int 1))) zH))) zH)) (xC .non))))))
theorem zRe:zS 6 zAL=.tup [nD 6,.tup (zFL.map yw)]:=by
 unfold zS
 congr 3
theorem zPW:zS 7 zAL=.tup [nD 7,.tup (zFL.map yw)]:=by
 unfold zS
 congr 3
theorem zSc(ds:List D)(G:Gp)(R:Q2)(h:zF5 ds G R):ds.length=1∧zKN (zg R) (zR ["script","k","state","own","web","ring","order","cut_off","none","wheel"] ds) G:=by
 obtain⟨a,ns,rfl,ha,u0,u0,h⟩:=h
 refine⟨rfl,?_⟩
 unfold zKN
 obtain⟨m,hm⟩:=zKu (σ:=zR ["script","k","state","own","web","ring","order","cut_off","none","wheel"] [.adr a]) (G:=G) (a:=a) (ns:=ns) (c:=4) (by omega) rfl (.inr ha)
 refine zCW (zMK hm (fun x hx G1 e1=>?_) fun G1 e1=>?_)
 ·obtain⟨k,u0,rfl⟩:=bY.mp hx
  refine zKw (σ:=[some (.adr a),some (nD k),none,none,none,none,none,none,none,none]) (i:=0) (j:=1) (x:=2) (ns:=ns) rfl rfl (e1.ls (.inr ha)) fun l s b hl ok=>?_
  simp only[bL,bK]
  have st0:zAg (zU G1 l [.int s,.bl b]) l:=⟨s,b,zK,ok⟩
  have sb0:L3.Sub G1 (zU G1 l [.int s,.bl b]):=.new hl
  generalize zU G1 l [.int s,.bl b]=G2 at st0 sb0
  have drS:∀ {G3 G4:Gp},L3.Sub G1 G3→Dr l G3 G4→L3.Sub G1 G4:=fun {G3 G4} hs d=>by
   obtain⟨s',b',rfl,u0⟩:=d
   exact hs.put hl
  refine yQ (zJB (zB9 (zJB (ym (d:=.adr l) (zE rfl) (zB9 (zRS (yC (d:=.int 1) G2 (.refl _) _ (zBL (zF (zE (d:=.adr l) rfl) (zF (yC (d:=nD 7)) zM)) ⟨l,7,rfl,st0,by omega,by omega,fun r0 G3 hr0 d3=>?_⟩))))))))
  obtain⟨N,hN,N1,N7⟩:∃ N:Nat,((1:Int)+(r0:Int))=(N:Int)∧1≤N∧N≤7:=⟨1+r0,by omega,by omega,by omega⟩
  refine zPU ?_
  rw[hN]
  refine wR ⟨l,N,rfl,d3.st,by omega,fun rg G4 hrg d4=>wR ⟨N,rg,rfl,hrg,by omega,?_⟩⟩
  simp only[gN,bL,bK]
  have sb4:=drS (drS sb0 d3) d4
  have st4:=d4.st
  have T0:Told N (zd rg):=⟨rg,zPB hrg fun p u0=>rfl⟩
  have z0:(yI N (zd rg)).isNone=false:=by
   rw[Bool.eq_false_iff,Ne,zDe N1 N7,Classical.not_not];exact T0
  have p0:=wz (σ:=[some (.adr a),some (nD k),some (.adr l),some (zS N (zd rg)),none,none,none,none,none,none]) (G:=G4) false (wb (n:=N) (q:=zd rg) (zE (i:=3) rfl) N1 N7)
  rw[if_neg (by simp),z0] at p0
  refine zAJ (wW p0) ?_
  clear p0
  -- the three webs
  refine zDp (zOh (zDT (ym (d:=zS N (zd rg)) (zE rfl) (zB9 (zBL (zF (zE (d:=.adr l) rfl) (zF (yC (d:=nD 7)) zM)) ⟨l,7,rfl,st4,by omega,by omega,fun n1 q1 G5 h1 h17 d5=>?_⟩)))))
  refine zB9 (zBL (zF (zE (d:=.adr l) rfl) zM) ⟨l,rfl,d5.st,fun n2 q2 G6 h26 h27 d6=>?_⟩)
  have sb6:=drS (drS sb4 d5) d6
  have st6:=d6.st
  refine wR ⟨by rw[sizeLine_eq];simp,fun lw hlw=>?_⟩
  have lwl:lw≠l:=st6.ne hlw
  have hlw1:G1.m lw=none:=by
   cases e:G1.m lw with
   | none=>rfl
   | some o=>rw[sb6.m _ _ e] at hlw;cases hlw
  refine zAS (fun i G'=>zAg G' l∧L3.Sub G1 G'∧G'.m lw=some [zS N (zd rg),zS n1 q1,zS n2 q2]) ⟨st6.ext (.new hlw),sb6.trans (.new hlw),zK⟩ (fun i G' hI=>.inl hI.2.2) ?_ ?_
  ·rintro i x hx G7 ⟨st7,sb7,g7⟩
   have hxr:∃ n q,x=zS n q∧1≤n∧n≤7:=by
    have hx:=cy hx
    simp only[cI,eA,or_false] at hx
    rcases hx with rfl | rfl | rfl
    ·exact⟨_,_,rfl,N1,N7⟩
    ·exact⟨_,_,rfl,h1,h17⟩
    ·exact⟨_,_,rfl,by omega,h27⟩
   obtain⟨n,q,rfl,n1',n7⟩:=hxr
   simp only[gN,bL,bK]
   refine wI (wb (n:=n) (q:=q) (zE (i:=4) rfl) n1' n7) ?_
   simp only[gN,bL,bK]
   refine yQ (zBL (zF (zE (d:=.adr l) rfl) (zF (zD2 (n:=n) (q:=q) (zE rfl)) zM)) ⟨l,n,rfl,st7,by omega,fun od G8 hod d8=>?_⟩)
   simp only[gN,bL,bK]
   have odln:od.length=n:=by rw[hod.length_eq,cz]
   refine yQ (show zAD _ _ _ _ _ _ from zE (i:=6) (d:=.tup (od.map nD)) rfl G8 (.refl _) _ (show wt _ _ _ from zBL (zF (zE (d:=.adr l) rfl) (zF (zD2 (n:=n) (q:=q) (zE rfl)) zM)) ⟨l,n,rfl,d8.st,by omega,by omega,fun r G9 hr d9=>?_⟩))
   dsimp only
   rw[zJO (by rw[bU];omega),← List.map_take]
   simp only[gN,bL,bK]
   have sb9:=drS (drS sb7 d8) d9
   have g9:G9.m lw=some [zS N (zd rg),zS n1 q1,zS n2 q2]:=by rw[d9.ne lwl,d8.ne lwl];exact g7
   have st9:=d9.st
   refine zNg n1' n7 hod hr fun G' x8 s=>⟨.keep (.keep (.keep (.keep (.skip (.skip (.skip (.skip (.skip (.skip .nil))))))))),G',.refl _,?_,sb9.trans s,s.m _ _ g9⟩
   obtain⟨s9,b9,e9,ok9⟩:=st9
   exact⟨s9,b9,s.m _ _ e9,ok9⟩
  ·rintro G7 ⟨st7,sb7,g7⟩
   exact⟨.keep (.skip (.skip (.skip (.skip (.skip (.skip (.skip (.skip (.skip .nil))))))))),sb7⟩
 ·dsimp only
  rw[show zR ["script","k","state","own","web","ring","order","cut_off","none","wheel"] [.adr a]=[some (.adr a),none,none,none,none,none,none,none,none,none] from rfl]
  refine wI (d:=zS 6 zAL) (by rw[zRe];exact yC) ?_
  simp only[gN,bL,bK]
  have a1:=wz (σ:=[some (.adr a),none,none,none,none,none,none,none,none,some (zS 6 zAL)]) (G:=G1) false (wb (n:=6) (q:=zAL) (zE (i:=9) rfl) (by omega) (by omega))
  rw[if_neg (by simp),(zDe (by omega) (by omega)).mpr zDb] at a1
  have p7:zi (yZ (zA (xC (.int 7)) (zA (zO yS (zB 9) (xC (.int 1))) zH))) [some (.adr a),none,none,none,none,none,none,none,none,some (zS 6 zAL)] G1 (zS 7 zAL):=by
   rw[zPW]
   refine zBe (zF yC (zF (d:=.tup (zFL.map yw)) ?_ zM)) (by simp)
   have:=zPv (σ:=[some (.adr a),none,none,none,none,none,none,none,none,some (zS 6 zAL)]) (G:=G1) (n:=6) (q:=zAL) (t:=zB 9) (zE rfl)
   have e:((wG 6).filter zAL).map yw=zFL.map yw:=by congr 1
   rw[e] at this
   exact this
  have a2:=wz false (wb p7 (by omega) (by omega))
  rw[if_neg (by simp),(zDe (by omega) (by omega)).mpr zFg] at a2
  refine a1 G1 (.refl _) _ ?_
  dsimp only
  rw[if_pos rfl]
  exact a2 G1 (.refl _) _ ⟨G,e1.sub,h⟩
end K
namespace K
open L2 L3
noncomputable def top(i:Nat):Stmt:=PySem.Challenge.pw_chordwebs_k54_whole_told_webs.main.body.getD i (.Pass ⟨0,0,0,0⟩)
noncomputable abbrev wc:Stmt:=top 5
theorem zDg:zY ["thing"] ["thing"] (zG wc):=⟨rfl,rfl,rfl,by decide +kernel,rfl,by decide +kernel,by decide +kernel⟩
noncomputable abbrev zCa:Stmt:=top 6
theorem zId:zY ["many"] ["many"] (zG zCa):=⟨rfl,rfl,rfl,by decide +kernel,rfl,by decide +kernel,by decide +kernel⟩
noncomputable abbrev zAO:Stmt:=top 7
theorem zD9:zY ["places","found","k","j"] ["places"] (zG zAO):=⟨rfl,rfl,rfl,by decide +kernel,rfl,by decide +kernel,by decide +kernel⟩
noncomputable abbrev wA:Stmt:=top 8
theorem zCH:zY ["many","most"] ["many","most"] (zG wA):=⟨rfl,rfl,rfl,by decide +kernel,rfl,by decide +kernel,by decide +kernel⟩
noncomputable abbrev wd:Stmt:=top 10
theorem zFS:zY ["thing","many"] ["thing"] (zG wd):=⟨rfl,rfl,rfl,by decide +kernel,rfl,by decide +kernel,by decide +kernel⟩
noncomputable abbrev zCb:Stmt:=top 11
theorem zIe:zY ["ring","one","other","first","second"] ["ring","one","other"] (zG zCb):=⟨rfl,rfl,rfl,by decide +kernel,rfl,by decide +kernel,by decide +kernel⟩
noncomputable abbrev zA3:Stmt:=top 12
theorem zGX:zY ["ring","many"] ["ring"] (zG zA3):=⟨rfl,rfl,rfl,by decide +kernel,rfl,by decide +kernel,by decide +kernel⟩
noncomputable abbrev yp:Stmt:=top 13
theorem zCo:zY ["ring","order"] ["ring","order"] (zG yp):=⟨rfl,rfl,rfl,by decide +kernel,rfl,by decide +kernel,by decide +kernel⟩
noncomputable abbrev wf:Stmt:=top 14
theorem zFT:zY ["ring","places","others"] ["ring","places"] (zG wf):=⟨rfl,rfl,rfl,by decide +kernel,rfl,by decide +kernel,by decide +kernel⟩
noncomputable abbrev zDy:Stmt:=top 16
theorem zKO:zY ["web","one","other"] ["web","one","other"] (zG zDy):=⟨rfl,rfl,rfl,by decide +kernel,rfl,by decide +kernel,by decide +kernel⟩
noncomputable abbrev zA4:Stmt:=top 17
theorem zGY:zY ["web","place"] ["web","place"] (zG zA4):=⟨rfl,rfl,rfl,by decide +kernel,rfl,by decide +kernel,by decide +kernel⟩
noncomputable abbrev zC5:Stmt:=top 18
theorem zKP:zY ["web","places","many","ties"] ["web","places"] (zG zC5):=⟨rfl,rfl,rfl,by decide +kernel,rfl,by decide +kernel,by decide +kernel⟩
noncomputable abbrev zCc:Stmt:=top 19
theorem zIf:zY ["web","order"] ["web","order"] (zG zCc):=⟨rfl,rfl,rfl,by decide +kernel,rfl,by decide +kernel,by decide +kernel⟩
noncomputable abbrev zA5:Stmt:=top 20
theorem zGZ:zY ["web","found","place"] ["web"] (zG zA5):=⟨rfl,rfl,rfl,by decide +kernel,rfl,by decide +kernel,by decide +kernel⟩
noncomputable abbrev zAP:Stmt:=top 21
theorem zEA:zY ["web","place","reached","done","other"] ["web","place"] (zG zAP):=⟨rfl,rfl,rfl,by decide +kernel,rfl,by decide +kernel,by decide +kernel⟩
noncomputable abbrev zCd:Stmt:=top 24
theorem zIg:zY ["ring","web"] ["ring","web"] (zG zCd):=⟨rfl,rfl,rfl,by decide +kernel,rfl,by decide +kernel,by decide +kernel⟩
noncomputable abbrev zAt:Stmt:=top 25
theorem zFU:zY ["web","order"] ["web"] (zG zAt):=⟨rfl,rfl,rfl,by decide +kernel,rfl,by decide +kernel,by decide +kernel⟩
noncomputable abbrev yX:Stmt:=top 26
theorem zCp:zY ["web","order","rest"] ["web"] (zG yX):=⟨rfl,rfl,rfl,by decide +kernel,rfl,by decide +kernel,by decide +kernel⟩
noncomputable abbrev yq:Stmt:=top 27
theorem zCq:zY ["web","place","others"] ["web","place","others"] (zG yq):=⟨rfl,rfl,rfl,by decide +kernel,rfl,by decide +kernel,by decide +kernel⟩
noncomputable abbrev yr:Stmt:=top 28
theorem zFV:zY ["web","order","done","ring","place","longer","found"] ["web","order","done","ring"] (zG yr):=⟨rfl,rfl,rfl,by decide +kernel,rfl,by decide +kernel,by decide +kernel⟩
noncomputable abbrev yt:Stmt:=top 29
theorem zCr:zY ["ring","place","crossed","wanted","found","first","inside","second"] ["ring","place","crossed"] (zG yt):=⟨rfl,rfl,rfl,by decide +kernel,rfl,by decide +kernel,by decide +kernel⟩
noncomputable abbrev wL:Stmt:=top 31
theorem zCs:zY ["web","place","near"] ["web","place"] (zG wL):=⟨rfl,rfl,rfl,by decide +kernel,rfl,by decide +kernel,by decide +kernel⟩
noncomputable abbrev wg:Stmt:=top 33
theorem zDh:zY ["script","k"] ["script","k"] (zG wg):=⟨rfl,rfl,rfl,by decide +kernel,rfl,by decide +kernel,by decide +kernel⟩
noncomputable abbrev zAu:Stmt:=top 34
theorem zFW:zY ["script","k","cell"] ["script","k"] (zG zAu):=⟨rfl,rfl,rfl,by decide +kernel,rfl,by decide +kernel,by decide +kernel⟩
noncomputable abbrev zBa:Stmt:=top 35
theorem zGa:zY ["state","many","found","mixed"] ["state","many"] (zG zBa):=⟨rfl,rfl,rfl,by decide +kernel,rfl,by decide +kernel,by decide +kernel⟩
noncomputable abbrev zAQ:Stmt:=top 36
theorem zFX:zY ["many","found","one"] ["many"] (zG zAQ):=⟨rfl,rfl,rfl,by decide +kernel,rfl,by decide +kernel,by decide +kernel⟩
noncomputable abbrev zBI:Stmt:=top 37
theorem zIh:zY ["state","most","many","way","pairs_v","far"] ["state","most"] (zG zBI):=⟨rfl,rfl,rfl,by decide +kernel,rfl,by decide +kernel,by decide +kernel⟩
noncomputable abbrev zA6:Stmt:=top 38
theorem zGb:zY ["state","many","left"] ["state","many"] (zG zA6):=⟨rfl,rfl,rfl,by decide +kernel,rfl,by decide +kernel,by decide +kernel⟩
noncomputable abbrev wY:Stmt:=top 39
theorem zEB:zY ["ring","many","found","one","other","some"] ["ring"] (zG wY):=⟨rfl,rfl,rfl,by decide +kernel,rfl,by decide +kernel,by decide +kernel⟩
noncomputable abbrev yR:Stmt:=top 41
theorem zBv:zY ["state","some","many","left","names","ties","word","ends"] ["state"] (zG yR):=⟨rfl,rfl,rfl,by decide +kernel,rfl,by decide +kernel,by decide +kernel⟩
noncomputable abbrev zAR:Stmt:=top 42
theorem zFY:zY ["state","many","left"] ["state","many"] (zG zAR):=⟨rfl,rfl,rfl,by decide +kernel,rfl,by decide +kernel,by decide +kernel⟩
noncomputable abbrev zA7:Stmt:=top 43
theorem zGc:zY ["web","ring","order","places","left"] ["web","ring","order","places"] (zG zA7):=⟨rfl,rfl,rfl,by decide +kernel,rfl,by decide +kernel,by decide +kernel⟩
noncomputable abbrev zCt:Stmt:=top 44
theorem zNh:zY ["script","k","state","own","web","ring","order","cut_off","none","wheel"] ["script"] (zG zCt):=⟨rfl,rfl,rfl,by decide +kernel,rfl,by decide +kernel,by decide +kernel⟩
section
variable {P:Program} {w:World} {K:PySem.W.Frag} {mg:Str→Option Value} {base:Heap}
theorem zHV{f:Addr}{fd:FuncData}(F:Fun K "is_number" "is_number" wc f fd)(hm:mg "is_number"=some (.ref f))(ah:mg "isinstance"=none)(aV:mg "int"=none)(bc:mg "bool"=none)   :Df P w K mg base 1 "is_number" ["thing"] yo:=by
 have nd:=(zDg).nd
 refine zr zBD F zDg hm (F.binds fun u0 u0 u0 u0 u0 u0 us hl=>us1 us hl fun u0=>rfl) (fun cdv A outer s H E hr=>?_) zH1
 unfold zBD
 exact(zP (zm (zJn (zMD (T:="int") rfl ah rfl aV (by decide +kernel) (zD 0)) (zJm (zR9 (zMD (T:="bool") rfl ah rfl bc (by decide +kernel) (zD 0)))))))
theorem zNi{f:Addr}{fd:FuncData}(F:Fun K "pairs" "pairs" zCa f fd)(hm:mg "pairs"=some (.ref f))(ab:mg "tuple"=none)(aa:mg "range"=none)   (aj:Df P w K mg base 1 "pairs_of" ["places"] (spL yL)):Df P w K mg base 2 "pairs" ["many"] (spL yx):=by
 have nd:=(zId).nd
 refine zr zER F zId hm (F.binds fun u0 u0 u0 u0 u0 u0 us hl=>us1 us hl fun u0=>rfl) (fun cdv A outer s H E hr=>?_) zOZ
 unfold zER
 exact(zP (zm (yc (zAb aj zCl hr (by decide) rfl (zC (zQ2 rfl rfl ab rfl aa (zC (zD 0) zI)) zI)))))
theorem zIi{f:Addr}{fd:FuncData}(F:Fun K "pairs_of" "pairs_of" zAO f fd)(hm:mg "pairs_of"=some (.ref f))(aa:mg "range"=none)(ac:mg "len"=none)   :Df P w K mg base 1 "pairs_of" ["places"] (spL yL):=by
 have nd:=(zD9).nd
 refine zr zBk F zD9 hm (F.binds fun u0 u0 u0 u0 u0 u0 us hl=>us1 us hl fun u0=>rfl) (fun cdv A outer s H E hr=>?_) zI7
 unfold zBk
 exact(zL (zt 1 nd (yc (zAv zI))) (zL (zAf PassesOwn.never rfl (yu rfl aa (zC (wO rfl ac (zC (zD 0) zI)) zI)) (zAw 2 nd) (zP (zAf PassesOwn.never rfl (zDD rfl aa (zC (zAA (zD 2) zN) (zC (wO rfl ac (zC (zD 0) zI)) zI))) (zAw 3 nd) (zP (zBJ (zAy (zD 1) (zC (wp (zC (yP (zD 0) (zD 2)) (zC (yP (zD 0) (zD 3)) zI))) zI))))))) (zP (zm (zD 1)))))
theorem zFZ{f:Addr}{fd:FuncData}(F:Fun K "refuse_more" "refuse_more" wA f fd)(hm:mg "refuse_more"=some (.ref f))    :Df P w K mg base 1 "refuse_more" ["many","most"] wE:=by
 have nd:=(zCH).nd
 refine zr zAT F zCH hm (F.binds fun u0 u0 u0 u0 u0 u0 us hl=>us2 us hl fun u0 u0=>rfl) (fun cdv A outer s H E hr=>?_) zFh
 unfold zAT
 exact(zP (zA8 (zSv (zD 0) (zD 1)) (zP zS3) yT))
theorem zJW{f:Addr}{fd:FuncData}(F:Fun K "is_ring" "is_ring" wd f fd)(hm:mg "is_ring"=some (.ref f))(ah:mg "isinstance"=none)(ab:mg "tuple"=none)(ac:mg "len"=none)(bh:mg "all"=none)(aa:mg "range"=none){am:Tok}(ap:mg "MOST_PLACES"=some (.int 9 am))  (aI:Df P w K mg base 1 "is_number" ["thing"] yo):Df P w K mg base 2 "is_ring" ["thing"] zA2:=by
 have nd:=(zFS).nd
 refine zr zCY F zFS hm (F.binds fun u0 u0 u0 u0 u0 u0 us hl=>us1 us hl fun u0=>rfl) (fun cdv A outer s H E hr=>?_) zLZ
 unfold zCY
 exact(zL (zA8 (W2.test (w_or (zHk (zDE (zMD (T:="tuple") rfl ah rfl ab (by decide +kernel) (zD 0)))) (zJo (zHk (zSH zPc zPc (zCu fun u0 u0=>⟨rfl,rfl⟩) (zCu fun u0 u0=>⟨rfl,rfl⟩) zN (wO rfl ac (zC (zD 0) zI)) (zB1 zN (zJs rfl ap))))))) (zP (zm zDB)) yT) (zL (zA8 (zHk (zDE (zPu rfl rfl bh (zB5 "place" rfl (zp (osc:=zG wd) (N:=["thing","many"]) (N0:=["!00","!01"]) (own:=["place"]) (by decide +kernel)) (zBz (zD 0)) (fun u0 u0 u0 u0 u0=>zBK) (fun u0 u0 u0 u0 u0=>(zV aI hr (by decide) rfl (zC (zD 2) zI))))))) (zP (zm zDB)) yT) (zL (zt 1 nd (zDl (wO rfl ac (zC (zD 0) zI)) zN)) (zP (zm (zJn (zL9 hr (wO rfl ac (zC (zD 0) zI)) (zB1 zN (zD 1))) (zJm (zPu rfl rfl bh (zB5 "place" rfl (zp (osc:=zG wd) (N:=["thing","many"]) (N0:=["thing","!01"]) (own:=["place"]) (by decide +kernel)) (yu rfl aa (zC (zD 1) zI)) (fun u0 u0 u0 u0 u0=>zBK) (fun u0 u0 u0 u0 u0=>(zL9 hr (zHv hr (zD 0) (zC (zD 2) zI)) zN)))))))))))
theorem zNj{f:Addr}{fd:FuncData}(F:Fun K "cross" "cross" zCb f fd)(hm:mg "cross"=some (.ref f))    :Df P w K mg base 1 "cross" ["ring","one","other"] zBX:=by
 have nd:=(zIe).nd
 refine zr zEW F zIe hm (F.binds fun u0 u0 u0 u0 u0 u0 us hl=>us3 us hl fun u0 u0 u0=>rfl) (fun cdv A outer s H E hr=>?_) zOg
 unfold zEW
 exact(zL (zt 3 nd (zE0 hr (zD 0) (zC (zD 1) zI))) (zL (zt 4 nd (zMQ hr (zD 0) (zC (zD 1) (zC (zAA (zD 3) zN) zI)))) (zP (zm (zL9 hr (zHv hr (zDJ (zD 0) (zB6 (zD 3)) (zB6 (zD 4))) (zC (zD 2) zI)) zN)))))
theorem zLf{f:Addr}{fd:FuncData}(F:Fun K "web_of" "web_of" zA3 f fd)(hm:mg "web_of"=some (.ref f))(ac:mg "len"=none)(ab:mg "tuple"=none)   (aK:Df P w K mg base 2 "pairs" ["many"] (spL yx))(b7:Df P w K mg base 1 "cross" ["ring","one","other"] zBX):Df P w K mg base 3 "web_of" ["ring"] zAK:=by
 have nd:=(zGX).nd
 refine zr zDS F zGX hm (F.binds fun u0 u0 u0 u0 u0 u0 us hl=>us1 us hl fun u0=>rfl) (fun cdv A outer s H E hr=>?_) zMd
 unfold zDS
 exact(zL (zt 1 nd (zDl (wO rfl ac (zC (zD 0) zI)) zN)) (zP (zm (wp (zC (zD 1) (zC (zAe rfl ab (zB5 "pair" rfl (zp (osc:=zG zA3) (N:=["ring","many"]) (N0:=["ring","!01"]) (own:=["pair"]) (by decide +kernel)) (zEt (zAb aK zCx hr (by decide) rfl (zC (zD 1) zI))) (fun u0 u0 u0 u0 u0=>(zAd (zDE (zV b7 hr (by decide) rfl (zC (zD 0) (zC (yP (zD 2) zN) (zC (yP (zD 2) zN) zI))))))) (fun u0 u0 u0 u0 u0=>(zD 2)))) zI))))))
theorem zFi{f:Addr}{fd:FuncData}(F:Fun K "named_ring" "named_ring" yp f fd)(hm:mg "named_ring"=some (.ref f))(ab:mg "tuple"=none)   :Df P w K mg base 1 "named_ring" ["ring","order"] yz:=by
 have nd:=(zCo).nd
 refine zr zAq F zCo hm (F.binds fun u0 u0 u0 u0 u0 u0 us hl=>us2 us hl fun u0 u0=>rfl) (fun cdv A outer s H E hr=>?_) zHR
 unfold zAq
 exact(zP (zm (zAe rfl ab (zB5 "place" rfl (zp (osc:=zG yp) (N:=["ring","order"]) (N0:=["!00","order"]) (own:=["place"]) (by decide +kernel)) (zBz (zD 0)) (fun u0 u0 u0 u0 u0=>zBK) (fun u0 u0 u0 u0 u0=>(zE0 hr (zD 1) (zC (zD 2) zI)))))))
theorem zJX{f:Addr}{fd:FuncData}(F:Fun K "without" "without" wf f fd)(hm:mg "without"=some (.ref f))(aa:mg "range"=none)(ac:mg "len"=none)(ab:mg "tuple"=none)   :Df P w K mg base 1 "without" ["ring","places"] zAM:=by
 have nd:=(zFT).nd
 refine zr zCZ F zFT hm (F.binds fun u0 u0 u0 u0 u0 u0 us hl=>us2 us hl fun u0 u0=>rfl) (fun cdv A outer s H E hr=>?_) zLa
 unfold zCZ
 exact(zL (zt 2 nd (yc (zB5 "place" rfl (zp (osc:=zG wf) (N:=["ring","places","others"]) (N0:=["!00","places","!02"]) (own:=["place"]) (by decide +kernel)) (yu rfl aa (zC (zDl (wO rfl ac (zC (zD 0) zI)) zN) zI)) (fun u0 u0 u0 u0 u0=>(zAd (zEN hr (zD 3) (zD 1)))) (fun u0 u0 u0 u0 u0=>(zD 3))))) (zP (zm (zAe rfl ab (zB5 "place" rfl (zp (osc:=zG wf) (N:=["ring","places","others"]) (N0:=["!00","!01","others"]) (own:=["place"]) (by decide +kernel)) (zBz (zD 0)) (fun u0 u0 u0 u0 u0=>(zAd (zSB hr (zD 3) (zD 2)))) (fun u0 u0 u0 u0 u0=>(zE0 hr (zD 2) (zC (zD 3) zI))))))))
theorem zPX{f:Addr}{fd:FuncData}(F:Fun K "tied" "tied" zDy f fd)(hm:mg "tied"=some (.ref f))(aZ:mg "min"=none)(aO:mg "max"=none)   :Df P w K mg base 1 "tied" ["web","one","other"] wT:=by
 have nd:=(zKO).nd
 refine zr zGw F zKO hm (F.binds fun u0 u0 u0 u0 u0 u0 us hl=>us3 us hl fun u0 u0 u0=>rfl) (fun cdv A outer s H E hr=>?_) zQ8
 unfold zGw
 exact(zP (zm (zSA hr (wp (zC (zPm rfl rfl aZ (zC (zD 1) (zC (zD 2) zI))) (zC (zPn rfl rfl aO (zC (zD 1) (zC (zD 2) zI))) zI))) (yP (zD 0) zN))))
theorem zLg{f:Addr}{fd:FuncData}(F:Fun K "around" "around" zA4 f fd)(hm:mg "around"=some (.ref f))(ab:mg "tuple"=none)(aa:mg "range"=none)   (aA:Df P w K mg base 1 "tied" ["web","one","other"] wT):Df P w K mg base 2 "around" ["web","place"] zAG:=by
 have nd:=(zGY).nd
 refine zr zDP F zGY hm (F.binds fun u0 u0 u0 u0 u0 u0 us hl=>us2 us hl fun u0 u0=>rfl) (fun cdv A outer s H E hr=>?_) zMU
 unfold zDP
 exact(zP (zm (zAe rfl ab (zB5 "other" rfl (zp (osc:=zG zA4) (N:=["web","place"]) (N0:=["web","place"]) (own:=["other"]) (by decide +kernel)) (yu rfl aa (zC (yP (zD 0) zN) zI)) (fun u0 u0 u0 u0 u0=>(zAd (zDE (zV aA hr (by decide) rfl (zC (zD 0) (zC (zD 1) (zC (zD 2) zI))))))) (fun u0 u0 u0 u0 u0=>(zD 2))))))
theorem zPY{f:Addr}{fd:FuncData}(F:Fun K "kept" "kept" zC5 f fd)(hm:mg "kept"=some (.ref f))(ac:mg "len"=none)(ab:mg "tuple"=none)   (aK:Df P w K mg base 2 "pairs" ["many"] (spL yx))(aA:Df P w K mg base 1 "tied" ["web","one","other"] wT):Df P w K mg base 3 "kept" ["web","places"] yn:=by
 have nd:=(zKP).nd
 refine zr zG1 F zKP hm (F.binds fun u0 u0 u0 u0 u0 u0 us hl=>us2 us hl fun u0 u0=>rfl) (fun cdv A outer s H E hr=>?_) zRB
 unfold zG1
 exact(zL (zt 2 nd (wO rfl ac (zC (zD 1) zI))) (zL (zDH 3 "pair" rfl (zp (osc:=zG zC5) (N:=["web","places","many","ties"]) (N0:=["web","places","!02","!03"]) (own:=["pair"]) (by decide +kernel)) (zEt (zAb aK zCx hr (by decide) rfl (zC (zD 2) zI))) (fun u0 u0 u0 u0 u0=>(zAd (zDE (zV aA hr (by decide) rfl (zC (zD 0) (zC (yP (zD 1) (yP (zD 4) zN)) (zC (yP (zD 1) (yP (zD 4) zN)) zI))))))) (fun u0 u0 u0 u0 u0=>(zD 4)) nd) (zP (zm (wp (zC (zD 2) (zC (zJp rfl ab (zC (zD 3) zI)) zI)))))))
theorem zNk{f:Addr}{fd:FuncData}(F:Fun K "named" "named" zCc f fd)(hm:mg "named"=some (.ref f))    (aq:Df P w K mg base 3 "kept" ["web","places"] yn):Df P w K mg base 4 "named" ["web","order"] ww:=by
 have nd:=(zIf).nd
 refine zr zEV F zIf hm (F.binds fun u0 u0 u0 u0 u0 u0 us hl=>us2 us hl fun u0 u0=>rfl) (fun cdv A outer s H E hr=>?_) zOe
 unfold zEV
 exact(zP (zm (zV aq hr (by decide) rfl (zC (zD 0) (zC (zD 1) zI)))))
theorem zLh{f:Addr}{fd:FuncData}(F:Fun K "pieces" "pieces" zA5 f fd)(hm:mg "pieces"=some (.ref f))(aa:mg "range"=none)(bi:mg "any"=none)   (aM:Df P w K mg base 3 "piece_of" ["web","place"] zAW):Df P w K mg base 4 "pieces" ["web"] (spL wK):=by
 have nd:=(zGZ).nd
 refine zr zDX F zGZ hm (F.binds fun u0 u0 u0 u0 u0 u0 us hl=>us1 us hl fun u0=>rfl) (fun cdv A outer s H E hr=>?_) zNA
 unfold zDX
 exact(zL (zt 1 nd (yc (zAv zI))) (zL (zAf PassesOwn.never rfl (yu rfl aa (zC (yP (zD 0) zN) zI)) (zAw 2 nd) (zP (zA8 (zHk (zDE (zSG rfl rfl bi (zB5 "piece" rfl (zp (osc:=zG zA5) (N:=["web","found","place"]) (N0:=["!00","!01","place"]) (own:=["piece"]) (by decide +kernel)) (zBz (zD 1)) (fun u0 u0 u0 u0 u0=>zBK) (fun u0 u0 u0 u0 u0=>(zSA hr (zD 2) (zD 3))))))) (zP (zBJ (zAy (zD 1) (zC (zV aM hr (by decide) rfl (zC (zD 0) (zC (zD 2) zI))) zI)))) yT))) (zP (zm (zD 1)))))
theorem zIj{f:Addr}{fd:FuncData}(F:Fun K "piece_of" "piece_of" zAP f fd)(hm:mg "piece_of"=some (.ref f))(ac:mg "len"=none)(ab:mg "tuple"=none)(ai:mg "sorted"=none)   (ax:Df P w K mg base 2 "around" ["web","place"] zAG):Df P w K mg base 3 "piece_of" ["web","place"] zAW:=by
 have nd:=(zEA).nd
 refine zr zBo F zEA hm (F.binds fun u0 u0 u0 u0 u0 u0 us hl=>us2 us hl fun u0 u0=>rfl) (fun cdv A outer s H E hr=>?_) zJN
 unfold zBo
 exact(zL (zt 2 nd (yc (zAv (zC (zD 1) zI)))) (zL (zt 3 nd zN) (zL (zHs PassesOwn.never (zOI (zD 3) (wO rfl ac (zC (zD 2) zI))) (zL (zAf PassesOwn.never rfl (zBz (zV ax hr (by decide) rfl (zC (zD 0) (zC (yP (zD 2) (zD 3)) zI)))) (zAw 4 nd) (zP (zA8 (zEN hr (zD 4) (zD 2)) (zP (zBJ (zAy (zD 2) (zC (zD 4) zI)))) yT))) (zP (zME 3 nd zN)))) (zP (zm (zAe rfl ab (zMI rfl ai (zC (zD 2) zI))))))))
theorem zNl{f:Addr}{fd:FuncData}(F:Fun K "tells" "tells" zCd f fd)(hm:mg "tells"=some (.ref f))    (ay:Df P w K mg base 3 "web_of" ["ring"] zAK):Df P w K mg base 4 "tells" ["ring","web"] zAZ:=by
 have nd:=(zIg).nd
 refine zr zEg F zIg hm (F.binds fun u0 u0 u0 u0 u0 u0 us hl=>us2 us hl fun u0 u0=>rfl) (fun cdv A outer s H E hr=>?_) zPT
 unfold zEg
 exact(zP (zm (zL9 hr (zV ay hr (by decide) rfl (zC (zD 0) zI)) (zD 1))))
theorem zJY{f:Addr}{fd:FuncData}(F:Fun K "ring_of" "ring_of" zAt f fd)(hm:mg "ring_of"=some (.ref f)) {au:Tok}(aB:mg "MOST_FOUND"=some (.int 7 au))  (av:Df P w K mg base 1 "refuse_more" ["many","most"] wE)(aC:Df P w K mg base 3 "near_order" ["web"] (spL yM))(aP:Df P w K mg base 11 "grown" ["web","order","done","ring"] (yH 8)):Df P w K mg base 12 "ring_of" ["web"] zj:=by
 have nd:=(zFU).nd
 refine zr zCX F zFU hm (F.binds fun u0 u0 u0 u0 u0 u0 us hl=>us1 us hl fun u0=>rfl) (fun cdv A outer s H E hr=>?_) zLX
 unfold zCX
 exact(zL (zBJ (zV av hr (by decide) rfl (zC (yP (zD 0) zN) (zC (zJs rfl aB) zI)))) (zL (zt 1 nd (yc (zAb aC zEJ hr (by decide) rfl (zC (zD 0) zI)))) (zP (zm (zV aP hr (by decide) rfl (zC (zD 0) (zC (zD 1) (zC zN (zC (wp (zC (yP (zD 1) zN) (zC (yP (zD 1) zN) zI))) zI)))))))))
theorem zFj{f:Addr}{fd:FuncData}(F:Fun K "near_order" "near_order" yX f fd)(hm:mg "near_order"=some (.ref f))(ac:mg "len"=none)(aa:mg "range"=none)(aO:mg "max"=none)   (ad:Df P w K mg base 2 "tied_among" ["web","place","others"] (spL zw)):Df P w K mg base 3 "near_order" ["web"] (spL yM):=by
 have nd:=(zCp).nd
 refine zr zAp F zCp hm (F.binds fun u0 u0 u0 u0 u0 u0 us hl=>us1 us hl fun u0=>rfl) (fun cdv A outer s H E hr=>?_) zHP
 unfold zAp
 exact(zL (zt 1 nd (yc (zAv zI))) (zL (zHs PassesOwn.never (zOI (wO rfl ac (zC (zD 1) zI)) (yP (zD 0) zN)) (zL (zDH 2 "place" rfl (zp (osc:=zG yX) (N:=["web","order","rest"]) (N0:=["!00","order","!02"]) (own:=["place"]) (by decide +kernel)) (yu rfl aa (zC (yP (zD 0) zN) zI)) (fun u0 u0 u0 u0 u0=>(zAd (zEN hr (zD 3) (zD 1)))) (fun u0 u0 u0 u0 u0=>(zD 3)) nd) (zP (zBJ (zAy (zD 1) (zC (yP (zRb hr rfl rfl aO (zB5 "place" rfl (zp (osc:=zG yX) (N:=["web","order","rest"]) (N0:=["web","order","!02"]) (own:=["place"]) (by decide +kernel)) (zBz (zD 2)) (fun u0 u0 u0 u0 u0=>zBK) (fun u0 u0 u0 u0 u0=>(wp (zC (wO rfl ac (zC (yc (zAb ad zBu hr (by decide) rfl (zC (zD 0) (zC (zD 3) (zC (zD 1) zI))))) zI)) (zC (zD 3) zI)))))) zN) zI)))))) (zP (zm (zD 1)))))
theorem zFk{f:Addr}{fd:FuncData}(F:Fun K "tied_among" "tied_among" yq f fd)(hm:mg "tied_among"=some (.ref f))    (aA:Df P w K mg base 1 "tied" ["web","one","other"] wT):Df P w K mg base 2 "tied_among" ["web","place","others"] (spL zw):=by
 have nd:=(zCq).nd
 refine zr zAo F zCq hm (F.binds fun u0 u0 u0 u0 u0 u0 us hl=>us3 us hl fun u0 u0 u0=>rfl) (fun cdv A outer s H E hr=>?_) zHO
 unfold zAo
 exact(zP (zm (yc (zB5 "other" rfl (zp (osc:=zG yq) (N:=["web","place","others"]) (N0:=["web","place","!02"]) (own:=["other"]) (by decide +kernel)) (zBz (zD 2)) (fun u0 u0 u0 u0 u0=>(zAd (zDE (zV aA hr (by decide) rfl (zC (zD 0) (zC (zD 1) (zC (zD 3) zI))))))) (fun u0 u0 u0 u0 u0=>(zD 3))))))
theorem zLi{k:Nat}{f:Addr}{fd:FuncData}(F:Fun K "grown" "grown" yr f fd)(hm:mg "grown"=some (.ref f)):Df P w K mg base (k+1) "grown" ["web","order","done","ring"] (yH 0):=by
 refine zr (fun u0 u0 u0=>False) F zFV hm (F.binds fun u0 u0 u0 u0 u0 u0 us hl=>match us,hl with | [_,_,_,_],_=>rfl) (fun cdv A outer s H E hr=>?_) (fun u0 u0 u0 h=>(zNW h).elim)
 exact zSJ
theorem zAa{k d:Nat}{f:Addr}{fd:FuncData}(F:Fun K "grown" "grown" yr f fd)(hm:mg "grown"=some (.ref f))(ac:mg "len"=none)(ad:Df P w K mg base 2 "tied_among" ["web","place","others"] (spL zw))(bG:2≤k)(af:Df P w K mg base 1 "with_chord" ["ring","place","crossed"] (spL yb))(bH:1≤k)(aP:Df P w K mg base k "grown" ["web","order","done","ring"] (yH d)):Df P w K mg base (k+1) "grown" ["web","order","done","ring"] (yH (d+1)):=by
 have nd:=(zFV).nd
 refine zr (zEf d) F zFV hm (F.binds fun u0 u0 u0 u0 u0 u0 us hl=>match us,hl with | [_,_,_,_],_=>rfl) (fun cdv A outer s H E hr=>?_) (zPN d)
 unfold zEf
 exact(zL (zA8 (zHl hr (zD 2) (wO rfl ac (zC (zD 1) zI))) (zP (zm (zD 3))) yT) (zL (zt 4 nd (yP (zD 1) (zD 2))) (zL (zAf PassesOwn.never rfl (zEt (zAb af zEI hr (by omega) rfl (zC (zD 3) (zC (zD 4) (zC (yc (zAb ad zBu hr (by omega) rfl (zC (zD 0) (zC (zD 4) (zC (yc (zOj (zD 1) zGs (zB6 (zD 2)))) zI))))) zI))))) (zAw 5 nd) (zL (zt 6 nd (zV aP hr (by omega) rfl (zC (zD 0) (zC (zD 1) (zC (zAA (zD 2) zN) (zC (zD 5) zI)))))) (zP (zA8 (zIK (zD 6) zBS) (zP (zm (zD 6))) yT)))) (zP (zm zBS)))))
theorem zFl{f:Addr}{fd:FuncData}(F:Fun K "with_chord" "with_chord" yt f fd)(hm:mg "with_chord"=some (.ref f))(bj:mg "sum"=none)(aa:mg "range"=none)(ac:mg "len"=none)   :Df P w K mg base 1 "with_chord" ["ring","place","crossed"] (spL yb):=by
 have nd:=(zCr).nd
 refine zr zAn F zCr hm (F.binds fun u0 u0 u0 u0 u0 u0 us hl=>us3 us hl fun u0 u0 u0=>rfl) (fun cdv A outer s H E hr=>?_) zHN
 unfold zAn
 exact(zL (zt 3 nd (zOx rfl rfl bj (zB5 "other" rfl (zp (osc:=zG yt) (N:=["ring","place","crossed","wanted","found","first","inside","second"]) (N0:=["!00","!01","!02","!03","!04","!05","!06","!07"]) (own:=["other"]) (by decide +kernel)) (zBz (zD 2)) (fun u0 u0 u0 u0 u0=>zBK) (fun u0 u0 u0 u0 u0=>(zP3 zN (zD 8)))))) (zL (zt 4 nd (yc (zAv zI))) (zL (zAf PassesOwn.never rfl (zDD rfl aa (zC zN (zC (zAA (wO rfl ac (zC (zD 0) zI)) zN) zI))) (zAw 5 nd) (zL (zt 6 nd zN) (zP (zAf PassesOwn.never rfl (zDD rfl aa (zC (zD 5) (zC (zAA (wO rfl ac (zC (zD 0) zI)) zN) zI))) (zAw 7 nd) (zL (zA8 (zHl hr (zD 6) (zD 3)) (zP (zBJ (zAy (zD 4) (zC (zAA (zAA (zAA (zAA (zDJ (zD 0) zGs (zB6 (zD 5))) (wp (zC (zD 1) zI))) (zDJ (zD 0) (zB6 (zD 5)) (zB6 (zD 7)))) (wp (zC (zD 1) zI))) (zDJ (zD 0) (zB6 (zD 7)) zGs)) zI)))) yT) (zP (zA8 (zOI (zD 7) (wO rfl ac (zC (zD 0) zI))) (zP (zt 6 nd (zM5 (zD 6) (zP3 zN (yP (zD 0) (zD 7)))))) yT))))))) (zP (zm (zD 4))))))
theorem zFm{f:Addr}{fd:FuncData}(F:Fun K "web_turned" "web_turned" wL f fd)(hm:mg "web_turned"=some (.ref f))(ab:mg "tuple"=none)(ai:mg "sorted"=none)(bm:mg "set"=none)   (ax:Df P w K mg base 2 "around" ["web","place"] zAG)(aj:Df P w K mg base 1 "pairs_of" ["places"] (spL yL)):Df P w K mg base 3 "web_turned" ["web","place"] ya:=by
 have nd:=(zCs).nd
 refine zr zAl F zCs hm (F.binds fun u0 u0 u0 u0 u0 u0 us hl=>us2 us hl fun u0 u0=>rfl) (fun cdv A outer s H E hr=>?_) zHK
 unfold zAl
 exact(zL (zt 2 nd (yc (zAb aj zCl hr (by decide) rfl (zC (zV ax hr (by decide) rfl (zC (zD 0) (zC (zD 1) zI))) zI)))) (zP (zm (wp (zC (yP (zD 0) zN) (zC (zAe rfl ab (zLH 2 hr rfl rfl ai rfl bm (zC (yP (zD 0) zN) zI))) zI))))))
theorem zHW{f:Addr}{fd:FuncData}(F:Fun K "_law_cell_at" "_law_cell_at" wg f fd)(hm:mg "_law_cell_at"=some (.ref f))(ac:mg "len"=none)   :Df P w K mg base 1 "_law_cell_at" ["script","k"] wv:=by
 have nd:=(zDh).nd
 refine zr zBB F zDh hm (F.binds fun u0 u0 u0 u0 u0 u0 us hl=>us2 us hl fun u0 u0=>rfl) (fun cdv A outer s H E hr=>?_) zHy
 unfold zBB
 exact(zL (zA8 (zOI (zD 1) (wO rfl ac (zC (zD 0) zI))) (zP (zm (yP (zD 0) (zD 1)))) yT) (zP (zm zN)))
theorem zJZ{f:Addr}{fd:FuncData}(F:Fun K "_law_state" "_law_state" zAu f fd)(hm:mg "_law_state"=some (.ref f))    (aJ:Df P w K mg base 1 "_law_cell_at" ["script","k"] wv):Df P w K mg base 2 "_law_state" ["script","k"] (spL yk):=by
 have nd:=(zFW).nd
 refine zr zCR F zFW hm (F.binds fun u0 u0 u0 u0 u0 u0 us hl=>us2 us hl fun u0 u0=>rfl) (fun cdv A outer s H E hr=>?_) zKp
 unfold zCR
 exact(zL (zt 2 nd (zV aJ hr (by decide) rfl (zC (zD 0) (zC (zD 1) zI)))) (zL (zA8 (zSw (zD 2) (zPk zN zN)) (zP (zm (yc (zAv (zC (zPj (zD 2) (zPk zN zN)) (zC zDB zI)))))) yT) (zP (zm (yc (zAv (zC (zFy (zD 2) zN) (zC zDB zI))))))))
theorem zLj{f:Addr}{fd:FuncData}(F:Fun K "_law_take" "_law_take" zBa f fd)(hm:mg "_law_take"=some (.ref f))    :Df P w K mg base 1 "_law_take" ["state","many"] zh:=by
 have nd:=(zGa).nd
 refine zr zDQ F zGa hm (F.binds fun u0 u0 u0 u0 u0 u0 us hl=>us2 us hl fun u0 u0=>rfl) (fun cdv A outer s H E hr=>?_) zMW
 unfold zDQ
 exact(zL (zA8 (zDE (yP (zD 0) zN)) (zL (zt 2 nd (zFy (yP (zD 0) zN) (zD 1))) (zL (zPi (zDl (yP (zD 0) zN) (zD 1)) (zR6 (zD 0) zN)) (zP (zm (zD 2))))) yT) (zL (zPi (zFy (zAA (zB1 (yP (zD 0) zN) zN) zN) zN) (zR6 (zD 0) zN)) (zL (zt 3 nd (zFy (zAA (zAA (zB1 (yP (zD 0) zN) (yP (zD 0) zN)) (zB1 zN (yP (zD 0) zN))) zN) zN)) (zL (zt 3 nd (zFy (zAA (zB1 (zD 3) (zD 3)) (zB1 zN (zD 3))) zN)) (zP (zm (zFy (zDl (zD 3) zN) (zD 1))))))))
theorem zJa{f:Addr}{fd:FuncData}(F:Fun K "_law_pairs" "_law_pairs" zAQ f fd)(hm:mg "_law_pairs"=some (.ref f))(aa:mg "range"=none)   :Df P w K mg base 1 "_law_pairs" ["many"] (spL yj):=by
 have nd:=(zFX).nd
 refine zr zCS F zFX hm (F.binds fun u0 u0 u0 u0 u0 u0 us hl=>us1 us hl fun u0=>rfl) (fun cdv A outer s H E hr=>?_) zKr
 unfold zCS
 exact(zL (zt 1 nd (yc (zAv zI))) (zL (zAf PassesOwn.never rfl (yu rfl aa (zC (zD 0) zI)) (zAw 2 nd) (zP (zBJ (zMC (zD 1) (zB5 "other" rfl (zp (osc:=zG zAQ) (N:=["many","found","one"]) (N0:=["!00","!01","one"]) (own:=["other"]) (by decide +kernel)) (zDD rfl aa (zC (zAA (zD 2) zN) (zC (zD 0) zI))) (fun u0 u0 u0 u0 u0=>zBK) (fun u0 u0 u0 u0 u0=>(wp (zC (zD 2) (zC (zD 3) zI))))))))) (zP (zm (zD 1)))))
theorem zNm{f:Addr}{fd:FuncData}(F:Fun K "_law_web" "_law_web" zBI f fd)(hm:mg "_law_web"=some (.ref f))(ab:mg "tuple"=none)   (ae:Df P w K mg base 1 "_law_take" ["state","many"] zh)(ak:Df P w K mg base 1 "_law_pairs" ["many"] (spL yj))(az:Df P w K mg base 2 "_law_ring" ["state","many"] zAI)(aN:Df P w K mg base 2 "_law_web_of" ["ring"] wa):Df P w K mg base 3 "_law_web" ["state","most"] zB8:=by
 have nd:=(zIh).nd
 refine zr zEU F zIh hm (F.binds fun u0 u0 u0 u0 u0 u0 us hl=>us2 us hl fun u0 u0=>rfl) (fun cdv A outer s H E hr=>?_) zOc
 unfold zEU
 exact(zL (zt 2 nd (zAA zN (zV ae hr (by decide) rfl (zC (zD 0) (zC (zD 1) zI))))) (zL (zt 3 nd (zV ae hr (by decide) rfl (zC (zD 0) (zC zN zI)))) (zL (zt 4 nd (yc (zAb ak zDO hr (by decide) rfl (zC (zD 2) zI)))) (zL (zA8 (zHl hr (zD 3) zN) (zP (zm (zV aN hr (by decide) rfl (zC (zV az hr (by decide) rfl (zC (zD 0) (zC (zD 2) zI))) zI)))) yT) (zL (zA8 (zHl hr (zD 3) zN) (zP (zm (wp (zC (zD 2) (zC (zAe rfl ab (zB5 "pair" rfl (zp (osc:=zG zBI) (N:=["state","most","many","way","pairs_v","far"]) (N0:=["state","!01","!02","!03","!04","!05"]) (own:=["pair"]) (by decide +kernel)) (zBz (zD 4)) (fun u0 u0 u0 u0 u0=>(zAd (W2.test (w_or (zHl hr (yP (zD 6) zN) (zAA (yP (zD 6) zN) zN)) (zJo (zHl hr (zV ae hr (by decide) rfl (zC (zD 0) (zC zN zI))) zN)))))) (fun u0 u0 u0 u0 u0=>(zD 6)))) zI))))) yT) (zL (zt 5 nd (yP (yc (zAv (zC zN (zC zN (zC zN zI))))) (zPj (zD 3) zN))) (zP (zm (wp (zC (zD 2) (zC (zAe rfl ab (zB5 "pair" rfl (zp (osc:=zG zBI) (N:=["state","most","many","way","pairs_v","far"]) (N0:=["state","!01","!02","!03","!04","far"]) (own:=["pair"]) (by decide +kernel)) (zBz (zD 4)) (fun u0 u0 u0 u0 u0=>(zAd (zHl hr (zV ae hr (by decide) rfl (zC (zD 0) (zC (zD 5) zI))) zN))) (fun u0 u0 u0 u0 u0=>(zD 6)))) zI)))))))))))
theorem zLk{f:Addr}{fd:FuncData}(F:Fun K "_law_ring" "_law_ring" zA6 f fd)(hm:mg "_law_ring"=some (.ref f))(aD:mg "list"=none)(aa:mg "range"=none)(ab:mg "tuple"=none)(ac:mg "len"=none)   (ae:Df P w K mg base 1 "_law_take" ["state","many"] zh):Df P w K mg base 2 "_law_ring" ["state","many"] zAI:=by
 have nd:=(zGb).nd
 refine zr zDR F zGb hm (F.binds fun u0 u0 u0 u0 u0 u0 us hl=>us2 us hl fun u0 u0=>rfl) (fun cdv A outer s H E hr=>?_) zMY
 unfold zDR
 exact(zL (zt 2 nd (yc (zSC (yc (zGm rfl rfl aD rfl aa (zC (zD 1) zI))) zN))) (zP (zm (zAe rfl ab (zB5 "k" rfl (zp (osc:=zG zA6) (N:=["state","many","left"]) (N0:=["state","!01","left"]) (own:=["k"]) (by decide +kernel)) (yu rfl aa (zC (zB1 zN (zD 1)) zI)) (fun u0 u0 u0 u0 u0=>zBK) (fun u0 u0 u0 u0 u0=>(zJq (zD 2) (zC (zV ae hr (by decide) rfl (zC (zD 0) (zC (wO rfl ac (zC (zD 2) zI)) zI))) zI))))))))
theorem zIk{f:Addr}{fd:FuncData}(F:Fun K "_law_web_of" "_law_web_of" wY f fd)(hm:mg "_law_web_of"=some (.ref f))(ac:mg "len"=none)(ab:mg "tuple"=none)   (ak:Df P w K mg base 1 "_law_pairs" ["many"] (spL yj)):Df P w K mg base 2 "_law_web_of" ["ring"] wa:=by
 have nd:=(zEB).nd
 refine zr zBl F zEB hm (F.binds fun u0 u0 u0 u0 u0 u0 us hl=>us1 us hl fun u0=>rfl) (fun cdv A outer s H E hr=>?_) zI9
 unfold zBl
 exact(zL (zt 1 nd (zDl (wO rfl ac (zC (zD 0) zI)) zN)) (zL (zt 2 nd (yc (zAv zI))) (zL (zAf PassesOwn.never rfl (zEt (zAb ak zDO hr (by decide) rfl (zC (zD 1) zI))) (zR5 3 4 rfl nd) (zL (zDH 5 "place" rfl (zp (osc:=zG wY) (N:=["ring","many","found","one","other","some"]) (N0:=["!00","!01","!02","one","other","!05"]) (own:=["place"]) (by decide +kernel)) (zBz (zD 0)) (fun u0 u0 u0 u0 u0=>(zAd (zSB hr (zD 6) (wp (zC (zD 3) (zC (zD 4) zI)))))) (fun u0 u0 u0 u0 u0=>(zD 6)) nd) (zP (zA8 (W2.test (w_and (zMA hr (yP (zD 5) zN) (yP (zD 5) zN)) (zL5 (zMA hr (yP (zD 5) zN) (yP (zD 5) zN))))) (zP (zBJ (zAy (zD 2) (zC (wp (zC (zD 3) (zC (zD 4) zI))) zI)))) yT)))) (zP (zm (wp (zC (zD 1) (zC (zJp rfl ab (zC (zD 2) zI)) zI))))))))
theorem zEK{f:Addr}{fd:FuncData}(F:Fun K "_law_near_wheel" "_law_near_wheel" yR f fd)(hm:mg "_law_near_wheel"=some (.ref f))(aV:mg "int"=none)(aD:mg "list"=none)(aa:mg "range"=none)(ac:mg "len"=none)(ai:mg "sorted"=none)(ab:mg "tuple"=none)   (ae:Df P w K mg base 1 "_law_take" ["state","many"] zh):Df P w K mg base 2 "_law_near_wheel" ["state"] yy:=by
 have nd:=(zBv).nd
 refine zr wy F zBv hm (F.binds fun u0 u0 u0 u0 u0 u0 us hl=>us1 us hl fun u0=>rfl) (fun cdv A outer s H E hr=>?_) zFP
 unfold wy
 exact(zL (zt 1 nd (yP (yc (zAv (zC zJk (zC zJk zI)))) (zV ae hr (by decide) rfl (zC (zD 0) (zC zN zI))))) (zL (zt 2 nd (zAA zN (zRI rfl aV (zC (zL9 hr (zNa (zD 1) (zSI zN)) zJk) zI)))) (zL (zt 3 nd (yc (zGm rfl rfl aD rfl aa (zC (zD 2) zI)))) (zL (zDH 4 "k" rfl (zp (osc:=zG yR) (N:=["state","some","many","left","names","ties","word","ends"]) (N0:=["state","!01","!02","left","!04","!05","!06","!07"]) (own:=["k"]) (by decide +kernel)) (yu rfl aa (zC (zD 2) zI)) (fun u0 u0 u0 u0 u0=>zBK) (fun u0 u0 u0 u0 u0=>(zJq (zD 3) (zC (zV ae hr (by decide) rfl (zC (zD 0) (zC (wO rfl ac (zC (zD 3) zI)) zI))) zI))) nd) (zL (zt 5 nd (yc (zAv zI))) (zL (zAf PassesOwn.never rfl (zEt (zPO (zD 1) (zC zJk zI))) (zAw 6 nd) (zL (zt 7 nd (yc (zKi rfl ai (zAv (zC (yP (zD 4) (zNY rfl aV (zC (zNa (zD 6) zN) zI))) (zC (yP (zD 4) (zNY rfl aV (zC (zNa (zD 6) zN) zI))) zI)))))) (zP (zBJ (zAy (zD 5) (zC (wp (zC (yP (zD 7) zN) (zC (yP (zD 7) zN) zI))) zI)))))) (zL (zA8 (zHl hr (zV ae hr (by decide) rfl (zC (zD 0) (zC zN zI))) zN) (zP (zBJ (zJq (zD 5) (zC (zV ae hr (by decide) rfl (zC (zD 0) (zC (wO rfl ac (zC (zD 5) zI)) zI))) zI)))) yT) (zP (zm (wp (zC (zD 2) (zC (zAe rfl ab (zK6 rfl ai (zC (zD 5) zI))) zI))))))))))))
theorem zJb{f:Addr}{fd:FuncData}(F:Fun K "_law_order" "_law_order" zAR f fd)(hm:mg "_law_order"=some (.ref f))(aD:mg "list"=none)(aa:mg "range"=none)(ab:mg "tuple"=none)(ac:mg "len"=none)   (ae:Df P w K mg base 1 "_law_take" ["state","many"] zh):Df P w K mg base 2 "_law_order" ["state","many"] zAz:=by
 have nd:=(zFY).nd
 refine zr zCT F zFY hm (F.binds fun u0 u0 u0 u0 u0 u0 us hl=>us2 us hl fun u0 u0=>rfl) (fun cdv A outer s H E hr=>?_) zKs
 unfold zCT
 exact(zL (zt 2 nd (yc (zGm rfl rfl aD rfl aa (zC (zD 1) zI)))) (zP (zm (zAe rfl ab (zB5 "k" rfl (zp (osc:=zG zAR) (N:=["state","many","left"]) (N0:=["state","!01","left"]) (own:=["k"]) (by decide +kernel)) (yu rfl aa (zC (zD 1) zI)) (fun u0 u0 u0 u0 u0=>zBK) (fun u0 u0 u0 u0 u0=>(zJq (zD 2) (zC (zV ae hr (by decide) rfl (zC (zD 0) (zC (wO rfl ac (zC (zD 2) zI)) zI))) zI))))))))
theorem zLl{f:Addr}{fd:FuncData}(F:Fun K "_law_told" "_law_told" zA7 f fd)(hm:mg "_law_told"=some (.ref f))(ab:mg "tuple"=none)(aa:mg "range"=none)   (aR:Df P w K mg base 2 "is_ring" ["thing"] zA2)(aQ:Df P w K mg base 4 "tells" ["ring","web"] zAZ)(aE:Df P w K mg base 1 "named_ring" ["ring","order"] yz)(aL:Df P w K mg base 4 "named" ["web","order"] ww)(aS:Df P w K mg base 1 "without" ["ring","places"] zAM)(aq:Df P w K mg base 3 "kept" ["web","places"] yn)(ag:Df P w K mg base 12 "ring_of" ["web"] zj):Df P w K mg base 13 "_law_told" ["web","ring","order","places"] zAN:=by
 have nd:=(zGc).nd
 refine zr zDf F zGc hm (F.binds fun u0 u0 u0 u0 u0 u0 us hl=>match us,hl with | [_,_,_,_],_=>rfl) (fun cdv A outer s H E hr=>?_) zNf
 unfold zDf
 exact(zL (zA8 (W2.test (w_or (zGv (zV aR hr (by decide) rfl (zC (zD 1) zI)) zDB) (zJo (zGv (zV aQ hr (by decide) rfl (zC (zD 1) (zC (zD 0) zI))) zDB)))) (zP (zm zDB)) yT) (zL (zA8 (zGv (zV aQ hr (by decide) rfl (zC (zV aE hr (by decide) rfl (zC (zD 1) (zC (zD 2) zI))) (zC (zV aL hr (by decide) rfl (zC (zD 0) (zC (zD 2) zI))) zI))) zDB) (zP (zm zDB)) yT) (zL (zt 4 nd (zAe rfl ab (zB5 "place" rfl (zp (osc:=zG zA7) (N:=["web","ring","order","places","left"]) (N0:=["!00","!01","!02","places","!04"]) (own:=["place"]) (by decide +kernel)) (yu rfl aa (zC (yP (zD 0) zN) zI)) (fun u0 u0 u0 u0 u0=>(zAd (zEN hr (zD 5) (zD 3)))) (fun u0 u0 u0 u0 u0=>(zD 5))))) (zP (zm (zJn (zSz (zV aQ hr (by decide) rfl (zC (zV aS hr (by decide) rfl (zC (zD 1) (zC (zD 3) zI))) (zC (zV aq hr (by decide) rfl (zC (zD 0) (zC (zD 4) zI))) zI))) zDB) (zJm (zNC (zV ag hr (by decide) rfl (zC (zV aq hr (by decide) rfl (zC (zD 0) (zC (zD 4) zI))) zI)) zBS))))))))
theorem zRf{f:Addr}{fd:FuncData}(F:Fun K "law" "law" zCt f fd)(aa:mg "range"=none)(aO:mg "max"=none)(aZ:mg "min"=none)(ac:mg "len"=none)   (aT:Df P w K mg base 2 "_law_state" ["script","k"] (spL yk))(ae:Df P w K mg base 1 "_law_take" ["state","many"] zh)(az:Df P w K mg base 2 "_law_ring" ["state","many"] zAI)(ay:Df P w K mg base 3 "web_of" ["ring"] zAK)(ag:Df P w K mg base 12 "ring_of" ["web"] zj)(b8:Df P w K mg base 3 "_law_web" ["state","most"] zB8)(ao:Df P w K mg base 2 "_law_near_wheel" ["state"] yy)(aU:Df P w K mg base 2 "_law_order" ["state","many"] zAz)(aW:Df P w K mg base 13 "_law_told" ["web","ring","order","places"] zAN)(aX:Df P w K mg base 4 "pieces" ["web"] (spL wK))(aq:Df P w K mg base 3 "kept" ["web","places"] yn)(aL:Df P w K mg base 4 "named" ["web","order"] ww)(aF:Df P w K mg base 3 "web_turned" ["web","place"] ya):zC9 P w K mg base CX0 14 f fd ["script"] (lSp K zF5):=by
 have nd:=zNh.nd
 refine zQy zKN F zNh (fun cdv A outer s H E hr=>?_) zSc
 unfold zKN
 exact(zL (zAf PassesOwn.never rfl (yu rfl aa (zC (zPn rfl rfl aO (zC zN (zC (zPm rfl rfl aZ (zC (wO rfl ac (zC (zD 0) zI)) (zC zN zI))) zI))) zI)) (zAw 1 nd) (zL (zt 2 nd (yc (zAb aT zGx hr (by decide) rfl (zC (zD 0) (zC (zD 1) zI))))) (zL (zt 3 nd (zV ay hr (by decide) rfl (zC (zV az hr (by decide) rfl (zC (zD 2) (zC (zAA zN (zV ae hr (by decide) rfl (zC (zD 2) (zC zN zI)))) zI))) zI))) (zL (zA8 (zP2 (zV ag hr (by decide) rfl (zC (zD 3) zI)) zBS) (zP (zm zDB)) yT) (zP (zAf PassesOwn.never rfl (zEt (zAv (zC (zD 3) (zC (zV b8 hr (by decide) rfl (zC (zD 2) (zC zN zI))) (zC (zV ao hr (by decide) rfl (zC (zD 2) zI)) zI))))) (zAw 4 nd) (zL (zt 5 nd (zV ag hr (by decide) rfl (zC (zD 4) zI))) (zL (zt 6 nd (zV aU hr (by decide) rfl (zC (zD 2) (zC (yP (zD 4) zN) zI)))) (zL (zt 7 nd (zDJ (zD 6) zGs (zB6 (zV ae hr (by decide) rfl (zC (zD 2) (zC (yP (zD 4) zN) zI)))))) (zL (zA8 (W2.test (w_and (zIK (zD 5) zBS) (zL5 (zHk (zDE (zV aW hr (by decide) rfl (zC (zD 4) (zC (zD 5) (zC (zD 6) (zC (zD 7) zI)))))))))) (zP (zm zDB)) yT) (zL (zDH 8 "piece" rfl (zp (osc:=zG zCt) (N:=["script","k","state","own","web","ring","order","cut_off","none","wheel"]) (N0:=["!00","!01","!02","!03","web","!05","!06","!07","!08","!09"]) (own:=["piece"]) (by decide +kernel)) (zEt (zAb aX zII hr (by decide) rfl (zC (zD 4) zI))) (fun u0 u0 u0 u0 u0=>(zAd (zP2 (zV ag hr (by decide) rfl (zC (zV aq hr (by decide) rfl (zC (zD 4) (zC (zD 10) zI))) zI)) zBS))) (fun u0 u0 u0 u0 u0=>(zD 10)) nd) (zL (zA8 (W2.test (w_or (zMA hr (zFG (zD 5) zBS) (zSx hr (zD 8) (yc (zAv zI)))) (zJo (zMA hr (zFG (zD 5) zBS) (zFG (zV ag hr (by decide) rfl (zC (zV aL hr (by decide) rfl (zC (zD 4) (zC (zD 6) zI))) zI)) zBS))))) (zP (zm zDB)) yT) (zP (zA8 (zMA hr (zFG (zD 5) zBS) (zFG (zV ag hr (by decide) rfl (zC (zV aF hr (by decide) rfl (zC (zD 4) (zC (yP (zD 6) zN) zI))) zI)) zBS)) (zP (zm zDB)) yT)))))))))))))) (@zPE _ _ _ _ _ _ _ _ 9 nd (by kernel_rfl) rfl (by first | exact Or.inl rfl | exact Or.inr rfl) rfl (by first | exact .inl rfl | exact .inr rfl | assumption) (zP (zm (zJn (zFG (zV ag hr (by decide) rfl (zC (zD 9) zI)) zBS) (zJm (zFG (zV ag hr (by decide) rfl (zC (wp (zC zN (zC (yP (zD 9) zN) zI))) zI)) zBS)))))))
end
theorem zRg{l:PySem.W.OpenLaw}{w:World}{K:PySem.W.Frag}{h:Heap}{mg:Str→Option Value}{fa:Addr}(X:K.In h)(G:h.Ns mainGlobals mg)(hfa:mg "law"=some (.ref fa))
  {f0:Addr} {od0 an0:Option Addr} {sl0:Array (Option Value)} {oc0 kV0 dc0 pm0 cd0 ct0:Value} {f1:Addr} {od1 an1:Option Addr} {sl1:Array (Option Value)} {oc1 kV1 dc1 pm1 cd1 ct1:Value} {f2:Addr} {od2 an2:Option Addr} {sl2:Array (Option Value)} {oc2 kV2 dc2 pm2 cd2 ct2:Value} {f3:Addr} {od3 an3:Option Addr} {sl3:Array (Option Value)} {oc3 kV3 dc3 pm3 cd3 ct3:Value} {f4:Addr} {od4 an4:Option Addr} {sl4:Array (Option Value)} {oc4 kV4 dc4 pm4 cd4 ct4:Value} {f5:Addr} {od5 an5:Option Addr} {sl5:Array (Option Value)} {oc5 kV5 dc5 pm5 cd5 ct5:Value} {f6:Addr} {od6 an6:Option Addr} {sl6:Array (Option Value)} {oc6 kV6 dc6 pm6 cd6 ct6:Value} {f7:Addr} {od7 an7:Option Addr} {sl7:Array (Option Value)} {oc7 kV7 dc7 pm7 cd7 ct7:Value} {f8:Addr} {od8 an8:Option Addr} {sl8:Array (Option Value)} {oc8 kV8 dc8 pm8 cd8 ct8:Value} {f9:Addr} {od9 an9:Option Addr} {sl9:Array (Option Value)} {oc9 kV9 dc9 pm9 cd9 ct9:Value} {f10:Addr} {od10 an10:Option Addr} {sl10:Array (Option Value)} {oc10 kV10 dc10 pm10 cd10 ct10:Value} {f11:Addr} {od11 an11:Option Addr} {sl11:Array (Option Value)} {oc11 kV11 dc11 pm11 cd11 ct11:Value} {f12:Addr} {od12 an12:Option Addr} {sl12:Array (Option Value)} {oc12 kV12 dc12 pm12 cd12 ct12:Value} {f13:Addr} {od13 an13:Option Addr} {sl13:Array (Option Value)} {oc13 kV13 dc13 pm13 cd13 ct13:Value} {f14:Addr} {od14 an14:Option Addr} {sl14:Array (Option Value)} {oc14 kV14 dc14 pm14 cd14 ct14:Value} {f15:Addr} {od15 an15:Option Addr} {sl15:Array (Option Value)} {oc15 kV15 dc15 pm15 cd15 ct15:Value} {f16:Addr} {od16 an16:Option Addr} {sl16:Array (Option Value)} {oc16 kV16 dc16 pm16 cd16 ct16:Value} {f17:Addr} {od17 an17:Option Addr} {sl17:Array (Option Value)} {oc17 kV17 dc17 pm17 cd17 ct17:Value} {f18:Addr} {od18 an18:Option Addr} {sl18:Array (Option Value)} {oc18 kV18 dc18 pm18 cd18 ct18:Value} {f19:Addr} {od19 an19:Option Addr} {sl19:Array (Option Value)} {oc19 kV19 dc19 pm19 cd19 ct19:Value} {f20:Addr} {od20 an20:Option Addr} {sl20:Array (Option Value)} {oc20 kV20 dc20 pm20 cd20 ct20:Value} {f21:Addr} {od21 an21:Option Addr} {sl21:Array (Option Value)} {oc21 kV21 dc21 pm21 cd21 ct21:Value} {f22:Addr} {od22 an22:Option Addr} {sl22:Array (Option Value)} {oc22 kV22 dc22 pm22 cd22 ct22:Value} {f23:Addr} {od23 an23:Option Addr} {sl23:Array (Option Value)} {oc23 kV23 dc23 pm23 cd23 ct23:Value} {f24:Addr} {od24 an24:Option Addr} {sl24:Array (Option Value)} {oc24 kV24 dc24 pm24 cd24 ct24:Value} {f25:Addr} {od25 an25:Option Addr} {sl25:Array (Option Value)} {oc25 kV25 dc25 pm25 cd25 ct25:Value} {f26:Addr} {od26 an26:Option Addr} {sl26:Array (Option Value)} {oc26 kV26 dc26 pm26 cd26 ct26:Value} {f27:Addr} {od27 an27:Option Addr} {sl27:Array (Option Value)} {oc27 kV27 dc27 pm27 cd27 ct27:Value} {f28:Addr} {od28 an28:Option Addr} {sl28:Array (Option Value)} {oc28 kV28 dc28 pm28 cd28 ct28:Value} {f29:Addr} {od29 an29:Option Addr} {sl29:Array (Option Value)} {oc29 kV29 dc29 pm29 cd29 ct29:Value} {f30:Addr} {od30 an30:Option Addr} {sl30:Array (Option Value)} {oc30 kV30 dc30 pm30 cd30 ct30:Value} {f31:Addr} {od31 an31:Option Addr} {sl31:Array (Option Value)} {oc31 kV31 dc31 pm31 cd31 ct31:Value} {f32:Addr} {od32 an32:Option Addr} {sl32:Array (Option Value)} {oc32 kV32 dc32 pm32 cd32 ct32:Value} {am:Tok} {au:Tok}
  (a0:PySem.W.nsIn K mainGlobals "is_number"=some (some (.ref f0))) (l0:K.lookup f0=some ⟨oc0,od0,.func (PySem.W.fnOf "is_number" "is_number" (zZ wc) (zW wc) (zG wc) .none kV0 dc0 pm0 an0 cd0 ct0),sl0⟩) (c0:PySem.W.codeIn K cd0 "is_number"=true) (k0:PySem.W.keepIn K (.ref f0)=true)
  (a1:PySem.W.nsIn K mainGlobals "pairs"=some (some (.ref f1))) (l1:K.lookup f1=some ⟨oc1,od1,.func (PySem.W.fnOf "pairs" "pairs" (zZ zCa) (zW zCa) (zG zCa) .none kV1 dc1 pm1 an1 cd1 ct1),sl1⟩) (c1:PySem.W.codeIn K cd1 "pairs"=true) (k1:PySem.W.keepIn K (.ref f1)=true)
  (a2:PySem.W.nsIn K mainGlobals "pairs_of"=some (some (.ref f2))) (l2:K.lookup f2=some ⟨oc2,od2,.func (PySem.W.fnOf "pairs_of" "pairs_of" (zZ zAO) (zW zAO) (zG zAO) .none kV2 dc2 pm2 an2 cd2 ct2),sl2⟩) (c2:PySem.W.codeIn K cd2 "pairs_of"=true) (k2:PySem.W.keepIn K (.ref f2)=true)
  (a3:PySem.W.nsIn K mainGlobals "refuse_more"=some (some (.ref f3))) (l3:K.lookup f3=some ⟨oc3,od3,.func (PySem.W.fnOf "refuse_more" "refuse_more" (zZ wA) (zW wA) (zG wA) .none kV3 dc3 pm3 an3 cd3 ct3),sl3⟩) (c3:PySem.W.codeIn K cd3 "refuse_more"=true) (k3:PySem.W.keepIn K (.ref f3)=true)
  (a4:PySem.W.nsIn K mainGlobals "is_ring"=some (some (.ref f4))) (l4:K.lookup f4=some ⟨oc4,od4,.func (PySem.W.fnOf "is_ring" "is_ring" (zZ wd) (zW wd) (zG wd) .none kV4 dc4 pm4 an4 cd4 ct4),sl4⟩) (c4:PySem.W.codeIn K cd4 "is_ring"=true) (k4:PySem.W.keepIn K (.ref f4)=true)
  (a5:PySem.W.nsIn K mainGlobals "cross"=some (some (.ref f5))) (l5:K.lookup f5=some ⟨oc5,od5,.func (PySem.W.fnOf "cross" "cross" (zZ zCb) (zW zCb) (zG zCb) .none kV5 dc5 pm5 an5 cd5 ct5),sl5⟩) (c5:PySem.W.codeIn K cd5 "cross"=true) (k5:PySem.W.keepIn K (.ref f5)=true)
  (a6:PySem.W.nsIn K mainGlobals "web_of"=some (some (.ref f6))) (l6:K.lookup f6=some ⟨oc6,od6,.func (PySem.W.fnOf "web_of" "web_of" (zZ zA3) (zW zA3) (zG zA3) .none kV6 dc6 pm6 an6 cd6 ct6),sl6⟩) (c6:PySem.W.codeIn K cd6 "web_of"=true) (k6:PySem.W.keepIn K (.ref f6)=true)
  (a7:PySem.W.nsIn K mainGlobals "named_ring"=some (some (.ref f7))) (l7:K.lookup f7=some ⟨oc7,od7,.func (PySem.W.fnOf "named_ring" "named_ring" (zZ yp) (zW yp) (zG yp) .none kV7 dc7 pm7 an7 cd7 ct7),sl7⟩) (c7:PySem.W.codeIn K cd7 "named_ring"=true) (k7:PySem.W.keepIn K (.ref f7)=true)
  (a8:PySem.W.nsIn K mainGlobals "without"=some (some (.ref f8))) (l8:K.lookup f8=some ⟨oc8,od8,.func (PySem.W.fnOf "without" "without" (zZ wf) (zW wf) (zG wf) .none kV8 dc8 pm8 an8 cd8 ct8),sl8⟩) (c8:PySem.W.codeIn K cd8 "without"=true) (k8:PySem.W.keepIn K (.ref f8)=true)
  (a9:PySem.W.nsIn K mainGlobals "tied"=some (some (.ref f9))) (l9:K.lookup f9=some ⟨oc9,od9,.func (PySem.W.fnOf "tied" "tied" (zZ zDy) (zW zDy) (zG zDy) .none kV9 dc9 pm9 an9 cd9 ct9),sl9⟩) (c9:PySem.W.codeIn K cd9 "tied"=true) (k9:PySem.W.keepIn K (.ref f9)=true)
  (a10:PySem.W.nsIn K mainGlobals "around"=some (some (.ref f10))) (l10:K.lookup f10=some ⟨oc10,od10,.func (PySem.W.fnOf "around" "around" (zZ zA4) (zW zA4) (zG zA4) .none kV10 dc10 pm10 an10 cd10 ct10),sl10⟩) (c10:PySem.W.codeIn K cd10 "around"=true) (k10:PySem.W.keepIn K (.ref f10)=true)
  (a11:PySem.W.nsIn K mainGlobals "kept"=some (some (.ref f11))) (l11:K.lookup f11=some ⟨oc11,od11,.func (PySem.W.fnOf "kept" "kept" (zZ zC5) (zW zC5) (zG zC5) .none kV11 dc11 pm11 an11 cd11 ct11),sl11⟩) (c11:PySem.W.codeIn K cd11 "kept"=true) (k11:PySem.W.keepIn K (.ref f11)=true)
  (a12:PySem.W.nsIn K mainGlobals "named"=some (some (.ref f12))) (l12:K.lookup f12=some ⟨oc12,od12,.func (PySem.W.fnOf "named" "named" (zZ zCc) (zW zCc) (zG zCc) .none kV12 dc12 pm12 an12 cd12 ct12),sl12⟩) (c12:PySem.W.codeIn K cd12 "named"=true) (k12:PySem.W.keepIn K (.ref f12)=true)
  (a13:PySem.W.nsIn K mainGlobals "pieces"=some (some (.ref f13))) (l13:K.lookup f13=some ⟨oc13,od13,.func (PySem.W.fnOf "pieces" "pieces" (zZ zA5) (zW zA5) (zG zA5) .none kV13 dc13 pm13 an13 cd13 ct13),sl13⟩) (c13:PySem.W.codeIn K cd13 "pieces"=true) (k13:PySem.W.keepIn K (.ref f13)=true)
  (a14:PySem.W.nsIn K mainGlobals "piece_of"=some (some (.ref f14))) (l14:K.lookup f14=some ⟨oc14,od14,.func (PySem.W.fnOf "piece_of" "piece_of" (zZ zAP) (zW zAP) (zG zAP) .none kV14 dc14 pm14 an14 cd14 ct14),sl14⟩) (c14:PySem.W.codeIn K cd14 "piece_of"=true) (k14:PySem.W.keepIn K (.ref f14)=true)
  (a15:PySem.W.nsIn K mainGlobals "tells"=some (some (.ref f15))) (l15:K.lookup f15=some ⟨oc15,od15,.func (PySem.W.fnOf "tells" "tells" (zZ zCd) (zW zCd) (zG zCd) .none kV15 dc15 pm15 an15 cd15 ct15),sl15⟩) (c15:PySem.W.codeIn K cd15 "tells"=true) (k15:PySem.W.keepIn K (.ref f15)=true)
  (a16:PySem.W.nsIn K mainGlobals "ring_of"=some (some (.ref f16))) (l16:K.lookup f16=some ⟨oc16,od16,.func (PySem.W.fnOf "ring_of" "ring_of" (zZ zAt) (zW zAt) (zG zAt) .none kV16 dc16 pm16 an16 cd16 ct16),sl16⟩) (c16:PySem.W.codeIn K cd16 "ring_of"=true) (k16:PySem.W.keepIn K (.ref f16)=true)
  (a17:PySem.W.nsIn K mainGlobals "near_order"=some (some (.ref f17))) (l17:K.lookup f17=some ⟨oc17,od17,.func (PySem.W.fnOf "near_order" "near_order" (zZ yX) (zW yX) (zG yX) .none kV17 dc17 pm17 an17 cd17 ct17),sl17⟩) (c17:PySem.W.codeIn K cd17 "near_order"=true) (k17:PySem.W.keepIn K (.ref f17)=true)
  (a18:PySem.W.nsIn K mainGlobals "tied_among"=some (some (.ref f18))) (l18:K.lookup f18=some ⟨oc18,od18,.func (PySem.W.fnOf "tied_among" "tied_among" (zZ yq) (zW yq) (zG yq) .none kV18 dc18 pm18 an18 cd18 ct18),sl18⟩) (c18:PySem.W.codeIn K cd18 "tied_among"=true) (k18:PySem.W.keepIn K (.ref f18)=true)
  (a19:PySem.W.nsIn K mainGlobals "grown"=some (some (.ref f19))) (l19:K.lookup f19=some ⟨oc19,od19,.func (PySem.W.fnOf "grown" "grown" (zZ yr) (zW yr) (zG yr) .none kV19 dc19 pm19 an19 cd19 ct19),sl19⟩) (c19:PySem.W.codeIn K cd19 "grown"=true) (k19:PySem.W.keepIn K (.ref f19)=true)
  (a20:PySem.W.nsIn K mainGlobals "with_chord"=some (some (.ref f20))) (l20:K.lookup f20=some ⟨oc20,od20,.func (PySem.W.fnOf "with_chord" "with_chord" (zZ yt) (zW yt) (zG yt) .none kV20 dc20 pm20 an20 cd20 ct20),sl20⟩) (c20:PySem.W.codeIn K cd20 "with_chord"=true) (k20:PySem.W.keepIn K (.ref f20)=true)
  (a21:PySem.W.nsIn K mainGlobals "web_turned"=some (some (.ref f21))) (l21:K.lookup f21=some ⟨oc21,od21,.func (PySem.W.fnOf "web_turned" "web_turned" (zZ wL) (zW wL) (zG wL) .none kV21 dc21 pm21 an21 cd21 ct21),sl21⟩) (c21:PySem.W.codeIn K cd21 "web_turned"=true) (k21:PySem.W.keepIn K (.ref f21)=true)
  (a22:PySem.W.nsIn K mainGlobals "_law_cell_at"=some (some (.ref f22))) (l22:K.lookup f22=some ⟨oc22,od22,.func (PySem.W.fnOf "_law_cell_at" "_law_cell_at" (zZ wg) (zW wg) (zG wg) .none kV22 dc22 pm22 an22 cd22 ct22),sl22⟩) (c22:PySem.W.codeIn K cd22 "_law_cell_at"=true) (k22:PySem.W.keepIn K (.ref f22)=true)
  (a23:PySem.W.nsIn K mainGlobals "_law_state"=some (some (.ref f23))) (l23:K.lookup f23=some ⟨oc23,od23,.func (PySem.W.fnOf "_law_state" "_law_state" (zZ zAu) (zW zAu) (zG zAu) .none kV23 dc23 pm23 an23 cd23 ct23),sl23⟩) (c23:PySem.W.codeIn K cd23 "_law_state"=true) (k23:PySem.W.keepIn K (.ref f23)=true)
  (a24:PySem.W.nsIn K mainGlobals "_law_take"=some (some (.ref f24))) (l24:K.lookup f24=some ⟨oc24,od24,.func (PySem.W.fnOf "_law_take" "_law_take" (zZ zBa) (zW zBa) (zG zBa) .none kV24 dc24 pm24 an24 cd24 ct24),sl24⟩) (c24:PySem.W.codeIn K cd24 "_law_take"=true) (k24:PySem.W.keepIn K (.ref f24)=true)
  (a25:PySem.W.nsIn K mainGlobals "_law_pairs"=some (some (.ref f25))) (l25:K.lookup f25=some ⟨oc25,od25,.func (PySem.W.fnOf "_law_pairs" "_law_pairs" (zZ zAQ) (zW zAQ) (zG zAQ) .none kV25 dc25 pm25 an25 cd25 ct25),sl25⟩) (c25:PySem.W.codeIn K cd25 "_law_pairs"=true) (k25:PySem.W.keepIn K (.ref f25)=true)
  (a26:PySem.W.nsIn K mainGlobals "_law_web"=some (some (.ref f26))) (l26:K.lookup f26=some ⟨oc26,od26,.func (PySem.W.fnOf "_law_web" "_law_web" (zZ zBI) (zW zBI) (zG zBI) .none kV26 dc26 pm26 an26 cd26 ct26),sl26⟩) (c26:PySem.W.codeIn K cd26 "_law_web"=true) (k26:PySem.W.keepIn K (.ref f26)=true)
  (a27:PySem.W.nsIn K mainGlobals "_law_ring"=some (some (.ref f27))) (l27:K.lookup f27=some ⟨oc27,od27,.func (PySem.W.fnOf "_law_ring" "_law_ring" (zZ zA6) (zW zA6) (zG zA6) .none kV27 dc27 pm27 an27 cd27 ct27),sl27⟩) (c27:PySem.W.codeIn K cd27 "_law_ring"=true) (k27:PySem.W.keepIn K (.ref f27)=true)
  (a28:PySem.W.nsIn K mainGlobals "_law_web_of"=some (some (.ref f28))) (l28:K.lookup f28=some ⟨oc28,od28,.func (PySem.W.fnOf "_law_web_of" "_law_web_of" (zZ wY) (zW wY) (zG wY) .none kV28 dc28 pm28 an28 cd28 ct28),sl28⟩) (c28:PySem.W.codeIn K cd28 "_law_web_of"=true) (k28:PySem.W.keepIn K (.ref f28)=true)
  (a29:PySem.W.nsIn K mainGlobals "_law_near_wheel"=some (some (.ref f29))) (l29:K.lookup f29=some ⟨oc29,od29,.func (PySem.W.fnOf "_law_near_wheel" "_law_near_wheel" (zZ yR) (zW yR) (zG yR) .none kV29 dc29 pm29 an29 cd29 ct29),sl29⟩) (c29:PySem.W.codeIn K cd29 "_law_near_wheel"=true) (k29:PySem.W.keepIn K (.ref f29)=true)
  (a30:PySem.W.nsIn K mainGlobals "_law_order"=some (some (.ref f30))) (l30:K.lookup f30=some ⟨oc30,od30,.func (PySem.W.fnOf "_law_order" "_law_order" (zZ zAR) (zW zAR) (zG zAR) .none kV30 dc30 pm30 an30 cd30 ct30),sl30⟩) (c30:PySem.W.codeIn K cd30 "_law_order"=true) (k30:PySem.W.keepIn K (.ref f30)=true)
  (a31:PySem.W.nsIn K mainGlobals "_law_told"=some (some (.ref f31))) (l31:K.lookup f31=some ⟨oc31,od31,.func (PySem.W.fnOf "_law_told" "_law_told" (zZ zA7) (zW zA7) (zG zA7) .none kV31 dc31 pm31 an31 cd31 ct31),sl31⟩) (c31:PySem.W.codeIn K cd31 "_law_told"=true) (k31:PySem.W.keepIn K (.ref f31)=true)
  (a32:PySem.W.nsIn K mainGlobals "law"=some (some (.ref f32))) (l32:K.lookup f32=some ⟨oc32,od32,.func (PySem.W.fnOf "law" "law" (zZ zCt) (zW zCt) (zG zCt) .none kV32 dc32 pm32 an32 cd32 ct32),sl32⟩) (c32:PySem.W.codeIn K cd32 "law"=true) (k32:PySem.W.keepIn K (.ref f32)=true)
  (aw:PySem.W.nsIn K mainGlobals "MOST_PLACES"=some (some (.int 9 am)))
  (aG:PySem.W.nsIn K mainGlobals "MOST_FOUND"=some (some (.int 7 au)))
  (aH:PySem.W.nsIn K mainGlobals "isinstance"=some none)
  (bn:PySem.W.nsIn K mainGlobals "int"=some none)
  (bf:PySem.W.nsIn K mainGlobals "bool"=some none)
  (ba:PySem.W.nsIn K mainGlobals "tuple"=some none)
  (bb:PySem.W.nsIn K mainGlobals "range"=some none)
  (bo:PySem.W.nsIn K mainGlobals "len"=some none)
  (bp:PySem.W.nsIn K mainGlobals "all"=some none)
  (bq:PySem.W.nsIn K mainGlobals "min"=some none)
  (br:PySem.W.nsIn K mainGlobals "max"=some none)
  (bu:PySem.W.nsIn K mainGlobals "any"=some none)
  (aY:PySem.W.nsIn K mainGlobals "sorted"=some none)
  (bv:PySem.W.nsIn K mainGlobals "sum"=some none)
  (bw:PySem.W.nsIn K mainGlobals "set"=some none)
  (bg:PySem.W.nsIn K mainGlobals "list"=some none) :
  ∃ fd:FuncData,(∀(s:Shared) (v:Value),BindsTo s fd ⟨[v],[]⟩ [("script",v)])∧∀ base:Heap,K.In base→base.Ns mainGlobals mg→zC9 l.prog w K mg base CX0 14 fa fd ["script"] (lSp K zF5):=by
 have e:=hfa.symm.trans (PySem.W.mg_of X G a32)
 cases e
 have ap:=PySem.W.mg_of X G aw
 have aB:=PySem.W.mg_of X G aG
 have ah:=PySem.W.mg_none_of X G aH
 have aV:=PySem.W.mg_none_of X G bn
 have bc:=PySem.W.mg_none_of X G bf
 have ab:=PySem.W.mg_none_of X G ba
 have aa:=PySem.W.mg_none_of X G bb
 have ac:=PySem.W.mg_none_of X G bo
 have bh:=PySem.W.mg_none_of X G bp
 have aZ:=PySem.W.mg_none_of X G bq
 have aO:=PySem.W.mg_none_of X G br
 have bi:=PySem.W.mg_none_of X G bu
 have ai:=PySem.W.mg_none_of X G aY
 have bj:=PySem.W.mg_none_of X G bv
 have bm:=PySem.W.mg_none_of X G bw
 have aD:=PySem.W.mg_none_of X G bg
 refine⟨PySem.W.fnOf "law" "law" (zZ zCt) (zW zCt) (zG zCt) .none kV32 dc32 pm32 an32 cd32 ct32,fun s v=>.of_eq rfl,fun base kb u0 =>?_⟩
 have aI:Df l.prog w K mg base 1 "is_number" ["thing"] yo:=zHV (zf (st:=wc) l0 c0 k0) (PySem.W.mg_of X G a0) ah aV bc
 have aj:Df l.prog w K mg base 1 "pairs_of" ["places"] (spL yL):=zIi (zf (st:=zAO) l2 c2 k2) (PySem.W.mg_of X G a2) aa ac
 have av:Df l.prog w K mg base 1 "refuse_more" ["many","most"] wE:=zFZ (zf (st:=wA) l3 c3 k3) (PySem.W.mg_of X G a3) 
 have b7:Df l.prog w K mg base 1 "cross" ["ring","one","other"] zBX:=zNj (zf (st:=zCb) l5 c5 k5) (PySem.W.mg_of X G a5) 
 have aE:Df l.prog w K mg base 1 "named_ring" ["ring","order"] yz:=zFi (zf (st:=yp) l7 c7 k7) (PySem.W.mg_of X G a7) ab
 have aS:Df l.prog w K mg base 1 "without" ["ring","places"] zAM:=zJX (zf (st:=wf) l8 c8 k8) (PySem.W.mg_of X G a8) aa ac ab
 have aA:Df l.prog w K mg base 1 "tied" ["web","one","other"] wT:=zPX (zf (st:=zDy) l9 c9 k9) (PySem.W.mg_of X G a9) aZ aO
 have af:Df l.prog w K mg base 1 "with_chord" ["ring","place","crossed"] (spL yb):=zFl (zf (st:=yt) l20 c20 k20) (PySem.W.mg_of X G a20) bj aa ac
 have aJ:Df l.prog w K mg base 1 "_law_cell_at" ["script","k"] wv:=zHW (zf (st:=wg) l22 c22 k22) (PySem.W.mg_of X G a22) ac
 have ae:Df l.prog w K mg base 1 "_law_take" ["state","many"] zh:=zLj (zf (st:=zBa) l24 c24 k24) (PySem.W.mg_of X G a24) 
 have ak:Df l.prog w K mg base 1 "_law_pairs" ["many"] (spL yj):=zJa (zf (st:=zAQ) l25 c25 k25) (PySem.W.mg_of X G a25) aa
 have aK:Df l.prog w K mg base 2 "pairs" ["many"] (spL yx):=zNi (zf (st:=zCa) l1 c1 k1) (PySem.W.mg_of X G a1) ab aa aj
 have aR:Df l.prog w K mg base 2 "is_ring" ["thing"] zA2:=zJW (zf (st:=wd) l4 c4 k4) (PySem.W.mg_of X G a4) ah ab ac bh aa ap aI
 have ax:Df l.prog w K mg base 2 "around" ["web","place"] zAG:=zLg (zf (st:=zA4) l10 c10 k10) (PySem.W.mg_of X G a10) ab aa aA
 have ad:Df l.prog w K mg base 2 "tied_among" ["web","place","others"] (spL zw):=zFk (zf (st:=yq) l18 c18 k18) (PySem.W.mg_of X G a18) aA
 have aT:Df l.prog w K mg base 2 "_law_state" ["script","k"] (spL yk):=zJZ (zf (st:=zAu) l23 c23 k23) (PySem.W.mg_of X G a23) aJ
 have az:Df l.prog w K mg base 2 "_law_ring" ["state","many"] zAI:=zLk (zf (st:=zA6) l27 c27 k27) (PySem.W.mg_of X G a27) aD aa ab ac ae
 have aN:Df l.prog w K mg base 2 "_law_web_of" ["ring"] wa:=zIk (zf (st:=wY) l28 c28 k28) (PySem.W.mg_of X G a28) ac ab ak
 have ao:Df l.prog w K mg base 2 "_law_near_wheel" ["state"] yy:=zEK (zf (st:=yR) l29 c29 k29) (PySem.W.mg_of X G a29) aV aD aa ac ai ab ae
 have aU:Df l.prog w K mg base 2 "_law_order" ["state","many"] zAz:=zJb (zf (st:=zAR) l30 c30 k30) (PySem.W.mg_of X G a30) aD aa ab ac ae
 have ay:Df l.prog w K mg base 3 "web_of" ["ring"] zAK:=zLf (zf (st:=zA3) l6 c6 k6) (PySem.W.mg_of X G a6) ac ab aK b7
 have aq:Df l.prog w K mg base 3 "kept" ["web","places"] yn:=zPY (zf (st:=zC5) l11 c11 k11) (PySem.W.mg_of X G a11) ac ab aK aA
 have aM:Df l.prog w K mg base 3 "piece_of" ["web","place"] zAW:=zIj (zf (st:=zAP) l14 c14 k14) (PySem.W.mg_of X G a14) ac ab ai ax
 have aC:Df l.prog w K mg base 3 "near_order" ["web"] (spL yM):=zFj (zf (st:=yX) l17 c17 k17) (PySem.W.mg_of X G a17) ac aa aO ad
 have aF:Df l.prog w K mg base 3 "web_turned" ["web","place"] ya:=zFm (zf (st:=wL) l21 c21 k21) (PySem.W.mg_of X G a21) ab ai bm ax aj
 have b8:Df l.prog w K mg base 3 "_law_web" ["state","most"] zB8:=zNm (zf (st:=zBI) l26 c26 k26) (PySem.W.mg_of X G a26) ab ae ak az aN
 have aL:Df l.prog w K mg base 4 "named" ["web","order"] ww:=zNk (zf (st:=zCc) l12 c12 k12) (PySem.W.mg_of X G a12) aq
 have aX:Df l.prog w K mg base 4 "pieces" ["web"] (spL wK):=zLh (zf (st:=zA5) l13 c13 k13) (PySem.W.mg_of X G a13) aa bi aM
 have aQ:Df l.prog w K mg base 4 "tells" ["ring","web"] zAZ:=zNl (zf (st:=zCd) l15 c15 k15) (PySem.W.mg_of X G a15) ay
 have bx:Df l.prog w K mg base 3 "grown" ["web","order","done","ring"] (yH 0):=zLi (zf (st:=yr) l19 c19 k19) (PySem.W.mg_of X G a19)
 have bz:Df l.prog w K mg base 4 "grown" ["web","order","done","ring"] (yH 1):=zAa (zf (st:=yr) l19 c19 k19) (PySem.W.mg_of X G a19) ac ad (by decide) af (by decide) bx
 have bA:Df l.prog w K mg base 5 "grown" ["web","order","done","ring"] (yH 2):=zAa (zf (st:=yr) l19 c19 k19) (PySem.W.mg_of X G a19) ac ad (by decide) af (by decide) bz
 have bB:Df l.prog w K mg base 6 "grown" ["web","order","done","ring"] (yH 3):=zAa (zf (st:=yr) l19 c19 k19) (PySem.W.mg_of X G a19) ac ad (by decide) af (by decide) bA
 have bC:Df l.prog w K mg base 7 "grown" ["web","order","done","ring"] (yH 4):=zAa (zf (st:=yr) l19 c19 k19) (PySem.W.mg_of X G a19) ac ad (by decide) af (by decide) bB
 have bD:Df l.prog w K mg base 8 "grown" ["web","order","done","ring"] (yH 5):=zAa (zf (st:=yr) l19 c19 k19) (PySem.W.mg_of X G a19) ac ad (by decide) af (by decide) bC
 have bE:Df l.prog w K mg base 9 "grown" ["web","order","done","ring"] (yH 6):=zAa (zf (st:=yr) l19 c19 k19) (PySem.W.mg_of X G a19) ac ad (by decide) af (by decide) bD
 have bF:Df l.prog w K mg base 10 "grown" ["web","order","done","ring"] (yH 7):=zAa (zf (st:=yr) l19 c19 k19) (PySem.W.mg_of X G a19) ac ad (by decide) af (by decide) bE
 have aP:Df l.prog w K mg base 11 "grown" ["web","order","done","ring"] (yH 8):=zAa (zf (st:=yr) l19 c19 k19) (PySem.W.mg_of X G a19) ac ad (by decide) af (by decide) bF
 have ag:Df l.prog w K mg base 12 "ring_of" ["web"] zj:=zJY (zf (st:=zAt) l16 c16 k16) (PySem.W.mg_of X G a16) aB av aC aP
 have aW:Df l.prog w K mg base 13 "_law_told" ["web","ring","order","places"] zAN:=zLl (zf (st:=zA7) l31 c31 k31) (PySem.W.mg_of X G a31) ab aa aR aQ aE aL aS aq ag
 exact zRf (zf (st:=zCt) l32 c32 k32) aa aO aZ ac aT ae az ay ag b8 ao aU aW aX aq aL aF
end K
open PySem PySem.W PyProof.Rows
set_option maxRecDepth 100000 in
set_option maxHeartbeats 0 in
theorem PySem.Challenge.cw_chordwebs_k54_whole_told_webs_holds : PySem.Challenge.rw_chordwebs_k54_whole_told_webs.Holds := by
 w_on;o_law;k_head;(case hw=>w_witness2)
 k_fill
 refine L3.zMM (l:=PySem.Challenge.rw_chordwebs_k54_whole_told_webs) (k:=14) rfl rfl ⟨rfl,by decide,by decide⟩ (fun w h Y=>⟨PySem.W.kIn_of Y,[],fun u0=>"",⟨(fun u0 h=>nomatch h),(fun u0 h=>nomatch h),(fun u0 h=>nomatch h),fun x hx=>nomatch hx⟩⟩) ?F
 case F =>
  intro w mg fa h KX G hmg
  refine' K.zRg KX G hmg ?a0 ?l0 ?c0 ?k0 ?a1 ?l1 ?c1 ?k1 ?a2 ?l2 ?c2 ?k2 ?a3 ?l3 ?c3 ?k3 ?a4 ?l4 ?c4 ?k4 ?a5 ?l5 ?c5 ?k5 ?a6 ?l6 ?c6 ?k6 ?a7 ?l7 ?c7 ?k7 ?a8 ?l8 ?c8 ?k8 ?a9 ?l9 ?c9 ?k9 ?a10 ?l10 ?c10 ?k10 ?a11 ?l11 ?c11 ?k11 ?a12 ?l12 ?c12 ?k12 ?a13 ?l13 ?c13 ?k13 ?a14 ?l14 ?c14 ?k14 ?a15 ?l15 ?c15 ?k15 ?a16 ?l16 ?c16 ?k16 ?a17 ?l17 ?c17 ?k17 ?a18 ?l18 ?c18 ?k18 ?a19 ?l19 ?c19 ?k19 ?a20 ?l20 ?c20 ?k20 ?a21 ?l21 ?c21 ?k21 ?a22 ?l22 ?c22 ?k22 ?a23 ?l23 ?c23 ?k23 ?a24 ?l24 ?c24 ?k24 ?a25 ?l25 ?c25 ?k25 ?a26 ?l26 ?c26 ?k26 ?a27 ?l27 ?c27 ?k27 ?a28 ?l28 ?c28 ?k28 ?a29 ?l29 ?c29 ?k29 ?a30 ?l30 ?c30 ?k30 ?a31 ?l31 ?c31 ?k31 ?a32 ?l32 ?c32 ?k32 ?aw ?aG ?aH ?bn ?bf ?ba ?bb ?bo ?bp ?bq ?br ?bu ?aY ?bv ?bw ?bg
  (case a0=>k_is)
  (case l0=>k_is)
  (case c0=>k_is)
  (case k0=>k_is)
  (case a1=>k_is)
  (case l1=>k_is)
  (case c1=>k_is)
  (case k1=>k_is)
  (case a2=>k_is)
  (case l2=>k_is)
  (case c2=>k_is)
  (case k2=>k_is)
  (case a3=>k_is)
  (case l3=>k_is)
  (case c3=>k_is)
  (case k3=>k_is)
  (case a4=>k_is)
  (case l4=>k_is)
  (case c4=>k_is)
  (case k4=>k_is)
  (case a5=>k_is)
  (case l5=>k_is)
  (case c5=>k_is)
  (case k5=>k_is)
  (case a6=>k_is)
  (case l6=>k_is)
  (case c6=>k_is)
  (case k6=>k_is)
  (case a7=>k_is)
  (case l7=>k_is)
  (case c7=>k_is)
  (case k7=>k_is)
  (case a8=>k_is)
  (case l8=>k_is)
  (case c8=>k_is)
  (case k8=>k_is)
  (case a9=>k_is)
  (case l9=>k_is)
  (case c9=>k_is)
  (case k9=>k_is)
  (case a10=>k_is)
  (case l10=>k_is)
  (case c10=>k_is)
  (case k10=>k_is)
  (case a11=>k_is)
  (case l11=>k_is)
  (case c11=>k_is)
  (case k11=>k_is)
  (case a12=>k_is)
  (case l12=>k_is)
  (case c12=>k_is)
  (case k12=>k_is)
  (case a13=>k_is)
  (case l13=>k_is)
  (case c13=>k_is)
  (case k13=>k_is)
  (case a14=>k_is)
  (case l14=>k_is)
  (case c14=>k_is)
  (case k14=>k_is)
  (case a15=>k_is)
  (case l15=>k_is)
  (case c15=>k_is)
  (case k15=>k_is)
  (case a16=>k_is)
  (case l16=>k_is)
  (case c16=>k_is)
  (case k16=>k_is)
  (case a17=>k_is)
  (case l17=>k_is)
  (case c17=>k_is)
  (case k17=>k_is)
  (case a18=>k_is)
  (case l18=>k_is)
  (case c18=>k_is)
  (case k18=>k_is)
  (case a19=>k_is)
  (case l19=>k_is)
  (case c19=>k_is)
  (case k19=>k_is)
  (case a20=>k_is)
  (case l20=>k_is)
  (case c20=>k_is)
  (case k20=>k_is)
  (case a21=>k_is)
  (case l21=>k_is)
  (case c21=>k_is)
  (case k21=>k_is)
  (case a22=>k_is)
  (case l22=>k_is)
  (case c22=>k_is)
  (case k22=>k_is)
  (case a23=>k_is)
  (case l23=>k_is)
  (case c23=>k_is)
  (case k23=>k_is)
  (case a24=>k_is)
  (case l24=>k_is)
  (case c24=>k_is)
  (case k24=>k_is)
  (case a25=>k_is)
  (case l25=>k_is)
  (case c25=>k_is)
  (case k25=>k_is)
  (case a26=>k_is)
  (case l26=>k_is)
  (case c26=>k_is)
  (case k26=>k_is)
  (case a27=>k_is)
  (case l27=>k_is)
  (case c27=>k_is)
  (case k27=>k_is)
  (case a28=>k_is)
  (case l28=>k_is)
  (case c28=>k_is)
  (case k28=>k_is)
  (case a29=>k_is)
  (case l29=>k_is)
  (case c29=>k_is)
  (case k29=>k_is)
  (case a30=>k_is)
  (case l30=>k_is)
  (case c30=>k_is)
  (case k30=>k_is)
  (case a31=>k_is)
  (case l31=>k_is)
  (case c31=>k_is)
  (case k31=>k_is)
  (case a32=>k_is)
  (case l32=>k_is)
  (case c32=>k_is)
  (case k32=>k_is)
  (case aw=>k_is)
  (case aG=>k_is)
  (case aH=>k_is)
  (case bn=>k_is)
  (case bf=>k_is)
  (case ba=>k_is)
  (case bb=>k_is)
  (case bo=>k_is)
  (case bp=>k_is)
  (case bq=>k_is)
  (case br=>k_is)
  (case bu=>k_is)
  (case aY=>k_is)
  (case bv=>k_is)
  (case bw=>k_is)
  (case bg=>k_is)
#print axioms PySem.Challenge.cw_chordwebs_k54_whole_told_webs_holds
