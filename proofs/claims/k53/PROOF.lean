import PyProof.Rows.All
import Wide.All
import OpenK.AllK
import Wide.FinOn
import Lean
import PyProof.EqAt
import PyProof.EqKinds
import PyProof.TupleCall
import PyProof.NeKinds
import KE.KRevIter
import PyProof.Rows.Range3
import PyProof.ZipIter
import PyProof.Rows.SortRunsK
import PyProof.Rows.SortShell
import PyProof.Rows.IntRules
import PyProof.Dict
import PyProof.Conv_int_bool
import PyProof.Rows.DictRows
import PyProof.DictTable
import PyProof.SetKind
import PyProof.Rows.SetFrom
import PyProof.Rows.SortPure
import PyProof.FactsAll.set_1
import PyProof.SetRoads
import PyProof.Walks
import PyProof.CollectWalk
import PyProof.ListRange
import PyProof.TupleKey
import PyProof.IsRules
import PyProof.WalksMore
import PyProof.EnumStmt
import PyProof.Rows.EnumRows
import PyProof.SeqI3
import PyProof.StrCalls2
import PyProof.StrBlockH
import PyProof.StrLawsTight
import PyProof.StrLawsJoin
import KE.KIntText
import PyProof.AttrMiss
import PyProof.IsiH_list
import PyProof.IsiH_tuple
import KE.KDictOf
import PySem.Challenge.RW_chordwebs_k53_too_many_places
set_option Elab.async false
set_option linter.all false
set_option maxRecDepth 100000
set_option bootstrap.genMatcherCode false
set_option genSizeOf false
set_option compiler.extract_closed false
set_option genInjectivity false
local macro_rules | `(tactic| omega) => `(tactic| lia)
open PySem renaming wpAny_bind → cL, wpAny_pure → cT, wpAny_newObj_type → dN, codeAny_builtin → dZ, wpAny_holding → eu, wpAny_Call_Name_kw → eI, wpAny_mono → eN, wpAny_of_eq → eQ, wpAny_execs_cons → eS, codeAny_mono → eV, wpAny_call_entry → eY, wpAny_setState_of → fq, wpAny_updateSeq → fC, wpAny_ite_split → fJ, wpAny_rule → fO, wpAny_typeOf → fZ, wpAny_attempt → g7, wpAny_tryCatch → gc, wpAny_seqItems → gg, wpAny_specialOf → gu, wpAny_passesOwn → gx, wpAny_ite_false → gz, wpAny_field → gA, wpAny_execs_nil → gB, wpAny_newFunctionEnv_cells → gD
open Bool renaming false_eq_true → cM, false_ne_true → eK, eq_iff_iff → eM, not_eq_true' → fu, and_eq_true → fF
open List renaming set_cons_zero → cN, set_cons_succ → cO, replicate_succ → cP, length_cons → cR, replicate_zero → cS, length_nil → cU, cons_append → cV, nil_append → cW, range → cY, length_map → d7, getElem?_eq_some_iff → d8, size_toArray → dg, map → dh, replicate → di, mem_singleton → dq, mem_cons_self → dt, length_append → du, mem_cons_of_mem → dw, mem_cons → dC, mem_append_right → dF, mem_append → dH, mem_map → dI, getElem?_map → dJ, mem_range → dL, mem_of_getElem? → dM, length_take → dO, length_range → dP, getElem?_set_self → dU, lookup_cons → dW, getElem?_append_right → dY, getElem?_append_left → el, append_assoc → eA, take_append_drop → eE, extract_eq_drop_take → eF, getElem?_set_ne → eH, mem_append_left → eO, length_drop → eT, map_cons → eZ, map_map → fb, getElem?_eq_getElem → fe, filterMap_cons_some → fg, nodup_cons → fi, mem_filter → fj, append_nil → fk, mem_of_mem_take → fm, filterMap_cons → ft, getElem?_replicate → fG, Pairwise → fH, flatten_cons → fI, Perm → fK, take_of_length_le → fL, take_length → fP, getElem_mem → fQ, length_filter_le → fT, getD → fU, mem_iff_getElem → fV, map_append → fX, filterMap_cons_none → fY, map_congr_left → g8, length_eq_zero_iff → g9, reverse_singleton → gj, zip_cons_cons → gp, reverse_cons → gC, pairwise_iff_getElem → gG, not_mem_nil → gI, nodup_range → gJ, reverse_append → gL, range_succ → gR, pairwise_singleton → gS, of_mem_zip → gT
open PySem.Heap renaming get?_push_of_some → cQ, lt_size → db, get?_push_size → dc, get?_update_other → dA, get?_update_self → et, size_push → fB, SameBut → g6, get?_update_ne → gM
open Nat renaming le_refl → cX, lt_of_lt_of_le → dk, ne_of_lt → dB, le_trans → eD, lt_irrefl → eG, lt_or_ge → eL, zero_le → fh, pow_succ → fS, eq_or_lt_of_le → gm, mod_two_eq_zero_or_one → gE, lt_succ_self → gH, le_of_lt → gQ
open PyProof.Rows renaming wpS_bind → cZ, wpS_pure → d9, wpS_forRange → eh, wpS_mono → fw, wpS_reverse → gK, wpS_modify → gO
open Array renaming length_toList → da, toList_push → dG, getElem_mem → dS, toList_append → dX, mem_toList_iff → ef, getElem?_toList → eR, toList_extract → eU, size_push → eX, getElem?_eq_some_iff → fN, getD → gh, size_extract → gq
open PySem.SetTable renaming below → de, eraseAt → dD, bits → dE, runEnd → dQ, insertAt → dR, leap → eC, sizeAbove → eJ, insertAt_perm → eW, probe → fA, has → fE, layClean → fW, turns → gF
open Int renaming emod_nonneg → gU
open PySem PySem.Spec PyProof.Rows
namespace K
open PySem
@[elab_as_elim] theorem us1{m:List Value→Prop}(us:List Value)(hl:us.length=1)(h:∀ a,m [a]):m us:=match us,hl with
 | [a],_=>h a
@[elab_as_elim] theorem us2{m:List Value→Prop}(us:List Value)(hl:us.length=2)(h:∀ a b,m [a,b]):m us:=match us,hl with
 | [a,b],_=>h a b
@[elab_as_elim] theorem us3{m:List Value→Prop}(us:List Value)(hl:us.length=3)(h:∀ a b c,m [a,b,c]):m us:=match us,hl with
 | [a,b,c],_=>h a b c
end K
namespace L2
noncomputable abbrev Key:=Sum Int Str
noncomputable def zNG:Key→Value→Bool
 | .inl k,v=>Value.isInt k v
 | .inr x,v=>Value.isStrOf x v
noncomputable def zP1(w:World):Key→Int
 | .inl k=>hashInt k
 | .inr x=>hashStr w x
theorem yM:∀ {k:Key} {v:Value},zNG k v=true→(∃ i t,k=Sum.inl i∧v=Value.int i t)∨(∃ x t,k=Sum.inr x∧v=Value.str x t)
 | .inl i,v,h=>by
  obtain⟨t,e⟩:=Value.isInt_shape (k:=i) (v:=v) h
  exact .inl ⟨i,t,rfl,e⟩
 | .inr x,v,h=>by
  obtain⟨t,e⟩:=Value.isStrOf_shape (x:=x) (v:=v) h
  exact .inr ⟨x,t,rfl,e⟩
theorem zNj(a b:Int):decide ((Sum.inl a:Key)=Sum.inl b)=(a==b):=by
 by_cases e:a=b
 ·subst e;simp
 ·have h:¬ (Sum.inl a:Key)=Sum.inl b:=fun q=>e (Sum.inl.inj q)
  rw[decide_eq_false h]
  exact(beq_eq_false_iff_ne.mpr e).symm
theorem zNk(a b:Str):decide ((Sum.inr a:Key)=Sum.inr b)=decide (a=b):=by
 by_cases e:a=b
 ·subst e;simp
 ·have h:¬ (Sum.inr a:Key)=Sum.inr b:=fun q=>e (Sum.inr.inj q)
  rw[decide_eq_false h,decide_eq_false e]
theorem zNl(a:Int)(b:Str):decide ((Sum.inl a:Key)=Sum.inr b)=false:=decide_eq_false (fun q=>nomatch q)
theorem zNm(a:Str)(b:Int):decide ((Sum.inr a:Key)=Sum.inl b)=false:=decide_eq_false (fun q=>nomatch q)
noncomputable def zIL(prog:Program)(w:World):PySem.KeyKind prog w Key where
 is:=zNG
 hash:=zP1 w
 inj:=fun v a b ha hb=>by
  rcases yM ha with ⟨i,t,rfl,rfl⟩ | ⟨x,t,rfl,rfl⟩
  ·rcases yM hb with ⟨j,u,rfl,e⟩ | ⟨y,u,rfl,e⟩
   ·injection e with e1 _;rw[e1]
   ·exact nomatch e
  ·rcases yM hb with ⟨j,u,rfl,e⟩ | ⟨y,u,rfl,e⟩
   ·exact nomatch e
   ·injection e with e1 _;rw[e1]
 byValue:=fun k v h=>by
  rcases yM h with ⟨i,t,rfl,rfl⟩ | ⟨x,t,rfl,rfl⟩<;>rfl
 pyHash:=fun hv h=>by
  rcases yM hv with ⟨i,t,rfl,rfl⟩ | ⟨x,t,rfl,rfl⟩
  ·exact wpAny_pyHash_int h
  ·exact wpAny_pyHash_str h
 eqBool:=fun hu hv h=>by
  rcases yM hu with ⟨i,t,rfl,rfl⟩ | ⟨x,t,rfl,rfl⟩
  ·rcases yM hv with ⟨j,u,rfl,rfl⟩ | ⟨y,u,rfl,rfl⟩
   ·rw[zNj] at h;exact wpAny_eqBool_int h
   ·rw[zNl] at h;exact SeqAt.EqAt.int_str i t y u _ _ _ _ h
  ·rcases yM hv with ⟨j,u,rfl,rfl⟩ | ⟨y,u,rfl,rfl⟩
   ·rw[zNm] at h;exact SeqAt.EqAt.str_int x t j u _ _ _ _ h
   ·rw[zNk] at h;exact wpAny_eqBool_str h
 «strs»:=fun k x t v h=>by
  rcases yM h with ⟨i,u,rfl,e⟩ | ⟨y,u,rfl,e⟩
  ·exact nomatch e
  ·injection e with e1 _
   subst e1
   cases v<;>rfl
set_option genInjectivity true in
inductive V where
 | non | bl (b:Bool) | int (i:Int) | str (x:Str) | byt (b:Array UInt8) | flt (b:UInt64) | ref (a:Addr) | ty (n:String)
 deriving DecidableEq
noncomputable def RelV:V→Value→Prop
 | .non,u=>u=Value.none
 | .bl b,u=>u=Value.bool b
 | .int i,u=>∃ t,u=Value.int i t
 | .str x,u=>∃ t,u=Value.str x t
 | .byt b,u=>∃ t,u=Value.bytes b t
 | .flt b,u=>∃ t,u=Value.float b t
 | .ref a,u=>u=Value.ref a
 | .ty n,u=>u=Value.type n
noncomputable abbrev zT:List V→List Value→Prop:=Paired RelV
theorem zT.length{xs:List V}{us:List Value}(r:zT xs us):xs.length=us.length:=Paired.length r
theorem zT.get:∀ {xs:List V} {us:List Value} {i:Nat} {x:V},zT xs us→xs[i]?=some x→∃ u,us[i]?=some u∧RelV x u
 | _,_,_,_,.nil,e=>by simp at e
 | _,_,0,_,.cons r _,e=>by simp at e;subst e;exact⟨_,rfl,r⟩
 | _,_,i+1,x,.cons _ t,e=>by
  obtain⟨u,h1,h2⟩:=zT.get (i:=i) (x:=x) t (by simpa using e)
  exact⟨u,by simpa using h1,h2⟩
theorem zT.set{x:V}{u:Value}(r:RelV x u):∀ {xs:List V} {us:List Value} (i:Nat),zT xs us→zT (xs.set i x) (us.set i u)
 | _,_,_,.nil=>.nil
 | _,_,0,.cons _ t=>.cons r t
 | _,_,i+1,.cons q t=>.cons q (zT.set r i t)
theorem zT.append:∀ {xs ys:List V} {us ws:List Value},zT xs us→zT ys ws→zT (xs++ys) (us++ws)
 | _,_,_,_,.nil,s=>s
 | _,_,_,_,.cons r t,s=>.cons r (zT.append t s)
theorem zT.take:∀ {xs:List V} {us:List Value} (n:Nat),zT xs us→zT (xs.take n) (us.take n)
 | _,_,0,_=>.nil
 | _,_,_+1,.nil=>.nil
 | _,_,n+1,.cons r t=>.cons r (zT.take n t)
theorem zT.drop:∀ {xs:List V} {us:List Value} (n:Nat),zT xs us→zT (xs.drop n) (us.drop n)
 | _,_,0,r=>r
 | _,_,_+1,.nil=>.nil
 | _,_,n+1,.cons _ t=>zT.drop n t
noncomputable def zPE:Option V→Option Value→Prop
 | some v,some u=>RelV v u
 | none,none=>True
 | _,_=>False
noncomputable def KV{κ:Type}:List (κ×V)→List (κ×Value)→Prop:=Paired fun(p:κ×V) (q:κ×Value)=>p.1=q.1∧RelV p.2 q.2
noncomputable def kV:Key→V
 | .inl i=>.int i
 | .inr x=>.str x
set_option genInjectivity true in
inductive HO where
 /-- a list -/
 | lst (xs:List V)
 /-- a tuple (never changes) -/
 | tup (xs:List V)
 /-- a dict whose keys are ints and texts;one whose keys are tuples of ints and texts (the empty one is both) -/
 | dK (kvs:List (Key×V)) | dT (kvs:List (List Key×V))
 /-- a set of ints: its members,its size -/
 | set (S:Int→Bool) (n:Nat)
 /-- an instance of the class at C,its dict at dx,its attributes -/
 | ins (C dx:Addr) (fs:List (Str×V))
 /-- the dict of the instance at x -/
 | own (x:Addr)
 /-- the dict of an exception -/
 | xd (fs:List (Str×V))
 /-- a bound method,f of x -/
 | met (f x:Addr)
 /-- a range object lo,lo+1,.. below hi -/
 | rng (lo hi:Int)
 /-- a thing that is known to the object (the script;a dict while a loop walks it): read,never written while it is so -/
 | frz (o:Obj) (u:HO)
 /-- a code object's table -/
 | tbl (ps:Array Value)
 /-- any other thing,by what is true of its one object (a def of one's own: SetO a S n:=HO.ext fun h=>..) -/
 | ext (φ:Heap→Prop)
noncomputable abbrev Hp:=Addr→Option HO
noncomputable def wC(H:Hp)(a:Addr)(o:HO):Hp:=fun b=>if b=a then some o else H b
theorem zc{H:Hp}{a:Addr}{o:HO}:wC H a o a=some o:=by unfold wC;rw[if_pos rfl]
theorem zq{H:Hp}{a b:Addr}{o:HO}(h:b≠a):wC H a o b=H b:=by unfold wC;rw[if_neg h]
theorem zNH{H:Hp}{a b:Addr}{o u:HO}(h:H a=some o)(h':H b=some u)(d:o≠u):a≠b:=by
 intro e;subst e;rw[h] at h';exact d (Option.some.inj h')
theorem yR{H:Hp}{a b:Addr}{o:HO}(h:H a=some o)(h':H b=none):a≠b:=by
 intro e;subst e;rw[h] at h';cases h'
noncomputable def zDn(h:Heap)(a:Addr)(items:Array Value):Prop:=∃ o,h.get? a=some o∧o.cls=.type "tuple"∧(∃ n,o.data=.seq items n)∧o.dict=none
theorem zDn.isTup{h:Heap}{a:Addr}{items:Array Value}(x:zDn h a items):IsTup h a items:=let ⟨o,h1,h2,h3,_⟩:=x;⟨o,h1,h2,h3⟩
theorem zDn.lt{h:Heap}{a:Addr}{items:Array Value}(x:zDn h a items):a<h.objs.size:=x.isTup.lt
theorem zDn.new(h:Heap)(items:Array Value):zDn (h.push { cls:=.type "tuple",data:=.seq items }) h.objs.size items:=⟨_,dc _ rfl,rfl,⟨_,rfl⟩,rfl⟩
section
variable (P:Program) (w:World)
noncomputable def wp(H:Hp)(h:Heap)(a:Addr):HO→Prop
 | .lst xs=>xs.length≤sizeLine∧∃(its:List Value) (n:Nat),zT xs its∧h.get? a=some { cls:=.type "list",data:=.seq its.toArray n }
 | .tup xs=>xs.length≤sizeLine∧∃ its:List Value,zT xs its∧zDn h a its.toArray
 | .dK kvs=>kvs.length≤sizeLine∧(a==sysModules)=false∧∃ vs,KV kvs vs∧h.DictOf (zIL P w) a vs
 | .dT kvs=>kvs.length≤sizeLine∧(a==sysModules)=false∧∃ xs:List (List Key×Addr×Value),
   Paired (fun(p:List Key×V) (q:List Key×Addr×Value)=>p.1=q.1∧H q.2.1=some (.tup (p.1.map kV))∧RelV p.2 q.2.2) kvs xs ∧
   ∃ o es ep,h.get? a=some o∧o.ExactDict∧o.data=.dict es ep∧es.toList=xs.map (entryOfKey (tupleKind (zIL P w)))∧(xs.map (·.1)).Nodup
 | .set S n=>h.SetOf (intKind P w) a S n
 | .ins C dx fs=>H dx=some (.own a)∧fs.length≤1000∧dx≠a∧h.get? a=some (PySem.W.instObj C dx) ∧
   ∃ mA,h.Ns1 dx mA∧(∀ f,zPE (fs.lookup f) (mA f))∧PySem.Within mA (fs.map (·.1))
 | .own _=>∃ o,h.get? a=some o
 | .xd fs=>∃ mA,h.Ns1 a mA∧∀ f,zPE (fs.lookup f) (mA f)
 | .rng lo hi=>∃ t u v,h.get? a=some { cls:=.type "range",data:=.fields #[.int lo t,.int hi u,.int 1 v] }
 | .frz o u=>h.get? a=some o∧wp H h a u
 | .tbl ps=>∃(q:Str) (t:Tok) (vs:Array Value),ps=#[.str q t]∧h.get? a=some (PySem.W.tabObj vs)∧TriplesOk vs.toList∧∀(pos:Pos) (cv:Value),codeAmong pos vs.toList=some cv →
   ∃(c:Addr) (o:Obj) (us:Array Value) (t':Tok),cv=.ref c∧H c=some (.frz o (.own 0))∧o.data=.fields us∧us[1]?=some (.str q t')
 | .met f x=>h.get? a=some (PySem.W.methodObj (.ref f) (.ref x))
 | .ext φ=>φ h∧(∃ o,h.get? a=some o)∧∀ h1 h2:Heap,φ h1→(∀ o,h1.get? a=some o→h2.get? a=some o)→φ h2
noncomputable def HOk(H:Hp)(h:Heap):Prop:=∀ a o,H a=some o→wp P w H h a o
end
section
variable {P:Program} {w:World} {H H':Hp} {h h':Heap} {a:Addr} {o:HO}
theorem wp.lt(x:wp P w H h a o):a<h.objs.size:=by
 cases o with
 | lst xs=>obtain⟨u0,u0,u0,u0,e⟩:=x;exact db e
 | tup xs=>obtain⟨u0,u0,u0,p⟩:=x;exact p.lt
 | dK kvs=>obtain⟨u0,u0,u0,u0,o,u0,u0,e,u0⟩:=x;exact db e
 | dT kvs=>obtain⟨u0,u0,u0,u0,o,u0,u0,e,u0⟩:=x;exact db e
 | set S n=>obtain⟨o,u0,u0,u0,e,u0⟩:=x;exact db e
 | ins C dx fs=>obtain⟨u0,u0,u0,e,u0⟩:=x;exact db e
 | own y=>obtain⟨u0,e⟩:=x;exact db e
 | xd fs=>obtain⟨u0,⟨u0,u0,u0,e,u0⟩,u0⟩:=x;exact db e
 | rng lo hi=>obtain⟨u0,u0,u0,e⟩:=x;exact db e
 | frz ob u=>obtain⟨e,u0⟩:=x;exact db e
 | tbl ps=>obtain⟨u0,u0,u0,u0,e,u0⟩:=x;exact db e
 | met f y=>exact db (show h.get? a=some _ from x)
 | ext φ=>obtain⟨u0,⟨u0,e⟩,u0⟩:=x;exact db e
theorem Paired.mapP{α β:Type}{F G:α→β→Prop}:∀ {l₁:List α} {l₂:List β},Paired F l₁ l₂→(∀ a b,F a b→G a b)→Paired G l₁ l₂
 | _,_,.nil,_=>.nil
 | _,_,.cons r t,f=>.cons (f _ _ r) (Paired.mapP t f)
theorem wp.stay(x:wp P w H h a o)(k:∀ b u,(b=a∨H b=some (.own a))→h.get? b=some u→h'.get? b=some u)
  (ho:∀ b,H b=some (.own a)→H' b=some (.own a)) (ht:∀ b xs,H b=some (.tup xs)→H' b=some (.tup xs)) (hz:∀ b o u,H b=some (.frz o u)→H' b=some (.frz o u)):wp P w H' h' a o:=by
 induction o with
 | lst xs=>obtain⟨z,its,n,r,e⟩:=x;exact⟨z,its,n,r,k _ _ (.inl rfl) e⟩
 | tup xs=>obtain⟨z,its,r,ob,e,c⟩:=x;exact⟨z,its,r,ob,k _ _ (.inl rfl) e,c⟩
 | dK kvs=>obtain⟨z,y,vs,r,ob,es,ep,e,c⟩:=x;exact⟨z,y,vs,r,ob,es,ep,k _ _ (.inl rfl) e,c⟩
 | dT kvs =>
  obtain⟨z,y,xs,r,ob,es,ep,e,c⟩:=x
  exact⟨z,y,xs,Paired.mapP r fun p q z=>⟨z.1,ht _ _ z.2.1,z.2.2⟩,ob,es,ep,k _ _ (.inl rfl) e,c⟩
 | set S n=>obtain⟨ob,es,ep,t,e,c⟩:=x;exact⟨ob,es,ep,t,k _ _ (.inl rfl) e,c⟩
 | ins C dx fs =>
  obtain⟨d,z,ne,e,mA,⟨od,es,ep,e2,c⟩,r⟩:=x
  exact⟨ho _ d,z,ne,k _ _ (.inl rfl) e,mA,⟨od,es,ep,k _ _ (.inr d) e2,c⟩,r⟩
 | own y=>obtain⟨ob,e⟩:=x;exact⟨ob,k _ _ (.inl rfl) e⟩
 | xd fs=>obtain⟨mA,⟨od,es,ep,e,c⟩,r⟩:=x;exact⟨mA,⟨od,es,ep,k _ _ (.inl rfl) e,c⟩,r⟩
 | rng lo hi=>obtain⟨t,u,v,e⟩:=x;exact⟨t,u,v,k _ _ (.inl rfl) e⟩
 | frz ob u ih=>obtain⟨e,q⟩:=x;exact⟨k _ _ (.inl rfl) e,ih q⟩
 | tbl ps =>
  obtain⟨q,t,vs,e0,e,e1,e2⟩:=x
  refine⟨q,t,vs,e0,k _ _ (.inl rfl) e,e1,fun pos cv z=>?_⟩
  obtain⟨c,oc,us,t',z1,z2,z3⟩:=e2 pos cv z
  exact⟨c,oc,us,t',z1,hz _ _ _ z2,z3⟩
 | met f y =>
  have e:h.get? a=some (PySem.W.methodObj (.ref f) (.ref y)):=x
  show h'.get? a=some (PySem.W.methodObj (.ref f) (.ref y))
  exact k a _ (.inl rfl) e
 | ext φ=>obtain⟨p,⟨o,e⟩,st⟩:=x;exact⟨st _ _ p fun o q=>k _ _ (.inl rfl) q,⟨o,k _ _ (.inl rfl) e⟩,st⟩
theorem HOk.lt(x:HOk P w H h)(e:H a=some o):a<h.objs.size:=(x a o e).lt
theorem HOk.fresh(x:HOk P w H h)(e:h.objs.size≤a):H a=none:=by
 cases q:H a with
 | none=>rfl
 | some u=>exact absurd (dk (x.lt q) e) (eG _)
theorem HOk.kept(x:HOk P w H h)(k:∀ b u,h.get? b=some u→h'.get? b=some u):HOk P w H h':=fun a o e =>
 (x a o e).stay (fun b u u0 q=>k b u q) (fun u0 q=>q) (fun u0 u0 q=>q) fun u0 u0 u0 q=>q
theorem HOk.laid(x:HOk P w H h)(k:∀ b u,h.get? b=some u→h'.get? b=some u)(hp:h.objs.size≤a)(new:wp P w (wC H a o) h' a o):HOk P w (wC H a o) h':=fun b u e=>by
 have hn:=x.fresh hp
 by_cases hb:b=a
 ·subst hb;rw[zc] at e;cases e;exact new
 ·rw[zq hb] at e
  exact(x b u e).stay (fun c v u0 q=>k c v q) (fun c q=>by rw[zq (yR q hn)];exact q) (fun c xs q=>by rw[zq (yR q hn)];exact q) fun c oo u q=>by rw[zq (yR q hn)];exact q
end
noncomputable def Rd(H:Hp)(a:Addr)(u:HO):Prop:=H a=some u∨∃ o,H a=some (.frz o u)
theorem Rd.of{H:Hp}{a:Addr}{u:HO}(h:H a=some u):Rd H a u:=.inl h
theorem Rd.ok{P:Program}{w:World}{H:Hp}{h:Heap}{a:Addr}{u:HO}(r:Rd H a u)(x:HOk P w H h):wp P w H h a u:=by
 rcases r with r | ⟨o,r⟩
 ·exact x a u r
 ·obtain⟨u0,q⟩:=x a _ r
  exact q
noncomputable def Mut:Option HO→Prop
 | some (.lst _)=>True
 | some (.dK _)=>True
 | some (.dT _)=>True
 | some (.set _ _)=>True
 | some (.ins _ _ _)=>True
 | some (.ext _)=>True
 | _=>False
section
variable {P:Program} {w:World} {H:Hp} {h h':Heap} {x e:Addr} {o':HO}
theorem HOk.write(ok:HOk P w H h)(mu:Mut (H x))(he:e=x∨H e=some (.own x))(k:∀ b u,b≠e→h.get? b=some u→h'.get? b=some u)(heo:∃ u,h'.get? e=some u)
  (new:wp P w (wC H x o') h' x o'):HOk P w (wC H x o') h':=fun b u q=>by
 have nown:∀ c y,H c=some (.own y)→c≠x:=fun c y r z=>by subst z;rw[r] at mu;exact mu
 have ntup:∀ c xs,H c=some (.tup xs)→c≠x:=fun c xs r z=>by subst z;rw[r] at mu;exact mu
 have nfrz:∀ c oo u,H c=some (.frz oo u)→c≠x:=fun c oo u r z=>by subst z;rw[r] at mu;exact mu
 by_cases hb:b=x
 ·subst hb;rw[zc] at q;cases q;exact new
 ·rw[zq hb] at q
  by_cases hbe:b=e
  ·have q':H b=some (.own x):=by
    rcases he with z | z
    ·exact absurd (hbe.trans z) hb
    ·rw[hbe];exact z
   rw[q] at q';cases q'
   obtain⟨v,hv⟩:=heo
   exact⟨v,by rw[hbe];exact hv⟩
  ·refine(ok b u q).stay (fun c v hc r=>k c v ?_ r) (fun c r=>by rw[zq (nown c b r)];exact r) (fun c xs r=>by rw[zq (ntup c xs r)];exact r) fun c oo u r=>by rw[zq (nfrz c oo u r)];exact r
   rcases hc with rfl | hc
   ·exact hbe
   ·rintro rfl
    rcases he with z | z
    ·exact nown c b hc z
    ·rw[hc] at z;cases z;exact hb rfl
end
structure Un (fs ex:List Addr) (H H':Hp) (h h':Heap):Prop where
 keep:∀ b o,h.get? b=some o→H b=none→b∉fs→b∉ex→h'.get? b=some o
 slot:∀ b o,h.get? b=some o→H b=none→b∈fs→b∉ex→∃ sl,h'.get? b=some { o with slots:=sl }
 free:∀ b o,h.get? b=some o→H b=none→b∉ex→H' b=none
 there:∀ b o,h.get? b=some o→b∉ex→∃ o',h'.get? b=some o'
 tups:∀ b xs,H b=some (.tup xs)→H' b=some (.tup xs)
 frzs:∀ b o u,H b=some (.frz o u)→H' b=some (.frz o u)
 tbls:∀ b ps,H b=some (.tbl ps)→H' b=some (.tbl ps)
section
variable {fs fs' ex ex':List Addr} {H H1 H2:Hp} {h h1 h2 h':Heap} {a x e:Addr} {o:HO}
theorem Un.any(u:Un fs ex H H1 h h1){b:Addr}{ob:Obj}(q:h.get? b=some ob)(n:H b=none)(hx:b∉ex):∃ sl,h1.get? b=some { ob with slots:=sl }:=by
 by_cases hb:b∈fs
 ·exact u.slot b ob q n hb hx
 ·exact⟨ob.slots,u.keep b ob q n hb hx⟩
theorem Un.trans(a:Un fs ex H H1 h h1)(b:Un fs ex H1 H2 h1 h2):Un fs ex H H2 h h2 where
 keep:=fun c ob q n hc hx=>b.keep c ob (a.keep c ob q n hc hx) (a.free c ob q n hx) hc hx
 slot:=fun c ob q n hc hx=>by
  obtain⟨sl,e1⟩:=a.slot c ob q n hc hx
  obtain⟨sl',e2⟩:=b.slot c _ e1 (a.free c ob q n hx) hc hx
  exact⟨sl',e2⟩
 free:=fun c ob q n hx=>by
  obtain⟨o',e1⟩:=a.there c ob q hx
  exact b.free c o' e1 (a.free c ob q n hx) hx
 there:=fun c ob q hx=>by
  obtain⟨o',e1⟩:=a.there c ob q hx
  exact b.there c o' e1 hx
 tups:=fun c xs q=>b.tups c xs (a.tups c xs q)
 frzs:=fun c ob xs q=>b.frzs c ob xs (a.frzs c ob xs q)
 tbls:=fun c ps q=>b.tbls c ps (a.tbls c ps q)
theorem Un.kept(k:∀ b u,h.get? b=some u→h'.get? b=some u):Un fs ex H H h h' :=
 ⟨fun b ob q u0 u0 u0=>k b ob q,fun b ob q u0 u0 u0=>⟨ob.slots,k b ob q⟩,fun u0 u0 u0 n u0=>n,fun b ob q u0=>⟨ob,k b ob q⟩,fun u0 u0 q=>q,fun u0 u0 u0 q=>q,fun u0 u0 q=>q⟩
theorem Un.refl:Un fs ex H H h h:=Un.kept fun u0 u0 q=>q
theorem Un.laid(k:∀ b u,h.get? b=some u→h'.get? b=some u)(hp:h.objs.size≤a)(hn:H a=none):Un fs ex H (wC H a o) h h' where
 keep:=fun b u q u0 u0 u0=>k b u q
 slot:=fun b u q u0 u0 u0=>⟨u.slots,k b u q⟩
 free:=fun b u q n u0=>by rw[zq (dB (dk (db q) hp))];exact n
 there:=fun b u q u0=>⟨u,k b u q⟩
 tups:=fun b xs q=>by rw[zq (yR q hn)];exact q
 frzs:=fun b u xs q=>by rw[zq (yR q hn)];exact q
 tbls:=fun b ps q=>by rw[zq (yR q hn)];exact q
theorem Un.write(mu:Mut (H x))(he:e=x∨H e=some (.own x))(k:∀ b u,b≠e→h.get? b=some u→h'.get? b=some u)(heo:∃ u,h'.get? e=some u):Un fs ex H (wC H x o) h h':=by
 have hx:∀ b,H b=none→b≠x:=fun b n z=>by subst z;rw[n] at mu;exact mu
 have hb:∀ b,H b=none→b≠e:=fun b n z=>by
  subst z
  rcases he with r | r
  ·exact hx b n r
  ·rw[n] at r;cases r
 have hm:∀ b u,H b=some u→¬ Mut (some u)→b≠x:=fun b u q nm z=>by subst z;rw[q] at mu;exact nm mu
 refine⟨fun b u q n u0 u0=>k b u (hb b n) q,fun b u q n u0 u0=>⟨u.slots,k b u (hb b n) q⟩,fun b u q n u0=>by rw[zq (hx b n)];exact n,fun b u q u0=>?_,
  fun b xs q=>by rw[zq (hm b _ q fun z=>z)];exact q,fun b u xs q=>by rw[zq (hm b _ q fun z=>z)];exact q,fun b ps q=>by rw[zq (hm b _ q fun z=>z)];exact q⟩
 by_cases hbe:b=e
 ·subst hbe;exact heo
 ·exact⟨u,k b u hbe q⟩
theorem Un.mono(u:Un fs ex H H1 h h1)(hs:∀ b∈fs,b∈fs')(hx:∀ b∈ex,b∈ex'):Un fs' ex' H H1 h h1 :=
 ⟨fun b ob q n hb he=>u.keep b ob q n (fun z=>hb (hs b z)) fun z=>he (hx b z),fun u0 u0 q n u0 he=>u.any q n fun z=>he (hx _ z),fun b ob q n he=>u.free b ob q n fun z=>he (hx b z),fun b ob q he=>u.there b ob q fun z=>he (hx b z),u.tups,u.frzs,u.tbls⟩
end
noncomputable def trk(h:Heap)(H:Hp):List Addr:=(cY h.objs.size).filter fun a=>(H a).isSome
noncomputable def zE0(h:Heap)(H:Hp):Heap:=PySem.W.hideAll h (trk h H)
theorem zI8(h:Heap)(H:Hp):(zE0 h H).objs.size=h.objs.size:=PySem.W.hideAll_size _ _
theorem zJ4{h:Heap}{H:Hp}{b:Addr}{o:Obj}(e:h.get? b=some o)(n:H b=none):(zE0 h H).get? b=some o :=
 PySem.W.hideAll_get _ e fun hm=>by
  have q:(H b).isSome=true:=(fj.mp hm).2
  rw[n] at q;simp at q
theorem zLt{h:Heap}{H:Hp}{b:Addr}{o:Obj}(e:(zE0 h H).get? b=some o):h.get? b=some o∧H b=none:=by
 have e':h.get? b=some o:=PySem.W.of_hideAll (trk h H) e
 refine⟨e',?_⟩
 cases q:H b with
 | none=>rfl
 | some x =>
  have hm:b∈trk h H:=fj.mpr ⟨dL.mpr (db e'),by simp[q]⟩
  have z:(zE0 h H).get? b=none:=PySem.W.hideAll_none (trk h H) hm
  rw[z] at e;cases e
noncomputable def zLu(g h:Heap)(L:Addr):List (Addr×Obj):=(cY h.objs.size).filterMap fun a=>if a=L∨(g.get? a).isSome=true then none else (h.get? a).map fun o=>(a,o)
noncomputable def rest(g h:Heap)(L d:Addr):List (Addr×Obj):=(zLu g h L).filter fun p=>decide (p.1≠d)
structure Mod (K:PySem.W.Frag) (mg:Str→Option Value) (base:Heap):Prop where
 kin:K.In base
 glob:base.Ns mainGlobals mg
 blt:∃ mb,base.Ns builtinsNs mb∧∀ x:Str,x≠"__name__"→mb x=bootBuiltins x
 nolimit:base.NoLimit
structure Cx where
 prog:Program
 w:World
 K:PySem.W.Frag
 mg:Str→Option Value
 base:Heap
 A:Around
 N:List Str
 s₀:Shared
 H₀:Hp
 env:Env
 outer:List Env
 stack:List Env
 ex:List Addr
 fn:Str→Bool
 calm:Bool
 pn:List (Addr×Obj)
 xe:Value→Shared→Prop
noncomputable def wq(l:List Env):List Addr:=l.filterMap (·.frame)
noncomputable abbrev Cx.fs(X:Cx):List Addr:=wq X.outer
noncomputable def Vis(sc:Scope)(x:Str):Prop:=sc.names.lookup x=some .local∨sc.names.lookup x=some .cell∨sc.names.lookup x=some .free
noncomputable def Loc(sc:Scope)(x:Str):Prop:=sc.names.lookup x=some .local∨sc.names.lookup x=some .cell
noncomputable def Look(env:Env)(h:Heap)(m:Str→Option Value)(x:Str)(u:Value):Prop :=
 (env.kindOf x=some .local∧m x=some u)∨((env.kindOf x=some .cell∨env.kindOf x=some .free)∧∃ c,env.cells.lookup x=some c∧h.IsCell c (some u))
noncomputable def zA9:List Str:=["law"]
noncomputable def TabsOk(K:PySem.W.Frag)(H:Hp):Prop:=∀ x∈zA9,∀ c b,PySem.W.tabIn K x=some (c,b)→∃ t,H b=some (.tbl #[.str (x++".<locals>.<lambda>") t])
structure Cx.Ok (X:Cx):Prop where
 mod:Mod X.K X.mg X.base
 kind:X.env.scope.kind=.function
 glob:X.env.globals=mainGlobals
 blt:X.env.builtins=builtinsNs
 above:X.s₀.heap.objs.size≤X.env.locals
 inj:∀ x y c,X.env.cells.lookup x=some c→X.env.cells.lookup y=some c→x=y
 has:∀ x,(X.env.kindOf x=some .cell∨X.env.kindOf x=some .free)→∃ c,X.env.cells.lookup x=some c
 cab:∀ x c,X.fn x=true→X.env.cells.lookup x=some c→X.s₀.heap.objs.size≤c
 hd:X.calm=true→X.A.handled=none
 frames:X.A.frames=some X.stack
 stk:X.stack=X.outer∨(X.stack=X.env::X.outer∧X.env.frame=some X.env.locals)
 exf:∀ b∈X.ex,b≠X.env.locals∧∀ x c,X.env.cells.lookup x=some c→c≠b
 bs:∀ b o,X.base.get? b=some o→X.s₀.heap.get? b=some o∧X.H₀ b=none
 bsz:X.base.objs.size≤X.s₀.heap.objs.size
 noex:∀ b o,X.base.get? b=some o→b∉X.ex
 exfs:∀ b∈X.ex,b∉X.fs
 funs:X.s₀.heap.FunFrames X.base X.outer
 frf:∀ b∈X.fs,X.H₀ b=none
 tb:TabsOk X.K X.H₀
structure zP (X:Cx) (pins:List (Addr×Obj)) (σ:List (Option V)) (H:Hp) (s:Shared):Prop where
 ok:X.Ok
 os:s.os=X.s₀.os
 bare:AllBare s.gens
 base:Un X.fs X.ex X.H₀ H X.s₀.heap s.heap
 loc:∃ m,s.heap.Ns X.env.locals m∧∀(i:Nat) (x:Str) (v:V),X.N[i]?=some x→σ[i]?=some (some v)→Vis X.env.scope x→∃ u,RelV v u∧Look X.env s.heap m x u
 cell:∀ x c,X.env.cells.lookup x=some c→∃ v,s.heap.IsCell c v
 free:H X.env.locals=none
 freeC:∀ x c,X.env.cells.lookup x=some c→H c=none
 pin:∀ p∈X.pn++pins,s.heap.get? p.1=some p.2∧H p.1=none∧p.1≠X.env.locals∧p.1∉X.fs∧∀ v,p.2.data≠.cell v
 hok:HOk X.prog X.w H s.heap
 len:σ.length=X.N.length
section
variable {X:Cx} {pins:List (Addr×Obj)} {σ:List (Option V)} {H H':Hp} {s:Shared} {h':Heap}
theorem Cx.Ok.nofr(ok:X.Ok){b:Addr}{o:Obj}(e:X.base.get? b=some o):b∉X.fs:=fun hb=>by
 have:=(ok.funs.mem hb).1
 rw[e] at this;cases this
theorem zP.bs(I:zP X pins σ H s):∀ b o,X.base.get? b=some o→s.heap.get? b=some o∧H b=none:=fun b o e =>
 ⟨I.base.keep b o (I.ok.bs b o e).1 (I.ok.bs b o e).2 (I.ok.nofr e) (I.ok.noex b o e),I.base.free b o (I.ok.bs b o e).1 (I.ok.bs b o e).2 (I.ok.noex b o e)⟩
theorem zP.bk(I:zP X pins σ H s):∀ b o,X.base.get? b=some o→s.heap.get? b=some o:=fun b o e=>(I.bs b o e).1
theorem zP.mod(I:zP X pins σ H s):Mod X.K X.mg X.base:=I.ok.mod
theorem zP.tabs(I:zP X pins σ H s):TabsOk X.K H:=fun x hx c b e=>by
 obtain⟨t,q⟩:=I.ok.tb x hx c b e
 exact⟨t,I.base.tbls b _ q⟩
theorem zP.kIn(I:zP X pins σ H s):X.K.In s.heap:=I.ok.mod.kin.keeps I.bk
theorem zP.nolimit(I:zP X pins σ H s):s.heap.NoLimit:=I.ok.mod.nolimit.keeps I.bk
theorem zP.fr(I:zP X pins σ H s):∃ m,Fr X.base X.env.locals s.heap m :=
 let ⟨m,hn,_⟩:=I.loc
 ⟨m,hn,I.bk,eD I.ok.bsz I.ok.above⟩
theorem zP.lt(I:zP X pins σ H s):X.env.locals<s.heap.objs.size:=let ⟨_,hn,_⟩:=I.loc;hn.lt
theorem zP.sz(I:zP X pins σ H s):X.s₀.heap.objs.size≤s.heap.objs.size:=eD I.ok.above (gQ I.lt)
theorem zP.nofs(I:zP X pins σ H s){a:Addr}(h:s.heap.objs.size≤a):a∉X.fs:=fun hb=>by
 obtain⟨u0,o,ho,u0⟩:=I.ok.funs.mem hb
 exact absurd (dk (db ho) (eD I.sz h)) (eG _)
theorem zP.cne(I:zP X pins σ H s):∀ x c,X.env.cells.lookup x=some c→c≠X.env.locals:=fun x c e z=>by
 obtain⟨v,o,ho,hd⟩:=I.cell x c e
 obtain⟨m,⟨o',es,ep,ho',hd',u0⟩,u0⟩:=I.loc
 rw[z,ho'] at ho;cases ho;rw[hd'] at hd;cases hd
theorem zP.funs(I:zP X pins σ H s):s.heap.FunFrames X.base X.outer:=by
 have all:∀(l:List Env),(∀ b∈wq l,b∈X.fs)→X.s₀.heap.FunFrames X.base l→s.heap.FunFrames X.base l:=by
  intro l
  induction l with
  | nil=>intro u0 u0;trivial
  | cons env r ih =>
   intro hs hl
   obtain⟨hk,⟨L,o,hf,hn,ho,hd⟩,hr⟩:=hl
   have hL:L∈X.fs:=hs L (by unfold wq;rw[ft,hf];exact dt)
   obtain⟨sl,e⟩:=I.base.slot L o ho (I.ok.frf L hL) hL fun z=>I.ok.exfs L z hL
   exact⟨hk,⟨L,_,hf,hn,e,hd⟩,ih (fun b hb=>hs b (by unfold wq;rw[ft,hf];exact dw _ hb)) hr⟩
 exact all X.outer (fun u0 hb=>hb) I.ok.funs
theorem zP.stack(I:zP X pins σ H s):s.heap.FunFrames X.base X.stack:=by
 rcases I.ok.stk with e | ⟨e,hf⟩
 ·rw[e];exact I.funs
 ·rw[e]
  obtain⟨m,hn,u0⟩:=I.loc
  refine .cons (by rw[I.ok.kind];decide) hf hn ?_ I.funs
  exact Heap.get?_none_of_le (eD I.ok.bsz I.ok.above)
theorem zP.stkSub(I:zP X pins σ H s):∀ b∈wq X.stack,b∈X.env.locals::X.fs:=fun b hb=>by
 rcases I.ok.stk with e | ⟨e,hf⟩
 ·rw[e] at hb;exact dw _ hb
 ·rw[e] at hb
  unfold wq at hb
  rw[ft,hf] at hb
  exact hb
theorem zP.stkFree(I:zP X pins σ H s):∀ b∈wq X.stack,H b=none:=fun b hb=>by
 rcases dC.mp (I.stkSub b hb) with e | hb
 ·rw[e];exact I.free
 ·obtain⟨u0,o,ho,u0⟩:=I.ok.funs.mem hb
  exact I.base.free b o ho (I.ok.frf b hb) fun z=>I.ok.exfs b z hb
theorem zP.step{g':Array GenState}{t':Nat}{d':Drawn}{ch:List Addr}(I:zP X pins σ H s)
  (hch:∀ b∈ch,(b∈X.ex∨X.s₀.heap.objs.size≤b)∧b≠X.env.locals∧(∀ x c,X.env.cells.lookup x=some c→c≠b)∧∀ p∈X.pn++pins,p.1≠b)
  (keep:∀ b o,b≠X.env.locals→b∉X.fs→b∉ch→s.heap.get? b=some o→H b=none→h'.get? b=some o)
  (slot:∀ b o,b≠X.env.locals→b∈X.fs→b∉ch→s.heap.get? b=some o→H b=none→∃ sl,h'.get? b=some { o with slots:=sl }) (free:∀ b o,b∉ch→s.heap.get? b=some o→H b=none→H' b=none)
  (there:∀ b o,b∉ch→s.heap.get? b=some o→∃ o',h'.get? b=some o')
  (tups:∀ b xs,H b=some (.tup xs)→H' b=some (.tup xs)) (frzs:∀ b o u,H b=some (.frz o u)→H' b=some (.frz o u)) (tbls:∀ b ps,H b=some (.tbl ps)→H' b=some (.tbl ps))
  (ns:∀ m,s.heap.Ns X.env.locals m→h'.Ns X.env.locals m) (hok:HOk X.prog X.w H' h') (hg:AllBare g') :
  zP X pins σ H' { s with heap:=h',gens:=g',drawn:=d',toks:=t' }:=by
 have neL:∀ b o,X.s₀.heap.get? b=some o→b≠X.env.locals:=fun b o e=>dB (dk (db e) I.ok.above)
 have neC:∀ b o,X.s₀.heap.get? b=some o→b∉X.ex→b∉ch:=fun b o e hx hb=>by
  rcases(hch b hb).1 with z | z
  ·exact hx z
  ·exact absurd (dk (db e) z) (eG _)
 have cellK:∀ x c,X.env.cells.lookup x=some c→∀ v,s.heap.IsCell c v→h'.IsCell c v:=fun x c e v ⟨o,ho,hd⟩=>by
  have nch:c∉ch:=fun z=>(hch c z).2.2.1 x c e rfl
  by_cases hc:c∈X.fs
  ·obtain⟨sl,q⟩:=slot c o (I.cne x c e) hc nch ho (I.freeC x c e)
   exact⟨_,q,hd⟩
  ·exact⟨o,keep c o (I.cne x c e) hc nch ho (I.freeC x c e),hd⟩
 refine⟨I.ok,I.os,hg,⟨fun b o e n hb hx=>?_,fun b o e n hb hx=>?_,fun b o e n hx=>?_,fun b o e hx=>?_,fun b xs e=>tups b xs (I.base.tups b xs e),fun b o xs e=>frzs b o xs (I.base.frzs b o xs e),fun b ps e=>?_⟩,?_,fun x c e=>?_,?_,fun x c e=>?_,fun p hp=>?_,hok,I.len⟩
 ·exact keep b o (neL b o e) hb (neC b o e hx) (I.base.keep b o e n hb hx) (I.base.free b o e n hx)
 ·obtain⟨sl,e1⟩:=I.base.slot b o e n hb hx
  obtain⟨sl',e2⟩:=slot b _ (neL b o e) hb (neC b o e hx) e1 (I.base.free b o e n hx)
  exact⟨sl',e2⟩
 ·obtain⟨o',e1⟩:=I.base.there b o e hx
  exact free b o' (neC b o e hx) e1 (I.base.free b o e n hx)
 ·obtain⟨o',e1⟩:=I.base.there b o e hx
  exact there b o' (neC b o e hx) e1
 ·exact tbls b _ (I.base.tbls b ps e)
 ·obtain⟨m,hn,hl⟩:=I.loc
  refine⟨m,ns m hn,fun i x v e1 e2 e3=>?_⟩
  obtain⟨u,r,l⟩:=hl i x v e1 e2 e3
  refine⟨u,r,?_⟩
  rcases l with l | ⟨k,c,e,z⟩
  ·exact .inl l
  ·exact .inr ⟨k,c,e,cellK x c e _ z⟩
 ·obtain⟨v,z⟩:=I.cell x c e
  exact⟨v,cellK x c e v z⟩
 ·obtain⟨m,⟨o,u0,u0,ho,u0⟩,u0⟩:=I.loc
  exact free _ o (fun z=>(hch _ z).2.1 rfl) ho I.free
 ·obtain⟨v,o,ho,hd⟩:=I.cell x c e
  exact free c o (fun z=>(hch c z).2.2.1 x c e rfl) ho (I.freeC x c e)
 ·obtain⟨e,n,ne,nf,d⟩:=I.pin p hp
  have nch:p.1∉ch:=fun z=>(hch p.1 z).2.2.2 p hp rfl
  exact⟨keep p.1 p.2 ne nf nch e n,free p.1 p.2 nch e n,ne,nf,d⟩
theorem zP.un{t':Nat}(I:zP X pins σ H s)(u:Un X.fs [] H H' s.heap h')(hok:HOk X.prog X.w H' h'):zP X pins σ H' { s with heap:=h',toks:=t' }:=by
 obtain⟨m,⟨o,es,ep,ho,r⟩,u0⟩:=id I.loc
 obtain⟨sl,hL⟩:=u.any ho I.free (by simp)
 exact I.step (g':=s.gens) (d':=s.drawn) (ch:=[]) (fun u0 z=>nomatch z) (fun b o u0 hb u0 e n=>u.keep b o e n hb (by simp)) (fun b o u0 hb u0 e n=>u.slot b o e n hb (by simp)) (fun b o u0 e n=>u.free b o e n (by simp)) (fun b o u0 e=>u.there b o e (by simp)) u.tups u.frzs u.tbls (fun m' hm=>by
  obtain⟨o',es',ep',ho',r'⟩:=hm
  rw[ho] at ho';cases ho'
  exact⟨_,es',ep',hL,r'⟩) hok I.bare
theorem zP.call{g':Array GenState}{t':Nat}{d':Drawn}{ch:List Addr}(I:zP X pins σ H s)(u:Un (wq X.stack) ch H H' s.heap h')(hok:HOk X.prog X.w H' h')(hg:AllBare g')
  (hch:∀ b∈ch,(b∈X.ex∨X.s₀.heap.objs.size≤b)∧b≠X.env.locals∧(∀ x c,X.env.cells.lookup x=some c→c≠b)∧∀ p∈X.pn++pins,p.1≠b) :
  zP X pins σ H' { s with heap:=h',gens:=g',drawn:=d',toks:=t' }:=by
 obtain⟨m,⟨o,es,ep,ho,r⟩,u0⟩:=id I.loc
 obtain⟨sl,hL⟩:=u.any ho I.free fun z=>(hch _ z).2.1 rfl
 exact I.step (ch:=ch) hch (fun b o hL hb hc e n=>u.keep b o e n (fun z=>(dC.mp (I.stkSub b z)).elim hL hb) hc) (fun b o u0 u0 hc e n=>u.any e n hc) (fun b o hc e n=>u.free b o e n hc) (fun b o hc e=>u.there b o e hc) u.tups u.frzs u.tbls (fun m' hm=>by
  obtain⟨o',es',ep',ho',r'⟩:=hm
  rw[ho] at ho';cases ho'
  exact⟨_,es',ep',hL,r'⟩) hok hg
theorem zP.turned{t':Nat}{it:Addr}(I:zP X pins σ H s)(k:∀ b o,b≠it→s.heap.get? b=some o→h'.get? b=some o)(hn:H it=none)(hL:it≠X.env.locals)
  (h1:it∈X.ex∨X.s₀.heap.objs.size≤it) (h2:∀ x c,X.env.cells.lookup x=some c→c≠it) (h3:∀ p∈X.pn++pins,p.1≠it):zP X pins σ H { s with heap:=h',toks:=t' }:=by
 have nit:∀ b u,H b=some u→b≠it:=fun b u e z=>by rw[z,hn] at e;cases e
 refine I.step (g':=s.gens) (d':=s.drawn) (ch:=[it]) (fun b hb=>?_) (fun b o u0 u0 hc e u0=>k b o (fun z=>hc (by simp[z])) e) (fun b o u0 u0 hc e u0=>⟨o.slots,k b o (fun z=>hc (by simp[z])) e⟩) (fun u0 u0 u0 u0 n=>n)
  (fun b o hc e=>⟨o,k b o (fun z=>hc (by simp[z])) e⟩) (fun u0 u0 e=>e) (fun u0 u0 u0 e=>e) (fun u0 u0 e=>e) (fun m hm=>?_) (fun b u e=>?_) I.bare
 ·have e:b=it:=by simpa using hb
  subst e
  exact⟨h1,hL,h2,h3⟩
 ·obtain⟨o,es,ep,ho,r⟩:=hm
  exact⟨o,es,ep,k _ o (Ne.symm hL) ho,r⟩
 ·refine(I.hok b u e).stay (fun c v hc q=>k c v ?_ q) (fun u0 q=>q) (fun u0 u0 q=>q) fun u0 u0 u0 q=>q
  rcases hc with z | z
  ·rw[z];exact nit b u e
  ·exact nit c _ z
theorem zP.tok(I:zP X pins σ H s)(t:Nat):zP X pins σ H { s with toks:=t }:=I.un (h':=s.heap) (t':=t) Un.refl I.hok
theorem zP.kept{t':Nat}(I:zP X pins σ H s)(k:∀ b u,s.heap.get? b=some u→h'.get? b=some u):zP X pins σ H { s with heap:=h',toks:=t' }:=I.un (Un.kept k) (I.hok.kept k)
theorem zP.laid{a:Addr}{o:HO}{t':Nat}(I:zP X pins σ H s)(k:∀ b u,s.heap.get? b=some u→h'.get? b=some u)(hp:s.heap.objs.size≤a)(new:wp X.prog X.w (wC H a o) h' a o) :
  zP X pins σ (wC H a o) { s with heap:=h',toks:=t' }:=I.un (Un.laid k hp (I.hok.fresh hp)) (I.hok.laid k hp new)
theorem zP.write{x e:Addr}{o:HO}{t':Nat}(I:zP X pins σ H s)(mu:Mut (H x))(he:e=x∨H e=some (.own x))(k:∀ b u,b≠e→s.heap.get? b=some u→h'.get? b=some u)(heo:∃ u,h'.get? e=some u)
  (new:wp X.prog X.w (wC H x o) h' x o):zP X pins σ (wC H x o) { s with heap:=h',toks:=t' }:=I.un (Un.write mu he k heo) (I.hok.write mu he k heo new)
theorem zP.weak{σ':List (Option V)}(I:zP X pins σ H s)(hl:σ'.length=σ.length)(w:∀(i:Nat) v,σ'[i]?=some (some v)→σ[i]?=some (some v)):zP X pins σ' H s :=
 ⟨I.ok,I.os,I.bare,I.base,let ⟨m,hn,hl'⟩:=I.loc;⟨m,hn,fun i x v e1 e2 e3=>hl' i x v e1 (w i v e2) e3⟩,I.cell,I.free,I.freeC,I.pin,I.hok,hl.trans I.len⟩
theorem zP.pins_of{pins':List (Addr×Obj)}(I:zP X pins σ H s)(h:∀ p∈pins',s.heap.get? p.1=some p.2∧H p.1=none∧p.1≠X.env.locals∧p.1∉X.fs∧∀ v,p.2.data≠.cell v):zP X pins' σ H s :=
 ⟨I.ok,I.os,I.bare,I.base,I.loc,I.cell,I.free,I.freeC,fun p hp=>(dH.mp hp).elim (fun z=>I.pin p (eO _ z)) (h p),I.hok,I.len⟩
theorem zD8{N:List Str}(hN:N.Nodup){i j:Nat}{x:Str}(a:N[i]?=some x)(b:N[j]?=some x):i=j:=by
 obtain⟨h1,e1⟩:=d8.mp a
 obtain⟨h2,e2⟩:=d8.mp b
 exact(List.getElem_inj hN).mp (e1.trans e2.symm)
theorem zFJ{M:Model}{A:Around}{E:Value→Shared→Prop}{i:Nat}{x:Str}{v:V}{u:Value}{Q:Unit→Shared→Prop}(I:zP X pins σ H s)(hN:X.N.Nodup)(hi:X.N[i]?=some x)(hx:Loc X.env.scope x)(r:RelV v u)
  (h:∀ s',zP X pins (σ.set i (some v)) H s'→(∃ a,g6 a s.heap s'.heap∧(a=X.env.locals∨X.env.cells.lookup x=some a))→Q () s') (hf:X.fn x=true∨X.env.scope.names.lookup x=some .local:=by first | exact .inl rfl | exact .inr rfl | assumption):wpAny M A (storeName X.env x u) Q E s:=by
 obtain⟨m,hn,hl⟩:=id I.loc
 have hcls:(X.env.scope.kind==.class||(X.env.scope.kind==.module&&X.env.locals != X.env.globals))=false:=by rw[I.ok.kind];rfl
 have hiσ:i<σ.length:=by rw[I.len];exact(d8.mp hi).1
 have cne:=I.cne
 have tracked:∀ {a:Addr} {h':Heap},(∃ o,s.heap.get? a=some o∧H a=none)→g6 a s.heap h'→HOk X.prog X.w H h':=fun {a h'} ha hs b ob e=>by
  obtain⟨u0,u0,hfree⟩:=ha
  refine(I.hok b ob e).stay (fun c w' hc q=>(hs.2 c ?_).trans q) (fun u0 q=>q) (fun u0 u0 q=>q) fun u0 u0 u0 q=>q
  rintro rfl
  rcases hc with rfl | hc
  ·rw[hfree] at e;cases e
  ·rw[hfree] at hc;cases hc
 rcases hx with hk | hk
 ·refine wpAny_storeName_local hk hn (fun h' hn' hs=>?_) hcls
  obtain⟨oL,u0,u0,hoL,u0⟩:=id hn
  refine h _ ⟨I.ok,I.os,I.bare,⟨fun b o e n hb hx=>?_,fun b o e n hb hx=>?_,I.base.free,fun b o e hx=>?_,I.base.tups,I.base.frzs,I.base.tbls⟩,⟨_,hn',fun j y v' e1 e2 e3=>?_⟩,fun y c e=>?_,I.free,I.freeC,fun p hp=>?_,tracked ⟨oL,hoL,I.free⟩ hs,by simpa using I.len⟩ ⟨_,hs,.inl rfl⟩
  ·exact(hs.2 b (dB (dk (db e) I.ok.above))).trans (I.base.keep b o e n hb hx)
  ·obtain⟨sl,e1⟩:=I.base.slot b o e n hb hx
   exact⟨sl,(hs.2 b (dB (dk (db e) I.ok.above))).trans e1⟩
  ·obtain⟨o',e1⟩:=I.base.there b o e hx
   exact⟨o',(hs.2 b (dB (dk (db e) I.ok.above))).trans e1⟩
  ·by_cases hj:j=i
   ·subst hj
    rw[hi] at e1;cases e1
    rw[dU hiσ] at e2
    cases e2
    exact⟨u,r,.inl ⟨hk,by simp⟩⟩
   ·rw[eH (Ne.symm hj)] at e2
    obtain⟨u',r',q⟩:=hl j y v' e1 e2 e3
    refine⟨u',r',?_⟩
    rcases q with ⟨k,e⟩ | ⟨k,c,e,z⟩
    ·refine .inl ⟨k,?_⟩
     have:y≠x:=fun e=>hj (zD8 hN e1 (e▸hi))
     simp[this,e]
    ·exact .inr ⟨k,c,e,z.sameBut hs (cne y c e)⟩
  ·obtain⟨w',z⟩:=I.cell y c e
   exact⟨w',z.sameBut hs (cne y c e)⟩
  ·obtain⟨e,n,ne,nf,d⟩:=I.pin p hp
   exact⟨(hs.2 p.1 ne).trans e,n,ne,nf,d⟩
 ·have hfn:X.fn x=true:=by
   rcases hf with z | z
   ·exact z
   ·rw[z] at hk;cases hk
  obtain⟨c,hc⟩:=I.ok.has x (.inl hk)
  obtain⟨w',z⟩:=I.cell x c hc
  refine wpAny_storeName_cell I.ok.kind hk hc z (fun h' hc' hs=>?_)
  obtain⟨oc,hoc,hocd⟩:=id z
  refine h { s with heap:=h' } ⟨I.ok,I.os,I.bare,⟨fun b o e n hb hx=>?_,fun b o e n hb hx=>?_,I.base.free,fun b o e hx=>?_,I.base.tups,I.base.frzs,I.base.tbls⟩,⟨m,hn.sameBut hs (Ne.symm (cne x c hc)),fun j y v' e1 e2 e3=>?_⟩,fun y c' e=>?_,I.free,I.freeC,fun p hp=>?_,tracked ⟨oc,hoc,I.freeC x c hc⟩ hs,by simpa using I.len⟩ ⟨c,hs,.inr hc⟩
  ·exact(hs.2 b (dB (dk (db e) (I.ok.cab x c hfn hc)))).trans (I.base.keep b o e n hb hx)
  ·obtain⟨sl,e1⟩:=I.base.slot b o e n hb hx
   exact⟨sl,(hs.2 b (dB (dk (db e) (I.ok.cab x c hfn hc)))).trans e1⟩
  ·obtain⟨o',e1⟩:=I.base.there b o e hx
   exact⟨o',(hs.2 b (dB (dk (db e) (I.ok.cab x c hfn hc)))).trans e1⟩
  ·by_cases hj:j=i
   ·subst hj
    rw[hi] at e1;cases e1
    rw[dU hiσ] at e2
    cases e2
    exact⟨u,r,.inr ⟨.inl hk,c,hc,hc'⟩⟩
   ·rw[eH (Ne.symm hj)] at e2
    obtain⟨u',r',q⟩:=hl j y v' e1 e2 e3
    refine⟨u',r',?_⟩
    rcases q with q | ⟨k,c',e,z'⟩
    ·exact .inl q
    ·refine .inr ⟨k,c',e,z'.sameBut hs ?_⟩
     rintro rfl
     exact hj (zD8 hN e1 (I.ok.inj _ _ _ e hc▸hi))
  ·by_cases hcc:c'=c
   ·subst hcc;exact⟨_,hc'⟩
   ·obtain⟨w2,z2⟩:=I.cell y c' e
    exact⟨w2,z2.sameBut hs hcc⟩
  ·obtain⟨e,n,ne,nf,d⟩:=I.pin p hp
   refine⟨(hs.2 p.1 ?_).trans e,n,ne,nf,d⟩
   intro q
   rw[q,hoc] at e
   have q':oc=p.2:=Option.some.inj e
   exact d w' (by rw[← q'];exact hocd)
theorem zAv{M:Model}{A:Around}{E:Value→Shared→Prop}{i:Nat}{x:Str}{v:V}{u:Value}{Q:Unit→Shared→Prop}(I:zP X pins σ H s)(hN:X.N.Nodup)(hi:X.N[i]?=some x)(hx:Loc X.env.scope x)(r:RelV v u)
  (h:∀ s',zP X pins (σ.set i (some v)) H s'→Q () s') (hf:X.fn x=true∨X.env.scope.names.lookup x=some .local:=by first | exact .inl rfl | exact .inr rfl | assumption):wpAny M A (storeName X.env x u) Q E s :=
 zFJ I hN hi hx r (fun s' I' u0=>h s' I') hf
theorem zP.call'{s':Shared}{ch:List Addr}(I:zP X pins σ H s)(ho:s'.os=s.os)(u:Un (wq X.stack) ch H H' s.heap s'.heap)(hok:HOk X.prog X.w H' s'.heap)(hg:AllBare s'.gens)
  (hch:∀ b∈ch,(b∈X.ex∨X.s₀.heap.objs.size≤b)∧b≠X.env.locals∧(∀ x c,X.env.cells.lookup x=some c→c≠b)∧∀ p∈X.pn++pins,p.1≠b):zP X pins σ H' s':=by
 obtain⟨h',g',d',t',o'⟩:=s'
 have e:o'=s.os:=ho
 subst e
 exact I.call (g':=g') (t':=t') (d':=d') u hok hg hch
end
noncomputable abbrev XK:=Value→Option Addr→Hp→Prop
noncomputable abbrev St:=List (Option V)
noncomputable abbrev VK:=V→Hp→Prop
noncomputable abbrev TE:=St→Hp→VK→Prop
noncomputable abbrev TT:=St→Hp→(Bool→Hp→Prop)→Prop
noncomputable abbrev TA:=St→Hp→(List V→Hp→Prop)→Prop
structure Ends where
 nx:St→Hp→Prop
 rt:VK
 bk:St→Hp→Prop:=fun u0 u0=>False
 ct:St→Hp→Prop:=fun u0 u0=>False
noncomputable abbrev TS:=Ends→St→Hp→Prop
noncomputable def EP(X:Cx)(pins:List (Addr×Obj))(σ:St)(Q:VK)(u:Value)(s':Shared):Prop:=∃ v H',zP X pins σ H' s'∧RelV v u∧Q v H'
noncomputable def TP(X:Cx)(pins:List (Addr×Obj))(σ:St)(Q:Bool→Hp→Prop)(b:Bool)(s':Shared):Prop:=∃ H',zP X pins σ H' s'∧Q b H'
noncomputable def AP(X:Cx)(pins:List (Addr×Obj))(σ:St)(Q:List V→Hp→Prop)(us:List Value)(s':Shared):Prop:=∃ vs H',zP X pins σ H' s'∧zT vs us∧Q vs H'
noncomputable def SP(X:Cx)(pins:List (Addr×Obj))(D:Ends)(f:Flow)(s':Shared):Prop :=
 match f with
 | .next=>∃ σ' H',zP X pins σ' H' s'∧D.nx σ' H'
 | .brk=>∃ σ' H',zP X pins σ' H' s'∧D.bk σ' H'
 | .cont=>∃ σ' H',zP X pins σ' H' s'∧D.ct σ' H'
 | .ret u=>∃ v σ' H',zP X pins σ' H' s'∧RelV v u∧D.rt v H'
noncomputable def PE(X:Cx)(e:Expr)(t:TE):Prop :=
 ∀(pins:List (Addr×Obj)) (s:Shared) (σ:St) (H:Hp) (Q:VK),zP X pins σ H s→t σ H Q→wpAny (model X.prog X.w) X.A (eval e X.env) (EP X pins σ Q) X.xe s
noncomputable def PT(X:Cx)(e:Expr)(t:TT):Prop :=
 ∀(pins:List (Addr×Obj)) (s:Shared) (σ:St) (H:Hp) (Q:Bool→Hp→Prop),zP X pins σ H s→t σ H Q→wpAny (model X.prog X.w) X.A (isTrue e X.env (eval e X.env)) (TP X pins σ Q) X.xe s
noncomputable def PW(X:Cx)(e:Expr)(t:TT):Prop :=
 ∀(whole:Sem Value) (pins:List (Addr×Obj)) (s:Shared) (σ:St) (H:Hp) (Q:Bool→Hp→Prop),zP X pins σ H s→t σ H Q→wpAny (model X.prog X.w) X.A (isTrue e X.env whole) (TP X pins σ Q) X.xe s
theorem PW.pt{X:Cx}{e:Expr}{t:TT}(h:PW X e t):PT X e t:=h _
noncomputable def PA(X:Cx)(es:List Expr)(t:TA):Prop :=
 ∀(pos:Pos) (pins:List (Addr×Obj)) (s:Shared) (σ:St) (H:Hp) (Q:List V→Hp→Prop),zP X pins σ H s→t σ H Q→wpAny (model X.prog X.w) X.A (spliced (backTo pos (starEach es X.env))) (AP X pins σ Q) X.xe s
noncomputable def PS(X:Cx)(st:Stmt)(t:TS):Prop :=
 ∀(pins:List (Addr×Obj)) (s:Shared) (σ:St) (H:Hp) (D:Ends),zP X pins σ H s→t D σ H→wpAny (model X.prog X.w) X.A (exec st X.env) (SP X pins D) X.xe s
noncomputable def PSs(X:Cx)(st:List Stmt)(t:TS):Prop :=
 ∀(pins:List (Addr×Obj)) (s:Shared) (σ:St) (H:Hp) (D:Ends),zP X pins σ H s→t D σ H→wpAny (model X.prog X.w) X.A (execs st X.env) (SP X pins D) X.xe s
theorem wB{α:Type}{t:Sem α}{Q Q':α→Shared→Prop}{M:Model}{A:Around}{E:Value→Shared→Prop}{s:Shared}(h:wpAny M A t Q E s)(hQ:∀ a s,Q a s→Q' a s):wpAny M A t Q' E s:=eN h hQ fun u0 u0 x=>x
section
variable {X:Cx}
noncomputable def zNn(i:Nat):TE:=fun σ H Q=>∃ v,σ[i]?=some (some v)∧Q v H
noncomputable def tC(v:V):TE:=fun u0 H Q=>Q v H
theorem zCM{i:Nat}{x:Str}{pos:Pos}(hN:X.N[i]?=some x)(hv:Vis X.env.scope x)(hd:(x==("__debug__":Str))=false:=by decide)(hcd:(x==("__classdict__":Str))=false:=by decide):PE X (.Name x pos) (zNn i):=by
 intro pins s σ H Q I h
 obtain⟨v,e,h⟩:=h
 obtain⟨m,hn,hl⟩:=I.loc
 obtain⟨u,r,l⟩:=hl i x v hN e hv
 have fin:EP X pins σ Q u s:=⟨v,H,I,r,h⟩
 rcases l with ⟨hk,hm⟩ | ⟨hk,c,hc,hcell⟩
 ·exact wpAny_Name (wpAny_loadName_local I.ok.kind hk hn hm fin) hd
 ·rcases hk with hk | hk
  ·exact wpAny_Name (wpAny_loadName_cell I.ok.kind hk hc hcell fin) hd
  ·exact wpAny_Name (wpAny_loadName_free I.ok.kind hk hc hcell fin hcd) hd
theorem zNo{i j pos}:PE X (.Constant (.int i) j pos) (tC (.int i)):=fun u0 u0 u0 H u0 I h=>wpAny_Constant_int ⟨.int i,H,I.tok _,⟨_,rfl⟩,h⟩
theorem zPF{b j pos}:PE X (.Constant (.bool b) j pos) (tC (.bl b)):=fun u0 u0 u0 H u0 I h=>Constant_bool ⟨.bl b,H,I,rfl,h⟩
theorem zHJ{j pos}:PE X (.Constant .none j pos) (tC .non):=fun u0 u0 u0 H u0 I h=>Constant_none ⟨.non,H,I,rfl,h⟩
noncomputable def Gl(X:Cx)(x:Str):Prop:=X.env.kindOf x=some .globalImplicit
theorem zBs{E:Value→Shared→Prop}{pins:List (Addr×Obj)}{s:Shared}{σ:St}{H:Hp}{x:Str}{u:Value}{pos:Pos}{Q:Value→Shared→Prop}(I:zP X pins σ H s)(hg:Gl X x)(hm:X.mg x=some u)(h:Q u s)
  (hd:(x==("__debug__":Str))=false:=by decide):wpAny (model X.prog X.w) X.A (eval (.Name x pos) X.env) Q E s :=
 Calls.Name_function_global I.ok.kind hg (Calls.loadGlobal_global (by rw[I.ok.glob];exact I.mod.glob.keeps I.bk) hm h) hd
theorem zAp{E:Value→Shared→Prop}{pins:List (Addr×Obj)}{s:Shared}{σ:St}{H:Hp}{x:Str}{u:Value}{pos:Pos}{Q:Value→Shared→Prop}(I:zP X pins σ H s)(hg:Gl X x)(hm:X.mg x=none)(hv:bootBuiltins x=some u)(h:Q u s)
  (hn:x≠"__name__":=by decide) (hd:(x==("__debug__":Str))=false:=by decide):wpAny (model X.prog X.w) X.A (eval (.Name x pos) X.env) Q E s:=by
 obtain⟨mb,h1,h2⟩:=I.mod.blt
 exact Calls.Name_function_global I.ok.kind hg (Calls.loadGlobal_builtin (by rw[I.ok.glob];exact I.mod.glob.keeps I.bk) hm (by rw[I.ok.blt];exact h1.keeps I.bk) ((h2 x hn).trans hv) h) hd
theorem zFr{x:Str}{v:V}{u:Value}{pos:Pos}(hg:Gl X x)(hm:X.mg x=some u)(r:RelV v u)(hd:(x==("__debug__":Str))=false:=by decide):PE X (.Name x pos) (tC v) :=
 fun u0 u0 u0 H u0 I h=>zBs I hg hm ⟨v,H,I,r,h⟩ hd
theorem zIM{x:Str}{v:V}{u:Value}{pos:Pos}(hg:Gl X x)(hm:X.mg x=none)(hv:bootBuiltins x=some u)(r:RelV v u)(hn:x≠"__name__":=by decide)(hd:(x==("__debug__":Str))=false:=by decide):PE X (.Name x pos) (tC v) :=
 fun u0 u0 u0 H u0 I h=>zAp I hg hm hv ⟨v,H,I,r,h⟩ hn hd
variable {a b:Expr} {ta tb:TE} {pos:Pos}
noncomputable def tB(t:TE):TT:=fun σ H Q=>t σ H fun x H1=>∃ c,x=.bl c∧Q c H1
theorem zNp{e:Expr}{t:TE}(h:PE X e t)(he:∀ whole,isTrue e X.env whole=(do let v ← whole;standAt e.pos;holding [v] (truthy v)):=by intro u0;rfl):PT X e (tB t):=by
 intro pins s σ H Q I hw
 refine isTrue_plain (wB (h pins s σ H _ I hw) fun v s1 ⟨x,H1,I1,r1,q1⟩=>?_) (he _)
 obtain⟨d,rfl,q⟩:=q1
 cases r1
 exact wpAny_truthy_bool ⟨H1,I1,q⟩
variable {tA tB':TT} {rest:List Expr}
noncomputable def zP2(t u:TT):TT:=fun σ H Q=>t σ H fun c H1=>if c=true then u σ H1 Q else Q false H1
noncomputable def tOr(t u:TT):TT:=fun σ H Q=>t σ H fun c H1=>if c=true then Q true H1 else u σ H1 Q
noncomputable def zP3(t:TT):TT:=fun σ H Q=>t σ H fun c H1=>Q (!c) H1
theorem zLv(ha:PT X a tA):PW X (.BoolOp .And [a] pos) tA:=by
 intro wh pins s σ H Q I h
 refine isTrue_and (wB (ha pins s σ H Q I h) fun c s1 e=>?_)
 cases c with
 | true=>exact isTrue_and_nil e
 | false=>exact e
theorem zNq(ha:PT X a tA):PW X (.BoolOp .Or [a] pos) tA:=by
 intro wh pins s σ H Q I h
 refine isTrue_or (wB (ha pins s σ H Q I h) fun c s1 e=>?_)
 cases c with
 | false=>exact isTrue_or_nil e
 | true=>exact e
theorem zNr(ha:PT X a tA)(hb:PW X (.BoolOp .And (b::rest) pos) tB'):PW X (.BoolOp .And (a::b::rest) pos) (zP2 tA tB'):=by
 intro wh pins s σ H Q I h
 refine isTrue_and (wB (ha pins s σ H _ I h) fun c s1 ⟨H1,I1,q1⟩=>?_)
 cases c with
 | true=>exact hb wh pins s1 σ H1 Q I1 q1
 | false=>exact⟨H1,I1,q1⟩
theorem zPG(ha:PT X a tA)(hb:PW X (.BoolOp .Or (b::rest) pos) tB'):PW X (.BoolOp .Or (a::b::rest) pos) (tOr tA tB'):=by
 intro wh pins s σ H Q I h
 refine isTrue_or (wB (ha pins s σ H _ I h) fun c s1 ⟨H1,I1,q1⟩=>?_)
 cases c with
 | true=>exact⟨H1,I1,q1⟩
 | false=>exact hb wh pins s1 σ H1 Q I1 q1
theorem zNs(ha:PT X a tA):PT X (.UnaryOp .Not a pos) (zP3 tA):=by
 intro pins s σ H Q I h
 exact isTrue_not (ha pins s σ H (fun c H1=>Q (!c) H1) I h)
end
noncomputable def SqL(K:PySem.W.Frag)(H:Hp)(a:Addr)(xs:List V):Prop :=
 Rd H a (.lst xs) ∨
  ∃(o:Obj) (its:Array Value) (n:Nat),K.lookup a=some o∧o.cls=.type "list"∧o.dict=none∧o.data=.seq its n∧its.size≤sizeLine∧zT xs its.toList
noncomputable def SqT(K:PySem.W.Frag)(H:Hp)(a:Addr)(xs:List V):Prop :=
 Rd H a (.tup xs) ∨
  ∃(o:Obj) (its:Array Value) (n:Nat),K.lookup a=some o∧o.cls=.type "tuple"∧o.data=.seq its n∧its.size≤sizeLine∧zT xs its.toList∧o.dict=none
noncomputable def zP4:Value→Option V
 | .none=>some .non
 | .bool b=>some (.bl b)
 | .int i _=>some (.int i)
 | .str x _=>some (.str x)
 | .bytes b _=>some (.byt b)
 | .float b _=>some (.flt b)
 | .ref a=>some (.ref a)
 | .type n=>some (.ty n)
 | _=>none
theorem RelV.abs{x:V}{u:Value}(r:RelV x u):zP4 u=some x:=by
 cases x with
 | non=>cases r;rfl
 | bl _=>cases r;rfl
 | int _=>obtain⟨t,rfl⟩:=r;rfl
 | str _=>obtain⟨t,rfl⟩:=r;rfl
 | byt _=>obtain⟨t,rfl⟩:=r;rfl
 | flt _=>obtain⟨t,rfl⟩:=r;rfl
 | ref _=>cases r;rfl
 | ty _=>cases r;rfl
theorem RelV.inj{x y:V}{u:Value}(r:RelV x u)(q:RelV y u):x=y:=Option.some.inj (r.abs.symm.trans q.abs)
theorem zT.inj:∀ {xs ys:List V} {us:List Value},zT xs us→zT ys us→xs=ys
 | _,_,_,.nil,.nil=>rfl
 | _,_,_,.cons r t,.cons r' t'=>by rw[r.inj r',zT.inj t t']
section
variable {X:Cx} {pins:List (Addr×Obj)} {σ:St} {H:Hp} {s:Shared} {a:Addr} {xs ys:List V}
theorem SqL.of{K:PySem.W.Frag}(h:H a=some (.lst xs)):SqL K H a xs:=.inl (.inl h)
theorem SqT.of{K:PySem.W.Frag}(h:H a=some (.tup xs)):SqT K H a xs:=.inl (.inl h)
theorem zP.list(I:zP X pins σ H s)(h:SqL X.K H a xs):∃ its:List Value,zT xs its∧PlainL s.heap a its.toArray∧xs.length≤sizeLine:=by
 rcases h with h | ⟨o,its,n,hk,hc,hd,hs,hz,r⟩
 ·obtain⟨z,its,n,r,e⟩:=h.ok I.hok
  exact⟨its,r,⟨_,n,e,rfl,rfl,rfl⟩,z⟩
 ·refine⟨its.toList,r,⟨o,n,I.kIn a o hk,hc,hd,by simpa using hs⟩,?_⟩
  have e:=r.length
  simp only[da] at e
  omega
theorem zP.tuple(I:zP X pins σ H s)(h:SqT X.K H a xs):∃ its:List Value,zT xs its∧IsTup s.heap a its.toArray∧xs.length≤sizeLine:=by
 rcases h with h | ⟨o,its,n,hk,hc,hs,hz,r,u0⟩
 ·obtain⟨z,its,r,p⟩:=h.ok I.hok
  exact⟨its,r,p.isTup,z⟩
 ·refine⟨its.toList,r,⟨o,I.kIn a o hk,hc,n,by simpa using hs⟩,?_⟩
  have e:=r.length
  simp only[da] at e
  omega
theorem zP.noDict(I:zP X pins σ H s)(h:SqT X.K H a xs):s.TypeIs (.ref a) "tuple"∧∃ ob,s.heap.get? a=some ob∧ob.dict=none:=by
 rcases h with h | ⟨o,its,n,hk,hc,hs,hz,r,hd⟩
 ·obtain⟨z,its,r,o,h1,h2,h3,h4⟩:=h.ok I.hok
  exact⟨⟨o,h1,h2⟩,o,h1,h4⟩
 ·exact⟨⟨o,I.kIn a o hk,hc⟩,o,I.kIn a o hk,hd⟩
theorem zP.list_inj(I:zP X pins σ H s)(h:SqL X.K H a xs)(h':SqL X.K H a ys):xs=ys:=by
 obtain⟨its,r,⟨o,n,e,u0,u0,d⟩,u0⟩:=I.list h
 obtain⟨its',r',⟨o',n',e',u0,u0,d'⟩,u0⟩:=I.list h'
 rw[e] at e';cases e'
 rw[d] at d'
 injection d' with d1 _
 have:its=its':=by simpa using congrArg Array.toList d1
 subst this
 exact r.inj r'
theorem zP.tuple_inj(I:zP X pins σ H s)(h:SqT X.K H a xs)(h':SqT X.K H a ys):xs=ys:=by
 obtain⟨its,r,⟨o,e,u0,n,d⟩,u0⟩:=I.tuple h
 obtain⟨its',r',⟨o',e',u0,n',d'⟩,u0⟩:=I.tuple h'
 rw[e] at e';cases e'
 rw[d] at d'
 injection d' with d1 _
 have:its=its':=by simpa using congrArg Array.toList d1
 subst this
 exact r.inj r'
end
noncomputable abbrev Cx.wish(X:Cx)(E:Value→Shared→Prop):Cx:={ X with xe:=E }
noncomputable abbrev Cx.nox(X:Cx):Cx:=X.wish fun u0 u0=>False
theorem Cx.Ok.wish{X:Cx}(ok:X.Ok)(E:Value→Shared→Prop):(X.wish E).Ok :=
 ⟨ok.mod,ok.kind,ok.glob,ok.blt,ok.above,ok.inj,ok.has,ok.cab,ok.hd,ok.frames,ok.stk,ok.exf,ok.bs,ok.bsz,ok.noex,ok.exfs,ok.funs,ok.frf,ok.tb⟩
theorem Cx.Ok.unwish{X:Cx}{E:Value→Shared→Prop}(ok:(X.wish E).Ok):X.Ok :=
 ⟨ok.mod,ok.kind,ok.glob,ok.blt,ok.above,ok.inj,ok.has,ok.cab,ok.hd,ok.frames,ok.stk,ok.exf,ok.bs,ok.bsz,ok.noex,ok.exfs,ok.funs,ok.frf,ok.tb⟩
section
variable {X:Cx} {pins:List (Addr×Obj)} {σ:St} {H:Hp} {s:Shared} {E:Value→Shared→Prop}
theorem zP.wish(I:zP X pins σ H s)(E:Value→Shared→Prop):zP (X.wish E) pins σ H s:=⟨I.ok.wish E,I.os,I.bare,I.base,I.loc,I.cell,I.free,I.freeC,I.pin,I.hok,I.len⟩
theorem zP.unwish(I:zP (X.wish E) pins σ H s):zP X pins σ H s:=⟨I.ok.unwish,I.os,I.bare,I.base,I.loc,I.cell,I.free,I.freeC,I.pin,I.hok,I.len⟩
theorem SP.unwish{D:Ends}{f:Flow}{s':Shared}(h:SP (X.wish E) pins D f s'):SP X pins D f s':=by
 cases f with
 | next=>obtain⟨σ',H',I,q⟩:=h;exact⟨σ',H',I.unwish,q⟩
 | brk=>obtain⟨σ',H',I,q⟩:=h;exact⟨σ',H',I.unwish,q⟩
 | cont=>obtain⟨σ',H',I,q⟩:=h;exact⟨σ',H',I.unwish,q⟩
 | ret u=>obtain⟨v,σ',H',I,r,q⟩:=h;exact⟨v,σ',H',I.unwish,r,q⟩
theorem PSs.nox{st:List Stmt}{t:TS}(h:PSs X.nox st t):PSs X st t:=fun pins s σ H D I hw =>
 eN (h pins s σ H D (I.wish _) hw) (fun u0 u0 q=>q.unwish) fun u0 u0 z=>False.elim z
end
section
variable {X:Cx} {st:Stmt} {rest:List Stmt} {t u:TS} {e:Expr} {te:TE} {pos:Pos}
noncomputable def zPH:TS:=fun D σ H=>D.nx σ H
noncomputable def zP5(t u:TS):TS:=fun D σ H=>t { D with nx:=u D } σ H
theorem zLw:PSs X [] zPH:=fun u0 u0 σ H u0 I h=>gB ⟨σ,H,I,h⟩
theorem zJ5(h1:PS X st t)(h2:PSs X rest u):PSs X (st::rest) (zP5 t u):=by
 intro pins s σ H D I h
 refine eS (wB (h1 pins s σ H { D with nx:=u D } I h) fun f s1 q=>?_)
 cases f with
 | next =>
  obtain⟨σ',H',I',q⟩:=q
  exact h2 pins s1 σ' H' D I' q
 | ret v=>exact q
 | brk=>exact q
 | cont=>exact q
theorem zLx(h1:PS X st t):PSs X [st] t:=by
 intro pins s σ H D I h
 refine eS (wB (h1 pins s σ H D I h) fun f s1 q=>?_)
 cases f with
 | next=>exact gB q
 | ret v=>exact q
 | brk=>exact q
 | cont=>exact q
theorem zP.quiet{pins:List (Addr×Obj)}{σ:St}{H:Hp}{s:Shared}(I:zP X pins σ H s):interactive X.env=false:=by simp[interactive,I.ok.kind]
noncomputable def zPI(te:TE):TS:=fun D σ H=>te σ H fun u0 H1=>D.nx σ H1
theorem zLy(he:PE X e te)(hs:swapsWith e none pos.line X.env=pure false:=by rfl):PS X (.Expr e pos) (zPI te):=by
 intro pins s σ H D I h
 exact wpAny_Expr_any (wB (he pins s σ H _ I h) fun v s1 ⟨x,H1,I1,r1,q1⟩=>⟨σ,H1,I1,q1⟩) I.quiet hs
noncomputable def zP6(te:TE):TS:=fun D σ H=>te σ H D.rt
theorem zNt(he:PE X e te):PS X (.Return (some e) pos) (zP6 te):=by
 intro pins s σ H D I h
 exact wpAny_Return_some (wB (he pins s σ H _ I h) fun v s1 ⟨x,H1,I1,r1,q1⟩=>⟨x,σ,H1,I1,r1,q1⟩)
noncomputable def zP7(c:TT)(t u:TS):TS:=fun D σ H=>c σ H fun b H1=>if b=true then t D σ H1 else u D σ H1
theorem zPJ{c:Expr}{a b:List Stmt}{tc:TT}(hc:PT X c tc)(ha:PSs X a t)(hb:PSs X b u):PS X (.If c a b pos) (zP7 tc t u):=by
 intro pins s σ H D I h
 refine wpAny_If (wB (hc pins s σ H _ I h) fun d s1 ⟨H1,I1,q1⟩=>?_)
 cases d with
 | true=>exact ha pins s1 σ H1 D I1 q1
 | false=>exact hb pins s1 σ H1 D I1 q1
end
noncomputable abbrev TG:=V→St→Hp→(St→Hp→Prop)→Prop
noncomputable abbrev TGs:=List V→St→Hp→(St→Hp→Prop)→Prop
noncomputable def PG(X:Cx)(target:Expr)(t:TG):Prop :=
 ∀(pins:List (Addr×Obj)) (s:Shared) (σ:St) (H:Hp) (v:V) (u:Value) (Q:St→Hp→Prop),zP X pins σ H s→RelV v u→t v σ H Q →
  wpAny (model X.prog X.w) X.A (assign target X.env u) (fun u0 s'=>∃ σ' H',zP X pins σ' H' s'∧Q σ' H') X.xe s
noncomputable def PGs(X:Cx)(ts:List Expr)(t:TGs):Prop :=
 ∀(pins:List (Addr×Obj)) (s:Shared) (σ:St) (H:Hp) (vs:List V) (us:List Value) (Q:St→Hp→Prop),zP X pins σ H s→zT vs us→t vs σ H Q →
  wpAny (model X.prog X.w) X.A (assignInOrder ((assignEach ts X.env).map (·.2)) us) (fun u0 s'=>∃ σ' H',zP X pins σ' H' s'∧Q σ' H') X.xe s
noncomputable abbrev zNu:=V→V→V→Hp→(Hp→Prop)→Prop
noncomputable def zPK(X:Cx)(t:zNu):Prop :=
 ∀(pins:List (Addr×Obj)) (s:Shared) (σ:St) (H:Hp) (o i v:V) (ov iv u:Value) (Q:Hp→Prop),zP X pins σ H s→RelV o ov→RelV i iv→RelV v u→t o i v H Q →
  wpAny (model X.prog X.w) X.A (setItem ov iv u) (fun u0 s'=>∃ H',zP X pins σ H' s'∧Q H') X.xe s
section
variable {X:Cx} {pos:Pos}
noncomputable def zGK(i:Nat):TG:=fun v σ H Q=>Q (σ.set i (some v)) H
theorem zCc{i:Nat}{x:Str}(hN:X.N.Nodup)(hi:X.N[i]?=some x)(hx:Loc X.env.scope x)(hf:X.fn x=true∨X.env.scope.names.lookup x=some .local:=by first | exact .inl rfl | exact .inr rfl | assumption):PG X (.Name x pos) (zGK i):=by
 intro pins s σ H v u Q I r h
 exact wpAny_assign_Name (zAv I hN hi hx r (fun s' I'=>⟨_,H,I',h⟩) hf)
noncomputable def zP8:TGs:=fun vs σ H Q=>vs=[]∧Q σ H
noncomputable def zPL(t:TG)(u:TGs):TGs:=fun vs σ H Q=>∃ v r,vs=v::r∧t v σ H fun σ' H'=>u r σ' H' Q
theorem zLz:PGs X [] zP8:=by
 intro pins s σ H vs us Q I r h
 obtain⟨e,h⟩:=h
 subst e
 cases r
 exact assignInOrder_nil ⟨σ,H,I,h⟩
theorem zGL{e:Expr}{es:List Expr}{t:TG}{u:TGs}(h1:PG X e t)(h2:PGs X es u)
  (hs:(assignEach (e::es) X.env).map (·.2)=assign e X.env::(assignEach es X.env).map (·.2):=by rfl):PGs X (e::es) (zPL t u):=by
 intro pins s σ H vs us Q I r h
 obtain⟨v,vr,e1,h⟩:=h
 subst e1
 cases r with
 | cons r rr =>
  rw[hs]
  refine assignInOrder_cons (wB (h1 pins s σ H _ _ _ I r h) fun _ s1 ⟨σ1,H1,I1,q1⟩=>?_)
  exact h2 pins s1 σ1 H1 _ _ Q I1 rr q1
noncomputable def zP9(K:PySem.W.Frag)(n:Nat)(t:TGs):TG:=fun v σ H Q=>∃ a xs,v=.ref a∧SqT K H a xs∧xs.length=n∧t xs σ H Q
theorem zNv{es:List Expr}{k:Nat}{t:TGs}{n:Nat}(hc:X.calm=true)(h:PGs X es t)
  (hn:(assignEach es X.env).length=n:=by rfl) (hst:(assignEach es X.env).findIdx? (·.1)=none:=by rfl):PG X (.Tuple es k pos) (zP9 X.K n t):=by
 intro pins s σ H v u Q I r hw
 obtain⟨a,xs,e1,hq,hl,hw⟩:=hw
 subst e1
 cases r
 obtain⟨its,rv,ht,hz⟩:=I.tuple hq
 refine assign_Tuple_tuple (I.ok.hd hc) ht (by simp[hn,← hl,rv.length]) hst fun h' hx=>?_
 have I1:zP X pins σ H { s with heap:=h' }:=I.kept (t':=s.toks) fun b o e=>hx b o (dB (db e)) e
 exact h pins _ σ H xs _ Q I1 (by simpa using rv) hw
noncomputable def zQA(to ti:TE)(t:zNu):TG:=fun v σ H Q=>to σ H fun o H1=>ti σ H1 fun i H2=>t o i v H2 fun H3=>Q σ H3
theorem zNw{o i:Expr}{to ti:TE}{t:zNu}(ho:PE X o to)(hi:PE X i ti)(hs:zPK X t)
  (ha:∀ v,assign (.Subscript o i pos) X.env v=(do
   let ov ← holding [v] (eval o X.env)
   let iv ← holding [v,ov] (eval i X.env)
   standAt pos
   holding [v,ov,iv] (setItem ov iv v)
   release [v,ov,iv] []):=by intro u0;rfl):PG X (.Subscript o i pos) (zQA to ti t):=by
 intro pins s σ H v u Q I r h
 rw[ha]
 refine cL (eu (wB (ho pins s σ H _ I h) fun ov s1 ⟨x,H1,I1,r1,q1⟩=>?_))
 refine cL (eu (wB (hi pins s1 σ H1 _ I1 q1) fun iv s2 ⟨y,H2,I2,r2,q2⟩=>?_))
 refine cL (wpAny_standAt (cL (eu (wB (hs pins s2 σ H2 x y v ov iv u _ I2 r1 r2 r q2) fun _ s3 ⟨H3,I3,q3⟩=>?_))))
 exact wpAny_release ⟨σ,H3,I3,q3⟩
noncomputable def zNx(te:TE)(g:TG):TS:=fun D σ H=>te σ H fun x H1=>g x σ H1 D.nx
theorem zNy{tg e:Expr}{te:TE}{g:TG}(he:PE X e te)(hg:PG X tg g)(hs:swapsWithSole [tg] e pos.line X.env=pure false:=by rfl)(hw:swappedStores [tg] e X.env=pure none:=by rfl)
  (h1:(assignEach [tg] X.env).map (·.2)=[assign tg X.env]:=by rfl):PS X (.Assign [tg] e pos) (zNx te g):=by
 intro pins s σ H D I h
 refine wpAny_Assign_stores (wB (he pins s σ H _ I h) fun v s1 ⟨x,H1,I1,r1,q1⟩=>?_) hs hw
 rw[h1]
 exact wB (hg pins s1 σ H1 x v _ I1 r1 q1) fun u0 s2 q=>q
theorem zNz{i:Nat}{x:Str}{e:Expr}{te:TE}{pos':Pos}(hN:X.N.Nodup)(hi:X.N[i]?=some x)(hx:Loc X.env.scope x)(he:PE X e te)(hs:swapsWith e (some (.Name x pos')) pos.line X.env=pure false:=by rfl)(hf:X.fn x=true∨X.env.scope.names.lookup x=some .local:=by first | exact .inl rfl | exact .inr rfl | assumption) :
  PS X (.Assign [.Name x pos'] e pos) (zNx te (zGK i)):=by
 intro pins s σ H D I h
 refine wpAny_Assign_Name (wB (he pins s σ H _ I h) fun v s1 ⟨y,H1,I1,r1,q1⟩=>?_) hs
 exact zAv I1 hN hi hx r1 (fun s2 I2=>⟨_,H1,I2,q1⟩) hf
noncomputable def zN0(c:TT)(tb:TS):TS:=fun D σ H=>∃ W:Nat→St→Hp→Prop,(∃ m,W m σ H)∧∀ m σ H,W m σ H →
 c σ H fun b H1=>if b=true then ∃ N:St→Hp→Prop,(∀ σ' H',N σ' H'→∃ m',m'<m∧W m' σ' H')∧tb { D with nx:=N,ct:=N,bk:=D.nx } σ H1 else D.nx σ H1
theorem zJ6{c:Expr}{body:List Stmt}{tc:TT}{tb:TS}(hp:PassesOwn (model X.prog X.w) X.A X.env X.xe)(hc:PT X c tc)(hb:PSs X body tb):PS X (.While c body [] pos) (zN0 tc tb):=by
 intro pins s σ H D I h
 obtain⟨W,⟨m0,w0⟩,turn⟩:=h
 refine wpAny_While (codeAny_whileLoop (fun n s'=>∃ σ' H',zP X pins σ' H' s'∧W n σ' H') ?_ m0 ⟨σ,H,I,w0⟩)
 rintro n s1 ⟨σ1,H1,I1,w1⟩
 refine gx hp (wB (hc pins s1 σ1 H1 _ I1 (turn n σ1 H1 w1)) fun b s2 ⟨H2,I2,q2⟩=>?_)
 cases b with
 | true =>
  obtain⟨N,hN,q2⟩:=q2
  rw[if_pos rfl]
  refine gx hp (wB (hb pins s2 σ1 H2 _ I2 q2) fun f s3 q3=>?_)
  cases f with
  | next =>
   obtain⟨σ3,H3,I3,n3⟩:=q3
   obtain⟨m',hm,w3⟩:=hN σ3 H3 n3
   exact⟨m',hm,σ3,H3,I3,w3⟩
  | cont =>
   obtain⟨σ3,H3,I3,n3⟩:=q3
   obtain⟨m',hm,w3⟩:=hN σ3 H3 n3
   exact⟨m',hm,σ3,H3,I3,w3⟩
  | brk=>exact q3
  | ret v=>exact q3
 | false =>
  rw[if_neg eK]
  exact gB ⟨σ1,H2,I2,q2⟩
end
structure It where
 go:Nat→Hp→Prop
 yld:Nat→Hp→V→Hp→Prop
 stop:Nat→Hp→Prop
noncomputable def zDC(X:Cx)(pins:List (Addr×Obj))(H:Hp)(b:Addr):Prop :=
 H b=none∧b≠X.env.locals∧b∉X.fs∧(b∈X.ex∨X.s₀.heap.objs.size≤b)∧(∀ x c,X.env.cells.lookup x=some c→c≠b)∧∀ p∈X.pn++pins,p.1≠b
theorem zP.fpOk{X:Cx}{pins:List (Addr×Obj)}{σ:St}{H H':Hp}{s:Shared}{b:Addr}(I:zP X pins σ H s)(hb:s.heap.objs.size≤b)(hn:H' b=none):zDC X pins H' b:=by
 refine⟨hn,Nat.ne_of_gt (dk I.lt hb),I.nofs hb,.inr (eD I.sz hb),fun x c e z=>?_,fun p hp z=>?_⟩
 ·obtain⟨v,q⟩:=I.cell x c e
  exact absurd (dk q.lt (by rw[z];exact hb)) (eG _)
 ·exact absurd (dk (db (I.pin p hp).1) (by rw[z];exact hb)) (eG _)
structure Turn (P:Program) (w:World) (K:PySem.W.Frag) (tg:Expr) (J:It) (fp:List Addr) (it:Addr) (tn:Nat→Heap→Prop):Prop where
 mem:it∈fp
 obj:∀ i h,tn i h→∀ b∈fp,∃ o,h.get? b=some o∧∀ v,o.data≠.cell v
 keep:∀ i h h',tn i h→(∀ b∈fp,∀ o,h.get? b=some o→h'.get? b=some o)→tn i h'
 item:∀(X:Cx),X.prog=P→X.w=w→X.K=K→X.calm=true→∀(i:Nat) (pins:List (Addr×Obj)) (s:Shared) (σ:St) (H:Hp) (E:Value→Shared→Prop),zP X pins σ H s→(∀ b∈fp,zDC X pins H b)→tn i s.heap→J.go i H →
  wpAny (model P w) X.A (pyNext (.ref it)) (fun r s1=>∃ u,r=some u ∧
   wpAny (model P w) X.A (letOwnedTupleGo tg (.ref it) u) (fun u0 s2=>∃ x H',zP X pins σ H' s2∧RelV x u∧J.yld i H x H'∧tn (i+1) s2.heap∧∀ b∈fp,H' b=none) E s1) E s
 done:∀(X:Cx),X.prog=P→X.w=w→X.K=K→X.calm=true→∀(i:Nat) (pins:List (Addr×Obj)) (s:Shared) (σ:St) (H:Hp) (E:Value→Shared→Prop),zP X pins σ H s→(∀ b∈fp,zDC X pins H b)→tn i s.heap→J.stop i H →
  wpAny (model P w) X.A (pyNext (.ref it)) (fun r s1=>r=none∧zP X pins σ H s1) E s
 self:∀(A:Around) (i:Nat) (s:Shared) (Q:Value→Shared→Prop) (E:Value→Shared→Prop),tn i s.heap→Q (.ref it) s→wpAny (model P w) A (pyIter (.ref it)) Q E s
noncomputable abbrev TI:=St→Hp→(It→Hp→Prop)→Prop
noncomputable def PIE(X:Cx)(pins:List (Addr×Obj))(σ:St)(tg:Expr)(R:It→Hp→Prop)(itv:Value)(s2:Shared):Prop :=
 ∃(it:Addr) (fp:List Addr) (tn:Nat→Heap→Prop) (J:It) (H':Hp),itv=.ref it∧zP X pins σ H' s2∧Turn X.prog X.w X.K tg J fp it tn∧tn 0 s2.heap∧(∀ b∈fp,zDC X pins H' b)∧R J H'
noncomputable def PI(X:Cx)(tg iter:Expr)(wi:TI):Prop :=
 ∀(pins:List (Addr×Obj)) (s:Shared) (σ:St) (H:Hp) (R:It→Hp→Prop),zP X pins σ H s→wi σ H R →
  wpAny (model X.prog X.w) X.A (eval iter X.env) (fun v s1=>wpAny (model X.prog X.w) X.A (pyIter v) (PIE X pins σ tg R) X.xe s1) X.xe s
theorem zJ7{M:Model}{A:Around}{E:Value→Shared→Prop}{s:Shared}{tg:Expr}{it:Addr}{u:Value}{o:Obj}{n:String}{vs:Array Value}{Q:Unit→Shared→Prop}(ho:s.heap.get? it=some o)(hc:o.cls=.type n)(hd:o.data=.fields vs)
    (hn:["enumerate","zip","dict_itemiterator","dict_reverseitemiterator","odict_iterator","itertools.zip_longest","itertools.pairwise"].contains n=false) (hQ:Q () s):wpAny M A (letOwnedTupleGo tg (.ref it) u) Q E s:=by
  unfold letOwnedTupleGo
  cases tg<;>first
    | exact cT hQ
    | (cases u<;>first
        | exact cT hQ
        | (refine cL (wpAny_load ho ?_)
           rw[hc,hd]
           show wpAny M A (if (["enumerate","zip","dict_itemiterator","dict_reverseitemiterator","odict_iterator","itertools.zip_longest","itertools.pairwise"].contains n&&vs[0]?==some (rawInt _))=true then _ else _) Q E s
           rw[if_neg (by intro h;rw[hn,Bool.false_and] at h;cases h)]
           exact cT hQ))
noncomputable def Itl(K:PySem.W.Frag)(a:Addr):It :=
 ⟨fun i H=>∃ xs x,SqL K H a xs∧xs[i]?=some x,fun i H x H'=>H'=H∧∀ xs,SqL K H a xs→xs[i]?=some x,fun i H=>∃ xs,SqL K H a xs∧xs.length≤i⟩
noncomputable def Itt(K:PySem.W.Frag)(a:Addr):It :=
 ⟨fun i H=>∃ xs x,SqT K H a xs∧xs[i]?=some x,fun i H x H'=>H'=H∧∀ xs,SqT K H a xs→xs[i]?=some x,fun i H=>∃ xs,SqT K H a xs∧xs.length≤i⟩
noncomputable def Itr(lo:Int)(n:Nat):It:=⟨fun i u0=>i<n,fun i H x H'=>H'=H∧x=.int (lo+i),fun i u0=>n≤i⟩
theorem zI9{P:Program}{w:World}{K:PySem.W.Frag}{tg:Expr}(a it:Addr):Turn P w K tg (Itl K a) [it] it (fun i h=>h.IsListIter it a i) where
 mem:=by simp
 obj:=fun i h st b hb=>by
  have e:b=it:=by simpa using hb
  subst e
  obtain⟨o,e,c,d⟩:=st
  exact⟨o,e,fun v z=>by rw[d] at z;cases z⟩
 keep:=fun i h h' st k=>st.at fun o e=>k it (by simp) o e
 item:=by
  intro X hP hw hK hc i pins s σ H E I hf st hg
  subst hP hw hK
  obtain⟨xs,x,hq,hx⟩:=hg
  obtain⟨its,rv,p,hz⟩:=I.list hq
  obtain⟨u,hu,ru⟩:=rv.get hx
  obtain⟨f0,f1,f2,f3,f4,f5⟩:=hf it (by simp)
  refine wpAny_pyNext_list_item st p.isList (x:=u) (by simpa using hu) fun h' st' sb=>?_
  have I1:zP X pins σ H { s with heap:=h' }:=I.turned (t':=s.toks) (fun b o hb e=>(sb.2 b hb).trans e) f0 f1 f3 f4 f5
  obtain⟨o,e,c,d⟩:=id st'
  exact⟨u,rfl,zJ7 (s:={ s with heap:=h' }) e c d (by decide) ⟨x,H,I1,ru,⟨rfl,fun ys hy=>by rw[I.list_inj hy hq];exact hx⟩,st',fun b hb=>(hf b hb).1⟩⟩
 done:=by
  intro X hP hw hK hc i pins s σ H E I hf st hg
  subst hP hw hK
  obtain⟨xs,hq,hx⟩:=hg
  obtain⟨its,rv,p,hz⟩:=I.list hq
  obtain⟨f0,f1,f2,f3,f4,f5⟩:=hf it (by simp)
  have hl:=rv.length
  exact wpAny_pyNext_list_end (I.ok.hd hc) st p.isList (by simp;omega) fun h' eb=>⟨rfl,I.turned (t':=s.toks) (fun b o hb e=>eb b o hb e) f0 f1 f3 f4 f5⟩
 self:=fun u0 u0 u0 u0 u0 st h=>wpAny_pyIter_listiter st h
theorem zHK{P:Program}{w:World}{K:PySem.W.Frag}{tg:Expr}(a it:Addr):Turn P w K tg (Itt K a) [it] it (fun i h=>h.IsTupleIter it a i) where
 mem:=by simp
 obj:=fun i h st b hb=>by
  have e:b=it:=by simpa using hb
  subst e
  obtain⟨o,e,c,d⟩:=st
  exact⟨o,e,fun v z=>by rw[d] at z;cases z⟩
 keep:=fun i h h' st k=>st.at fun o e=>k it (by simp) o e
 item:=by
  intro X hP hw hK hc i pins s σ H E I hf st hg
  subst hP hw hK
  obtain⟨xs,x,hq,hx⟩:=hg
  obtain⟨its,rv,p,hz⟩:=I.tuple hq
  obtain⟨u,hu,ru⟩:=rv.get hx
  obtain⟨f0,f1,f2,f3,f4,f5⟩:=hf it (by simp)
  refine wpAny_pyNext_tuple_item st (show s.heap.IsTuple a its.toArray from p) (x:=u) (by simpa using hu) fun h' st' sb=>?_
  have I1:zP X pins σ H { s with heap:=h' }:=I.turned (t':=s.toks) (fun b o hb e=>(sb.2 b hb).trans e) f0 f1 f3 f4 f5
  obtain⟨o,e,c,d⟩:=id st'
  exact⟨u,rfl,zJ7 (s:={ s with heap:=h' }) e c d (by decide) ⟨x,H,I1,ru,⟨rfl,fun ys hy=>by rw[I.tuple_inj hy hq];exact hx⟩,st',fun b hb=>(hf b hb).1⟩⟩
 done:=by
  intro X hP hw hK hc i pins s σ H E I hf st hg
  subst hP hw hK
  obtain⟨xs,hq,hx⟩:=hg
  obtain⟨its,rv,p,hz⟩:=I.tuple hq
  obtain⟨f0,f1,f2,f3,f4,f5⟩:=hf it (by simp)
  have hl:=rv.length
  exact wpAny_pyNext_tuple_end (I.ok.hd hc) st (show s.heap.IsTuple a its.toArray from p) (by simp;omega) fun h' eb=>⟨rfl,I.turned (t':=s.toks) (fun b o hb e=>eb b o hb e) f0 f1 f3 f4 f5⟩
 self:=fun u0 u0 u0 u0 u0 st h=>wpAny_pyIter_tupleiter st h
theorem zHL{P:Program}{w:World}{K:PySem.W.Frag}{tg:Expr}(it:Addr)(lo:Int)(n:Nat):Turn P w K tg (Itr lo n) [it] it (fun i h=>IsRangeIter h it (lo+(i:Nat)*1) ((n:Int)-(i:Nat)) 1) where
 mem:=by simp
 obj:=fun i h st b hb=>by
  have e:b=it:=by simpa using hb
  subst e
  exact⟨_,st,fun v z=>by
   have z':Data.fields _=Data.cell v:=z
   cases z'⟩
 keep:=fun i h h' st k=>k it (by simp) _ st
 item:=by
  intro X hP hw hK hc i pins s σ H E I hf st hg
  subst hP hw hK
  obtain⟨f0,f1,f2,f3,f4,f5⟩:=hf it (by simp)
  have W:=Walks.range (prog:=X.prog) (w:=X.w) (I.ok.hd hc) it lo 1 n
  refine W.item i s _ _ hg st fun v h' tk hv st' kk=>?_
  obtain⟨t,rfl⟩:=hv
  have I1:zP X pins σ H { s with heap:=h',toks:=tk }:=I.turned (fun b o hb e=>kk b o (by simpa using hb) e) f0 f1 f3 f4 f5
  refine⟨_,rfl,zJ7 (s:={ s with heap:=h',toks:=tk }) (n:="range_iterator") st' rfl rfl (by decide) ⟨.int (lo+i),H,I1,⟨t,?_⟩,⟨rfl,rfl⟩,st',fun b hb=>(hf b hb).1⟩⟩
  rw[Int.mul_one]
 done:=by
  intro X hP hw hK hc i pins s σ H E I hf st hg
  subst hP hw hK
  obtain⟨f0,f1,f2,f3,f4,f5⟩:=hf it (by simp)
  exact wpAny_pyNext_range_end (I.ok.hd hc) st (by have:n≤i:=hg;omega) fun h' eb=>⟨rfl,I.turned (t':=s.toks) (fun b o hb e=>eb b o hb e) f0 f1 f3 f4 f5⟩
 self:=fun u0 u0 u0 u0 u0 st h=>wpAny_pyIter_rangeiter st h
section
variable {X:Cx} {tg:Expr}
theorem zGM{pins:List (Addr×Obj)}{σ:St}{H:Hp}{s:Shared}{R:It→Hp→Prop}{E:Value→Shared→Prop}{lo hi:Int}{t u v:Tok}{tk:Nat}(I:zP X pins σ H s)(h1:-(2 ^ 62)≤lo)(h2:lo<2 ^ 62)(h3:-(2 ^ 62)≤hi)(h4:hi<2 ^ 62)
  (q:R (Itr lo (hi-lo).toNat) H):wpAny (model X.prog X.w) X.A (pyIter (.ref s.heap.objs.size)) (PIE X pins σ tg R) E { s with heap:=s.heap.push { cls:=.type "range",data:=.fields #[.int lo t,.int hi u,.int 1 v] },toks:=tk }:=by
 refine wpAny_pyIter_range (IsRange.new ..) (small_one h1 h2 h3 h4) ?_
 have I1:zP X pins σ H { s with heap:=s.heap.push { cls:=.type "range",data:=.fields #[.int lo t,.int hi u,.int 1 v] },toks:=tk }:=I.kept fun b o e=>cQ _ e
 refine⟨(s.heap.push { cls:=.type "range",data:=.fields #[.int lo t,.int hi u,.int 1 v] }).objs.size,[(s.heap.push { cls:=.type "range",data:=.fields #[.int lo t,.int hi u,.int 1 v] }).objs.size],_,_,H,rfl,
  I1.kept (t':=tk) fun b o e=>cQ _ e,zHL _ lo (hi-lo).toNat,?_,fun b hb=>?_,q⟩
 ·have e1:lo+((0:Nat):Int)*1=lo:=by simp
  have e2:(((hi-lo).toNat:Nat):Int)-((0:Nat):Int)=Builtin.Range.rangeSize lo hi 1:=by rw[rangeSize_one];split<;>omega
  show IsRangeIter _ _ (lo+((0:Nat):Int)*1) ((((hi-lo).toNat:Nat):Int)-((0:Nat):Int)) 1
  rw[e1,e2]
  exact dc _ rfl
 ·have e:b=(s.heap.push { cls:=.type "range",data:=.fields #[.int lo t,.int hi u,.int 1 v] }).objs.size:=by simpa using hb
  subst e
  exact I1.fpOk (cX _) (I1.hok.fresh (cX _))
noncomputable def zPM(ta:TA):TI:=fun σ H R=>ta σ H fun vs H1=>∃ j:Int,vs=[.int j]∧-(2 ^ 62)≤j∧j<2 ^ 62∧R (Itr 0 j.toNat) H1
noncomputable def zPN(ta:TA):TI:=fun σ H R=>ta σ H fun vs H1=>∃ i j:Int,vs=[.int i,.int j]∧(-(2 ^ 62)≤i∧i<2 ^ 62∧-(2 ^ 62)≤j∧j<2 ^ 62)∧R (Itr i (j-i).toNat) H1
theorem zJA{a:Expr}{ta:TA}{p pos:Pos}(hg:Gl X "range")(hm:X.mg "range"=none)(ha:PA X [a] ta)(hs:starEach [a] X.env=[(false,eval a X.env)]:=by rfl):PI X tg (.Call (.Name "range" p) [a] [] pos) (zPM ta):=by
 intro pins s σ H R I h
 refine Call_ (zAp I hg hm boot_range (PyProof.Rows.callWith_type1 (wB (ha pos pins s σ H _ I h) fun us s1 ⟨vs,H1,I1,r1,q1⟩=>?_) hs rfl))
 obtain⟨j,e,q1,q2,q⟩:=q1
 subst e
 cases r1 with
 | cons r rr =>
  cases rr
  obtain⟨t,rfl⟩:=r
  exact call_range_1 (zGM I1 (by omega) (by omega) q1 q2 (by simpa using q))
theorem zJB{a b:Expr}{ta:TA}{p pos:Pos}(hg:Gl X "range")(hm:X.mg "range"=none)(ha:PA X [a,b] ta)(hs:starEach [a,b] X.env=[(false,eval a X.env),(false,eval b X.env)]:=by rfl)(hs2:starEach [b] X.env=[(false,eval b X.env)]:=by rfl) :
  PI X tg (.Call (.Name "range" p) [a,b] [] pos) (zPN ta):=by
 intro pins s σ H R I h
 refine Call_ (zAp I hg hm boot_range (PyProof.Rows.callWith_type1 (wB (ha pos pins s σ H _ I h) fun us s1 ⟨vs,H1,I1,r1,q1⟩=>?_) (by rw[hs,hs2]) (by rw[hs2];rfl)))
 obtain⟨i,j,e,⟨q1,q2,q3,q4⟩,q⟩:=q1
 subst e
 cases r1 with
 | cons r rr =>
  cases rr with
  | cons r' rr =>
   cases rr
   obtain⟨t,rfl⟩:=r
   obtain⟨t',rfl⟩:=r'
   exact call_range_2 (zGM I1 q1 q2 q3 q4 q)
noncomputable def zQB(wi:TI)(g:TG)(tb:TS):TS:=fun D σ H=>wi σ H fun J H1=>∃ W:Nat→Nat→St→Hp→Prop,(∃ m,W 0 m σ H1)∧∀ i m σ H,W i m σ H →
 (J.stop i H∧D.nx σ H)∨(J.go i H∧∃ N:St→Hp→Prop,(∀ σ' H',N σ' H'→∃ m',m'<m∧W (i+1) m' σ' H')∧∀ x H',J.yld i H x H'→g x σ H' fun σ2 H2=>tb { D with nx:=N,ct:=N,bk:=D.nx } σ2 H2)
noncomputable def zD9(fp:List Addr)(h:Heap):List (Addr×Obj):=fp.filterMap fun b=>(h.get? b).map fun o=>(b,o)
theorem zBA{fp:List Addr}{h:Heap}{b:Addr}{o:Obj}(hb:b∈fp)(e:h.get? b=some o):(b,o)∈zD9 fp h:=List.mem_filterMap.mpr ⟨b,hb,by rw[e];rfl⟩
theorem zJC{fp:List Addr}{h:Heap}{p:Addr×Obj}(hp:p∈zD9 fp h):p.1∈fp∧h.get? p.1=some p.2:=by
 obtain⟨b,hb,e⟩:=List.mem_filterMap.mp hp
 cases q:h.get? b with
 | none=>rw[q] at e;cases e
 | some o =>
  rw[q] at e
  have e':(b,o)=p:=Option.some.inj e
  subst e'
  exact⟨hb,q⟩
theorem zP.pinned{pins:List (Addr×Obj)}{σ:St}{H:Hp}{s:Shared}{fp:List Addr}(I:zP X pins σ H s)(hf:∀ b∈fp,zDC X pins H b)(ho:∀ b∈fp,∃ o,s.heap.get? b=some o∧∀ v,o.data≠.cell v):zP X (pins++zD9 fp s.heap) σ H s :=
 I.pins_of fun p hp=>(dH.mp hp).elim (fun z=>I.pin p (dF _ z)) fun z=>by
  obtain⟨hb,e⟩:=zJC z
  obtain⟨f0,f1,f2,u0⟩:=hf p.1 hb
  obtain⟨o,e',d⟩:=ho p.1 hb
  rw[e] at e';cases e'
  exact⟨e,f0,f1,f2,d⟩
theorem zP.unpinned{pins pl:List (Addr×Obj)}{σ:St}{H:Hp}{s:Shared}(I:zP X (pins++pl) σ H s):zP X pins σ H s:=I.pins_of fun p hp=>I.pin p (dF _ (eO _ hp))
theorem zN1{iter:Expr}{body:List Stmt}{wi:TI}{g:TG}{tb:TS}{pos:Pos}(hp:PassesOwn (model X.prog X.w) X.A X.env X.xe)(hc:X.calm=true)(hi:PI X tg iter wi)(hg:PG X tg g)(hb:PSs X body tb)
  (hs:∀ x,foldedSetIterable iter X.env x=pure x:=by intro u0;rfl):PS X (.For tg iter body [] pos) (zQB wi g tb):=by
 intro pins s σ H D I h
 refine wpAny_For (wB (hi pins s σ H _ I h) fun v s1 h1=>wB h1 fun itv s2 h2=>?_) hs
 obtain⟨it,fp,tn,J,H2,e,I2,T,st2,f2,W,⟨m0,w0⟩,turn⟩:=h2
 subst e
 -- what stays true of the iterator's objects through the loop
 have stat:∀ {H':Hp},(∀ b∈fp,H' b=none)→∀ b∈fp,zDC X pins H' b:=fun hn b hb=>⟨hn b hb,(f2 b hb).2⟩
 refine codeAny_forLoop_any (fun n s'=>∃ i σ' H',zP X pins σ' H' s'∧tn i s'.heap∧(∀ b∈fp,H' b=none)∧W i n σ' H') ?_ m0 ⟨0,σ,H2,I2,st2,fun b hb=>(f2 b hb).1,w0⟩
 rintro n s3 ⟨i,σ3,H3,I3,st3,fr3,w3⟩
 rcases turn i n σ3 H3 w3 with ⟨stop,qn⟩ | ⟨go,N,hN,step⟩
 ·refine gx hp (wB (T.done X rfl rfl rfl hc i pins s3 σ3 H3 X.xe I3 (stat fr3) st3 stop) fun r s4 ⟨hr,I4⟩=>?_)
  subst hr
  exact gB ⟨σ3,H3,I4,qn⟩
 ·refine gx hp (wB (T.item X rfl rfl rfl hc i pins s3 σ3 H3 X.xe I3 (stat fr3) st3 go) fun r s4 ⟨u,hr,h4⟩=>?_)
  subst hr
  refine gx hp (wB h4 fun _ s5 ⟨x,H5,I5,r5,y5,st5,fr5⟩=>?_)
  have I5':=I5.pinned (stat fr5) (T.obj _ _ st5)
  refine gx hp (wB (hg _ s5 σ3 H5 x u _ I5' r5 (step x H5 y5)) fun _ s6 ⟨σ6,H6,I6,q6⟩=>?_)
  refine gx hp (wB (hb _ s6 σ6 H6 _ I6 q6) fun f s7 q7=>?_)
  have again:∀ {σ7:St} {H7:Hp},zP X (pins++zD9 fp s5.heap) σ7 H7 s7→N σ7 H7→∃ m,m<n∧∃ i σ' H',zP X pins σ' H' s7∧tn i s7.heap∧(∀ b∈fp,H' b=none)∧W i m σ' H':=fun {σ7 H7} I7 n7=>by
   obtain⟨m',hm,w7⟩:=hN σ7 H7 n7
   refine⟨m',hm,i+1,σ7,H7,I7.unpinned,T.keep _ _ _ st5 fun b hb o e=>(I7.pin (b,o) (dF _ (dF _ (zBA hb e)))).1,fun b hb=>?_,w7⟩
   obtain⟨o,e,d⟩:=T.obj _ _ st5 b hb
   exact(I7.pin (b,o) (dF _ (dF _ (zBA hb e)))).2.1
  cases f with
  | next=>obtain⟨σ7,H7,I7,n7⟩:=q7;exact again I7 n7
  | cont=>obtain⟨σ7,H7,I7,n7⟩:=q7;exact again I7 n7
  | brk=>obtain⟨σ7,H7,I7,q7⟩:=q7;exact⟨σ7,H7,I7.unpinned,q7⟩
  | ret v=>obtain⟨x7,σ7,H7,I7,r7,q7⟩:=q7;exact⟨x7,σ7,H7,I7.unpinned,r7,q7⟩
end
noncomputable abbrev R2:=V→V→Hp→VK→Prop
noncomputable def OpR(X:Cx)(f:Value→Value→Sem Value)(r:R2):Prop :=
 ∀(pins:List (Addr×Obj)) (s:Shared) (σ:St) (H:Hp) (x y:V) (v u:Value) (Q:VK),zP X pins σ H s→RelV x v→RelV y u→r x y H Q →
  wpAny (model X.prog X.w) X.A (f v u) (EP X pins σ Q) X.xe s
noncomputable def yy(X:Cx)(f:Value)(r:List V→Hp→VK→Prop):Prop :=
 ∀(pins:List (Addr×Obj)) (s:Shared) (σ:St) (H:Hp) (xs:List V) (us:List Value) (Q:VK),zP X pins σ H s→zT xs us→r xs H Q →
  wpAny (model X.prog X.w) X.A (call f us) (EP X pins σ Q) X.xe s
noncomputable def tOp(r:R2)(ta tb:TE):TE:=fun σ H Q=>ta σ H fun x H1=>tb σ H1 fun y H2=>r x y H2 Q
noncomputable def rI(C:Int→Int→Prop)(g:Int→Int→V):R2:=fun x y H Q=>∃ i j,x=.int i∧y=.int j∧C i j∧Q (g i j) H
noncomputable def rI0(g:Int→Int→V):R2:=fun x y H Q=>∃ i j,x=.int i∧y=.int j∧Q (g i j) H
section
variable {X:Cx} {a b c:Expr} {ta tb tc:TE} {pos:Pos}
theorem zN2(ha:PE X a ta)(hb:PE X b tb){pins:List (Addr×Obj)}{s:Shared}{σ:St}{H:Hp}{R:V→V→Hp→Prop}(I:zP X pins σ H s)
  (h:ta σ H fun x H1=>tb σ H1 fun y H2=>R x y H2) {Q:Value→Shared→Prop} {f:Value→Value→Sem Value}
  (hf:∀ v u s2 x y H2,zP X pins σ H2 s2→RelV x v→RelV y u→R x y H2→wpAny (model X.prog X.w) X.A (f v u) Q X.xe s2) :
  wpAny (model X.prog X.w) X.A (eval a X.env) (fun v s₁=>wpAny (model X.prog X.w) X.A (eval b X.env) (fun u s₂=>wpAny (model X.prog X.w) X.A (f v u) Q X.xe s₂) X.xe s₁) X.xe s:=by
 refine wB (ha pins s σ H _ I h) fun v s1 ⟨x,H1,I1,r1,q1⟩=>?_
 refine wB (hb pins s1 σ H1 _ I1 q1) fun u s2 ⟨y,H2,I2,r2,q2⟩=>?_
 exact hf v u s2 x y H2 I2 r1 r2 q2
theorem zJ8{op:Operator}{r:R2}(ho:OpR X (binaryOp op) r)(ha:PE X a ta)(hb:PE X b tb):PE X (.BinOp a op b pos) (tOp r ta tb):=by
 intro pins s σ H Q I h
 exact wpAny_BinOp (zN2 ha hb I h fun v u s2 x y H2 I2 rx ry q=>ho pins s2 σ H2 x y v u Q I2 rx ry q)
theorem opI{f:Value→Value→Sem Value}{C:Int→Int→Prop}{g:Int→Int→Int}
  (rule:∀(i j:Int) (t u:Tok) (s:Shared) (Q:Value→Shared→Prop) (E:Value→Shared→Prop),C i j→Q (.int (g i j) s.toks) { s with toks:=s.toks+1 }→wpAny (model X.prog X.w) X.A (f (.int i t) (.int j u)) Q E s) :
  OpR X f (rI C fun i j=>.int (g i j)):=by
 intro pins s σ H x y v u Q I rx ry h
 obtain⟨i,j,rfl,rfl,hc,q⟩:=h
 obtain⟨t,rfl⟩:=rx
 obtain⟨t',rfl⟩:=ry
 exact rule i j t t' s _ _ hc ⟨.int (g i j),H,I.tok _,⟨_,rfl⟩,q⟩
theorem zN3{f:Value→Value→Sem Value}{g:Int→Int→Int}
  (rule:∀(i j:Int) (t u:Tok) (s:Shared) (Q:Value→Shared→Prop) (E:Value→Shared→Prop),Q (.int (g i j) s.toks) { s with toks:=s.toks+1 }→wpAny (model X.prog X.w) X.A (f (.int i t) (.int j u)) Q E s) :
  OpR X f (rI0 fun i j=>.int (g i j)):=by
 intro pins s σ H x y v u Q I rx ry h
 obtain⟨i,j,rfl,rfl,q⟩:=h
 obtain⟨t,rfl⟩:=rx
 obtain⟨t',rfl⟩:=ry
 exact rule i j t t' s _ _ ⟨.int (g i j),H,I.tok _,⟨_,rfl⟩,q⟩
theorem zN4{f:Value→Value→Sem Value}{g:Int→Int→Bool}
  (rule:∀(i j:Int) (t u:Tok) (s:Shared) (Q:Value→Shared→Prop) (E:Value→Shared→Prop),Q (.bool (g i j)) s→wpAny (model X.prog X.w) X.A (f (.int i t) (.int j u)) Q E s) :
  OpR X f (rI0 fun i j=>.bl (g i j)):=by
 intro pins s σ H x y v u Q I rx ry h
 obtain⟨i,j,rfl,rfl,q⟩:=h
 obtain⟨t,rfl⟩:=rx
 obtain⟨t',rfl⟩:=ry
 exact rule i j t t' s _ _ ⟨.bl (g i j),H,I,rfl,q⟩
noncomputable def zJ9(i j:Int):Prop:=0<j∧j<1073741824
noncomputable def zDo(i j:Int):Prop:=0≤j∧j≤1000000∧i.natAbs<2 ^ 64
noncomputable def zE1(i j:Int):Prop:=(-(2 ^ 64)<i∧i<2 ^ 64)∨(-(2 ^ 64)<j∧j<2 ^ 64)
theorem zE1.ok{i j:Int}(h:zE1 i j):IntMulOk i j:=by
 rcases h with ⟨h1,h2⟩ | ⟨h1,h2⟩
 ·exact .of_left (intBits_le_64 h1 h2)
 ·exact .of_right (intBits_le_64 h1 h2)
theorem zN5:OpR X (binaryOp .Add) (rI0 fun i j=>.int (i+j)):=zN3 fun u0 u0 u0 u0 u0 u0 u0 q=>add_int q
theorem zN6:OpR X (binaryOp .Sub) (rI0 fun i j=>.int (i-j)):=zN3 fun u0 u0 u0 u0 u0 u0 u0 q=>sub_int q
theorem zN7:OpR X (binaryOp .Mult) (rI zE1 fun i j=>.int (i*j)):=opI fun u0 u0 u0 u0 u0 u0 u0 hc q=>mul_int q hc.ok
theorem zL0:OpR X (binaryOp .FloorDiv) (rI zJ9 fun i j=>.int (i / j)):=opI fun i j u0 u0 u0 u0 u0 hc q=>by
 have h1:(0:Int)<j:=hc.1
 have h2:j<1073741824:=hc.2
 exact floordiv_int (by omega) (by rw[Int.fdiv_eq_ediv_of_nonneg i (by omega)];exact q) (.inl (PyProof.noPylong_small (by omega)))
theorem zN8:OpR X (binaryOp .Mod) (rI (fun u0 j=>0<j) fun i j=>.int (i%j)):=opI fun i j u0 u0 u0 u0 u0 hc q=>by
 have h1:(0:Int)<j:=hc
 exact mod_int' (by omega) (by rw[Int.fmod_eq_emod_of_nonneg i (by omega)];exact q)
theorem zN9:OpR X (binaryOp .Pow) (rI zDo fun i j=>.int (i ^ j.toNat)):=opI fun u0 u0 u0 u0 u0 u0 u0 hc q=>pow_int_small hc.1 hc.2.1 hc.2.2 q
theorem zOA:OpR X (binaryOp .LShift) (rI zDo fun i j=>.int (i*2 ^ j.toNat)):=opI fun u0 u0 u0 u0 u0 u0 u0 hc q=>lshift_int_small hc.1 hc.2.1 hc.2.2 q
theorem zOB:OpR X (binaryOp .BitXor) (rI0 fun i j=>.int (Builtin.bitXor i j)):=zN3 fun u0 u0 u0 u0 u0 u0 u0 q=>xor_int q
theorem zNI:OpR X (compareOp .Lt) (rI0 fun i j=>.bl (decide (i<j))):=zN4 fun u0 u0 u0 u0 u0 u0 u0 q=>lt_int q
theorem zPO:OpR X (compareOp .Gt) (rI0 fun i j=>.bl (decide (j<i))):=zN4 fun u0 u0 u0 u0 u0 u0 u0 q=>gt_int q
theorem zPP:OpR X (compareOp .GtE) (rI0 fun i j=>.bl (decide (j≤i))):=zN4 fun u0 u0 u0 u0 u0 u0 u0 q=>ge_int q
theorem OpR.or{f:Value→Value→Sem Value}{r r':R2}(h:OpR X f r)(h':OpR X f r'):OpR X f (fun x y H Q=>r x y H Q∨r' x y H Q):=by
 intro pins s σ H x y v u Q I rx ry q
 rcases q with q | q
 ·exact h pins s σ H x y v u Q I rx ry q
 ·exact h' pins s σ H x y v u Q I rx ry q
theorem zCN(b:Expr){op:CmpOp}(h:op≠.In:=by decide)(h2:op≠.NotIn:=by decide):behindInMarks op b=false:=by
 have e1:(op==CmpOp.In)=false:=by cases op<;>first | rfl | exact absurd rfl h
 have e2:(op==CmpOp.NotIn)=false:=by cases op<;>first | rfl | exact absurd rfl h2
 cases b<;>simp[behindInMarks,e1,e2]
theorem zL1{op:CmpOp}{r:R2}(ho:OpR X (compareOp op) r)(ha:PE X a ta)(hb:PE X b tb)(hm:behindInMarks op b=false):PE X (.Compare a [op] [b] pos) (tOp r ta tb):=by
 intro pins s σ H Q I h
 exact wpAny_Compare1 (zN2 ha hb I h fun v u s2 x y H2 I2 rx ry q=>ho pins s2 σ H2 x y v u Q I2 rx ry q) hm
noncomputable def zPQ(t:TE):TT:=fun σ H Q=>t σ H fun x H'=>∃ k,x=.bl k∧Q k H'
theorem zL2{op:CmpOp}{r:R2}(ho:OpR X (compareOp op) r)(ha:PE X a ta)(hb:PE X b tb)(hm:behindInMarks op b=false):PT X (.Compare a [op] [b] pos) (zPQ (tOp r ta tb)):=by
 intro pins s σ H Q I h
 refine wpAny_isTrue_Compare1 (wB (ha pins s σ H _ I h) fun v s1 ⟨x,H1,I1,r1,q1⟩=>wB (hb pins s1 σ H1 _ I1 q1) fun u s2 ⟨y,H2,I2,r2,q2⟩ =>
  wB (ho pins s2 σ H2 x y v u _ I2 r1 r2 q2) fun c s3 ⟨z,H3,I3,r3,k,e,q3⟩=>?_) hm
 subst e
 cases r3
 exact wpAny_truthy_bool ⟨H3,I3,q3⟩
theorem zFs:(sizeLine:Nat)<2 ^ 63:=by rw[sizeLine_eq];decide
theorem vals1{x:V}{us:List Value}(r:zT [x] us):∃ u,us=[u]∧RelV x u:=by
 cases r with
 | cons r1 r2=>cases r2;exact⟨_,rfl,r1⟩
theorem vals2{x y:V}{us:List Value}(r:zT [x,y] us):∃ u w',us=[u,w']∧RelV x u∧RelV y w':=by
 cases r with
 | cons r1 r2 =>
  cases r2 with
  | cons r3 r4=>cases r4;exact⟨_,_,rfl,r1,r3⟩
theorem zJD(hc:X.calm=true):yy X (.builtin "max") (fun xs H Q=>∃ i j,xs=[.int i,.int j]∧Q (.int (if j>i then j else i)) H):=by
 intro pins s σ H xs us Q I r h
 obtain⟨i,j,rfl,q⟩:=h
 obtain⟨u,w',rfl,⟨t,rfl⟩,⟨t',rfl⟩⟩:=vals2 r
 refine max_two_ints (I.ok.hd hc) fun h' tk k=>⟨_,H,I.kept k,?_,q⟩
 by_cases hj:j>i
 ·rw[if_pos hj,if_pos hj];exact⟨_,rfl⟩
 ·rw[if_neg hj,if_neg hj];exact⟨_,rfl⟩
theorem zJE(hc:X.calm=true):yy X (.builtin "min") (fun xs H Q=>∃ i j,xs=[.int i,.int j]∧Q (.int (if j<i then j else i)) H):=by
 intro pins s σ H xs us Q I r h
 obtain⟨i,j,rfl,q⟩:=h
 obtain⟨u,w',rfl,⟨t,rfl⟩,⟨t',rfl⟩⟩:=vals2 r
 refine min_two_ints (I.ok.hd hc) fun h' tk k=>⟨_,H,I.kept k,?_,q⟩
 by_cases hj:j<i
 ·rw[if_pos hj,if_pos hj];exact⟨_,rfl⟩
 ·rw[if_neg hj,if_neg hj];exact⟨_,rfl⟩
end
structure zOC (h:Heap) (x dx C:Addr) (mA:Str→Option Value):Prop where
 obj:h.get? x=some (PySem.W.instObj C dx)
 ns:h.Ns1 dx mA
 ne:dx≠x
theorem zJF{h:Heap}{dx:Addr}{mA:Str→Option Value}(n:h.Ns1 dx mA):∃ od,h.get? dx=some od∧∀ name,PySem.W.lookIn name od=some (mA name):=by
 obtain⟨o,es,ep,ho,hd,hk,u0,hm⟩:=n
 refine⟨o,ho,fun name=>?_⟩
 have e:=hm name
 unfold nsFind findBy at e
 rw[← Array.find?_toList] at e
 unfold PySem.W.lookIn
 rw[hd]
 dsimp only
 split
 ·rename_i y q
  rw[q] at e
  exact congrArg some e
 ·rename_i q
  rw[q] at e
  have a:es.toList.any (·.refKey)=false:=by
   rw[List.any_eq_false]
   intro y hy
   obtain⟨z,t,hkey⟩:=hk y (ef.mp hy)
   simp[DictEntry.refKey,hkey]
  have a':¬ es.toList.any (·.refKey)=true:=by rw[a];exact eK
  rw[if_neg a']
  exact congrArg some e
theorem zOC.look{h:Heap}{x dx C:Addr}{mA:Str→Option Value}(I:zOC h x dx C mA):∃ od,PySem.W.InstAt h x (PySem.W.instObj C dx) C (some od)∧∀ name,PySem.W.lookIn name od=some (mA name) :=
 let ⟨od,ho,hl⟩:=zJF I.ns
 ⟨od,⟨I.obj,rfl,rfl,ho⟩,hl⟩
section
variable {prog:Program} {w:World} {A:Around} {E:Value→Shared→Prop} {s:Shared} {K:PySem.W.Frag} {x dx C f:Addr} {mA:Str→Option Value} {name:Str} {v:Value}
theorem zDt{expr:Bool}{Q:Value→Shared→Prop}(X:K.In s.heap)(I:zOC s.heap x dx C mA)(hg:PySem.W.plainGet K C name=true)(hh:PySem.W.hasDictIn K C=true)
  (ha:PySem.W.findIn K (.ref C) name=some none) (hv:mA name=some v) (hv':PySem.W.handedIn v=true) (h:Q v { s with toks:=s.toks+1 }) :
  wpAny (model prog w) A (getAttr (.ref x) name expr) Q E s:=by
 obtain⟨od,J,hl⟩:=I.look
 exact PySem.W.get_value X J (PySem.W.plainGet_of hg).1 (PySem.W.findObj_own hh ha rfl (by rw[hl,hv])) hv' h
end
section
variable {P:Program} {w:World} {H H':Hp} {h h':Heap} {a C dx:Addr} {fs fs':List (Str×V)}
end
section
variable {X:Cx} {pins:List (Addr×Obj)} {σ:St} {H:Hp} {s:Shared} {a C dx:Addr} {fs:List (Str×V)} {f:Str} {v:V} {A:Around} {E:Value→Shared→Prop}
theorem zP.made(I:zP X pins σ H s):zP X pins σ (wC (wC H s.heap.objs.size (.own (s.heap.objs.size+1))) (s.heap.objs.size+1) (.ins C s.heap.objs.size []))
  { s with heap:=(s.heap.push PySem.W.emptyDict).push (PySem.W.instObj C s.heap.objs.size) }:=by
 have e1:(s.heap.push PySem.W.emptyDict).get? s.heap.objs.size=some PySem.W.emptyDict:=dc s.heap rfl
 have e2:((s.heap.push PySem.W.emptyDict).push (PySem.W.instObj C s.heap.objs.size)).get? (s.heap.objs.size+1)=some (PySem.W.instObj C s.heap.objs.size):=by
  have:=dc (s.heap.push PySem.W.emptyDict) (o:=PySem.W.instObj C s.heap.objs.size) rfl
  rwa [fB] at this
 have e3:(s.heap.push PySem.W.emptyDict).Ns s.heap.objs.size (fun u0=>none):=⟨PySem.W.emptyDict,#[],_,e1,rfl,(fun e he=>absurd he (by simp)),fun u0=>rfl⟩
 have I1:=I.laid (a:=s.heap.objs.size) (o:=.own (s.heap.objs.size+1)) (h':=s.heap.push PySem.W.emptyDict) (t':=s.toks) (fun b u q=>cQ _ q) (cX _) ⟨_,e1⟩
 refine I1.laid (a:=s.heap.objs.size+1) (o:=.ins C s.heap.objs.size []) (t':=s.toks) (fun b u q=>cQ _ q) (Nat.le_of_eq (fB _ _)) ?_
 have ne:s.heap.objs.size≠s.heap.objs.size+1:=dB (gH _)
 refine⟨by rw[zq ne,zc],fh _,ne,e2,fun u0=>none,(Heap.Ns1.of_empty e3).at fun o q=>cQ _ q,fun u0=>True.intro,fun y hy=>absurd rfl hy⟩
end
section
variable {X:Cx} {o e value:Expr} {f:Str} {pos pos' tpos:Pos} {ta tv:TE}
end
section
variable {X:Cx} {pins:List (Addr×Obj)} {σ:St} {H:Hp} {s:Shared} {A:Around} {E:Value→Shared→Prop} {Q:Value→Shared→Prop} {c:Value} {b:Bool}
end
structure zx (k:Nat) (A:Around):Prop where
 hd:A.handled=none
 dp:A.depth+3*k+5<recursionLimit
 un:A.units+16*k+200<cLine
theorem zx.mono{j k:Nat}{A:Around}(r:zx k A)(h:j≤k):zx j A:=⟨r.hd,by have:=r.dp;omega,by have:=r.un;omega⟩
theorem zx.deeper{k:Nat}{A:Around}(r:zx (k+1) A)(env:Env):zx k (A.deeper env) :=
 ⟨r.hd,by have:=r.dp;show A.depth+1+3*k+5<_;omega,by have:=r.un;show A.units+3+16*k+200<_;omega⟩
theorem zx.in1{k:Nat}{A:Around}(r:zx (k+1) A):zx k A.in1 :=
 ⟨r.hd,by have:=r.dp;show A.depth+3*k+5<_;omega,by have:=r.un;show A.units+1+16*k+200<_;omega⟩
theorem zx.depth{k:Nat}{A:Around}(r:zx k A):A.depth<recursionLimit:=by have:=r.dp;omega
theorem zx.units{k:Nat}{A:Around}(r:zx k A):A.units+64<cLine:=by have:=r.un;omega
noncomputable def zOD:TA:=fun u0 H Q=>Q [] H
noncomputable def zKA(ta:TE)(tr:TA):TA:=fun σ H Q=>ta σ H fun x H1=>tr σ H1 fun xs H2=>Q (x::xs) H2
section
variable {X:Cx} {e:Expr} {es:List Expr} {te:TE} {t:TA} {pos:Pos}
theorem zAA:PA X [] zOD:=fun u0 u0 u0 u0 H Q I h=>Calls.spliced_nil ⟨[],H,I,.nil,h⟩
theorem yS(ha:PE X e te)(hr:PA X es t)(hs:starEach (e::es) X.env=(false,eval e X.env)::starEach es X.env:=by rfl):PA X (e::es) (zKA te t):=by
 intro pos pins s σ H Q I h
 rw[hs]
 show wpAny _ _ (spliced ((false,eval e X.env)::backTo pos (starEach es X.env))) _ _ s
 refine Calls.spliced_cons (wB (ha pins s σ H _ I h) fun u s1 ⟨x,H1,I1,r1,q1⟩=>?_)
 exact wB (hr pos pins s1 σ H1 _ I1 q1) fun us s2 ⟨xs,H2,I2,r2,q2⟩=>⟨x::xs,H2,I2,.cons r1 r2,q2⟩
noncomputable def zQC(t:TA):TE:=fun σ H Q=>t σ H fun xs H1=>xs.length≤sizeLine∧∀ p,H1 p=none→Q (.ref p) (wC H1 p (.tup xs))
noncomputable def zQD(t:TA):TE:=fun σ H Q=>t σ H fun xs H1=>xs.length≤sizeLine∧∀ p,H1 p=none→Q (.ref p) (wC H1 p (.lst xs))
theorem zOE{x1}(h:PA X es t):PE X (.Tuple es x1 pos) (zQC t):=by
 intro pins s σ H Q I hq
 refine wpAny_Tuple_spliced (wB (h pos pins s σ H _ I hq) fun us s1 ⟨xs,H1,I1,r,z,q⟩=>⟨by rw[← r.length];exact z,?_⟩)
 have hf:H1 s1.heap.objs.size=none:=I1.hok.fresh (cX _)
 refine⟨.ref s1.heap.objs.size,wC H1 s1.heap.objs.size (.tup xs),I1.laid (t':=s1.toks) (fun b u e=>cQ _ e) (cX _) ?_,rfl,q _ hf⟩
 exact⟨z,us,r,⟨_,dc _ rfl,rfl,⟨_,rfl⟩,rfl⟩⟩
theorem zOF(h:PA X es t):PE X (.List es pos) (zQD t):=by
 intro pins s σ H Q I hq
 refine wpAny_List_spliced (wB (h pos pins s σ H _ I hq) fun us s1 ⟨xs,H1,I1,r,z,q⟩=>⟨by rw[← r.length];exact z,?_⟩)
 have hf:H1 s1.heap.objs.size=none:=I1.hok.fresh (cX _)
 refine⟨.ref s1.heap.objs.size,wC H1 s1.heap.objs.size (.lst xs),I1.laid (t':=s1.toks) (fun b u e=>cQ _ e) (cX _) ?_,rfl,q _ hf⟩
 exact⟨z,us,0,r,dc _ rfl⟩
end
noncomputable abbrev Sp:=List V→Hp→VK→XK→Prop
noncomputable abbrev CXT:=List Env→Hp→Shared→XK→Value→Shared→Prop
structure zEB (P:Program) (w:World) (K:PySem.W.Frag) (mg:Str→Option Value) (base:Heap) (A:Around) (outer:List Env) (s:Shared) (H:Hp):Prop where
 frames:A.frames=some outer
 mod:Mod K mg base
 bs:∀ b o,base.get? b=some o→s.heap.get? b=some o∧H b=none
 bsz:base.objs.size≤s.heap.objs.size
 funs:s.heap.FunFrames base outer
 frf:∀ b∈wq outer,H b=none
 hok:HOk P w H s.heap
 bare:AllBare s.gens
 tb:TabsOk K H
noncomputable def CE(outer:List Env)(P:Program)(w:World)(H:Hp)(s:Shared)(Q:VK)(u:Value)(s':Shared):Prop :=
 ∃ v H',s'.os=s.os∧AllBare s'.gens∧Un (wq outer) [] H H' s.heap s'.heap∧HOk P w H' s'.heap∧RelV v u∧Q v H'
noncomputable def CR(CX:CXT)(outer:List Env)(P:Program)(w:World)(H:Hp)(s:Shared)(Q:VK)(E:XK)(r:Result)(s':Shared):Prop :=
 match r with
 | .ok (.ret u)=>CE outer P w H s Q u s'
 | .ok _=>False
 | .error e=>CX outer H s E e s'
structure zBb (P:Program) (w:World) (K:PySem.W.Frag) (mg:Str→Option Value) (base:Heap) (CX:CXT) (k:Nat) (f:Addr) (fd:FuncData) (ps:List Str) (sp:Sp):Prop where
 len:∀ vs H Q E,sp vs H Q E→vs.length=ps.length
 run:∀(A:Around) (outer:List Env) (s:Shared) (H:Hp) (args:Args) (us:List Value) (vs:List V) (Q:VK) (E:XK),zx k A→zEB P w K mg base A outer s H→BindsTo s fd args (ps.zip us)→zT vs us→sp vs H Q E →
  codeAny (model P w) A (.call (.ref f) args) (CR CX outer P w H s Q E) s
theorem zBb.mono{P:Program}{w:World}{K:PySem.W.Frag}{mg:Str→Option Value}{base:Heap}{CX:CXT}{j k:Nat}{f:Addr}{fd:FuncData}{ps:List Str}{sp:Sp}(F:zBb P w K mg base CX j f fd ps sp)(h:j≤k) :
  zBb P w K mg base CX k f fd ps sp:=⟨F.len,fun A outer s H args us vs Q E hr=>F.run A outer s H args us vs Q E (hr.mono h)⟩
theorem zBb.imp{P:Program}{w:World}{K:PySem.W.Frag}{mg:Str→Option Value}{base:Heap}{CX:CXT}{k:Nat}{f:Addr}{fd:FuncData}{ps:List Str}{sp sp':Sp}(F:zBb P w K mg base CX k f fd ps sp)
  (h:∀ vs H Q E,sp' vs H Q E→sp vs H Q E):zBb P w K mg base CX k f fd ps sp' :=
 ⟨fun vs H Q E q=>F.len vs H Q E (h _ _ _ _ q),fun A outer s H args us vs Q E hr he hb hv hs=>F.run A outer s H args us vs Q E hr he hb hv (h _ _ _ _ hs)⟩
theorem zEB.in1{P:Program}{w:World}{K:PySem.W.Frag}{mg:Str→Option Value}{base:Heap}{A:Around}{outer:List Env}{s:Shared}{H:Hp}(e:zEB P w K mg base A outer s H) :
  zEB P w K mg base A.in1 outer s H:=⟨e.frames,e.mod,e.bs,e.bsz,e.funs,e.frf,e.hok,e.bare,e.tb⟩
section
variable {X:Cx} {pins:List (Addr×Obj)} {σ:St} {H:Hp} {s s':Shared}
theorem zP.env0(I:zP X pins σ H s):zEB X.prog X.w X.K X.mg X.base X.A X.stack s H :=
 ⟨I.ok.frames,I.ok.mod,I.bs,eD I.ok.bsz I.sz,I.stack,I.stkFree,I.hok,I.bare,I.tabs⟩
theorem zP.after{Q:VK}{u:Value}(I:zP X pins σ H s)(h:CE X.stack X.prog X.w H s Q u s'):EP X pins σ Q u s':=by
 obtain⟨v,H',os,bare,un,hok,r,q⟩:=h
 obtain⟨hh,g,d,t,os'⟩:=s'
 obtain rfl:os'=s.os:=os
 exact⟨v,H',I.call (h':=hh) (g':=g) (d':=d) (t':=t) (ch:=[]) un hok bare (fun b z=>absurd z (by simp)),r,q⟩
end
noncomputable def zPR(sp:Sp)(dvs:List V)(E:XK)(t:TA):TE:=fun σ H Q=>t σ H fun vs H1=>sp (vs++dvs) H1 Q E
noncomputable def Binds(K:PySem.W.Frag)(fd:FuncData)(ps:List Str)(ds:List Value):Prop :=
 ∀(s:Shared) (us:List Value),K.In s.heap→(us++ds).length=ps.length→BindsTo s fd ⟨us,[]⟩ (ps.zip (us++ds))
theorem Binds.all{K:PySem.W.Frag}{fd:FuncData}{ps:List Str}(h:∀ us:List Value,us.length=ps.length→bindArgs fd ⟨us,[]⟩=pure (ps.zip us)):Binds K fd ps []:=fun s us u0 hl=>by
 rw[fk] at hl ⊢
 exact .of_eq (h us hl)
noncomputable def zHM(CX:CXT)(X:Cx)(E:XK):Prop:=∀(pins:List (Addr×Obj)) (σ:St) (H:Hp) (s:Shared) (e:Value) (s':Shared),zP X pins σ H s→CX X.stack H s E e s'→X.xe e s'
section
variable {X:Cx} {CX:CXT} {k:Nat} {f C:Addr} {fd:FuncData} {ps:List Str} {sp:Sp} {dvs:List V} {ds:List Value} {E:XK} {x m:Str} {p pos apos:Pos} {e o:Expr} {es:List Expr} {ta:TE} {t:TA}
theorem zOG{pins:List (Addr×Obj)}{σ:St}{H:Hp}{s:Shared}{Q:VK}{us:List Value}{vs:List V}(F:zBb X.prog X.w X.K X.mg X.base CX k f fd ps sp)(hr:zx k X.A)(hb:Binds X.K fd ps ds)(hd:zT dvs ds)(hx:zHM CX X E)
  (I:zP X pins σ H s) (r:zT vs us) (h:sp (vs++dvs) H Q E):wpAny (model X.prog X.w) X.A (call (.ref f) us) (EP X pins σ Q) X.xe s:=by
 have r2:zT (vs++dvs) (us++ds):=r.append hd
 have hl:(us++ds).length=ps.length:=by rw[← r2.length];exact F.len _ _ _ _ h
 refine wpAny_call (eV (F.run X.A X.stack s H ⟨us,[]⟩ (us++ds) (vs++dvs) Q E hr I.env0 (hb s us I.kIn hl) r2 h) fun r s' hq=>?_)
 cases r with
 | error e=>exact hx pins σ H s e s' I hq
 | ok fl =>
  cases fl with
  | ret u=>exact I.after hq
  | next=>exact False.elim hq
  | brk=>exact False.elim hq
  | cont=>exact False.elim hq
theorem zIN(F:zBb X.prog X.w X.K X.mg X.base CX k f fd ps sp)(hr:zx k X.A)(hg:Gl X x)(hm:X.mg x=some (.ref f))(hk:PySem.W.keepIn X.K (.ref f)=true)(hb:Binds X.K fd ps ds)(hd:zT dvs ds)(hx:zHM CX X E)
  (ha:PA X (e::es) t) (hdb:(x==("__debug__":Str))=false:=by decide) (he:starEach (e::es) X.env=(false,eval e X.env)::starEach es X.env:=by rfl) (hpl:(backTo pos (starEach es X.env)).any (·.1)=false:=by rfl) :
  PE X (.Call (.Name x p) (e::es) [] pos) (zPR sp dvs E t):=by
 intro pins s σ H Q I h
 refine eI (zBs I hg hm ?_ hdb)
 refine PySem.W.callWith_K (h₀:=X.base) I.ok.mod.kin hk (wB (ha pos pins s σ H _ I h) fun us s1 ⟨vs,H1,I1,r,q⟩=>⟨I1.kIn,?_⟩) he hpl
 exact zOG F hr hb hd hx I1 r q
end
section
variable {X:Cx} {CX:CXT} {k:Nat} {f C:Addr} {fd:FuncData} {ps ks:List Str} {sp:Sp} {E:XK} {x m:Str} {p pos apos kpos:Pos} {e o:Expr} {es:List Expr} {kws:List Keyword} {te ta:TE} {t tk:TA} {nm:Option Str}
variable {g:List Value→List Value→List Value} {gV:List V→List V→List V}
end
structure za (N P:List Str) (sc:Scope):Prop where
 kind:sc.kind=.function
 co:sc.isCoroutine=false
 gen:sc.isGenerator=false
 nd:N.Nodup
 pre:N.take P.length=P
 par:∀ x∈P,sc.names.lookup x=some .local∨sc.names.lookup x=some .cell
 nofree:∀ y∈sc.names,y.2≠.free
theorem zFK{kindOf:Str→Option NameKind}{x:Str}:∀ {binds:List (Str×Value)} {m:Str→Option Value},(∀ v,(x,v)∉binds)→bindL kindOf binds m x=m x
 | [],_,_=>rfl
 | (n,v)::r,m,h=>by
  unfold bindL
  rw[zFK fun w hw=>h w (dw _ hw)]
  split
  ·have:x≠n:=by rintro rfl;exact h v dt
   simp[this]
  ·rfl
theorem zFL{kindOf:Str→Option NameKind}{x:Str}:∀ {binds:List (Str×Value)} {m:Str→Option Value},(∀ v,(x,v)∉binds)→bindC kindOf binds m x=m x
 | [],_,_=>rfl
 | (n,v)::r,m,h=>by
  unfold bindC
  rw[zFL fun w hw=>h w (dw _ hw)]
  split
  ·rfl
  ·have:x≠n:=by rintro rfl;exact h v dt
   simp[this]
theorem zFM{kindOf:Str→Option NameKind}{x:Str}{v:Value}:∀ {P:List Str} {vs:List Value} {i:Nat} {m:Str→Option Value},P.Nodup→P[i]?=some x→vs[i]?=some v→kindOf x=some .local →
  bindL kindOf (P.zip vs) m x=some v
 | [],_,_,_,_,h,_,_=>by simp at h
 | _::_,[],_,_,_,_,h,_=>by simp at h
 | p::P,w::vs,0,m,nd,h1,h2,hk=>by
  simp at h1 h2;subst h1;subst h2
  show bindL kindOf ((p,w)::P.zip vs) m p=_
  unfold bindL
  rw[zFK fun v hv=>(fi.mp nd).1 (gT hv).1,if_pos hk]
  simp
 | p::P,w::vs,i+1,m,nd,h1,h2,hk=>by
  show bindL kindOf ((p,w)::P.zip vs) m x=_
  unfold bindL
  exact zFM (i:=i) (fi.mp nd).2 (by simpa using h1) (by simpa using h2) hk
theorem zFN{kindOf:Str→Option NameKind}{x:Str}{v:Value}:∀ {P:List Str} {vs:List Value} {i:Nat} {m:Str→Option Value},P.Nodup→P[i]?=some x→vs[i]?=some v→kindOf x≠some .local →
  bindC kindOf (P.zip vs) m x=some v
 | [],_,_,_,_,h,_,_=>by simp at h
 | _::_,[],_,_,_,_,h,_=>by simp at h
 | p::P,w::vs,0,m,nd,h1,h2,hk=>by
  simp at h1 h2;subst h1;subst h2
  show bindC kindOf ((p,w)::P.zip vs) m p=_
  unfold bindC
  rw[zFL fun v hv=>(fi.mp nd).1 (gT hv).1,if_neg hk]
  simp
 | p::P,w::vs,i+1,m,nd,h1,h2,hk=>by
  show bindC kindOf ((p,w)::P.zip vs) m x=_
  unfold bindC
  exact zFN (i:=i) (fi.mp nd).2 (by simpa using h1) (by simpa using h2) hk
noncomputable def start(N:List Str)(vs:List V):St:=vs.map some++di (N.length-vs.length) none
noncomputable def zAq(CX:CXT)(P:Program)(w:World)(K:PySem.W.Frag)(mg:Str→Option Value)(base:Heap)(N:List Str)(qual:Str)(scope:Scope)(f:Addr)(cd:Value)(A:Around)(outer:List Env)(s:Shared)(H:Hp)(E:XK):Cx where
 prog:=P
 w:=w
 K:=K
 mg:=mg
 base:=base
 A:=A.deeper (envOfC qual scope s.heap.objs.size f cd)
 N:=N
 s₀:=s
 H₀:=H
 env:=envOfC qual scope s.heap.objs.size f cd
 outer:=outer
 stack:=envOfC qual scope s.heap.objs.size f cd::outer
 ex:=[]
 calm:=true
 fn:=fun u0=>true
 pn:=[]
 xe:=fun e s'=>wpAny (model P w) (A.deeper (envOfC qual scope s.heap.objs.size f cd)) (leaving (envOfC qual scope s.heap.objs.size f cd) e) (fun u0 s''=>CX outer H s E e s'') (fun e' s''=>CX outer H s E e' s'') s'
theorem zGN{sc:Scope}{n:Nat}{x:Str}(h:sc.names.lookup x=some .cell):∃ c,(cellsFrom n sc.names []).lookup x=some c:=by
 have q:=PySem.W.cellsFrom_some sc.names n [] (.inl h)
 exact Option.isSome_iff_exists.mp q
theorem zBt{CX:CXT}{P:Program}{w:World}{K:PySem.W.Frag}{mg:Str→Option Value}{base:Heap}{N ps:List Str}{qual:Str}{scope:Scope}{f:Addr}{cd:Value}{A:Around}{outer:List Env}{s s1:Shared}{H:Hp}{E:XK}{us:List Value}{vs:List V}
  (S:za N ps scope) (hd:A.handled=none) (e0:zEB P w K mg base A outer s H) (hl:vs.length=ps.length) (r:zT vs us)
  (x:InCallC s s.heap.objs.size (bindL (envOfC qual scope s.heap.objs.size f cd).kindOf (ps.zip us) fun u0=>none) (cellsFrom (s.heap.objs.size+1) scope.names []) (bindC (envOfC qual scope s.heap.objs.size f cd).kindOf (ps.zip us) fun u0=>none) s1) :
  zP (zAq CX P w K mg base N qual scope f cd A outer s H E) [] (start N vs) H s1:=by
 have hpl:ps.length≤N.length:=by have:=congrArg List.length S.pre;rw[dO] at this;omega
 obtain⟨h1,tk,rfl,hk⟩:=x.done
 have noA:∀ b:Addr,b∉(zAq CX P w K mg base N qual scope f cd A outer s H E).ex:=fun b z=>absurd (show b∈([]:List Addr) from z) (by simp)
 refine⟨⟨e0.mod,S.kind,rfl,rfl,cX _,fun y z c h1 h2=>?_,fun y hy=>?_,fun y c u0 h=>?_,fun u0=>hd,Around.frames_deeper e0.frames,.inr ⟨rfl,rfl⟩,fun b z=>absurd z (noA b),e0.bs,e0.bsz,fun b u0 u0=>noA b,fun b z=>absurd z (noA b),e0.funs,e0.frf,e0.tb⟩,
  rfl,e0.bare,Un.kept hk,⟨_,x.toInCall.ns,fun i y v h1 h2 h3=>?_⟩,fun y c h=>⟨_,x.cell y c h⟩,e0.hok.fresh (cX _),fun y c h=>?_,fun p hp=>absurd (show p∈([]:List (Addr×Obj)) from hp) (by simp),e0.hok.kept hk,?_⟩
 ·exact name_of_addr x.apart (PySem.mem_of_lookup h1) (PySem.mem_of_lookup h2)
 ·have hy:scope.names.lookup y=some .cell∨scope.names.lookup y=some .free:=hy
  rcases hy with hy | hy
  ·exact zGN hy
  ·exact absurd rfl (S.nofree _ (PySem.mem_of_lookup hy))
 ·exact gQ (x.above y c (PySem.mem_of_lookup h))
 ·have hi:i<vs.length:=by
   unfold start at h2
   by_cases hi:i<vs.length
   ·exact hi
   ·rw[dY (by simpa using hi)] at h2
    rw[fG] at h2
    split at h2<;>cases h2
  have ha:vs[i]?=some v:=by
   unfold start at h2
   rw[el (by simpa using hi),dJ] at h2
   cases e:vs[i]? with
   | none=>rw[e] at h2;cases h2
   | some a=>rw[e] at h2;cases h2;rfl
  obtain⟨u,hu,rv⟩:=r.get ha
  have hp:ps[i]?=some y:=by
   rw[← S.pre,List.getElem?_take_of_lt (by omega)];exact h1
  have ndP:ps.Nodup:=by rw[← S.pre];exact S.nd.sublist (List.take_sublist _ _)
  refine⟨u,rv,?_⟩
  rcases S.par y (dM hp) with k | k
  ·exact .inl ⟨k,zFM ndP hp hu k⟩
  ·obtain⟨c,e⟩:=zGN (n:=s.heap.objs.size+1) k
   refine .inr ⟨.inl k,c,e,?_⟩
   have q:=x.cell y c e
   rw[zFN ndP hp hu (by show scope.names.lookup y≠_;rw[k];decide)] at q
   exact q
 ·exact e0.hok.fresh (gQ (x.above y c (PySem.mem_of_lookup h)))
 ·unfold start
  show _=N.length
  rw[du,d7,List.length_replicate]
  omega
theorem zNJ{CX:CXT}{P:Program}{w:World}{K:PySem.W.Frag}{mg:Str→Option Value}{base:Heap}{k:Nat}{f:Addr}{name qual:Str}{params:Arguments}{body:List Stmt}{scope:Scope}{dV kV doc pm cdv ct oc:Value}{an od:Option Addr}
  {osl:Array (Option Value)} {N ps:List Str} {sp:Sp} (lk:K.lookup f=some ⟨oc,od,.func (PySem.W.fnOf name qual params body scope dV kV doc pm an cdv ct),osl⟩) (hcd:PySem.W.codeIn K cdv qual=true) (S:za N ps scope)
  (len:∀ vs H Q E,sp vs H Q E→vs.length=ps.length)
  (hbody:∀(A:Around) (outer:List Env) (s:Shared) (H:Hp) (vs:List V) (Q:VK) (E:XK),zx k (A.deeper (envOfC qual scope s.heap.objs.size f cdv))→sp vs H Q E →
   ∃ t,PSs (zAq CX P w K mg base N qual scope f cdv A outer s H E) body t∧t { nx:=fun u0 H'=>Q .non H',rt:=Q } (start N vs) H) :
  zBb P w K mg base CX (k+1) f (PySem.W.fnOf name qual params body scope dV kV doc pm an cdv ct) ps sp:=by
 refine⟨len,fun A outer s H args us vs Q E hr e0 hb r hsp=>?_⟩
 have hl:=len _ _ _ _ hsp
 have KX:K.In s.heap:=e0.mod.kin.keeps fun b o e=>(e0.bs b o e).1
 have lim:s.heap.NoLimit:=e0.mod.nolimit.keeps fun b o e=>(e0.bs b o e).1
 have hkind:∀ y∈ps.zip us,scope.names.lookup y.1=some .local∨(scope.names.lookup y.1=some .cell∧((cellsFrom (s.heap.objs.size+1) scope.names []).lookup y.1).isSome=true):=fun⟨n,v⟩ hy=>by
  rcases S.par n (gT hy).1 with q | q
  ·exact .inl q
  ·exact .inr ⟨q,PySem.W.cellsFrom_some _ _ _ (.inl q)⟩
 refine codeAny_call_function hr.depth (KX _ _ lk) rfl S.co S.gen rfl (PySem.W.codeRec_of KX hcd) (hb _ _ _ _ ?_)
 refine gD S.kind hkind fun env he s1 x=>?_
 subst he
 refine⟨lim.keeps x.toInCall.keep,codeAny_func ?_⟩
 obtain⟨t,ht,hq⟩:=hbody A outer s H vs Q E (hr.deeper _) hsp
 have I:zP (zAq CX P w K mg base N qual scope f cdv A outer s H E) [] (start N vs) H s1:=zBt S hr.hd e0 hl r x
 refine eN (ht [] s1 (start N vs) H _ I hq) (fun fl s' hs=>?_) fun e s' hs=>hs
 have fin:∀ {σ':St} {H':Hp} {v:V} {u:Value},zP (zAq CX P w K mg base N qual scope f cdv A outer s H E) [] σ' H' s'→RelV v u→Q v H'→CE outer P w H s Q u s' :=
  fun {σ' H' v u} J rv q=>⟨v,H',J.os,J.bare,J.base,J.hok,rv,q⟩
 cases fl with
 | ret u =>
  obtain⟨v,σ',H',J,rv,q⟩:=hs
  exact fin J rv q
 | next =>
  obtain⟨σ',H',J,q⟩:=hs
  exact fin (v:=V.non) (u:=Value.none) J rfl q
 | brk =>
  obtain⟨u0,u0,u0,q⟩:=hs
  exact False.elim q
 | cont =>
  obtain⟨u0,u0,u0,q⟩:=hs
  exact False.elim q
section
variable {X:Cx} {x:Str} {p pos:Pos} {e:Expr} {es:List Expr} {t:TA} {id T:String} {r:List V→Hp→VK→Prop}
noncomputable def tCB(r:List V→Hp→VK→Prop)(t:TA):TE:=fun σ H Q=>t σ H fun vs H1=>r vs H1 Q
theorem zAw(hc:yy X (.builtin id) r)(hg:Gl X x)(hm:X.mg x=none)(hv:bootBuiltins x=some (.builtin id))(ha:PA X (e::es) t)(hn:x≠"__name__":=by decide)(hdb:(x==("__debug__":Str))=false:=by decide)
  (he:starEach (e::es) X.env=(false,eval e X.env)::starEach es X.env:=by rfl) (hpl:(backTo pos (starEach es X.env)).any (·.1)=false:=by rfl):PE X (.Call (.Name x p) (e::es) [] pos) (tCB r t):=by
 intro pins s σ H Q I h
 refine eI (zAp I hg hm hv ?_ hn hdb)
 exact PyProof.Rows.callWith_builtin1 (wB (ha pos pins s σ H _ I h) fun us s1 ⟨vs,H1,I1,r1,q1⟩=>hc pins s1 σ H1 vs us Q I1 r1 q1) he hpl
theorem zBu(hc:yy X (.type T) r)(hg:Gl X x)(hm:X.mg x=none)(hv:bootBuiltins x=some (.type T))(ha:PA X (e::es) t)(hn:x≠"__name__":=by decide)(hdb:(x==("__debug__":Str))=false:=by decide)
  (he:starEach (e::es) X.env=(false,eval e X.env)::starEach es X.env:=by rfl) (hpl:(backTo pos (starEach es X.env)).any (·.1)=false:=by rfl):PE X (.Call (.Name x p) (e::es) [] pos) (tCB r t):=by
 intro pins s σ H Q I h
 refine eI (zAp I hg hm hv ?_ hn hdb)
 exact PyProof.Rows.callWith_type1 (wB (ha pos pins s σ H _ I h) fun us s1 ⟨vs,H1,I1,r1,q1⟩=>hc pins s1 σ H1 vs us Q I1 r1 q1) he hpl
end
end L2
namespace HT
open PySem PyProof.Rows
noncomputable def lexLt:List Int→List Int→Bool
 | [],[]=>false
 | [],_::_=>true
 | _::_,[]=>false
 | x::xs,y::ys=>if x=y then lexLt xs ys else decide (x<y)
theorem zEC(x y:Int)(xs ys:List Int):lexLt (x::xs) (y::ys)=if x=y then lexLt xs ys else decide (x<y):=rfl
theorem zCC:lexLt [] []=false:=rfl
theorem zBc(y:Int)(ys:List Int):lexLt [] (y::ys)=true:=rfl
theorem zBd(x:Int)(xs:List Int):lexLt (x::xs) []=false:=rfl
theorem zGO(A:Around)(s:Shared)(a:Int)(t:Tok)(c:Int)(u:Tok):∃ e,SeqAt.EqAt A s (.int a t) (.int c u) e∧(e=true↔a=c) :=
 ⟨(a==c),SeqAt.EqAt.int_int a t c u,by simp⟩
theorem zKB(A:Around)(s:Shared)(a:Int)(t:Tok)(c:Int)(u:Tok)(prog:Program)(w:World)(E:Value→Shared→Prop)(Q:Value→Shared→Prop)(h:Q (.bool (decide (a<c))) s) :
  wpAny (model prog w) A (richCompare .Lt (.int a t) (.int c u)) Q E s :=
 (PyProof.Rows.lt_int h:wpAny (model prog w) A (compareOp .Lt (.int a t) (.int c u)) Q E s)
section
open PySem.SeqAt
open PySem.MeetsSeq PySem.MeetsSeq2 PySem.MeetsSeq3
theorem zE2(l b:Addr)(items items2:Array Value)(n n2:Nat)(dd dd2:Option Addr)(sl sl2:Array (Option Value))(ns ms:List Int)(hi:IntsAre items.toList ns)(hj:IntsAre items2.toList ms) :
  Meets (Builtin.«tuple.__lt__» ⟨[.ref l,.ref b],[]⟩)
   (fun u0 R s=>s.heap.get? l=some { cls:=.type "tuple",dict:=dd,data:=.seq items n,slots:=sl }∧s.heap.get? b=some { cls:=.type "tuple",dict:=dd2,data:=.seq items2 n2,slots:=sl2 } ∧
    R (.ok (.ret (.bool (lexLt ns ms)))) s) :=
 .of_wp fun prog w A R s h=>by
  obtain⟨hp,g,d,tk,os⟩:=s;obtain⟨hl,hb,h⟩:=h
  have f2:=AutoSeq1.sub_tuple_tuple
  have z1:items.size=ns.length:=by rw[← hi.length];simp
  have z2:items2.size=ms.length:=by rw[← hj.length];simp
  wp_walk using wpAny_loadPart' hl,wpAny_loadPart' hb,wpAny_forIn_list _ (fun rest b s'=>b.1=none∧s'=⟨hp,g,d,tk,os⟩∧∃(vs ws:List Value) (ns' ms':List Int),rest=vs.zip ws ∧
   IntsAre vs ns'∧IntsAre ws ms'∧ns'.length+items2.size=ms'.length+items.size∧R (.ok (.ret (.bool (lexLt ns' ms')))) ⟨hp,g,d,tk,os⟩) _
  case turn =>
   rintro⟨y,x⟩ rest b s' ⟨hb',rfl,vs,ws,ns',ms',hz,hvi,hwi,hlen,hR⟩
   cases hvi with
   | nil=>rw[List.zip_nil_left] at hz;cases hz
   | cons a t hvi' =>
    cases hwi with
    | nil=>rw[List.zip_nil_right] at hz;cases hz
    | cons c u hwi' =>
     rw[gp] at hz
     injection hz with hyx hrest
     injection hyx with hy hx
     subst hy hx
     rw[zEC] at hR
     simp only[cR] at hlen
     obtain⟨e,he,hiff⟩:=zGO A.in1 ⟨hp,g,d,tk,os⟩ a t c u
     refine cL (he prog w _ _ ?_)
     cases e with
     | true =>
      rw[if_pos (hiff.mp rfl)] at hR
      wp_walk
      exact⟨rfl,rfl,_,_,_,_,hrest,hvi',hwi',by omega,hR⟩
     | false =>
      rw[if_neg (fun q=>absurd (hiff.mpr q) eK)] at hR
      have hri:=zKB A.in1 ⟨hp,g,d,tk,os⟩ a t c u prog w
      wp_walk using hri
      exact⟨_,rfl,by simpa using hR⟩
  case fin =>
   rintro⟨b1,b2⟩ s' ⟨hb',rfl,vs,ws,ns',ms',hz,hvi,hwi,hlen,hR⟩
   simp only at hb'
   subst hb'
   have hv:lexLt ns' ms'=decide (items.size<items2.size):=by
    cases hvi with
    | nil =>
     cases hwi with
     | nil =>
      simp only[cU] at hlen
      rw[zCC]
      exact(decide_eq_false (by omega)).symm
     | cons c u hw =>
      simp only[cU,cR] at hlen
      rw[zBc]
      exact(decide_eq_true (by omega)).symm
    | cons a t hv =>
     cases hwi with
     | nil =>
      simp only[cU,cR] at hlen
      rw[zBd]
      exact(decide_eq_false (by omega)).symm
     | cons c u hw =>
      rw[gp] at hz
      cases hz
   rw[hv] at hR
   wp_walk
   exact⟨_,rfl,by simpa[Builtin.Tuple.tupleCompareSizes] using hR⟩
  case h =>
   exact⟨rfl,rfl,items.toList,items2.toList,ns,ms,rfl,hi,hj,by omega,h⟩
end
section
variable {prog:Program} {w:World} {A:Around} {E:Value→Shared→Prop} {s:Shared}
theorem zHN{l b:Addr}{items items2:Array Value}{ns ms:List Int}{Q:Value→Shared→Prop}(hl:IsTup s.heap l items)(hb:IsTup s.heap b items2)(hi:IntsAre items.toList ns)(hj:IntsAre items2.toList ms)
  (hu:A.units<cLine) (h:Q (.bool (lexLt ns ms)) s):wpAny (model prog w) A (compareOp .Lt (.ref l) (.ref b)) Q E s:=by
 obtain⟨⟨cls,dd,data,sl⟩,ho,hc,n,hd⟩:=id hl
 obtain⟨⟨cls2,dd2,data2,sl2⟩,ho2,hc2,n2,hd2⟩:=id hb
 simp only at hc hd hc2 hd2
 subst hc hd hc2 hd2
 exact richCompare_meets_room (op:=.Lt) ⟨_,ho,rfl⟩ ⟨_,ho2,rfl⟩ PySem.F.slot_tuple_lt PySem.F.entry_tuple_lt (PySem.F.args_tuple_lt_2 _ _) (zE2 l b items items2 n n2 dd dd2 sl sl2 ns ms hi hj)
  ⟨ho,ho2,show Value.bool (lexLt ns ms)≠Value.notImplemented∧Q (.bool (lexLt ns ms)) s from⟨(fun x=>nomatch x),h⟩⟩ hu
theorem zL3{t b:Addr}{vs ws:List Value}{Q:Value→Shared→Prop}(ht:IsTup s.heap t vs.toArray)(hb:IsTup s.heap b ws.toArray)(hv:vs≠[])
  (h1:ws=[]→Q (.ref t) s) (h2:ws≠[]→Q (.ref s.heap.objs.size) { s with heap:=s.heap.push { cls:=.type "tuple",data:=.seq (vs++ws).toArray } })
  (hsz:vs.length+ws.length≤sizeLine):wpAny (model prog w) A (binaryOp .Add (.ref t) (.ref b)) Q E s:=by
 obtain⟨⟨cls,dd,data,sl⟩,ho,hc,n,hd⟩:=id ht
 obtain⟨⟨cls2,dd2,data2,sl2⟩,ho2,hc2,n2,hd2⟩:=id hb
 simp only at hc hd hc2 hd2
 subst hc hd hc2 hd2
 have e:vs.toArray++ws.toArray=(vs++ws).toArray:=by simp
 by_cases hw:ws=[]
 ·exact concat_meets ⟨_,ho,rfl⟩ ⟨_,ho2,rfl⟩ noFill_tuple_add seq_tuple_add PySem.F.slot_tuple_add PySem.F.entry_tuple_add (PySem.F.args_tuple_add_2 _ _)
   (tuple_addW1 t b vs.toArray ws.toArray n n2 dd dd2 sl sl2 (by simpa using hv) (by simp[hw])) ⟨ho,ho2,h1 hw⟩
 ·refine concat_meets ⟨_,ho,rfl⟩ ⟨_,ho2,rfl⟩ noFill_tuple_add seq_tuple_add PySem.F.slot_tuple_add PySem.F.entry_tuple_add (PySem.F.args_tuple_add_2 _ _)
   (tuple_addW2 t b vs.toArray ws.toArray n n2 dd dd2 sl sl2 (by simpa using hv) (by simpa using hw) (by rw[dg,dg];exact hsz)) ⟨ho,ho2,?_⟩
  rw[e]
  exact h2 hw
noncomputable def yz(n d:Nat):Option Int→Nat
 | none=>d
 | some v=>if v<0 then (v+(n:Int)).toNat else min v.toNat n
theorem zGP(n d:Nat):yz n d none=d:=rfl
theorem zDu(n d k:Nat):yz n d (some (k:Int))=min k n:=by
 show(if (k:Int)<0 then ((k:Int)+(n:Int)).toNat else min (k:Int).toNat n)=min k n
 rw[if_neg (by omega),Int.toNat_natCast]
theorem zOH(n d:Nat)(hd:d≤n)(o:Option Int):yz n d o≤n:=by
 cases o with
 | none=>exact hd
 | some v =>
  show(if v<0 then (v+(n:Int)).toNat else min v.toNat n)≤n
  by_cases hv:v<0
  ·rw[if_pos hv];omega
  ·rw[if_neg hv];exact Nat.min_le_right _ _
theorem zIO(v:Int)(n d:Nat):(if v<0 then max (v+(n:Int)) 0 else min v (n:Int))=((yz n d (some v):Nat):Int):=by
 show(if v<0 then max (v+(n:Int)) 0 else min v (n:Int))=(((if v<0 then (v+(n:Int)).toNat else min v.toNat n):Nat):Int)
 by_cases hv:v<0
 ·simp only[if_pos hv];omega
 ·simp only[if_neg hv];omega
theorem zHO(lo hi:Option Int)(n:Nat):Builtin.Slice.sliceAdjust lo hi 1 (n:Int)=(((yz n 0 lo:Nat):Int),((yz n n hi:Nat):Int)):=by
 have h1:¬ ((1:Int)<0):=by omega
 unfold Builtin.Slice.sliceAdjust
 simp only[h1,if_false]
 refine Prod.ext ?_ ?_
 ·cases lo with
  | none=>rfl
  | some v=>exact zIO v n 0
 ·cases hi with
  | none=>rfl
  | some v=>exact zIO v n n
theorem zHP(i j:Nat):Builtin.Slice.slicePlaces (i:Int) (j:Int) 1=j-i:=by
 unfold Builtin.Slice.slicePlaces
 have h1:(1:Int)>0:=by omega
 simp only[h1,if_true,Int.ediv_one]
 split<;>omega
theorem zED{v:Value}{o:Option Int}{Q:Option Int→Shared→Prop}(p:IsPart v o)(h:Q o s):wpAny (model prog w) A (Builtin.Slice.slicePartIndex v) Q E s:=by
 cases p with
 | none=>exact slicePart_none h
 | int i t=>exact slicePart_int h
theorem zAx{sl:Addr}{vl vu:Value}{lo hi:Option Int}{n:Nat}{Q:Int×Int×Nat→Shared→Prop}(hs:s.heap.IsSliceOf sl vl vu .none)(pl:IsPart vl lo)(pu:IsPart vu hi)
  (h:Q (((yz n 0 lo:Nat):Int),1,yz n n hi-yz n 0 lo) s):wpAny (model prog w) A (Builtin.Slice.sliceApplied (.ref sl) (pure (n:Int))) Q E s:=by
 obtain⟨os,hos,hcs,hds⟩:=id hs
 unfold Builtin.Slice.sliceApplied Builtin.Slice.sliceFields
 refine cL (cL (gA hos hds (x:=vl) rfl (cL (gA hos hds (x:=vu) rfl (cL (gA hos hds (x:=.none) rfl (cT ?_)))))))
 refine cL (slicePart_none ?_)
 show wpAny _ _ (if ((1:Int)==0)=true then _ else _) _ _ s
 rw[if_neg (by decide)]
 refine cL (zED pl (cL (zED pu (cL (cT ?_)))))
 show wpAny _ _ (match Builtin.Slice.sliceAdjust lo hi 1 (n:Int) with | (lo,hi)=>pure (lo,(1:Int),Builtin.Slice.slicePlaces lo hi 1)) _ _ s
 rw[zHO lo hi n]
 show wpAny _ _ (pure (((yz n 0 lo:Nat):Int),(1:Int),Builtin.Slice.slicePlaces ((yz n 0 lo:Nat):Int) ((yz n n hi:Nat):Int) 1)) _ _ s
 rw[zHP]
 exact cT h
theorem zKC(xs:Array Value)(i k:Nat):((cY k).filterMap fun(m:Nat)=>xs[((i:Int)+(m:Int)*1).toNat]?).toArray=((xs.toList.drop i).take k).toArray:=by
 have e:(fun(m:Nat)=>xs[((i:Int)+(m:Int)*1).toNat]?)=fun m=>xs[i+m]?:=by
  funext m
  have:((i:Int)+(m:Int)*1).toNat=i+m:=by omega
  rw[this]
 rw[e]
 have:=pick_run xs i k
 rw[List.filterMap_map] at this
 have e2:((fun x=>xs[x]?)∘fun x=>i+x)=fun m=>xs[i+m]?:=rfl
 rw[e2] at this
 rw[this]
theorem zCd{t sl:Addr}{items:Array Value}{vl vu:Value}{lo hi:Option Int}{Q:Value→Shared→Prop}(ht:IsTup s.heap t items)(hs:s.heap.IsSliceOf sl vl vu .none)(pl:IsPart vl lo)(pu:IsPart vu hi)
  (hw:¬ (yz items.size 0 lo=0∧yz items.size items.size hi=items.size))
  (h:Q (.ref s.heap.objs.size) { s with heap:=s.heap.push { cls:=.type "tuple",data:=.seq ((items.toList.drop (yz items.size 0 lo)).take (yz items.size items.size hi-yz items.size 0 lo)).toArray } })
  (hsz:items.size≤sizeLine):wpAny (model prog w) A (getItem (.ref t) (.ref sl)) Q E s:=by
 have htake:sizeOk (.seq ((items.toList.drop (yz items.size 0 lo)).take (yz items.size items.size hi-yz items.size 0 lo)).toArray):=by
  show((items.toList.drop (yz items.size 0 lo)).take (yz items.size items.size hi-yz items.size 0 lo)).toArray.size≤sizeLine
  rw[dg,dO,eT,da]
  omega
 have hj:yz items.size items.size hi≤items.size:=zOH _ _ (cX _) hi
 obtain⟨os,hos,hcs,hds⟩:=id hs
 have hTs:s.TypeIs (.ref sl) "slice":=⟨os,hos,hcs⟩
 unfold getItem
 try with_reducible refine eu ?_
 first | refine cL (cT ?_) | skip
 refine cL (wpAny_sequenceKey ht.typeIs (by decide) ?_)
 refine cL (wpAny_callSpecial?_slot (name:=Str.ofString "__getitem__") ht.typeIs PyProof.Rows.slot_tuple_getitem
  (eY PyProof.Rows.slot_tuple_getitem ht.typeIs entry_tuple_getitem ?_ (args_tuple_getitem _ _)))
 show wpAny _ _ (Builtin.Tuple.tupleItemsOf (.ref t)>>=_) _ _ s
 refine cL (tupleItemsOf_ ht ?_)
 refine cL (fZ hTs ?_)
 rw[if_pos (by decide)]
 refine cL (zAx hs pl pu ?_)
 have hno:¬ ((((yz items.size 0 lo:Nat):Int)==0&&(1:Int)==1&&(yz items.size items.size hi-yz items.size 0 lo)==items.size)=true):=by
  intro q
  rw[fF,fF] at q
  have q1:((yz items.size 0 lo:Nat):Int)=0:=eq_of_beq q.1.1
  have q2:yz items.size items.size hi-yz items.size 0 lo=items.size:=eq_of_beq q.2
  exact hw ⟨by omega,by omega⟩
 show wpAny _ _ (if (((yz items.size 0 lo:Nat):Int)==0&&(1:Int)==1&&(yz items.size items.size hi-yz items.size 0 lo)==items.size)=true then _ else _) _ _ s
 rw[if_neg hno,zKC]
 first
  | exact cL (m:=Builtin.Tuple.tupleExact _) (dN (cT ⟨_,rfl,cT h⟩) htake)
  | exact cL (m:=Builtin.Tuple.tupleExact _) (dN (cL (cT (cT ⟨_,rfl,cT h⟩))) htake)
  | exact cL (cL (m:=Builtin.Tuple.tupleExact _) (dN (cT (cT ⟨_,rfl,cT h⟩)) htake))
  | exact cL (cL (m:=Builtin.Tuple.tupleExact _) (dN (cT ⟨_,rfl,cT h⟩) htake))
end
end HT
namespace L2
noncomputable abbrev TO:=St→Hp→(Option Int→Hp→Prop)→Prop
noncomputable def PO(X:Cx)(e:Option Expr)(t:TO):Prop :=
 ∀(pins:List (Addr×Obj)) (s:Shared) (σ:St) (H:Hp) (Q:Option Int→Hp→Prop),zP X pins σ H s→t σ H Q →
  wpAny (model X.prog X.w) X.A (evalPart e X.env) (fun u s'=>∃ o H',zP X pins σ H' s'∧IsPart u o∧Q o H') X.xe s
noncomputable def zL4:TO:=fun u0 H Q=>Q none H
noncomputable def zPS(t:TE):TO:=fun σ H Q=>t σ H fun x H1=>∃ i,x=.int i∧Q (some i) H1
theorem intsAre_of{ns:List Int}:∀ {us:List Value},zT (ns.map V.int) us→IntsAre us ns:=by
 induction ns with
 | nil=>intro us r;rw[List.map_nil] at r;cases r;exact .nil
 | cons n ns ih =>
  intro us r
  rw[eZ] at r
  cases r with
  | cons r1 r2 =>
   obtain⟨t,e⟩:=r1
   subst e
   exact .cons n t (ih r2)
section
variable {X:Cx} {e:Expr} {te:TE} {lo hi:Option Expr} {tl th:TO} {pos p2:Pos}
theorem zL5:PO X none zL4:=by
 intro pins s σ H Q I h
 rw[evalPart_none]
 exact cT ⟨none,H,I,.none,h⟩
theorem zL6(h:PE X e te):PO X (some e) (zPS te):=by
 intro pins s σ H Q I hw
 rw[evalPart_some]
 refine wB (h pins s σ H _ I hw) fun u s1 ⟨x,H1,I1,r1,q1⟩=>?_
 obtain⟨i,rfl,q⟩:=q1
 obtain⟨t,rfl⟩:=r1
 exact⟨some i,H1,I1,.int i t,q⟩
noncomputable def SlR(X:Cx)(r:V→Option Int→Option Int→Hp→VK→Prop):Prop :=
 ∀(pins:List (Addr×Obj)) (s:Shared) (σ:St) (H:Hp) (x:V) (v vl vu:Value) (lo hi:Option Int) (sl:Addr) (Q:VK),zP X pins σ H s→RelV x v→s.heap.IsSliceOf sl vl vu .none→IsPart vl lo→IsPart vu hi→r x lo hi H Q →
  ∃ T id,typeLookup (.type T) "__getitem__"=pure (some (.builtin id))∧s.TypeIs v T∧wpAny (model X.prog X.w) X.A (getItem v (.ref sl)) (EP X pins σ Q) X.xe s
theorem SlR.or{r r':V→Option Int→Option Int→Hp→VK→Prop}(h:SlR X r)(h':SlR X r'):SlR X (fun x lo hi H Q=>r x lo hi H Q∨r' x lo hi H Q):=by
 intro pins s σ H x v vl vu lo hi sl Q I rx hs pl pu q
 rcases q with q | q
 ·exact h pins s σ H x v vl vu lo hi sl Q I rx hs pl pu q
 ·exact h' pins s σ H x v vl vu lo hi sl Q I rx hs pl pu q
noncomputable def tSl(r:V→Option Int→Option Int→Hp→VK→Prop)(te:TE)(tl th:TO):TE:=fun σ H Q=>te σ H fun x H1=>tl σ H1 fun l H2=>th σ H2 fun u H3=>r x l u H3 Q
theorem zGQ{r:V→Option Int→Option Int→Hp→VK→Prop}(hr:SlR X r)(he:PE X e te)(hl:PO X lo tl)(hu:PO X hi th):PE X (.Subscript e (.Slice lo hi none p2) pos) (tSl r te tl th):=by
 intro pins s σ H Q I h
 refine Subscript_ (wB (he pins s σ H _ I h) fun v s1 ⟨x,H1,I1,r1,q1⟩=>?_)
 refine wpAny_Slice (wB (hl pins s1 σ H1 _ I1 q1) fun vl s2 ⟨l,H2,I2,pl,q2⟩=>wB (hu pins s2 σ H2 _ I2 q2) fun vu s3 ⟨u,H3,I3,pu,q3⟩=>?_)
 rw[evalPart_none]
 refine cT ?_
 have I4:zP X pins σ H3 { s3 with heap:=s3.heap.push { cls:=.type "slice",data:=.fields #[vl,vu,.none] } }:=I3.kept (t':=s3.toks) fun b ob q=>cQ _ q
 obtain⟨T,id,hT,ht,hg⟩:=hr pins { s3 with heap:=s3.heap.push { cls:=.type "slice",data:=.fields #[vl,vu,.none] } } σ H3 x v vl vu l u s3.heap.objs.size Q I4 r1 (Heap.IsSliceOf.new ..) pl pu q3
 show wpAny (model X.prog X.w) X.A (subscriptTail e (.Slice lo hi none p2) v (.ref s3.heap.objs.size)) (EP X pins σ Q) X.xe { s3 with heap:=s3.heap.push { cls:=.type "slice",data:=.fields #[vl,vu,.none] } }
 exact tail_any (ops:=[.ref s3.heap.objs.size,v]) ht hT hg (by with_unfolding_all rfl)
noncomputable def zGR(xs:List V)(lo hi:Option Int):List V:=(xs.drop (HT.yz xs.length 0 lo)).take (HT.yz xs.length xs.length hi-HT.yz xs.length 0 lo)
theorem zDa(xs:List V)(lo hi:Option Int):(zGR xs lo hi).length≤xs.length:=by
 unfold zGR
 rw[dO,eT]
 omega
noncomputable def zQF(K:PySem.W.Frag):V→Option Int→Option Int→Hp→VK→Prop:=fun x lo hi H Q=>∃ a xs,x=.ref a∧SqT K H a xs ∧
 ¬ (HT.yz xs.length 0 lo=0∧HT.yz xs.length xs.length hi=xs.length)∧∀ p,H p=none→Q (.ref p) (wC H p (.tup (zGR xs lo hi)))
theorem zOI:SlR X (zQF X.K):=by
 intro pins s σ H x v vl vu lo hi sl Q I rx hs pl pu h
 obtain⟨a,xs,rfl,hx,hw,q⟩:=h
 cases rx
 obtain⟨its,r,ht,hz⟩:=I.tuple hx
 have hlen:its.toArray.size=xs.length:=by rw[dg];exact r.length.symm
 refine⟨"tuple",_,PyProof.Rows.slot_tuple_getitem.lookup,ht.typeIs,?_⟩
 refine HT.zCd ht hs pl pu (by rw[hlen];exact hw) ?_ (by rw[hlen];exact hz)
 rw[hlen]
 refine⟨.ref s.heap.objs.size,_,I.laid (t':=s.toks) (o:=.tup (zGR xs lo hi)) (fun b ob q=>cQ _ q) (cX _) ?_,rfl,q _ (I.hok.fresh (cX _))⟩
 exact⟨eD (zDa xs lo hi) hz,_,(r.drop (HT.yz xs.length 0 lo)).take (HT.yz xs.length xs.length hi-HT.yz xs.length 0 lo),zDn.new _ _⟩
noncomputable def zNK(K:PySem.W.Frag):R2:=fun x y H Q=>∃ a b xs ys,x=.ref a∧y=.ref b∧SqT K H a xs∧SqT K H b ys∧xs≠[]∧xs.length+ys.length≤sizeLine ∧
 (ys=[]→Q (.ref a) H)∧(ys≠[]→∀ p,H p=none→Q (.ref p) (wC H p (.tup (xs++ys))))
theorem zT.nil_iff{xs:List V}{us:List Value}(r:zT xs us):us=[]↔xs=[]:=by
 cases r with
 | nil=>simp
 | cons _ _=>simp
theorem zL7:OpR X (binaryOp .Add) (zNK X.K):=by
 intro pins s σ H x y v u Q I rx ry h
 obtain⟨a,b,xs,ys,rfl,rfl,ha,hb,hx,hz,q1,q2⟩:=h
 cases rx
 cases ry
 obtain⟨its,r1,p1,u0⟩:=I.tuple ha
 obtain⟨its2,r2,p2,u0⟩:=I.tuple hb
 refine HT.zL3 p1 p2 (fun z=>hx (r1.nil_iff.mp z)) (fun z=>⟨.ref a,H,I,rfl,q1 (r2.nil_iff.mp z)⟩) (fun z=>?_) (by rw[← r1.length,← r2.length];exact hz)
 refine⟨.ref s.heap.objs.size,_,I.laid (t':=s.toks) (o:=.tup (xs++ys)) (fun b ob q=>cQ _ q) (cX _) ?_,rfl,q2 (fun w=>z (r2.nil_iff.mpr w)) _ (I.hok.fresh (cX _))⟩
 exact⟨by rw[du];exact hz,_,r1.append r2,zDn.new _ _⟩
end
noncomputable def ixN(n:Nat)(i:Int):Option Nat:=if 0≤i then (if i<n then some i.toNat else none) else if -(n:Int)≤i then some (i+n).toNat else none
noncomputable def atI{α:Type}(xs:List α)(i:Int):Option α:=(ixN xs.length i).bind fun j=>xs[j]?
theorem zIP{n:Nat}{i:Int}{j:Nat}(h:ixN n i=some j):seqIndex? i n=some j∧j<n∧-(n:Int)≤i∧i<n:=by
 unfold ixN at h
 by_cases h0:0≤i
 ·rw[if_pos h0] at h
  by_cases h1:i<n
  ·rw[if_pos h1] at h
   have e:i.toNat=j:=Option.some.inj h
   exact⟨by rw[seqIndex_of h0 h1,e],by omega,by omega,h1⟩
  ·rw[if_neg h1] at h;cases h
 ·rw[if_neg h0] at h
  by_cases h1:-(n:Int)≤i
  ·rw[if_pos h1] at h
   have e:(i+n).toNat=j:=Option.some.inj h
   exact⟨by rw[seqIndex_neg (by omega) h1,e],by omega,h1,by omega⟩
  ·rw[if_neg h1] at h;cases h
theorem zIQ{α:Type}{xs:List α}{i:Int}{v:α}(h:atI xs i=some v):∃ j,seqIndex? i xs.length=some j∧xs[j]?=some v∧j<xs.length∧-(xs.length:Int)≤i∧i<xs.length:=by
 unfold atI at h
 cases e:ixN xs.length i with
 | none=>rw[e] at h;cases h
 | some j =>
  rw[e] at h
  obtain⟨h1,h2,h3,h4⟩:=zIP e
  exact⟨j,h1,h,h2,h3,h4⟩
theorem zBB{α:Type}{xs:List α}{j:Nat}{v:α}(h:xs[j]?=some v):atI xs (j:Int)=some v:=by
 have hj:j<xs.length:=(d8.mp h).1
 have e:ixN xs.length (j:Int)=some j:=by
  unfold ixN
  rw[if_pos (by omega),if_pos (by omega)];simp
 unfold atI;rw[e];exact h
noncomputable def zIR(b:Expr):Prop:=∀ o i,subscripted b false o i=operate [o,i] (getItem o i)
noncomputable def IxR(X:Cx)(r:R2):Prop :=
 ∀(value slice:Expr) (pins:List (Addr×Obj)) (s:Shared) (σ:St) (H:Hp) (x y:V) (v u:Value) (Q:VK),zP X pins σ H s→RelV x v→RelV y u→r x y H Q →
  subscripted slice false v u=operate [v,u] (getItem v u)→wpAny (model X.prog X.w) X.A (subscriptTail value slice v u) (EP X pins σ Q) X.xe s
noncomputable def MtR(X:Cx)(id:String)(r:V→List V→Hp→VK→Prop):Prop :=
 ∀(pins:List (Addr×Obj)) (s:Shared) (σ:St) (H:Hp) (x:V) (xs:List V) (v:Value) (us:List Value) (Q:VK),zP X pins σ H s→RelV x v→zT xs us→r x xs H Q →
  wpAny (model X.prog X.w) X.A (call (.builtin id) (v::us)) (EP X pins σ Q) X.xe s
section
variable {X:Cx} {a b:Expr} {ta tb:TE} {pos:Pos}
theorem IxR.or{r r':R2}(h:IxR X r)(h':IxR X r'):IxR X (fun x y H Q=>r x y H Q∨r' x y H Q):=by
 intro value slice pins s σ H x y v u Q I rx ry q hs
 rcases q with q | q
 ·exact h value slice pins s σ H x y v u Q I rx ry q hs
 ·exact h' value slice pins s σ H x y v u Q I rx ry q hs
theorem MtR.or{id:String}{r r':V→List V→Hp→VK→Prop}(h:MtR X id r)(h':MtR X id r'):MtR X id (fun x xs H Q=>r x xs H Q∨r' x xs H Q):=by
 intro pins s σ H x xs v us Q I rx rs q
 rcases q with q | q
 ·exact h pins s σ H x xs v us Q I rx rs q
 ·exact h' pins s σ H x xs v us Q I rx rs q
theorem zPT{r:R2}(hr:IxR X r)(ha:PE X a ta)(hb:PE X b tb)(hs:zIR b):PE X (.Subscript a b pos) (tOp r ta tb):=by
 intro pins s σ H Q I h
 exact Subscript_ (zN2 ha hb I h fun v u s2 x y H2 I2 rx ry q=>hr a b pins s2 σ H2 x y v u Q I2 rx ry q (hs _ _))
noncomputable def zPU(K:PySem.W.Frag):R2:=fun x y H Q=>∃ p xs i v,x=.ref p∧y=.int i∧SqL K H p xs∧atI xs i=some v∧Q v H
noncomputable def zPV(K:PySem.W.Frag):R2:=fun x y H Q=>∃ p xs i v,x=.ref p∧y=.int i∧SqT K H p xs∧atI xs i=some v∧Q v H
theorem zL8:IxR X (zPU X.K):=by
 intro value slice pins s σ H x y v u Q I rx ry h hs
 obtain⟨p,xs,i,z,rfl,rfl,hq,he,q⟩:=h
 cases rx
 obtain⟨t,rfl⟩:=ry
 obtain⟨its,r,pl,hz⟩:=I.list hq
 obtain⟨j,h1,h2,h3,h4,h5⟩:=zIQ he
 obtain⟨w,ew,rw'⟩:=r.get h2
 have hl:=r.length
 have hn:=zFs
 have fin:EP X pins σ Q w s:=⟨z,H,I,rw',q⟩
 by_cases h0:0≤i
 ·have hj:i.toNat=j:=by
   rw[seqIndex_of h0 h5] at h1
   exact Option.some.inj h1
  exact item_listR pl.isList h0 (by omega) (by rw[hj];simpa using ew) fin hs
 ·have hj:(i+(its.toArray.size:Int)).toNat=j:=by
   rw[seqIndex_neg (by omega) h4] at h1
   rw[dg,← hl]
   exact Option.some.inj h1
  exact subscriptTail_builtinR (x:=w) pl.isList.typeIs slot_list_getitem.lookup
   (wpAny_getItem_list_neg (Q:=fun r s'=>r=w∧EP X pins σ Q r s') pl.isList (by omega) (by rw[dg]<;>omega) (by omega) (by rw[hj];simpa using ew) ⟨rfl,fin⟩) hs
theorem zOJ:IxR X (zPV X.K):=by
 intro value slice pins s σ H x y v u Q I rx ry h hs
 obtain⟨p,xs,i,z,rfl,rfl,hq,he,q⟩:=h
 cases rx
 obtain⟨t,rfl⟩:=ry
 obtain⟨its,r,pl,hz⟩:=I.tuple hq
 obtain⟨j,h1,h2,h3,h4,h5⟩:=zIQ he
 obtain⟨w,ew,rw'⟩:=r.get h2
 have hl:=r.length
 have hn:=zFs
 have fin:EP X pins σ Q w s:=⟨z,H,I,rw',q⟩
 exact subscriptTail_builtinR (x:=w) pl.typeIs slot_tuple_getitem.lookup
  (getItem_tuple (j:=j) (Q:=fun r s'=>r=w∧EP X pins σ Q r s') pl (by omega) (by omega) (by rw[dg,← hl];exact h1) (by simpa using ew) ⟨rfl,fin⟩) hs
theorem zHQ(its:List Value)(n j:Nat)(u:Value):Obj.mapSeq (·.setIfInBounds j u) { cls:=.type "list",data:=.seq its.toArray n }={ cls:=.type "list",data:=.seq (its.set j u).toArray n }:=by
 simp[Obj.mapSeq]
theorem zP.lst{pins:List (Addr×Obj)}{σ:St}{H:Hp}{s:Shared}{p:Addr}{xs:List V}(I:zP X pins σ H s)(h:H p=some (.lst xs)) :
  ∃(its:List Value) (n:Nat),zT xs its∧s.heap.get? p=some { cls:=.type "list",data:=.seq its.toArray n }∧xs.length≤sizeLine:=by
 obtain⟨z,its,n,r,e⟩:=I.hok p _ h
 exact⟨its,n,r,e,z⟩
theorem zP.lstUpd{pins:List (Addr×Obj)}{σ:St}{H:Hp}{s:Shared}{p:Addr}{xs ys:List V}{its its':List Value}{n n':Nat}{f:Obj→Obj}(I:zP X pins σ H s)(h:H p=some (.lst xs))
  (ho:s.heap.get? p=some { cls:=.type "list",data:=.seq its.toArray n }) (hf:f { cls:=.type "list",data:=.seq its.toArray n }={ cls:=.type "list",data:=.seq its'.toArray n' }) (r:zT ys its') (hz:ys.length≤sizeLine) (t:Nat) :
  zP X pins σ (wC H p (.lst ys)) { s with heap:=s.heap.update p f,toks:=t }:=by
 have e:(s.heap.update p f).get? p=some { cls:=.type "list",data:=.seq its'.toArray n' }:=by
  rw[et f ho (by rw[hf]<;>rfl),hf]
 refine I.write (x:=p) (e:=p) (by rw[h];trivial) (.inl rfl) (fun b u hb q=>(dA _ _ (Ne.symm hb)).trans q) ⟨_,e⟩ ?_
 exact⟨hz,its',n',r,e⟩
noncomputable def zPW:V→V→V→Hp→(Hp→Prop)→Prop:=fun o i v H Q=>∃ p xs k j,o=.ref p∧i=.int k∧H p=some (.lst xs)∧ixN xs.length k=some j∧Q (wC H p (.lst (xs.set j v)))
theorem set_list:zPK X zPW:=by
 intro pins s σ H o i v ov iv u Q I ro ri rv h
 obtain⟨p,xs,k,j,rfl,rfl,hp,hj,q⟩:=h
 cases ro
 obtain⟨t,rfl⟩:=ri
 obtain⟨its,n,r,ho,hz⟩:=I.lst hp
 obtain⟨h1,h2,h3,h4⟩:=zIP hj
 have hl:=r.length
 have hn:=zFs
 have I':zP X pins σ (wC H p (.lst (xs.set j v))) { s with heap:=s.heap.update p (Obj.mapSeq (·.setIfInBounds j u)) } :=
  I.lstUpd hp ho (zHQ its n j u) (r.set rv j) (by rw[List.length_set];exact hz) s.toks
 by_cases h0:0≤k
 ·have hk:k.toNat=j:=by
   rw[seqIndex_of h0 h4] at h1
   exact Option.some.inj h1
  exact PySem.W.ki_setAt ho h0 (by omega) (by rw[dg,← hl];exact h4) (by rw[hk];exact⟨_,I',q⟩)
 ·have hk:(k+(its.toArray.size:Int)).toNat=j:=by
   rw[seqIndex_neg (by omega) h3] at h1
   rw[dg,← hl]
   exact Option.some.inj h1
  exact PySem.W.ki_setBack ho (by omega) (by rw[dg,← hl];exact h3) (by omega) (by rw[hk];exact⟨_,I',q⟩)
theorem zFt(lo hi:Option Int)(n:Nat):(sliceBounds lo hi none n).1=((HT.yz n 0 lo:Nat):Int)∧(sliceBounds lo hi none n).2.1=((HT.yz n n hi:Nat):Int)∧(sliceBounds lo hi none n).2.2=1:=by
 refine⟨?_,?_,rfl⟩
 ·cases lo with
  | none=>simp[sliceBounds,HT.yz]
  | some i =>
   simp only[sliceBounds,HT.yz,Option.getD_none,show(1:Int)>0 by decide,if_true]
   by_cases h:i<0
   ·simp only[h,if_true]<;>omega
   ·simp only[h,if_false]<;>omega
 ·cases hi with
  | none=>simp[sliceBounds,HT.yz]
  | some i =>
   simp only[sliceBounds,HT.yz,Option.getD_none,show(1:Int)>0 by decide,if_true]
   by_cases h:i<0
   ·simp only[h,if_true]<;>omega
   ·simp only[h,if_false]<;>omega
theorem zE3(its:List Value)(lo hi:Option Int):slicePick its.toArray lo hi none=((its.drop (HT.yz its.length 0 lo)).take (HT.yz its.length its.length hi-HT.yz its.length 0 lo)).toArray:=by
 obtain⟨h1,h2,h3⟩:=zFt lo hi its.toArray.size
 unfold slicePick
 rw[h1,h2,h3]
 simp only[sliceRange_one,pick_run,dg]<;>rfl
noncomputable def zQG(K:PySem.W.Frag):V→Option Int→Option Int→Hp→VK→Prop:=fun x lo hi H Q=>∃ a xs,x=.ref a∧SqL K H a xs∧∀ p,H p=none→Q (.ref p) (wC H p (.lst (zGR xs lo hi)))
theorem zL9:SlR X (zQG X.K):=by
 intro pins s σ H x v vl vu lo hi sl Q I rx hs pl pu h
 obtain⟨a,xs,rfl,hx,q⟩:=h
 cases rx
 obtain⟨its,r,ht,hz⟩:=I.list hx
 have hlen:=r.length
 refine⟨"list",_,slot_list_getitem.lookup,ht.isList.typeIs,?_⟩
 refine wpAny_getItem_list_slice ht.isList hs pl pu .none (by simp) ?_ (by rw[dg]<;>omega)
 rw[zE3,← hlen]
 refine⟨.ref s.heap.objs.size,_,I.laid (t':=s.toks) (o:=.lst (zGR xs lo hi)) (fun b ob q=>cQ _ q) (cX _) ?_,rfl,q _ (I.hok.fresh (cX _))⟩
 exact⟨eD (zDa xs lo hi) hz,_,0,(r.drop (HT.yz xs.length 0 lo)).take (HT.yz xs.length xs.length hi-HT.yz xs.length 0 lo),dc _ rfl⟩
noncomputable def zIS:V→Bool
 | .non=>true
 | .bl _=>true
 | .int _=>true
 | .str _=>true
 | _=>false
noncomputable def eqV:V→V→Bool
 | .non,.non=>true
 | .bl a,.bl b=>a==b
 | .bl a,.int b=>(if a then 1 else 0)==b
 | .int a,.bl b=>a==(if b then 1 else 0)
 | .int a,.int b=>a==b
 | .str a,.str b=>a==b
 | _,_=>false
theorem zKD{A:Around}{s:Shared}{y x:V}{u v:Value}(ry:RelV y u)(rx:RelV x v)(fy:zIS y=true)(fx:zIS x=true):SeqAt.EqAt A s u v (eqV y x):=by
 cases y with
 | non =>
  cases ry
  cases x with
  | non=>cases rx;exact SeqAt.EqAt.same _
  | bl b=>cases rx;exact SeqAt.EqAt.none_bool b
  | int b=>obtain⟨t,rfl⟩:=rx;exact SeqAt.EqAt.none_int b t
  | str b=>obtain⟨t,rfl⟩:=rx;exact SeqAt.EqAt.none_str b t
  | _=>exact absurd (show false=true from fx) eK
 | bl a =>
  cases ry
  cases x with
  | non=>cases rx;exact SeqAt.EqAt.bool_none a
  | bl b=>cases rx;exact SeqAt.EqAt.bool_bool a b
  | int b=>obtain⟨t,rfl⟩:=rx;exact SeqAt.EqAt.bool_int a b t
  | str b=>obtain⟨t,rfl⟩:=rx;exact SeqAt.EqAt.bool_str a b t
  | _=>exact absurd (show false=true from fx) eK
 | int a =>
  obtain⟨t',rfl⟩:=ry
  cases x with
  | non=>cases rx;exact SeqAt.EqAt.int_none a t'
  | bl b=>cases rx;exact SeqAt.EqAt.int_bool a t' b
  | int b=>obtain⟨t,rfl⟩:=rx;exact SeqAt.EqAt.int_int a t' b t
  | str b=>obtain⟨t,rfl⟩:=rx;exact SeqAt.EqAt.int_str a t' b t
  | _=>exact absurd (show false=true from fx) eK
 | str a =>
  obtain⟨t',rfl⟩:=ry
  cases x with
  | non=>cases rx;exact SeqAt.EqAt.str_none a t'
  | bl b=>cases rx;exact SeqAt.EqAt.str_bool a t' b
  | int b=>obtain⟨t,rfl⟩:=rx;exact SeqAt.EqAt.str_int a t' b t
  | str b=>obtain⟨t,rfl⟩:=rx;exact SeqAt.EqAt.str_str a t' b t
  | _=>exact absurd (show false=true from fx) eK
 | _=>exact absurd (show false=true from fy) eK
theorem zFu:yy X (.builtin "len") (fun xs H Q=>∃ p ys,xs=[.ref p]∧(SqL X.K H p ys∨SqT X.K H p ys)∧Q (.int ys.length) H):=by
 intro pins s σ H xs us Q I r h
 obtain⟨p,ys,rfl,hq,q⟩:=h
 obtain⟨u,rfl,rx⟩:=vals1 r
 cases rx
 have hn:=zFs
 rcases hq with hq | hq
 ·obtain⟨its,r',pl,hz⟩:=I.list hq
  have hlen:=r'.length
  exact Calls.call_len_list pl.isList (by simp only[dg]<;>omega) ⟨.int ys.length,H,I.tok _,⟨s.toks+1,by rw[dg,hlen]⟩,q⟩
 ·obtain⟨its,r',pl,hz⟩:=I.tuple hq
  have hlen:=r'.length
  exact len_tuple pl (by simp only[dg]<;>omega) ⟨.int ys.length,H,I.tok _,⟨s.toks+1,by rw[dg,hlen]⟩,q⟩
theorem yy.or{f:Value}{r r':List V→Hp→VK→Prop}(h:yy X f r)(h':yy X f r'):yy X f (fun xs H Q=>r xs H Q∨r' xs H Q):=by
 intro pins s σ H xs us Q I rs q
 rcases q with q | q
 ·exact h pins s σ H xs us Q I rs q
 ·exact h' pins s σ H xs us Q I rs q
theorem zCD:yy X (.type "tuple") (fun xs H Q=>∃ p ys,xs=[.ref p]∧((SqL X.K H p ys∧∀ l,H l=none→Q (.ref l) (wC H l (.tup ys)))∨(SqT X.K H p ys∧Q (.ref p) H))):=by
 intro pins s σ H xs us Q I r h
 obtain⟨p,ys,rfl,h⟩:=h
 obtain⟨u,rfl,rx⟩:=vals1 r
 cases rx
 rcases h with ⟨hq,q⟩ | ⟨hq,q⟩
 ·obtain⟨its,r',pl,hz⟩:=I.list hq
  have hlen:=r'.length
  refine call_tuple_list pl.isList (fun h' kp=>?_) (by simp only[dg]<;>omega)
  have I1:zP X pins σ H { s with heap:=h' }:=I.kept (t':=s.toks) kp
  have I2:zP X pins σ (wC H h'.objs.size (.tup ys)) { s with heap:=h'.push { cls:=.type "tuple",data:=.seq its.toArray } } :=
   I1.laid (t':=s.toks) (fun b o e=>cQ _ e) (cX _) (show wp X.prog X.w _ _ _ (.tup ys) from⟨hz,its,r',zDn.new _ _⟩)
  exact⟨.ref h'.objs.size,_,I2,rfl,q _ (I1.hok.fresh (cX _))⟩
 ·obtain⟨its,r',pl,hz⟩:=I.tuple hq
  exact call_tuple_same pl ⟨.ref p,H,I,rfl,q⟩
noncomputable def tyV(K:PySem.W.Frag)(T:String)(x:V)(H:Hp):Prop:=match x with
 | .str _=>T="str"
 | .int _=>T="int"
 | .ref p=>(T="list"∧∃ xs,SqL K H p xs)∨(T="tuple"∧∃ xs,SqT K H p xs) ∨
   (T="dict"∧((∃ kvs,H p=some (.dK kvs))∨∃ kvs,H p=some (.dT kvs)))∨(T="set"∧∃ S n,H p=some (.set S n))
 | _=>False
theorem zOK{pins:List (Addr×Obj)}{σ:St}{H:Hp}{s:Shared}{T:String}{x:V}{v:Value}(I:zP X pins σ H s)(r:RelV x v)(ty:tyV X.K T x H) :
  s.TypeIs v T∧∀ a,v=.ref a→∃ ob,s.heap.get? a=some ob∧ob.dict=none:=by
 cases x with
 | str z =>
  obtain⟨t,rfl⟩:=r
  cases (show T="str" from ty)
  exact⟨typeIs_str s z t,fun u0 e=>nomatch e⟩
 | int i =>
  obtain⟨t,rfl⟩:=r
  cases (show T="int" from ty)
  exact⟨typeIs_int s i t,fun u0 e=>nomatch e⟩
 | ref p =>
  cases r
  rcases ty with ⟨rfl,xs,hq⟩ | ⟨rfl,xs,hq⟩ | ⟨rfl,hk⟩ | ⟨rfl,S,n,hk⟩
  ·obtain⟨its,u0,pl,u0⟩:=I.list hq
   refine⟨pl.isList.typeIs,fun a e=>?_⟩
   cases e
   obtain⟨o,n,e,c,hd,u0⟩:=pl
   exact⟨o,e,hd⟩
  ·obtain⟨h1,o,h2,h3⟩:=I.noDict hq
   refine⟨h1,fun a e=>?_⟩
   cases e
   exact⟨o,h2,h3⟩
  ·have z:∃ o,s.heap.get? p=some o∧o.ExactDict:=by
    rcases hk with ⟨kvs,hk⟩ | ⟨kvs,hk⟩
    ·obtain⟨u0,u0,u0,u0,o,u0,u0,e,ex,u0⟩:=I.hok p _ hk
     exact⟨o,e,ex⟩
    ·obtain⟨u0,u0,u0,u0,o,u0,u0,e,ex,u0⟩:=I.hok p _ hk
     exact⟨o,e,ex⟩
   obtain⟨o,e,ex⟩:=z
   refine⟨⟨o,e,ex.1⟩,fun a e2=>?_⟩
   cases e2
   exact⟨o,e,ex.2.1⟩
  ·obtain⟨o,u0,u0,u0,e,ex,u0⟩:=I.hok p _ hk
   refine⟨⟨o,e,ex.1⟩,fun a e2=>?_⟩
   cases e2
   exact⟨o,e,ex.2.1⟩
 | _=>exact False.elim ty
noncomputable def tBM(K:PySem.W.Frag)(T:String)(r:V→List V→Hp→VK→Prop)(to:TE)(t:TA):TE:=fun σ H Q=>to σ H fun x H1=>tyV K T x H1∧t σ H1 fun xs H2=>r x xs H2 Q
variable {o e:Expr} {es:List Expr} {to:TE} {t:TA} {name:Str} {apos cpos:Pos} {T id:String} {r:V→List V→Hp→VK→Prop}
theorem zKE(pa:PlainAttrs T)(slot:Slot T name id)(hty:typeOf (.builtin id)=pure (.type "method_descriptor"))(hm:MtR X id r)(ho:PE X o to)(ha:PA X (e::es) t)
  (hbase:attributeBase o name X.env (eval o X.env)=eval o X.env:=by rfl)
  (hfew:((backTo cpos (starEach (e::es) X.env)).all (fun x=>!x.1)&&(backToKw cpos (keywordEach [] X.env)).all (fun x=>x.1.isSome)
   && decide ((e::es).length+([]:List Keyword).length+(if ([]:List Keyword).isEmpty then 0 else 1)<30))=true:=by rfl)
  (hline:(apos.endLine==cpos.line)=true:=by rfl) (hs:starEach (e::es) X.env=(false,eval e X.env)::starEach es X.env:=by rfl) (hplain:(backTo cpos (starEach es X.env)).any (·.1)=false:=by rfl) :
  PE X (.Call (.Attribute o name apos) (e::es) [] cpos) (tBM X.K T r to t):=by
 intro pins s σ H Q I h
 refine wpAny_Call_method_late hbase hfew hline rfl (wB (ho pins s σ H _ I h) fun v s1 ⟨x,H1,I1,r1,ty,q1⟩=>?_)
 obtain⟨h1,h2⟩:=zOK I1 r1 ty
 refine⟨T,id,pa,slot,hty,h1,h2,?_⟩
 have hA:=ha cpos pins s1 σ H1 _ I1 q1
 rw[hs] at hA ⊢
 refine Calls.callWith_builtin (by show(false||(backTo cpos (starEach es X.env)).any (·.1))=false;rw[hplain]<;>rfl) (Calls.evalArgs_plain ?_)
 exact wB hA fun us s2 ⟨vs,H2,I2,r2,q2⟩=>hm pins s2 σ H2 x vs v us Q I2 r1 r2 q2
end
noncomputable def MtM(X:Cx)(id:String)(r:V→List V→Hp→VK→Prop):Prop :=
 ∀(pins:List (Addr×Obj)) (s:Shared) (σ:St) (H:Hp) (x:V) (xs:List V) (v:Value) (us:List Value) (Q:VK),zP X pins σ H s→RelV x v→zT xs us→r x xs H Q →
  wpAny (model X.prog X.w) X.A (call (.builtin id) (v::us)) (EP X pins σ Q) X.xe s
theorem zT.one:∀ {x:V} {us:List Value},zT [x] us→∃ u,us=[u]∧RelV x u
 | _,_,.cons r .nil=>⟨_,rfl,r⟩
theorem zT.zero:∀ {us:List Value},zT [] us→us=[]
 | _,.nil=>rfl
theorem zT.eraseIdx:∀ {xs:List V} {us:List Value} (i:Nat),zT xs us→zT (xs.eraseIdx i) (us.eraseIdx i)
 | _,_,_,.nil=>.nil
 | _,_,0,.cons _ t=>t
 | _,_,i+1,.cons r t=>.cons r (zT.eraseIdx i t)
theorem zT.reverse{xs:List V}{us:List Value}(h:zT xs us):zT xs.reverse us.reverse:=by
 induction h with
 | nil=>exact .nil
 | cons r t ih=>rw[gC,gC];exact zT.append ih (.cons r .nil)
theorem zT.rep{xs:List V}{us:List Value}(h:zT xs us):∀ k:Nat,zT (di k xs).flatten (di k us).flatten
 | 0=>.nil
 | k+1=>by
  rw[cP,cP,fI,fI]
  exact zT.append h (zT.rep h k)
theorem zFO{α:Type}:∀(l:List α) (i:Nat),(l.eraseIdx i).length≤l.length
 | [],_=>cX _
 | _::_,0=>Nat.le_succ _
 | _::r,i+1=>Nat.succ_le_succ (zFO r i)
theorem foldl_rep(its:List Value):∀(k:Nat) (acc:List Value),
  List.foldl (fun x1 x2=>x1++x2) acc.toArray (di k its.toArray)=(acc++(di k its).flatten).toArray
 | 0,acc=>by simp
 | k+1,acc=>by
  have e:acc.toArray++its.toArray=(acc++its).toArray:=by simp
  have e2:(acc++its)++(di k its).flatten=acc++(di (k+1) its).flatten:=by
   rw[cP,fI,eA]
  rw[← e2,← foldl_rep its k (acc++its),← e,cP,List.foldl_cons]
section
variable {X:Cx} {pins:List (Addr×Obj)} {σ:St} {H:Hp} {s:Shared} {l b:Addr} {xs ys zs:List V}
theorem zP.lset{its its':List Value}{n:Nat}{f:Array Value→Array Value}{t':Nat}(I:zP X pins σ H s)(hH:H l=some (.lst xs))
  (e:s.heap.get? l=some { cls:=.type "list",data:=.seq its.toArray n }) (hf:f its.toArray=its'.toArray) (hv:zT ys its') (hz:ys.length≤sizeLine) :
  zP X pins σ (wC H l (.lst ys)) { s with heap:=s.heap.update l (Obj.mapSeq f),toks:=t' }:=by
 have q:=PySem.IsL.update e f
 rw[hf] at q
 refine I.write (x:=l) (e:=l) (by rw[hH];exact trivial) (.inl rfl) (fun b' u hb hu=>(dA s.heap (Obj.mapSeq f) (Ne.symm hb)).trans hu) ⟨_,q⟩ ?_
 exact⟨hz,its',_,hv,q⟩
theorem zP.lnew{its:List Value}{t':Nat}(I:zP X pins σ H s)(hv:zT ys its)(hz:ys.length≤sizeLine) :
  zP X pins σ (wC H s.heap.objs.size (.lst ys)) { s with heap:=s.heap.push { cls:=.type "list",data:=.seq its.toArray },toks:=t' } :=
 I.laid (fun u0 u0 q=>cQ _ q) (cX _) ⟨hz,its,0,hv,dc _ rfl⟩
theorem zP.fresh(I:zP X pins σ H s):H s.heap.objs.size=none:=I.hok.fresh (cX _)
theorem zP.lstM(I:zP X pins σ H s)(hH:H l=some (.lst xs)):xs.length≤sizeLine∧∃(its:List Value) (n:Nat),zT xs its∧xs.length=its.length∧s.heap.get? l=some { cls:=.type "list",data:=.seq its.toArray n }:=by
 obtain⟨z,its,n,r,e⟩:=I.hok l _ hH
 exact⟨z,its,n,r,r.length,e⟩
theorem zCe{n:Nat}(h:n≤sizeLine):Builtin.List.listTooLong n=false:=by
 unfold Builtin.List.listTooLong
 exact decide_eq_false (by omega)
end
section
variable {X:Cx}
noncomputable def zMA:V→List V→Hp→VK→Prop:=fun x vs H Q=>∃ l xs y,x=.ref l∧vs=[y]∧H l=some (.lst xs)∧xs.length<sizeLine∧Q .non (wC H l (.lst (xs++[y])))
theorem zFP:MtM X "list.append" zMA:=by
 intro pins s σ H x vs v us Q I rx rv h
 obtain⟨l,xs,y,rfl,rfl,hH,hz,q⟩:=h
 cases rx
 obtain⟨u,rfl,ru⟩:=rv.one
 obtain⟨z,its,n,r,hl,e⟩:=I.lstM hH
 refine call_meets F.slot_list_append ⟨_,e,rfl⟩ F.entry_list_append (F.args_list_append_2 _ _) (PySem.list_append l its.toArray n u (by rw[dg];omega)) ⟨e,?_⟩
 refine⟨.non,_,I.lset (its':=its++[u]) hH e (by simp) (r.append (.cons ru .nil)) ?_,rfl,q⟩
 rw[du,List.length_singleton]
 omega
noncomputable def zMB:V→List V→Hp→VK→Prop:=fun x vs H Q=>∃ l b xs zs,x=.ref l∧vs=[.ref b]∧H l=some (.lst xs)∧H b=some (.lst zs)∧xs.length+zs.length≤sizeLine∧Q .non (wC H l (.lst (xs++zs)))
theorem zJG:MtM X "list.extend" zMB:=by
 intro pins s σ H x vs v us Q I rx rv h
 obtain⟨l,b,xs,zs,rfl,rfl,hH,hB,hz,q⟩:=h
 cases rx
 obtain⟨u,rfl,ru⟩:=rv.one
 cases ru
 obtain⟨z,its,n,r,hl,e⟩:=I.lstM hH
 obtain⟨z2,its2,n2,r2,hl2,e2⟩:=I.lstM hB
 have hsz:its.toArray.size+its2.toArray.size≤sizeLine:=by rw[dg,dg];omega
 have hlong:¬ (!its.toArray.isEmpty&&Builtin.List.listTooLong (its.toArray.size+its2.toArray.size))=true:=by
  rw[zCe hsz,Bool.and_false]
  exact eK
 refine call_meets F.slot_list_extend ⟨_,e,rfl⟩ F.entry_list_extend (F.args_list_extend_2 _ _)
  (AutoSeq1.list_extend_list_list_0 l its.toArray n b its2.toArray n2 hlong (by rw[dg];omega) (by omega)) ⟨e,e2,?_⟩
 refine⟨.non,_,I.lset (its':=its++its2) hH e (by simp) (r.append r2) ?_,rfl,q⟩
 rw[du]
 omega
noncomputable def zOL:V→List V→Hp→VK→Prop:=fun x vs H Q=>∃ l xs i k y,x=.ref l∧vs=[.int i]∧H l=some (.lst xs)∧-(2 ^ 63)≤i∧i<2 ^ 63∧seqIndex? i xs.length=some k∧xs[k]?=some y∧Q y (wC H l (.lst (xs.eraseIdx k)))
theorem zKF:MtM X "list.pop" zOL:=by
 intro pins s σ H x vs v us Q I rx rv h
 obtain⟨l,xs,i,k,y,rfl,rfl,hH,h1,h2,hk,hy,q⟩:=h
 cases rx
 obtain⟨u,rfl,ru⟩:=rv.one
 obtain⟨t,rfl⟩:=ru
 obtain⟨z,its,n,r,hl,e⟩:=I.lstM hH
 obtain⟨w,hw,rw'⟩:=r.get hy
 refine call_meets F.slot_list_pop ⟨_,e,rfl⟩ F.entry_list_pop (F.args_list_pop_2 _ _)
  (MeetsSeq.list_pop_at l its.toArray n i t k w (fitsIndex_both h1 h2) (by rw[dg,← hl];exact hk) (by rw[← eR];exact hw) (by rw[dg];omega)) ⟨e,?_⟩
 refine⟨y,_,I.lset (its':=its.eraseIdx k) hH e ?_ (r.eraseIdx k) ?_,rw',q⟩
 ·show its.toArray.eraseIdxIfInBounds k=(its.eraseIdx k).toArray
  rw[List.eraseIdxIfInBounds_toArray]
 ·have:=zFO xs k
  omega
noncomputable def zQH:R2:=fun x y H Q=>∃ l b xs zs,x=.ref l∧y=.ref b∧H l=some (.lst xs)∧H b=some (.lst zs)∧xs.length+zs.length≤sizeLine∧∀ p,H p=none→Q (.ref p) (wC H p (.lst (xs++zs)))
theorem zOM:OpR X (binaryOp .Add) zQH:=by
 intro pins s σ H x y v u Q I rx ry h
 obtain⟨l,b,xs,zs,rfl,rfl,hH,hB,hz,q⟩:=h
 cases rx
 cases ry
 obtain⟨z,its,n,r,hl,e⟩:=I.lstM hH
 obtain⟨z2,its2,n2,r2,hl2,e2⟩:=I.lstM hB
 refine PySem.P.add_list e e2 ?_ (by rw[dg,dg];omega)
 have ea:its.toArray++its2.toArray=(its++its2).toArray:=by simp
 rw[ea]
 exact⟨.ref _,_,I.lnew (t':=s.toks) (r.append r2) (by rw[du];omega),rfl,q _ I.fresh⟩
noncomputable def zQI:R2:=fun x y H Q=>∃ l k xs,x=.ref l∧y=.int k∧H l=some (.lst xs)∧-(2 ^ 63)≤k∧k<2 ^ 63∧xs.length*k.toNat≤sizeLine ∧
 ∀ p,H p=none→Q (.ref p) (wC H p (.lst (di k.toNat xs).flatten))
theorem len_rep{α:Type}(xs:List α)(k:Nat):(di k xs).flatten.length=k*xs.length:=by
 induction k with
 | zero=>simp
 | succ k ih=>rw[cP,fI,du,ih,Nat.succ_mul,Nat.add_comm]
theorem zON:OpR X (binaryOp .Mult) zQI:=by
 intro pins s σ H x y v u Q I rx ry h
 obtain⟨l,k,xs,rfl,rfl,hH,h1,h2,hz,q⟩:=h
 cases rx
 obtain⟨t,rfl⟩:=ry
 obtain⟨z,its,n,r,hl,e⟩:=I.lstM hH
 have hlen:its.toArray.size*k.toNat≤sizeLine:=by rw[dg,← hl];exact hz
 have hcap:¬ its.toArray.size*k.toNat>(2 ^ 63-1) / 8:=by
  have:(sizeLine:Nat)≤(2 ^ 63-1) / 8:=by decide
  omega
 have hfit:¬ (!Builtin.List.listFitsIndex k)=true:=by
  rw[fitsIndex_both h1 h2]
  exact eK
 have hlong:¬ Builtin.List.listTooLong (its.toArray.size*k.toNat)=true:=by
  rw[zCe hlen]
  exact eK
 have hnew:List.foldl (fun x1 x2=>x1++x2) #[] (di (if its.toArray.isEmpty=true then 0 else k.toNat) its.toArray)=(di k.toNat its).flatten.toArray:=by
  have f0:∀ m:Nat,List.foldl (fun x1 x2=>x1++x2) #[] (di m its.toArray)=(di m its).flatten.toArray:=fun m=>by
   have:=foldl_rep its m []
   rw[cW] at this
   exact this
  rw[f0]
  cases its with
  | nil=>simp
  | cons a r'=>rw[if_neg (by simp)]
 refine wpAny_binaryOp_repeat_ref (T:="list") (U:="int") (by decide) ⟨_,e,rfl⟩ (fun s'=>typeIs_int s' k t) noFill_list_mul F.fills_int_mul F.slot_int_rmul repeat_list F.slot_int_index.lookup
  (call_meets F.slot_int_rmul (typeIs_int s k t) F.entry_int_rmul (F.args_int_rmul_2 _ _) (int___rmul___int_list k t l its.toArray n)
   ⟨e,rfl,⟨_,e,rfl⟩,call_meets F.slot_list_mul ⟨_,e,rfl⟩ F.entry_list_mul (F.args_list_mul_2 _ _) (AutoListH.list___mul___list_int_3 l its.toArray n k t hfit hcap hlong) ⟨e,?_⟩⟩)
 rw[hnew]
 exact⟨.ref _,_,I.lnew (t':=s.toks) (r.rep k.toNat) (by rw[len_rep,Nat.mul_comm];exact hz),rfl,q _ I.fresh⟩
end
section
variable {prog:Program} {w:World} {A:Around} {E:Value→Shared→Prop} {s:Shared}
end
section
variable {X:Cx}
end
end L2
namespace Att
open PySem PySem.W PySem.Calls PyProof.Rows
theorem zDp{P:Params}{h:Heap}:∀(ns:List Int) (vs:List Value),WellAll P h vs (ns.map WData.int)→IntsAre vs ns:=by
 intro ns
 induction ns with
 | nil =>
  intro vs w
  rw[List.map_nil] at w
  cases w
  exact .nil
 | cons n ns ih =>
  intro vs w
  rw[eZ] at w
  cases w with
  | cons a b =>
   cases a
   exact .cons _ _ (ih _ b)
theorem zJH{l:OpenLaw}{n:Nat}(hn:l.most=some n){P:Params}{h:Heap}{args:List WData}{vals:List Value}
  (hpre:l.row.toRowW.claim.pre args=true) (hwl:WellAll P h vals args) :
  ∃ a vs ns,vals=[Value.ref a]∧args=[WData.list (ns.map WData.int)]∧h.get? a=some { cls:=.type "list",data:=.seq vs.toArray }∧IntsAre vs ns∧ns.length≤n:=by
 have hsh:WShape.hasAll [] args [.list .int]=true:=(pre_splitW hpre).1
 have hc:l.pre.holds [] { args:=args }=true:=(pre_splitW hpre).2
 obtain⟨d,r,rfl,h1,h2⟩:=hasAllW_cons hsh
 obtain rfl:=hasAllW_nil h2
 obtain⟨xs,rfl,h3⟩:=hasW_list h1
 obtain⟨ns,rfl⟩:=items_int h3
 have hlen:ns.length≤n:=by
  unfold OpenLaw.pre at hc
  have h4:(WTm.not (.lt (.lit (.int (n:Int))) (.len (.arg 0)))).holds [] { args:=[.list (ns.map .int)] }=true:=by
   have h4:=(holds_andW hc).1
   rw[hn] at h4
   exact h4
  have h5:=condW_of h4 (w_not (w_lt w_lit (w_len_list (w_arg rfl))))
  rw[d7] at h5
  refine Nat.le_of_not_lt fun q=>?_
  have q':(n:Int)<((ns.length:Nat):Int):=by omega
  first
   | (rw[decide_eq_true q'] at h5;exact absurd h5 (by decide))
   | (simp at h5;omega)
 cases hwl with
 | cons w1 w2 =>
  cases w2
  cases w1 with
  | list ho hall=>exact⟨_,_,ns,rfl,rfl,ho,zDp ns _ hall,hlen⟩
theorem zJI(l:OpenLaw)(args:List WData):l.row.toRowW.claim.post args (.bool true) args=true :=
 postW_of (r:=l.row.toRowW) (X:=(true==true))
  (show WShape.has [] (.bool true) .bool=true by first | rfl | decide | simp[WShape.has,WShape.arms,WShape.armsAll])
  (show(WTm.eq .res (.lit (.bool true))).value [] { args:=args,res:=some (.bool true),after:=args }=some (.bool (true==true)) from w_eq_bool (w_res rfl) w_lit) rfl
theorem zGS{l:OpenLaw}{n:Nat}{q:Program}{loose:List Str}{XP:(Str→Option Value)→Heap→Prop}{YP:World→Heap→Prop}{d:DefRec}
  (hn:l.most=some n) (hdf:d.params.defaults=[])
  (call:∀(w:World) (s₀ s₁:Shared) (mg mb:Str→Option Value) (fa:Addr) (o:Obj) (pm cd doc:Value) (a:Addr) (vs:List Value) (ns:List Int),
   Ground q loose [] XP w s₀ mg mb s₁.heap→YP w s₁.heap →
   s₁.heap.get? fa=some o→o.data=.func (docDef d.name d.params d.body d.scope pm cd doc)→s₁.heap.CodeRec cd d.name→mg d.name=some (.ref fa) →
   s₁.heap.get? a=some { cls:=.type "list",data:=.seq vs.toArray }→IntsAre vs ns→ns.length≤n→s₁.gens=#[] →
   codeAny (model l.prog w) callerA (.call (.ref fa) ⟨[.ref a],[]⟩) (fun r s'=>r=.ok (.ret (.bool true))∧OldK s₁.heap s'.heap∧s'.os=s₁.os∧AllBare s'.gens) s₁) :
  WalkO q loose XP YP l.row.toRowW d [] (fun f vs=>PySem.call f vs):=by
 intro w s₀ s₁ mg mb G Y fa o pm cd doc dV kV ho hd hcd hD hmg hg args vals as hpre hlay hrd hwl hlo
 obtain rfl:dV=.none:=Dflts.none hD hdf
 obtain rfl:kV=.none:=Dflts.noKw hD
 obtain⟨a,vs,ns,rfl,rfl,hobj,hints,hlen⟩:=zJH hn hpre hwl
 refine enter_call (eV (call w s₀ s₁ mg mb fa o pm cd doc a vs ns G Y ho (fd_plain hd) hcd hmg hobj hints hlen hg) fun r s' hq=>?_)
 obtain⟨rfl,h2,h3,h4⟩:=hq
 exact⟨.inl ⟨.bool true,.bool true,[],rfl,fun u0=>rfl,.bool true,zJI l _,fun u0=>⟨fH.nil,fun u0 hm=>(nomatch hm)⟩⟩,h2,h3,h4⟩
section
variable {prog:Program} {w:World} {A:Around} {E:Value→Shared→Prop} {s:Shared} {K:Frag}
end
end Att
namespace L2
theorem zFQ:∀ {vs:List Value} {ns:List Int},IntsAre vs ns→zT (ns.map V.int) vs
 | _,_,.nil=>.nil
 | _,_,.cons n t h=>.cons ⟨t,rfl⟩ (zFQ h)
noncomputable def zMC(H:Hp):Prop:=∀ b,H b=none∨(∃ o xs,H b=some (.frz o (.lst xs)))∨∃ ps,H b=some (.tbl ps)
structure TabsAt (K:PySem.W.Frag) (h:Heap) (ts:List Addr) (qn:Addr→Str):Prop where
 obj:∀ P∈ts,h.get? P=some (PySem.W.tabObj #[])
 out:∀ P∈ts,K.lookup P=none
 code:∀ P∈ts,isCodeTable h P
 name:∀ x∈zA9,∀ c b,PySem.W.tabIn K x=some (c,b)→b∈ts∧qn b=x++".<locals>.<lambda>"
noncomputable def zg(s:Stmt):Arguments:=match s with
 | .FunctionDef _ a _ _ _ _ _ _ _ _=>a
 | _=>{ posonlyargs:=[],args:=[],vararg:=none,kwonlyargs:=[],kw_defaults:=[],kwarg:=none,defaults:=[] }
noncomputable def zV(s:Stmt):List Stmt:=match s with
 | .FunctionDef _ _ b _ _ _ _ _ _ _=>b
 | _=>[]
noncomputable def zC(s:Stmt):Scope:=match s with
 | .FunctionDef _ _ _ _ _ _ sc _ _ _=>sc
 | _=>{ kind:=.function,names:=[],isGenerator:=false,isCoroutine:=false }
noncomputable abbrev CX0:CXT:=fun u0 u0 u0 u0 u0 u0=>False
noncomputable abbrev E0:XK:=fun u0 u0 u0=>False
theorem zNL{X:Cx}:zHM CX0 X E0:=fun u0 u0 u0 u0 u0 u0 u0 h=>h.elim
structure Fun (K:PySem.W.Frag) (x qual:Str) (st:Stmt) (f:Addr) (fd:FuncData):Prop where
 ex:∃(oc:Value) (od:Option Addr) (kV doc pm:Value) (an:Option Addr) (cdv ct:Value) (osl:Array (Option Value)),
  fd=PySem.W.fnOf x qual (zg st) (zV st) (zC st) .none kV doc pm an cdv ct∧K.lookup f=some ⟨oc,od,.func fd,osl⟩∧PySem.W.codeIn K cdv qual=true
 kp:PySem.W.keepIn K (.ref f)=true
section
variable {P:Program} {w:World} {K:PySem.W.Frag} {mg:Str→Option Value} {base:Heap}
theorem Fun.ok{x qual:Str}{st:Stmt}{f:Addr}{fd:FuncData}{N ps:List Str}{k:Nat}{sp:Sp}(F:Fun K x qual st f fd)(S:za N ps (zC st))(len:∀ vs H Q E,sp vs H Q E→vs.length=ps.length)
  (hbody:∀(cdv:Value) (A:Around) (outer:List Env) (s:Shared) (H:Hp) (vs:List V) (Q:VK) (E:XK),zx k (A.deeper (envOfC qual (zC st) s.heap.objs.size f cdv))→sp vs H Q E →
   ∃ t,PSs (zAq CX0 P w K mg base N qual (zC st) f cdv A outer s H E).nox (zV st) t∧t { nx:=fun u0 H'=>Q .non H',rt:=Q } (start N vs) H):zBb P w K mg base CX0 (k+1) f fd ps sp:=by
 obtain⟨oc,od,kV,doc,pm,an,cdv,ct,osl,rfl,lk,hcd⟩:=F.ex
 refine zNJ lk hcd S len fun A outer s H vs Q E hr hsp=>?_
 obtain⟨t,h,q⟩:=hbody cdv A outer s H vs Q E hr hsp
 exact⟨t,h.nox,q⟩
theorem Fun.binds{x qual:Str}{st:Stmt}{f:Addr}{fd:FuncData}{ps:List Str}(F:Fun K x qual st f fd)
  (h:∀(kV doc pm:Value) (an:Option Addr) (cdv ct:Value) (us:List Value),us.length=ps.length→bindArgs (PySem.W.fnOf x qual (zg st) (zV st) (zC st) .none kV doc pm an cdv ct) ⟨us,[]⟩=pure (ps.zip us)):Binds K fd ps []:=by
 obtain⟨oc,od,kV,doc,pm,an,cdv,ct,osl,rfl,lk,hcd⟩:=F.ex
 exact .all (h kV doc pm an cdv ct)
theorem zk{x qual:Str}{st:Stmt}{f:Addr}{oc:Value}{od an:Option Addr}{osl:Array (Option Value)}{kV doc pm cdv ct:Value}(l:K.lookup f=some ⟨oc,od,.func (PySem.W.fnOf x qual (zg st) (zV st) (zC st) .none kV doc pm an cdv ct),osl⟩)
  (c:PySem.W.codeIn K cdv qual=true) (k:PySem.W.keepIn K (.ref f)=true):Fun K x qual st f (PySem.W.fnOf x qual (zg st) (zV st) (zC st) .none kV doc pm an cdv ct):=⟨⟨oc,od,kV,doc,pm,an,cdv,ct,osl,rfl,l,c⟩,k⟩
end
section
variable {X:Cx}
theorem pv(i:Nat){x:Str}{pos:Pos}(hN:X.N[i]?=some x:=by rfl)(hv:Vis X.env.scope x:=by first | exact Or.inl rfl | exact Or.inr (Or.inl rfl) | exact Or.inr (Or.inr rfl))(hd:(x==("__debug__":Str))=false:=by decide)
  (hcd:(x==("__classdict__":Str))=false:=by decide):PE X (.Name x pos) (zNn i):=zCM hN hv hd hcd
end
noncomputable def zCO(H H':Hp):Prop:=∀ b o,H b=some o→H' b=some o
theorem zCO.refl(H:Hp):zCO H H:=fun u0 u0 h=>h
theorem zCO.trans{H H1 H2:Hp}(a:zCO H H1)(b:zCO H1 H2):zCO H H2:=fun c o h=>b c o (a c o h)
theorem zCO.free{H H':Hp}(e:zCO H H'){l:Addr}(h:H' l=Option.none):H l=Option.none:=by
 cases q:H l with
 | none=>rfl
 | some o =>
  rw[e l o q] at h
  cases h
theorem zCO.seq{K:PySem.W.Frag}{H H':Hp}{a:Addr}{xs:List V}(e:zCO H H')(h:SqL K H a xs):SqL K H' a xs:=by
 rcases h with (h | ⟨o,h⟩) | h
 ·exact .inl (.inl (e _ _ h))
 ·exact .inl (.inr ⟨o,e _ _ h⟩)
 ·exact .inr h
end L2
namespace K
end K
set_option maxHeartbeats 4000000
namespace L2
noncomputable def zDD(env:Env):List (Str×NameKind)→List (Str×Addr)→List (Str×Addr)
 | [],cs=>cs
 | (n,k)::r,cs=>zDD env r (if k==.free then match env.cells.lookup n with | some a=>(n,a)::cs | none=>cs else cs)
noncomputable def zAS(sc:Scope)(env:Env):List (Str×Addr):=zDD env sc.names []
theorem zFR{env:Env}:∀ {ns:List (Str×NameKind)} {cs:List (Str×Addr)} {x:Str} {c:Addr},(∀ y a,cs.lookup y=some a→env.cells.lookup y=some a)→(zDD env ns cs).lookup x=some c→env.cells.lookup x=some c
 | [],_,_,_,h,e=>h _ _ e
 | (n,k)::r,cs,x,c,h,e=>by
  unfold zDD at e
  refine zFR (ns:=r) (fun y a q=>?_) e
  by_cases hk:(k==NameKind.free)=true
  ·rw[if_pos hk] at q
   cases hc:env.cells.lookup n with
   | none=>rw[hc] at q;exact h y a q
   | some d =>
    rw[hc] at q
    cases hy:y==n with
    | true =>
     simp only[dW,hy] at q
     have:y=n:=by simpa using hy
     rw[this,hc];exact q
    | false =>
     simp only[dW,hy] at q
     exact h y a q
  ·rw[if_neg hk] at q;exact h y a q
theorem zAQ{sc:Scope}{env:Env}{x:Str}{c:Addr}(e:(zAS sc env).lookup x=some c):env.cells.lookup x=some c :=
 zFR (fun u0 u0 q=>by simp at q) e
theorem zCf{env:Env}:∀ {ns:List (Str×NameKind)} {cs:List (Str×Addr)} {x:Str},(∀ y∈ns,y.2=.free→∃ c,env.cells.lookup y.1=some c)→((∃ c,cs.lookup x=some c)∨(x,NameKind.free)∈ns)→∃ c,(zDD env ns cs).lookup x=some c
 | [],cs,x,_,h=>by
  rcases h with h | h
  ·exact h
  ·cases h
 | (n,k)::r,cs,x,hh,h=>by
  unfold zDD
  refine zCf (ns:=r) (fun y hy=>hh y (dw _ hy)) ?_
  by_cases hk:k=.free
  ·subst hk
   obtain⟨c,hc⟩:=hh (n,.free) dt rfl
   have hc':env.cells.lookup n=some c:=hc
   simp only[beq_self_eq_true,if_true,hc']
   cases hx:x==n with
   | true=>exact .inl ⟨c,by simp[dW,hx]⟩
   | false =>
    rcases h with ⟨d,h⟩ | h
    ·exact .inl ⟨d,by simp[dW,hx,h]⟩
    ·rcases dC.mp h with e | h
     ·injection e with e1 _
      subst e1;simp at hx
     ·exact .inr h
  ·have hb:(k==NameKind.free)=false:=by simpa using hk
   simp only[hb,cM,if_false]
   rcases h with h | h
   ·exact .inl h
   ·rcases dC.mp h with e | h
    ·injection e with _ e2
     exact absurd e2.symm hk
    ·exact .inr h
theorem zGT{env:Env}:∀ {ns:List (Str×NameKind)} {cs:List (Str×Addr)},(∀ y∈ns,y.2=.free→∃ c,env.cells.lookup y.1=some c) →
  (forIn ns cs fun(x:Str×NameKind) (r:List (Str×Addr))=>if (x.2==NameKind.free)=true then (do let a ← cellOf env x.1;pure (ForInStep.yield ((x.1,a)::r)):Sem _) else pure (ForInStep.yield r))=(pure (zDD env ns cs):Sem _)
 | [],_,_=>rfl
 | (n,k)::r,cs,hh=>by
  rw[List.forIn_cons]
  have ih:=fun cs'=>zGT (env:=env) (ns:=r) (cs:=cs') fun y hy=>hh y (dw _ hy)
  by_cases hk:k=.free
  ·subst hk
   obtain⟨c,hc⟩:=hh (n,.free) dt rfl
   have hc':env.cells.lookup n=some c:=hc
   have e:cellOf env n=pure c:=by unfold cellOf;rw[hc']
   simp only[beq_self_eq_true,if_true,e,pure_bind]
   rw[ih]
   have q:zDD env ((n,NameKind.free)::r) cs=zDD env r ((n,c)::cs):=by simp only[zDD,beq_self_eq_true,if_true,hc']
   rw[q]
  ·have hb:(k==NameKind.free)=false:=by simpa using hk
   simp only[hb,cM,if_false,pure_bind]
   rw[ih]
   have q:zDD env ((n,k)::r) cs=zDD env r cs:=by simp only[zDD,hb,cM,if_false]
   rw[q]
theorem wm{sc:Scope}{env:Env}(hh:∀ y∈sc.names,y.2=.free→∃ c,env.cells.lookup y.1=some c):closureFor sc env=pure (zAS sc env):=by
 have e:=zGT (env:=env) (ns:=sc.names) (cs:=[]) hh
 unfold closureFor
 show(forIn sc.names [] (fun(x:Str×NameKind) (r:List (Str×Addr))=>(match x with | (name,kind)=>if (kind==NameKind.free)=true then (do let a ← cellOf env name;pure (ForInStep.yield ((name,a)::r))) else pure (ForInStep.yield r):Sem (ForInStep (List (Str×Addr)))))>>=fun s=>pure s)=_
 have hb:(fun(x:Str×NameKind) (r:List (Str×Addr))=>(match x with | (name,kind)=>if (kind==NameKind.free)=true then (do let a ← cellOf env name;pure (ForInStep.yield ((name,a)::r))) else pure (ForInStep.yield r):Sem (ForInStep (List (Str×Addr))))) =
   fun(x:Str×NameKind) (r:List (Str×Addr))=>if (x.2==NameKind.free)=true then (do let a ← cellOf env x.1;pure (ForInStep.yield ((x.1,a)::r)):Sem _) else pure (ForInStep.yield r):=by
  funext x r
  obtain⟨n,k⟩:=x
  rfl
 rw[hb,e]
 rfl
noncomputable def Cx.comp(X:Cx)(N':List Str)(sc:Scope)(C:Addr)(s:Shared)(H:Hp)(fp:List Addr)(pins:List (Addr×Obj)):Cx :=
 { X with N:=N',s₀:=s,H₀:=H,env:=compEnvC sc (zAS sc X.env) C X.env,outer:=X.stack,ex:=fp,fn:=fun u0=>false,pn:=X.pn++pins,xe:=fun u0 u0=>False }
noncomputable def PTs(X:Cx)(ifs:List Expr)(t:TT):Prop :=
 ∀(pins:List (Addr×Obj)) (s:Shared) (σ:St) (H:Hp) (Q:Bool→Hp→Prop),zP X pins σ H s→t σ H Q →
  wpAny (model X.prog X.w) X.A (forIn ifs true fun c r=>if r=true then do let ok ← isTrue c X.env (eval c X.env);pure (ForInStep.yield ok) else pure (ForInStep.yield r)) (TP X pins σ Q) X.xe s
noncomputable def zQJ:TT:=fun u0 H Q=>Q true H
theorem zMD{X:Cx}:PTs X [] zQJ:=fun u0 u0 u0 H u0 I h=>wpAny_tests_nil ⟨H,I,h⟩
theorem zME{X:Cx}{c:Expr}{t:TT}(h:PT X c t):PTs X [c] t:=fun pins s σ H Q I hq=>wpAny_tests_one (h pins s σ H Q I hq)
noncomputable def zKG(n0:Nat)(wi:TI)(g:TG)(tc:TT)(te:TE):TE:=fun σ H Q=>wi σ H fun J H1=>∀ D,H1 D=none→∃ W:Nat→Nat→Hp→Prop,(∃ m,W 0 m (wC H1 D (.lst []))) ∧
 ∀ i m H2,W i m H2→(J.stop i H2∧Q (.ref D) H2) ∨
  (J.go i H2∧∀ x H3,J.yld i H2 x H3→g x (σ++di n0 none) H3 fun σ4 H4=>σ4.take σ.length=σ∧σ4.length=σ.length+n0∧tc σ4 H4 fun b H5 =>
   if b=true then te σ4 H5 fun v H6=>∃ acc,H6 D=some (.lst acc)∧acc.length<sizeLine∧∃ m',m'<m∧W (i+1) m' (wC H6 D (.lst (acc++[v]))) else ∃ m',m'<m∧W (i+1) m' H5)
theorem PE.mono{X:Cx}{e:Expr}{t t':TE}(h:PE X e t)(hm:∀ σ H Q,t' σ H Q→t σ H Q):PE X e t':=fun pins s σ H Q I q=>h pins s σ H Q I (hm σ H Q q)
theorem PT.mono{X:Cx}{e:Expr}{t t':TT}(h:PT X e t)(hm:∀ σ H Q,t' σ H Q→t σ H Q):PT X e t':=fun pins s σ H Q I q=>h pins s σ H Q I (hm σ H Q q)
theorem PS.mono{X:Cx}{e:Stmt}{t t':TS}(h:PS X e t)(hm:∀ D σ H,t' D σ H→t D σ H):PS X e t':=fun pins s σ H D I q=>h pins s σ H D I (hm D σ H q)
section
variable {X:Cx} {tg elt iter:Expr} {ifs:List Expr} {sc:Scope} {pos:Pos} {N0 own:List Str} {wi:TI} {g:TG} {tc:TT} {te:TE}
structure zDE (X:Cx) (sc:Scope) (N0:List Str):Prop where
 kind:sc.kind=.function
 cell:∀ y∈sc.names,y.2≠.cell
 names:∀ y∈sc.names,y.2=.local→sc.names.lookup y.1=some .local
 cap:∀ y∈sc.names,y.2=.free→X.env.kindOf y.1=some .cell∨X.env.kindOf y.1=some .free
 len:N0.length=X.N.length
 vis:∀(i:Nat) (x:Str),N0[i]?=some x→Vis (relabel sc X.env) x→X.N[i]?=some x∧sc.names.lookup x=some .free
theorem zAd{env:Env}:∀ {names:List (Str×NameKind)} {x:Str},(∀ y∈names,y.2≠.cell) →
    ((names.map fun(n,k)=>if (k==NameKind.free&&env.scope.kind==.function&&env.kindOf n==some .cell) then (n,NameKind.cell) else (n,k)).lookup x=some .cell ∨
     (names.map fun(n,k)=>if (k==NameKind.free&&env.scope.kind==.function&&env.kindOf n==some .cell) then (n,NameKind.cell) else (n,k)).lookup x=some .free)→names.lookup x=some .free
  | [],_,_,h=>by rcases h with h | h<;>simp at h
  | (n,k)::r,x,hc,h=>by
    have ih:=@zAd env r x fun y hy=>hc y (dw _ hy)
    have hk:k≠.cell:=hc (n,k) dt
    have hd:∀(z:NameKind),(((n,k)::r).map fun(n,k)=>if (k==NameKind.free&&env.scope.kind==.function&&env.kindOf n==some .cell) then (n,NameKind.cell) else (n,k)).lookup x=some z →
        if (x==n)=true then (if (k==NameKind.free&&env.scope.kind==.function&&env.kindOf n==some .cell)=true then z=.cell else z=k) else (r.map fun(n,k)=>if (k==NameKind.free&&env.scope.kind==.function&&env.kindOf n==some .cell) then (n,NameKind.cell) else (n,k)).lookup x=some z:=by
      intro z e
      have e':List.lookup x ((if (k==NameKind.free&&env.scope.kind==.function&&env.kindOf n==some .cell)=true then (n,NameKind.cell) else (n,k))::(r.map fun(n,k)=>if (k==NameKind.free&&env.scope.kind==.function&&env.kindOf n==some .cell) then (n,NameKind.cell) else (n,k)))=some z:=e
      cases hx:x==n with
      | true =>
        rw[if_pos rfl]
        by_cases hq:(k==NameKind.free&&env.scope.kind==.function&&env.kindOf n==some .cell)=true
        · rw[if_pos hq] at e' ⊢
          simp only[dW,hx] at e'
          exact(Option.some.inj e').symm
        · rw[if_neg hq] at e' ⊢
          simp only[dW,hx] at e'
          exact(Option.some.inj e').symm
      | false =>
        rw[if_neg (by simp)]
        by_cases hq:(k==NameKind.free&&env.scope.kind==.function&&env.kindOf n==some .cell)=true
        · rw[if_pos hq] at e';simpa only[dW,hx] using e'
        · rw[if_neg hq] at e';simpa only[dW,hx] using e'
    cases hx:x==n with
    | true =>
      simp only[dW,hx]
      rcases h with h | h
      · have q:=hd _ h
        rw[if_pos hx] at q
        by_cases hq:(k==NameKind.free&&env.scope.kind==.function&&env.kindOf n==some .cell)=true
        · have:(k==NameKind.free)=true:=by
            cases hk':k==NameKind.free with
            | true=>rfl
            | false=>simp[hk'] at hq
          have:k=.free:=by simpa using this
          rw[this]
        · rw[if_neg hq] at q;exact absurd q.symm hk
      · have q:=hd _ h
        rw[if_pos hx] at q
        by_cases hq:(k==NameKind.free&&env.scope.kind==.function&&env.kindOf n==some .cell)=true
        · rw[if_pos hq] at q;cases q
        · rw[if_neg hq] at q;rw[← q]
    | false =>
      simp only[dW,hx]
      refine ih ?_
      rcases h with h | h
      · have q:=hd _ h
        rw[if_neg (by simp[hx])] at q;exact .inl q
      · have q:=hd _ h
        rw[if_neg (by simp[hx])] at q;exact .inr q
theorem zJJ{X':Cx}{σ:St}{it D:Addr}{fp:List Addr}{tn:Nat→Heap→Prop}{J:It}{Q:VK}{W:Nat→Nat→Hp→Prop}{Z:Hp→Shared→Prop}{H0:Hp}{s₅:Shared}{m0:Nat}(hc:X'.calm=true)(hx:∀ v s,X'.xe v s→False)(Tn:Turn X'.prog X'.w X'.K tg J fp it tn)
  (hg:PG X' tg g) (ht:PTs X' ifs tc) (he:PE X' elt te)
  (turn:∀ i m H2,W i m H2→(J.stop i H2∧Q (.ref D) H2) ∨
    (J.go i H2∧∀ x H3,J.yld i H2 x H3→g x (σ++di own.length none) H3 fun σ4 H4=>σ4.take σ.length=σ∧σ4.length=σ.length+own.length∧tc σ4 H4 fun b H5 =>
     if b=true then te σ4 H5 fun v H6=>∃ acc,H6 D=some (.lst acc)∧acc.length<sizeLine∧∃ m',m'<m∧W (i+1) m' (wC H6 D (.lst (acc++[v]))) else ∃ m',m'<m∧W (i+1) m' H5))
  (fpX:∀ {H:Hp},(∀ b∈fp,H b=none)→∀ b∈fp,zDC X' [] H b) (back:∀ {σ':St} {H':Hp} {s':Shared},zP X' [] σ' H' s'→Z H' s')
  (I4:zP X' [] (σ++di own.length none) H0 s₅) (st4:tn 0 s₅.heap) (fpD:∀ b∈fp,H0 b=none) (w0:W 0 m0 H0) :
  codeAny (model X'.prog X'.w) X'.A (.compLoop (.ListComp elt [⟨tg,iter,ifs,0⟩] sc pos) 0 (.ref it) (.ref D) X'.env) (fun r s'=>∃ H',r=.ok .next∧Z H' s'∧Q (.ref D) H') s₅:=by
  refine codeAny_loop rfl (fun n s'=>∃ i H',zP X' [] (σ++di own.length none) H' s'∧tn i s'.heap∧(∀ b∈fp,H' b=none)∧W i n H') (fun n s6=>?_) m0 ⟨0,_,I4,st4,fpD,w0⟩
  rintro⟨i,H6,I6,st6,fr6,w6⟩
  show wpAny _ X'.A ((compTurn (.ListComp elt [⟨tg,iter,ifs,0⟩] sc pos) 0 (.ref it) (.ref D) X'.env).onRaise (fun x=>do noteFrame x X'.env;theTreesLotGoes x)) _ _ s6
  refine wpAny_noted ?_
  rw[compTurn_list]
  have nox:∀ {α:Type} {t:Sem α} {Q:α→Shared→Prop} {E':Value→Shared→Prop} {s:Shared},wpAny (model X'.prog X'.w) X'.A t Q X'.xe s→wpAny (model X'.prog X'.w) X'.A t Q E' s:=fun h=>eN h (fun u0 u0 q=>q) fun v s z=>(hx v s z).elim
  refine cL (wpAny_standAt (cL ?_))
  rcases turn i n H6 w6 with ⟨stop,qn⟩ | ⟨go,step⟩
  ·refine nox (wB (Tn.done X' rfl rfl rfl hc i [] s6 _ H6 _ I6 (fpX fr6) st6 stop) fun r s7 ⟨hr,I7⟩=>?_)
   subst hr
   exact cT ⟨H6,rfl,back I7,qn⟩
  ·refine nox (wB (Tn.item X' rfl rfl rfl hc i [] s6 _ H6 _ I6 (fpX fr6) st6 go) fun r s7 ⟨u,hr,h7⟩=>?_)
   subst hr
   refine cL (nox (wB h7 fun _ s8 ⟨x,H8,I8,r8,y8,st8,fr8⟩=>?_))
   have I8':=I8.pinned (fpX fr8) (Tn.obj _ _ st8)
   refine cL (nox (wB (hg _ s8 _ H8 x u _ I8' r8 (step x H8 y8)) fun _ s9 ⟨σ9,H9,I9,q1,q2,q9⟩=>?_))
   have again:∀ {s':Shared} {H':Hp},zP X' ([]++zD9 fp s8.heap) σ9 H' s'→(∃ m',m'<n∧W (i+1) m' H')→∃ m,m<n∧∃ i H',zP X' [] (σ++di own.length none) H' s'∧tn i s'.heap∧(∀ b∈fp,H' b=none)∧W i m H':=by
    intro s' H' J ⟨m',hm,w'⟩
    refine⟨m',hm,i+1,H',?_,Tn.keep _ _ _ st8 fun b hb o e=>(J.pin (b,o) (dF _ (dF _ (zBA hb e)))).1,fun b hb=>?_,w'⟩
    ·refine(J.unpinned).weak ?_ fun j v e=>?_
     ·rw[q2,du,List.length_replicate]
     ·have hj:j<σ.length:=by
       by_cases hj:j<σ.length
       ·exact hj
       ·rw[dY (by omega),fG] at e
        split at e<;>cases e
      rw[el hj] at e
      rw[← q1,List.getElem?_take_of_lt hj] at e
      exact e
    ·obtain⟨o,e,d⟩:=Tn.obj _ _ st8 b hb
     exact(J.pin (b,o) (dF _ (dF _ (zBA hb e)))).2.1
   refine cL (nox (wB (ht _ s9 σ9 H9 _ I9 q9) fun ok s10 ⟨H10,I10,q10⟩=>?_))
   cases ok with
   | false=>exact cT ⟨rfl,again I10 q10⟩
   | true =>
    refine cL (cL (nox (wB (he _ s10 σ9 H10 _ I10 q10) fun uv s11 ⟨v,H11,I11,r11,acc,hD11,hz,q11⟩=>?_)))
    refine cL (nox (wB (zFP _ s11 σ9 H11 (.ref D) [v] (.ref D) [uv] (fun u0 H12=>H12=wC H11 D (.lst (acc++[v]))) I11 rfl (.cons r11 .nil) ⟨_,acc,v,rfl,rfl,hD11,hz,rfl⟩) fun _ s12 ⟨_,H12,I12,_,q12⟩=>?_))
    subst q12
    exact cT (cT ⟨rfl,again I12 q11⟩)
theorem zEE{pins:List (Addr×Obj)}{σ:St}{s₂:Shared}{itv:Value}{Q:VK}{E:Value→Shared→Prop}(hc:X.calm=true)(T:zDE X sc N0)
  (hg:∀ C s H fp pins,PG (X.comp (N0++own) sc C s H fp pins) tg g) (ht:∀ C s H fp pins,PTs (X.comp (N0++own) sc C s H fp pins) ifs tc) (he:∀ C s H fp pins,PE (X.comp (N0++own) sc C s H fp pins) elt te)
  (h:PIE X pins σ tg (fun J H1=>∀ D,H1 D=none→∃ W:Nat→Nat→Hp→Prop,(∃ m,W 0 m (wC H1 D (.lst []))) ∧
   ∀ i m H2,W i m H2→(J.stop i H2∧Q (.ref D) H2) ∨
    (J.go i H2∧∀ x H3,J.yld i H2 x H3→g x (σ++di own.length none) H3 fun σ4 H4=>σ4.take σ.length=σ∧σ4.length=σ.length+own.length∧tc σ4 H4 fun b H5 =>
     if b=true then te σ4 H5 fun v H6=>∃ acc,H6 D=some (.lst acc)∧acc.length<sizeLine∧∃ m',m'<m∧W (i+1) m' (wC H6 D (.lst (acc++[v]))) else ∃ m',m'<m∧W (i+1) m' H5)) itv s₂) :
  wpAny (model X.prog X.w) X.A (newList []) (fun acc s₃=>wpAny (model X.prog X.w) X.A (newFunctionEnv sc X.env.globals (zAS sc X.env) [] X.env.qual none .none (some X.env)) (fun cenv s₄ =>
   codeAny (model X.prog X.w) X.A (.compStart (.ListComp elt [⟨tg,iter,ifs,0⟩] sc pos) 0 itv acc { cenv with scope:=relabel sc X.env })
    (fun r s'=>∃ D H' m,r=.ok .next∧acc=.ref D∧zP X pins σ H' s'∧zDC X pins H' cenv.locals∧s'.heap.Ns cenv.locals m∧Q (.ref D) H') s₄) E s₃) E s₂:=by
 obtain⟨it,fp,tn,J,H1,rfl,I2,Tn,st2,f2,hR⟩:=h
 refine dN (wpAny_newFunctionEnv T.cell (by intro y hy;simp at hy) (fun h₁ hns₁ hsb₁=>?_) T.kind)
 dsimp only at hns₁ hsb₁ ⊢
 generalize hH2:s₂.heap.push { cls:=.type "list",dict:=none,data:=.seq ([]:List Value).toArray }=h3 at hns₁ hsb₁ ⊢
 have hC:h3.objs.size=s₂.heap.objs.size+1:=by rw[← hH2,fB]
 -- the list
 have I3:zP X pins σ (wC H1 s₂.heap.objs.size (.lst [])) { s₂ with heap:=h3 }:=by
  rw[← hH2]
  exact I2.laid (t':=s₂.toks) (fun b u e=>cQ _ e) (cX _) ⟨by simp,[],0,.nil,dc _ rfl⟩
 have fD:H1 s₂.heap.objs.size=none:=I2.hok.fresh (cX _)
 obtain⟨W,⟨m0,w0⟩,turn⟩:=hR _ fD
 have kp:∀ b o,h3.get? b=some o→h₁.get? b=some o:=fun b o e=>hsb₁.extBut b o (dB (db e)) (cQ _ e)
 have fp2:∀ b∈fp,b<s₂.heap.objs.size:=fun b hb=>by
  obtain⟨o,e,u0⟩:=Tn.obj _ _ st2 b hb
  exact db e
 -- the block's context
 have CK:∀ x c,(zAS sc X.env).lookup x=some c→X.env.cells.lookup x=some c:=fun x c e=>zAQ e
 have nofs:∀ {b:Addr},h3.objs.size≤b→b∉wq X.stack:=fun {b} hb z=>by
  rcases dC.mp (I3.stkSub b z) with e | z
  ·exact absurd (dk I3.lt (show h3.objs.size≤X.env.locals by rw[← e];exact hb)) (eG _)
  ·exact I3.nofs (a:=b) hb z
 have fpS:∀ b∈fp,b∉wq X.stack:=fun b hb z=>by
  rcases dC.mp (I3.stkSub b z) with e | z
  ·exact(f2 b hb).2.1 e
  ·exact(f2 b hb).2.2.1 z
 have fpD:∀ b∈fp,wC H1 s₂.heap.objs.size (.lst []) b=none:=fun b hb=>by rw[zq (dB (fp2 b hb))];exact(f2 b hb).1
 have pinS:∀ p∈X.pn++pins,p.1∉wq X.stack:=fun p hp z=>by
  obtain⟨u0,u0,n1,n2,u0⟩:=I3.pin p hp
  rcases dC.mp (I3.stkSub p.1 z) with e | z
  ·exact n1 e
  ·exact n2 z
 let X':=X.comp (N0++own) sc h3.objs.size { s₂ with heap:=h3 } (wC H1 s₂.heap.objs.size (.lst [])) fp pins
 have cells':∀ x,(X'.env.kindOf x=some .cell∨X'.env.kindOf x=some .free)→sc.names.lookup x=some .free:=fun x hx=>zAd T.cell hx
 have hfree:∀ y∈sc.names,y.2=.free→∃ c,X.env.cells.lookup y.1=some c:=fun y hy hf=>I2.ok.has _ (T.cap y hy hf)
 have ok':X'.Ok:=by
  refine⟨I3.ok.mod,?_,I3.ok.glob,I3.ok.blt,cX _,fun x y c e1 e2=>I3.ok.inj x y c (CK _ _ e1) (CK _ _ e2),fun x hx=>?_,fun x c z=>(by cases z),I3.ok.hd,I3.ok.frames,.inl rfl,fun b hb=>⟨?_,fun x c e=>?_⟩,I3.bs,eD I3.ok.bsz I3.sz,fun b o e hb=>?_,fpS,I3.stack,I3.stkFree,I3.tabs⟩
  ·exact T.kind
  ·have hx':=cells' x hx
   exact zCf hfree (.inr (PySem.mem_of_lookup hx'))
  ·exact dB (dk (fp2 b hb) (by show s₂.heap.objs.size≤h3.objs.size;rw[hC];exact Nat.le_succ _))
  ·exact(f2 b hb).2.2.2.2.1 x c (CK x c e)
  ·have:=(I3.bs b o e).1
   rcases(f2 b hb).2.2.2.1 with z | z
   ·exact I3.ok.noex b o e z
   ·have:=dk (db e) I3.ok.bsz
    exact absurd (dk this z) (eG _)
 have hlook:∀(i:Nat) (x:Str) (v:V),(N0++own)[i]?=some x→(σ++di own.length none)[i]?=some (some v)→Vis (relabel sc X.env) x→∃ c u,RelV v u∧X'.env.cells.lookup x=some c∧(X'.env.kindOf x=some .cell∨X'.env.kindOf x=some .free)∧h3.IsCell c (some u):=by
  intro i x v e1 e2 e3
  have hi:i<σ.length:=by
   by_cases hi:i<σ.length
   ·exact hi
   ·rw[dY (by omega),fG] at e2
    split at e2<;>cases e2
  have e2':σ[i]?=some (some v):=by rw[el hi] at e2;exact e2
  have hi0:i<N0.length:=by rw[T.len,← I3.len];exact hi
  have e1':N0[i]?=some x:=by rw[el hi0] at e1;exact e1
  obtain⟨n1,n2⟩:=T.vis i x e1' e3
  have cp:=T.cap _ (PySem.mem_of_lookup n2) rfl
  obtain⟨m,hn,hl⟩:=I3.loc
  have vis:Vis X.env.scope x:=by
   rcases cp with z | z
   ·exact .inr (.inl z)
   ·exact .inr (.inr z)
  obtain⟨u,r,l⟩:=hl i x v n1 e2' vis
  obtain⟨c',hc'⟩:=zCf (env:=X.env) (ns:=sc.names) (cs:=[]) (x:=x) hfree (.inr (PySem.mem_of_lookup n2))
  have hc2:(zAS sc X.env).lookup x=some c':=hc'
  rcases l with ⟨z,u0⟩ | ⟨u0,c,e,q⟩
  ·rcases cp with z' | z'<;>(rw[z] at z';cases z')
  ·have:c=c':=by
    have:=CK _ _ hc2
    rw[e] at this;exact Option.some.inj this
   subst this
   refine⟨c,u,r,hc2,?_,q⟩
   rcases e3 with z | z | z
   ·exfalso
    have:=lookup_relabel_local (env:=X.env) (names:=sc.names) (x:=x)
    -- a free name is not relabelled local
    have nl:∀ {names:List (Str×NameKind)},names.lookup x=some .free→(names.map fun(n,k)=>if (k==NameKind.free&&X.env.scope.kind==.function&&X.env.kindOf n==some .cell) then (n,NameKind.cell) else (n,k)).lookup x≠some .local:=by
     intro names
     induction names with
     | nil=>intro h;simp at h
     | cons p r ih =>
      obtain⟨n,k⟩:=p
      intro h
      show List.lookup x ((if (k==NameKind.free&&X.env.scope.kind==.function&&X.env.kindOf n==some .cell)=true then (n,NameKind.cell) else (n,k))::_)≠_
      cases hx:x==n with
      | true =>
       simp only[dW,hx] at h
       cases h
       by_cases hq:(NameKind.free==NameKind.free&&X.env.scope.kind==.function&&X.env.kindOf n==some .cell)=true
       ·rw[if_pos hq];simp[dW,hx]
       ·rw[if_neg hq];simp[dW,hx]
      | false =>
       simp only[dW,hx] at h
       by_cases hq:(k==NameKind.free&&X.env.scope.kind==.function&&X.env.kindOf n==some .cell)=true
       ·rw[if_pos hq];simp only[dW,hx];exact ih h
       ·rw[if_neg hq];simp only[dW,hx];exact ih h
    exact nl n2 z
   ·exact .inl z
   ·exact .inr z
 have σl:(σ++di own.length none).length=(N0++own).length:=by
  rw[du,du,List.length_replicate,T.len,← I3.len]
 have I4:zP X' [] (σ++di own.length none) (wC H1 s₂.heap.objs.size (.lst [])) { s₂ with heap:=h₁,toks:=s₂.toks+([]:List (Str×Value)).length }:=by
  refine⟨ok',rfl,I3.bare,Un.kept kp,⟨_,hns₁,fun i x v e1 e2 e3=>?_⟩,fun x c e=>?_,I3.hok.fresh (cX _),fun x c e=>I3.freeC x c (CK x c e),fun p hp=>?_,I3.hok.kept kp,σl⟩
  ·obtain⟨c,u,r,q1,q2,q3⟩:=hlook i x v e1 e2 e3
   obtain⟨o,ho,hd⟩:=q3
   exact⟨u,r,.inr ⟨q2,c,q1,o,kp c o ho,hd⟩⟩
  ·obtain⟨v,o,ho,hd⟩:=I3.cell x c (CK x c e)
   exact⟨v,o,kp c o ho,hd⟩
  ·have hp':p∈X.pn++pins:=by
    have:p∈(X.pn++pins)++[]:=hp
    simpa using this
   obtain⟨e,n,ne,nf,d⟩:=I3.pin p hp'
   exact⟨kp _ _ e,n,dB (db e),pinS p hp',d⟩
 have fpX:∀ {H:Hp},(∀ b∈fp,H b=none)→∀ b∈fp,zDC X' [] H b:=fun {H} hn b hb=>by
  refine⟨hn b hb,(ok'.exf b hb).1,fpS b hb,.inl hb,(ok'.exf b hb).2,fun p hp=>?_⟩
  have hp':p∈X.pn++pins:=by
   have:p∈(X.pn++pins)++[]:=hp
   simpa using this
  exact(f2 b hb).2.2.2.2.2 p hp'
 have st4:tn 0 h₁:=Tn.keep 0 s₂.heap h₁ st2 fun b hb o e=>kp b o (hH2▸cQ _ e)
 -- back to the context around
 have back:∀ {σ':St} {H':Hp} {s':Shared},zP X' [] σ' H' s'→zP X pins σ H' s'∧zDC X pins H' h3.objs.size∧∃ m,s'.heap.Ns h3.objs.size m:=fun {σ' H' s'} J=>by
  have u:Un (wq X.stack) fp (wC H1 s₂.heap.objs.size (.lst [])) H' h3 s'.heap:=J.base
  have J3:zP X pins σ H' s':=I3.call' J.os u J.hok J.bare fun b hb=>⟨(f2 b hb).2.2.2.1,(f2 b hb).2.1,(f2 b hb).2.2.2.2.1,(f2 b hb).2.2.2.2.2⟩
  obtain⟨m,hn,u0⟩:=J.loc
  refine⟨J3,?_,m,hn⟩
  refine⟨J.free,Nat.ne_of_gt I3.lt,I3.nofs (cX _),.inr I3.sz,fun x c e z=>?_,fun p hp z=>?_⟩
  ·obtain⟨v,q⟩:=I3.cell x c e
   exact absurd (dk q.lt (by rw[z];exact cX _)) (eG _)
  ·exact absurd (dk (db (I3.pin p hp).1) (by rw[z];exact cX _)) (eG _)
 have loop:∀ s₅:Shared,s₅={ s₂ with heap:=h₁,toks:=s₂.toks+([]:List (Str×Value)).length } →
   codeAny (model X.prog X.w) X.A (.compLoop (.ListComp elt [⟨tg,iter,ifs,0⟩] sc pos) 0 (.ref it) (.ref s₂.heap.objs.size) X'.env)
    (fun r s'=>∃ D H' m,r=.ok .next∧Value.ref s₂.heap.objs.size=.ref D∧zP X pins σ H' s'∧zDC X pins H' h3.objs.size∧s'.heap.Ns h3.objs.size m∧Q (.ref D) H') s₅:=by
  rintro s₅ rfl
  exact eV (zJJ (X':=X') (Z:=fun H' s'=>zP X pins σ H' s'∧zDC X pins H' h3.objs.size∧∃ m,s'.heap.Ns h3.objs.size m) hc (fun u0 u0 z=>z) Tn (hg _ _ _ _ _) (ht _ _ _ _ _) (he _ _ _ _ _) turn fpX back I4 st4 fpD w0) fun r s' ⟨H',e,⟨b1,b2,m,b3⟩,q⟩=>⟨_,H',m,e,rfl,b1,b2,b3,q⟩
 exact codeAny_compStart_list (loop _ rfl) (Tn.self _ 0 _ _ _ st4 (loop _ rfl))
theorem zMF(hc:X.calm=true)(T:zDE X sc N0)(hi:PI X tg iter wi)
  (hg:∀ C s H fp pins,PG (X.comp (N0++own) sc C s H fp pins) tg g) (ht:∀ C s H fp pins,PTs (X.comp (N0++own) sc C s H fp pins) ifs tc) (he:∀ C s H fp pins,PE (X.comp (N0++own) sc C s H fp pins) elt te)
  (hs:∀ x,foldedSetIterable iter X.env x=pure x:=by intro u0;rfl):PE X (.ListComp elt [⟨tg,iter,ifs,0⟩] sc pos) (zKG own.length wi g tc te):=by
 intro pins s σ H Q I h
 rw[eval_ListComp]
 refine wpAny_comprehension_free (use:=none) rfl hs (wm fun y hy hf=>I.ok.has _ (T.cap y hy hf)) T.kind T.names ?_
 refine wB (hi pins s σ H _ I h) fun xv s₁ h₁=>wB h₁ fun it s₂ h₂=>?_
 refine wB (zEE (iter:=iter) (pos:=pos) (E:=X.xe) (Q:=Q) hc T hg ht he h₂) fun acc s₃ h₃=>wB h₃ fun cenv s₄ h₄=>eV h₄ fun r s' hr=>?_
 obtain⟨D,H',m,rfl,rfl,J,f,hn,q⟩:=hr
 refine⟨m,hn,fun h' hs'=>⟨.ref D,H',?_,rfl,q⟩⟩
 exact J.turned (t':=s'.toks) (fun b o hb e=>(hs'.2 b hb).trans e) f.1 f.2.1 f.2.2.2.1 f.2.2.2.2.1 f.2.2.2.2.2
theorem zHS{i:Nat}{y:Str}{py spos:Pos}(hc:X.calm=true)(T:zDE X sc N0)(hi:PI X tg iter wi)
  (hg:∀ C s H fp pins,PG (X.comp (N0++own) sc C s H fp pins) tg g) (ht:∀ C s H fp pins,PTs (X.comp (N0++own) sc C s H fp pins) ifs tc) (he:∀ C s H fp pins,PE (X.comp (N0++own) sc C s H fp pins) elt te)
  (hN:X.N.Nodup) (hy:X.N[i]?=some y) (hl:X.env.scope.names.lookup y=some .local)
  (hsw:swapsWith (.ListComp elt [⟨tg,iter,ifs,0⟩] sc pos) (some (.Name y py)) spos.line X.env=pure true)
  (hs:∀ x,foldedSetIterable iter X.env x=pure x:=by intro u0;rfl):PS X (.Assign [.Name y py] (.ListComp elt [⟨tg,iter,ifs,0⟩] sc pos) spos) (fun D σ H=>zKG own.length wi g tc te σ H fun v H1=>D.nx (σ.set i (some v)) H1):=by
 intro pins s σ H D I h
 rw[exec_Assign_Name_used _ _ _ _ hsw]
 refine cL (wpAny_standAt (cL ?_))
 show wpAny _ X.A (do let _ ← comprehension (.ListComp elt [⟨tg,iter,ifs,0⟩] sc pos) sc X.env _ (newList []) false (eval iter X.env) (some (assign (.Name y py) X.env))) _ _ s
 refine cL (eN (wpAny_comprehension_free (use:=some (assign (.Name y py) X.env)) (Q:=fun u0 s'=>SP X pins D .next s') rfl hs (wm fun y hy hf=>I.ok.has _ (T.cap y hy hf)) T.kind T.names
  (wB (hi pins s σ H _ I h) fun xv s₁ h₁=>wB h₁ fun it s₂ h₂=>?_)) (fun u0 s' hq=>cT (cT hq)) fun u0 u0 e=>e)
 refine wB (zEE (iter:=iter) (pos:=pos) (E:=X.xe) (Q:=fun v H1=>D.nx (σ.set i (some v)) H1) hc T hg ht he h₂) fun acc s₃ h₃=>wB h₃ fun cenv s₄ h₄=>eV h₄ fun r s' hr=>?_
 obtain⟨A,H',m,rfl,rfl,J,f,hn,q⟩:=hr
 show wpAny _ X.A (assign (.Name y py) X.env (.ref A)) _ _ _
 refine wpAny_assign_Name (zFJ J hN hy (.inl hl) (v:=.ref A) rfl (fun s'' J' ⟨a,sb,ha⟩=>?_) (.inr hl))
 have hCa:cenv.locals≠a:=by
  rcases ha with z | z
  ·rw[z];exact f.2.1
  ·exact fun e=>f.2.2.2.2.1 y a z e.symm
 refine⟨m,hn.sameBut sb hCa,fun h' hs'=>⟨_,H',?_,q⟩⟩
 exact J'.turned (t':=s''.toks) (fun b o hb e=>(hs'.2 b hb).trans e) f.1 f.2.1 f.2.2.2.1 f.2.2.2.2.1 f.2.2.2.2.2
end
end L2
namespace L3
open L2
set_option genInjectivity true in
inductive D where
 | non | bl (b:Bool) | int (i:Int) | str (x:Str) | tup (ds:List D) | adr (a:Addr) | dic (a:Addr)
mutual
noncomputable def zO(K:PySem.W.Frag)(H:Hp):D→V→Prop
 | .non,v=>v=V.non
 | .bl b,v=>v=V.bl b
 | .int i,v=>v=V.int i
 | .str x,v=>v=V.str x
 | .adr a,v=>v=V.ref a
 | .dic a,v=>v=V.ref a∧∃ o x,H a=some (.frz o (.own x))∧o.cls=.type "dict"
 | .tup ds,v=>∃ a xs,v=V.ref a∧SqT K H a xs∧Dens K H ds xs
noncomputable def Dens(K:PySem.W.Frag)(H:Hp):List D→List V→Prop
 | [],xs=>xs=[]
 | d::ds,xs=>∃ x r,xs=x::r∧zO K H d x∧Dens K H ds r
end
structure Gp where
 m:Addr→Option (List D)
 ro:Addr→Option (List D)
noncomputable def zQ(G:Gp)(a:Addr)(o:List D):Gp:={ G with m:=fun b=>if b=a then some o else G.m b }
theorem zG{G:Gp}{a:Addr}{o:List D}:(zQ G a o).m a=some o:=if_pos rfl
theorem zb{G:Gp}{a b:Addr}{o:List D}(h:b≠a):(zQ G a o).m b=G.m b:=if_neg h
theorem zBv{G:Gp}{a:Addr}{o u:List D}:zQ (zQ G a o) a u=zQ G a u:=by
 unfold zQ
 congr 1
 funext b;by_cases h:b=a
 ·simp only[if_pos h]
 ·simp only[if_neg h]
theorem gne{G:Gp}{a b:Addr}{o:List D}(h:G.m a=some o)(h':G.m b=none):a≠b:=fun e=>by rw[e,h'] at h;cases h
structure Sub (G G':Gp):Prop where
 m:∀ a o,G.m a=some o→G'.m a=some o
 ro:∀ a o,G.ro a=some o→G'.ro a=some o
theorem Sub.refl(G:Gp):Sub G G:=⟨fun u0 u0 h=>h,fun u0 u0 h=>h⟩
theorem Sub.trans{G G1 G2:Gp}(h:Sub G G1)(h':Sub G1 G2):Sub G G2:=⟨fun a o e=>h'.m a o (h.m a o e),fun a o e=>h'.ro a o (h.ro a o e)⟩
theorem Sub.new{G:Gp}{p:Addr}{o:List D}(h:G.m p=none):Sub G (zQ G p o):=⟨fun a u e=>by rw[zb (gne e h)];exact e,fun u0 u0 e=>e⟩
noncomputable def Ls(G:Gp)(a:Addr)(ds:List D):Prop:=G.m a=some ds∨G.ro a=some ds
theorem Ls.sub{G G':Gp}{a:Addr}{ds:List D}(h:Ls G a ds)(s:Sub G G'):Ls G' a ds:=by
 rcases h with h | h
 ·exact .inl (s.m a ds h)
 ·exact .inr (s.ro a ds h)
theorem Ls.own{G:Gp}{a:Addr}{ds:List D}:Ls (zQ G a ds) a ds:=.inl zG
noncomputable def RoL(K:PySem.W.Frag)(H:Hp)(a:Addr)(xs:List V):Prop :=
 (∃ o,H a=some (.frz o (.lst xs)))∨∃(o:Obj) (its:Array Value) (n:Nat),K.lookup a=some o∧o.cls=.type "list"∧o.dict=none∧o.data=.seq its n∧its.size≤sizeLine∧zT xs its.toList
theorem RoL.sq{K:PySem.W.Frag}{H:Hp}{a:Addr}{xs:List V}(h:RoL K H a xs):SqL K H a xs:=by
 rcases h with h | h
 ·exact .inl (.inr h)
 ·exact .inr h
structure zo (K:PySem.W.Frag) (G:Gp) (H:Hp):Prop where
 m:∀ a ds,G.m a=some ds→∃ xs,H a=some (.lst xs)∧Dens K H ds xs
 ro:∀ a ds,G.ro a=some ds→∃ xs,RoL K H a xs∧Dens K H ds xs
structure zj (H H':Hp):Prop where
 tups:∀ a xs,H a=some (.tup xs)→H' a=some (.tup xs)
 frzs:∀ a o u,H a=some (.frz o u)→H' a=some (.frz o u)
section
variable {K:PySem.W.Frag} {H H' H'':Hp} {G G':Gp}
theorem zj.refl(H:Hp):zj H H:=⟨fun u0 u0 h=>h,fun u0 u0 u0 h=>h⟩
theorem zj.trans(a:zj H H')(b:zj H' H''):zj H H'':=⟨fun c xs h=>b.tups c xs (a.tups c xs h),fun c o u h=>b.frzs c o u (a.frzs c o u h)⟩
theorem zj.fresh{p:Addr}{o:HO}(h:H p=none):zj H (wC H p o):=⟨fun a xs e=>by rw[zq (yR e h)];exact e,fun a o u e=>by rw[zq (yR e h)];exact e⟩
theorem zj.lst{p:Addr}{xs:List V}{o:HO}(h:H p=some (.lst xs)):zj H (wC H p o) :=
 ⟨fun a ys e=>by rw[zq (zNH e h (by intro z;cases z))];exact e,fun a o u e=>by rw[zq (zNH e h (by intro z;cases z))];exact e⟩
theorem zj.sqT(g:zj H H'){a:Addr}{xs:List V}(h:SqT K H a xs):SqT K H' a xs:=by
 rcases h with (h | ⟨o,h⟩) | h
 ·exact .inl (.inl (g.tups _ _ h))
 ·exact .inl (.inr ⟨o,g.frzs _ _ _ h⟩)
 ·exact .inr h
theorem zj.roL(g:zj H H'){a:Addr}{xs:List V}(h:RoL K H a xs):RoL K H' a xs:=by
 rcases h with ⟨o,h⟩ | h
 ·exact .inl ⟨o,g.frzs _ _ _ h⟩
 ·exact .inr h
mutual
theorem zO.grow(g:zj H H'):∀ {d:D} {v:V},zO K H d v→zO K H' d v
 | .non,_,h=>by unfold zO at h ⊢;exact h
 | .bl _,_,h=>by unfold zO at h ⊢;exact h
 | .int _,_,h=>by unfold zO at h ⊢;exact h
 | .str _,_,h=>by unfold zO at h ⊢;exact h
 | .adr _,_,h=>by unfold zO at h ⊢;exact h
 | .dic _,_,h=>by unfold zO at h ⊢;obtain⟨e,o,x,q,c⟩:=h;exact⟨e,o,x,g.frzs _ _ _ q,c⟩
 | .tup ds,v,h=>by
  unfold zO at h ⊢
  obtain⟨a,xs,e,s,r⟩:=h
  exact⟨a,xs,e,g.sqT s,Dens.grow g r⟩
theorem Dens.grow(g:zj H H'):∀ {ds:List D} {xs:List V},Dens K H ds xs→Dens K H' ds xs
 | [],_,h=>by unfold Dens at h ⊢;exact h
 | d::ds,xs,h=>by
  unfold Dens at h ⊢
  obtain⟨x,r,e,h1,h2⟩:=h
  exact⟨x,r,e,zO.grow g h1,Dens.grow g h2⟩
end
theorem Dens.length:∀ {ds:List D} {xs:List V},Dens K H ds xs→ds.length=xs.length
 | [],xs,h=>by unfold Dens at h;rw[h];rfl
 | d::ds,xs,h=>by
  unfold Dens at h
  obtain⟨x,r,rfl,u0,h2⟩:=h
  simp[Dens.length h2]
theorem Dens.get:∀ {ds:List D} {xs:List V} {i:Nat} {d:D},Dens K H ds xs→ds[i]?=some d→∃ x,xs[i]?=some x∧zO K H d x
 | [],_,_,_,_,e=>by simp at e
 | d::ds,xs,0,d',h,e=>by
  unfold Dens at h
  obtain⟨x,r,rfl,h1,u0⟩:=h
  simp at e;subst e
  exact⟨x,rfl,h1⟩
 | d::ds,xs,i+1,d',h,e=>by
  unfold Dens at h
  obtain⟨x,r,rfl,u0,h2⟩:=h
  obtain⟨y,e1,e2⟩:=Dens.get (i:=i) (d:=d') h2 (by simpa using e)
  exact⟨y,by simpa using e1,e2⟩
theorem Dens.got:∀ {ds:List D} {xs:List V} {i:Nat} {x:V},Dens K H ds xs→xs[i]?=some x→∃ d,ds[i]?=some d∧zO K H d x
 | ds,xs,i,x,h,e=>by
  have hl:=h.length
  have hi:i<ds.length:=by rw[hl];exact(d8.mp e).1
  obtain⟨y,e1,e2⟩:=h.get (i:=i) (d:=ds[i]) (by simp[hi])
  rw[e] at e1;cases e1
  exact⟨ds[i],by simp[hi],e2⟩
theorem Dens.nil:Dens K H [] []:=by unfold Dens;rfl
theorem Dens.cons{d:D}{ds:List D}{x:V}{xs:List V}(h:zO K H d x)(h':Dens K H ds xs):Dens K H (d::ds) (x::xs):=by unfold Dens;exact⟨x,xs,rfl,h,h'⟩
theorem Dens.append:∀ {ds es:List D} {xs ys:List V},Dens K H ds xs→Dens K H es ys→Dens K H (ds++es) (xs++ys)
 | [],_,xs,_,h,h'=>by unfold Dens at h;rw[h];exact h'
 | d::ds,_,xs,_,h,h'=>by
  unfold Dens at h
  obtain⟨x,r,rfl,h1,h2⟩:=h
  exact Dens.cons h1 (Dens.append h2 h')
theorem Dens.of_get:∀ {ds:List D} {xs:List V},ds.length=xs.length→(∀(i:Nat) d x,ds[i]?=some d→xs[i]?=some x→zO K H d x)→Dens K H ds xs
 | [],[],_,_=>.nil
 | [],_::_,h,_=>by simp at h
 | _::_,[],h,_=>by simp at h
 | d::ds,x::xs,h,g=>.cons (g 0 d x rfl rfl) (Dens.of_get (by simpa using h) fun i d' x' e1 e2=>g (i+1) d' x' (by simpa using e1) (by simpa using e2))
theorem Dens.take{n:Nat}{ds:List D}{xs:List V}(h:Dens K H ds xs):Dens K H (ds.take n) (xs.take n) :=
 .of_get (by simp[h.length]) fun i d x e1 e2=>by
  rw[List.getElem?_take] at e1 e2
  split at e1
  ·rename_i hi
   rw[if_pos hi] at e2
   obtain⟨y,e,r⟩:=h.get e1
   rw[e2] at e;cases e;exact r
  ·cases e1
theorem Dens.drop{n:Nat}{ds:List D}{xs:List V}(h:Dens K H ds xs):Dens K H (ds.drop n) (xs.drop n) :=
 .of_get (by simp[h.length]) fun i d x e1 e2=>by
  rw[List.getElem?_drop] at e1 e2
  obtain⟨y,e,r⟩:=h.get e1
  rw[e2] at e;cases e;exact r
theorem Dens.set{ds:List D}{xs:List V}{d:D}{x:V}(i:Nat)(h:Dens K H ds xs)(hd:zO K H d x):Dens K H (ds.set i d) (xs.set i x) :=
 .of_get (by simp[h.length]) fun j d' x' e1 e2=>by
  by_cases hj:i=j
  ·subst hj
   have hi:i<ds.length:=by
    have:=(d8.mp e1).1;simpa using this
   rw[dU hi] at e1
   rw[dU (by rw[← h.length];exact hi)] at e2
   cases e1;cases e2;exact hd
  ·rw[eH hj] at e1 e2
   obtain⟨y,e,r⟩:=h.get e1
   rw[e2] at e;cases e;exact r
theorem Dens.eraseIdx:∀ {ds:List D} {xs:List V} (i:Nat),Dens K H ds xs→Dens K H (ds.eraseIdx i) (xs.eraseIdx i)
 | [],xs,i,h=>by unfold Dens at h;subst h;exact .nil
 | d::ds,xs,0,h=>by
  unfold Dens at h
  obtain⟨x,r,rfl,h1,h2⟩:=h
  exact h2
 | d::ds,xs,i+1,h=>by
  unfold Dens at h
  obtain⟨x,r,rfl,h1,h2⟩:=h
  exact .cons h1 (Dens.eraseIdx i h2)
theorem Dens.reverse:∀ {ds:List D} {xs:List V},Dens K H ds xs→Dens K H ds.reverse xs.reverse
 | [],xs,h=>by unfold Dens at h;subst h;exact .nil
 | d::ds,xs,h=>by
  unfold Dens at h
  obtain⟨x,r,rfl,h1,h2⟩:=h
  rw[gC,gC]
  exact(Dens.reverse h2).append (.cons h1 .nil)
theorem Dens.ints(ns:List Int):Dens K H (ns.map D.int) (ns.map V.int):=by
 induction ns with
 | nil=>exact .nil
 | cons n r ih=>exact .cons (by unfold zO;rfl) ih
theorem zo.fresh{p:Addr}{o:HO}(h:H p=none)(r:zo K G H):zo K G (wC H p o) :=
  ⟨fun a ds e=>by
    obtain⟨xs,e1,e2⟩:=r.m a ds e
    exact⟨xs,by rw[zq (yR e1 h)];exact e1,e2.grow (.fresh h)⟩,
   fun a ds e=>by
    obtain⟨xs,e1,e2⟩:=r.ro a ds e
    exact⟨xs,(zj.fresh h).roL e1,e2.grow (.fresh h)⟩⟩
theorem zo.free{p:Addr}(r:zo K G H)(h:H p=none):G.m p=none:=by
 cases q:G.m p with
 | none=>rfl
 | some ds=>obtain⟨xs,e1,u0⟩:=r.m p _ q;rw[h] at e1;cases e1
theorem zo.own{l:Addr}{ds:List D}{xs:List V}(r:zo K G H)(e:H l=some (.lst xs))(d:Dens K H ds xs):zo K (zQ G l ds) H :=
  ⟨fun b u q=>by
    by_cases hb:b=l
    · subst hb;rw[zG] at q;cases q;exact⟨xs,e,d⟩
    · rw[zb hb] at q;exact r.m b u q,
   r.ro⟩
theorem zo.new{p:Addr}{ds:List D}{xs:List V}(h:H p=none)(r:zo K G H)(d:Dens K H ds xs):zo K (zQ G p ds) (wC H p (.lst xs)) :=
 (r.fresh h).own zc (d.grow (.fresh h))
theorem zo.put{p:Addr}{ds':List D}{xs xs':List V}(h:H p=some (.lst xs))(r:zo K G H)(d:Dens K H ds' xs'):zo K (zQ G p ds') (wC H p (.lst xs')) :=
  ⟨fun a u e=>by
    by_cases ha:a=p
    · subst ha
      rw[zG] at e;cases e
      exact⟨xs',zc,d.grow (.lst h)⟩
    · rw[zb ha] at e
      obtain⟨ys,e1,e2⟩:=r.m a u e
      exact⟨ys,by rw[zq ha];exact e1,e2.grow (.lst h)⟩,
   fun a u e=>by
    obtain⟨ys,e1,e2⟩:=r.ro a u e
    exact⟨ys,(zj.lst h).roL e1,e2.grow (.lst h)⟩⟩
theorem zo.sub(s:Sub G G')(r:zo K G' H):zo K G H:=⟨fun a u e=>r.m a u (s.m a u e),fun a u e=>r.ro a u (s.ro a u e)⟩
theorem zo.sq{a:Addr}{ds:List D}(r:zo K G H)(e:Ls G a ds):∃ xs,SqL K H a xs∧Dens K H ds xs:=by
 rcases e with e | e
 ·obtain⟨xs,e1,e2⟩:=r.m a _ e
  exact⟨xs,.of e1,e2⟩
 ·obtain⟨xs,e1,e2⟩:=r.ro a _ e
  exact⟨xs,e1.sq,e2⟩
end
noncomputable abbrev S2:=List (Option D)
noncomputable abbrev zm:=S2→Gp→(D→Gp→Prop)→Prop
noncomputable abbrev TT2:=S2→Gp→(Bool→Gp→Prop)→Prop
noncomputable abbrev wH:=S2→Gp→(List D→Gp→Prop)→Prop
structure zy where
 nx:S2→Gp→Prop
 rt:D→Gp→Prop
 bk:S2→Gp→Prop:=fun u0 u0=>False
 ct:S2→Gp→Prop:=fun u0 u0=>False
noncomputable abbrev yg:=zy→S2→Gp→Prop
noncomputable def look:S2→Nat→Option D
 | [],_=>none
 | o::_,0=>o
 | _::r,i+1=>look r i
theorem zAT:∀ {σ:S2} {i:Nat} {d:D},look σ i=some d→σ[i]?=some (some d)
 | [],_,_,e=>by cases e
 | o::_,0,d,e=>by simp[look] at e;simp[e]
 | _::r,i+1,d,e=>by simpa using zAT (σ:=r) (i:=i) (d:=d) e
structure Rel (K:PySem.W.Frag) (σ:S2) (G:Gp) (σ1:L2.St) (H:Hp):Prop where
 g:zo K G H
 len:σ.length=σ1.length
 val:∀(i:Nat) d,σ[i]?=some (some d)→∃ v,σ1[i]?=some (some v)∧zO K H d v
theorem Rel.to{K:PySem.W.Frag}{σ:S2}{G G':Gp}{σ1:L2.St}{H H':Hp}(r:Rel K σ G σ1 H)(g:zj H H')(r':zo K G' H'):Rel K σ G' σ1 H' :=
 ⟨r',r.len,fun i d e=>by obtain⟨v,e1,e2⟩:=r.val i d e;exact⟨v,e1,e2.grow g⟩⟩
theorem Rel.set{K:PySem.W.Frag}{σ:S2}{G:Gp}{σ1:L2.St}{H:Hp}(r:Rel K σ G σ1 H)(i:Nat){d:D}{v:V}(h:zO K H d v):Rel K (σ.set i (some d)) G (σ1.set i (some v)) H :=
 ⟨r.g,by simp[r.len],fun j d' e=>by
  by_cases hj:i=j
  ·subst hj
   have hi:i<σ.length:=by
    have:=(d8.mp e).1;simpa using this
   rw[dU hi] at e
   cases e
   exact⟨v,by rw[dU (by rw[← r.len];exact hi)],h⟩
  ·rw[eH hj] at e
   obtain⟨u,e1,e2⟩:=r.val j d' e
   exact⟨u,by rw[eH hj];exact e1,e2⟩⟩
noncomputable def lE(K:PySem.W.Frag)(t:zm):TE:=fun σ1 H Q=>∃ σ G R,Rel K σ G σ1 H∧t σ G R∧∀ d G',R d G'→∀ v H',zj H H'→zo K G' H'→zO K H' d v→Q v H'
noncomputable def lT(K:PySem.W.Frag)(t:TT2):TT:=fun σ1 H Q=>∃ σ G R,Rel K σ G σ1 H∧t σ G R∧∀ b G',R b G'→∀ H',zj H H'→zo K G' H'→Q b H'
noncomputable def lA(K:PySem.W.Frag)(t:wH):TA:=fun σ1 H Q=>∃ σ G R,Rel K σ G σ1 H∧t σ G R∧∀ ds G',R ds G'→∀ vs H',zj H H'→zo K G' H'→Dens K H' ds vs→Q vs H'
structure ER (K:PySem.W.Frag) (H:Hp) (D2:zy) (E:Ends):Prop where
 nx:∀ σ G,D2.nx σ G→∀ σ1 H',zj H H'→Rel K σ G σ1 H'→E.nx σ1 H'
 bk:∀ σ G,D2.bk σ G→∀ σ1 H',zj H H'→Rel K σ G σ1 H'→E.bk σ1 H'
 ct:∀ σ G,D2.ct σ G→∀ σ1 H',zj H H'→Rel K σ G σ1 H'→E.ct σ1 H'
 rt:∀ d G,D2.rt d G→∀ v H',zj H H'→zo K G H'→zO K H' d v→E.rt v H'
theorem ER.to{K:PySem.W.Frag}{H H':Hp}{D2:zy}{E:Ends}(e:ER K H D2 E)(g:zj H H'):ER K H' D2 E :=
 ⟨fun σ G h σ1 H1 g1=>e.nx σ G h σ1 H1 (g.trans g1),fun σ G h σ1 H1 g1=>e.bk σ G h σ1 H1 (g.trans g1),fun σ G h σ1 H1 g1=>e.ct σ G h σ1 H1 (g.trans g1),fun d G h v H1 g1=>e.rt d G h v H1 (g.trans g1)⟩
noncomputable def lS(K:PySem.W.Frag)(t:yg):TS:=fun E σ1 H=>∃ σ G D2,Rel K σ G σ1 H∧t D2 σ G∧ER K H D2 E
noncomputable def E2(X:Cx)(e:Expr)(t:zm):Prop:=PE X e (lE X.K t)
noncomputable def T2(X:Cx)(e:Expr)(t:TT2):Prop:=PT X e (lT X.K t)
noncomputable def A2(X:Cx)(es:List Expr)(t:wH):Prop:=PA X es (lA X.K t)
noncomputable def P2(X:Cx)(st:Stmt)(t:yg):Prop:=PS X st (lS X.K t)
noncomputable def Ps2(X:Cx)(st:List Stmt)(t:yg):Prop:=PSs X st (lS X.K t)
section
variable {X:Cx} {a b c e o:Expr} {es:List Expr} {pos p:Pos} {ta tb tc te:zm}
noncomputable def zD(i:Nat):zm:=fun σ G R=>match look σ i with | some d=>R d G | none=>False
noncomputable def xC(d:D):zm:=fun u0 G R=>R d G
theorem zE(i:Nat){x:Str}(hN:X.N[i]?=some x:=by rfl)(hv:Vis X.env.scope x:=by first | exact Or.inl rfl | exact Or.inr (Or.inl rfl) | exact Or.inr (Or.inr rfl))(hd:(x==("__debug__":Str))=false:=by decide)
  (hcd:(x==("__classdict__":Str))=false:=by decide):E2 X (.Name x pos) (zD i):=by
 refine PE.mono (zCM hN hv hd hcd) ?_
 rintro σ1 H Q ⟨σ,G,R,r,t,k⟩
 unfold zD at t
 cases q:look σ i with
 | none=>rw[q] at t;exact t.elim
 | some d =>
  rw[q] at t
  obtain⟨v,e1,e2⟩:=r.val i d (zAT q)
  exact⟨v,e1,k d G t v H (.refl H) r.g e2⟩
theorem zN{i j}:E2 X (.Constant (.int i) j pos) (xC (.int i)):=by
 refine PE.mono zNo ?_
 rintro σ1 H Q ⟨σ,G,R,r,t,k⟩
 exact k _ G t _ H (.refl H) r.g (by unfold zO;rfl)
theorem zKH{i j}:E2 X (.Constant (.bool i) j pos) (xC (.bl i)):=by
 refine PE.mono zPF ?_
 rintro σ1 H Q ⟨σ,G,R,r,t,k⟩
 exact k _ G t _ H (.refl H) r.g (by unfold zO;rfl)
theorem zFS{j}:E2 X (.Constant .none j pos) (xC .non):=by
 refine PE.mono zHJ ?_
 rintro σ1 H Q ⟨σ,G,R,r,t,k⟩
 exact k _ G t _ H (.refl H) r.g (by unfold zO;rfl)
noncomputable abbrev Q2:=D→Gp→Prop
noncomputable def Fit(K:PySem.W.Frag)(r:R2)(f:D→D→Gp→Q2→Prop):Prop :=
 ∀ dx dy G R x y H Q,f dx dy G R→zo K G H→zO K H dx x→zO K H dy y→(∀ d G',R d G'→∀ v H',zj H H'→zo K G' H'→zO K H' d v→Q v H')→r x y H Q
noncomputable def zW(f:D→D→Gp→Q2→Prop)(ta tb:zm):zm:=fun σ G R=>ta σ G fun x G1=>tb σ G1 fun y G2=>f x y G2 R
theorem zIT{K:PySem.W.Frag}{r:R2}{f:D→D→Gp→Q2→Prop}(hf:Fit K r f){σ1:L2.St}{H:Hp}{Q:VK}(h:lE K (zW f ta tb) σ1 H Q):tOp r (lE K ta) (lE K tb) σ1 H Q:=by
 obtain⟨σ,G,R,rl,t,k⟩:=h
 refine⟨σ,G,_,rl,t,fun dx G1 t1 x H1 g1 r1 d1=>?_⟩
 refine⟨σ,G1,_,rl.to g1 r1,t1,fun dy G2 t2 y H2 g2 r2 d2=>?_⟩
 exact hf dx dy G2 R x y H2 Q t2 r2 (d1.grow g2) d2 fun d G' q v H' g' r' d'=>k d G' q v H' ((g1.trans g2).trans g') r' d'
theorem zGU{op:Operator}{r:R2}{f:D→D→Gp→Q2→Prop}(ho:OpR X (binaryOp op) r)(hf:Fit X.K r f)(ha:E2 X a ta)(hb:E2 X b tb):E2 X (.BinOp a op b pos) (zW f ta tb) :=
 PE.mono (zJ8 ho ha hb) fun σ1 H Q h=>zIT hf h
theorem zNM{op:CmpOp}{r:R2}{f:D→D→Gp→Q2→Prop}(ho:OpR X (compareOp op) r)(hf:Fit X.K r f)(ha:E2 X a ta)(hb:E2 X b tb)(hm:behindInMarks op b=false):E2 X (.Compare a [op] [b] pos) (zW f ta tb) :=
 PE.mono (zL1 ho ha hb hm) fun σ1 H Q h=>zIT hf h
noncomputable def xB(t:zm):TT2:=fun σ G R=>t σ G fun d G1=>match d with | .bl b=>R b G1 | _=>False
theorem zDb{op:CmpOp}{r:R2}{f:D→D→Gp→Q2→Prop}(ho:OpR X (compareOp op) r)(hf:Fit X.K r f)(ha:E2 X a ta)(hb:E2 X b tb)(hm:behindInMarks op b=false):T2 X (.Compare a [op] [b] pos) (xB (zW f ta tb)):=by
 refine PT.mono (zL2 ho ha hb hm) ?_
 rintro σ1 H Q ⟨σ,G,R,rl,t,k⟩
 refine zIT hf ⟨σ,G,_,rl,t,fun d G' q v H' g' r' d'=>?_⟩
 cases d with
 | bl b =>
  unfold zO at d'
  exact⟨b,d',k b G' q H' g' r'⟩
 | _=>exact q.elim
noncomputable def fII(g:Int→Int→D):D→D→Gp→Q2→Prop:=fun x y G R=>match x,y with | .int i,.int j=>R (g i j) G | _,_=>False
noncomputable def zKI:D→Bool
 | .tup _=>false
 | .adr _=>false
 | .dic _=>false
 | _=>true
noncomputable def vOf:D→V
 | .non=>.non | .bl b=>.bl b | .int i=>.int i | .str x=>.str x | .tup _=>.non | .adr a=>.ref a | .dic a=>.ref a
theorem zIU{K:PySem.W.Frag}{H:Hp}{d:D}(h:zKI d=true):zO K H d (vOf d):=by
 cases d<;>first | (cases h;done) | (unfold zO;rfl)
theorem zDF{K:PySem.W.Frag}{gv:Int→Int→V}{g:Int→Int→D}(hg:∀ i j,zKI (g i j)=true∧gv i j=vOf (g i j)):Fit K (rI0 gv) (fII g):=by
 intro dx dy G R x y H Q h r d1 d2 k
 unfold fII at h
 cases dx with
 | int i =>
  cases dy with
  | int j =>
   unfold zO at d1 d2
   subst d1 d2
   exact⟨i,j,rfl,rfl,k _ G h _ H (.refl H) r (by rw[(hg i j).2];exact zIU (hg i j).1)⟩
  | _=>exact h.elim
 | _=>exact h.elim
noncomputable def yj(C:Int→Int→Prop)(g:Int→Int→D):D→D→Gp→Q2→Prop:=fun x y G R=>match x,y with | .int i,.int j=>C i j∧R (g i j) G | _,_=>False
theorem zCg{K:PySem.W.Frag}{C:Int→Int→Prop}{gv:Int→Int→V}{g:Int→Int→D}(hg:∀ i j,zKI (g i j)=true∧gv i j=vOf (g i j)):Fit K (rI C gv) (yj C g):=by
 intro dx dy G R x y H Q h r d1 d2 k
 unfold yj at h
 cases dx with
 | int i =>
  cases dy with
  | int j =>
   unfold zO at d1 d2
   subst d1 d2
   exact⟨i,j,rfl,rfl,h.1,k _ G h.2 _ H (.refl H) r (by rw[(hg i j).2];exact zIU (hg i j).1)⟩
  | _=>exact h.elim
 | _=>exact h.elim
noncomputable abbrev TL2:=S2→Gp→(List D→Gp→Prop)→Prop
noncomputable def lL(K:PySem.W.Frag)(t:TL2):TE:=fun σ1 H Q=>∃ σ G R,Rel K σ G σ1 H∧t σ G R∧∀ ds G',R ds G'→∀ l xs H',zj H H'→zo K G' H'→G'.m l=none→H' l=some (.lst xs)→Dens K H' ds xs→Q (.ref l) H'
noncomputable def F2(X:Cx)(e:Expr)(t:TL2):Prop:=PE X e (lL X.K t)
noncomputable def zl(t:TL2):zm:=fun σ G R=>t σ G fun ds G'=>∀ l,G'.m l=none→R (.adr l) (zQ G' l ds)
theorem zz{t:TL2}(h:F2 X e t):E2 X e (zl t):=by
 refine PE.mono h ?_
 rintro σ1 H Q ⟨σ,G,R,r,q,k⟩
 exact⟨σ,G,_,r,q,fun ds G' q' l xs H' g r' n e' d=>k _ _ (q' l n) _ H' g (r'.own e' d) (by unfold zO;rfl)⟩
noncomputable def zI:wH:=fun u0 G R=>R [] G
noncomputable def zA(ta:zm)(tr:wH):wH:=fun σ G R=>ta σ G fun x G1=>tr σ G1 fun xs G2=>R (x::xs) G2
theorem zJ:A2 X [] zI:=by
 intro pos pins s σ1 H Q I h
 refine zAA pos pins s σ1 H Q I ?_
 obtain⟨σ,G,R,r,q,k⟩:=h
 exact k [] G q [] H (.refl H) r.g .nil
theorem zB{tr:wH}(ha:E2 X e ta)(hr:A2 X es tr)(hs:starEach (e::es) X.env=(false,eval e X.env)::starEach es X.env:=by rfl):A2 X (e::es) (zA ta tr):=by
 intro pos pins s σ1 H Q I h
 refine yS ha hr hs pos pins s σ1 H Q I ?_
 obtain⟨σ,G,R,r,q,k⟩:=h
 refine⟨σ,G,_,r,q,fun d G1 q1 v H1 g1 r1 d1=>?_⟩
 refine⟨σ,G1,_,r.to g1 r1,q1,fun ds G2 q2 vs H2 g2 r2 d2=>?_⟩
 exact k _ G2 q2 _ H2 (g1.trans g2) r2 (.cons (d1.grow g2) d2)
noncomputable def yl(t:wH):zm:=fun σ G R=>t σ G fun ds G1=>ds.length≤sizeLine∧R (.tup ds) G1
theorem zAG{t:wH}{x1}(h:A2 X es t):E2 X (.Tuple es x1 pos) (yl t):=by
 refine PE.mono (zOE h) ?_
 rintro σ1 H Q ⟨σ,G,R,r,q,k⟩
 refine⟨σ,G,_,r,q,fun ds G1 q1 vs H1 g1 r1 d1=>⟨by rw[← d1.length];exact q1.1,fun p hp=>?_⟩⟩
 refine k _ G1 q1.2 _ _ (g1.trans (.fresh hp)) (r1.fresh hp) ?_
 unfold zO
 exact⟨p,vs,rfl,.of zc,d1.grow (.fresh hp)⟩
noncomputable def wA(t:wH):TL2:=fun σ G R=>t σ G fun ds G1=>ds.length≤sizeLine∧R ds G1
theorem wX{t:wH}(h:A2 X es t):F2 X (.List es pos) (wA t):=by
 refine PE.mono (zOF h) ?_
 rintro σ1 H Q ⟨σ,G,R,r,q,k⟩
 refine⟨σ,G,_,r,q,fun ds G1 q1 vs H1 g1 r1 d1=>⟨by rw[← d1.length];exact q1.1,fun p hp=>?_⟩⟩
 exact k ds G1 q1.2 p vs _ (g1.trans (.fresh hp)) (r1.fresh hp) (r1.free hp) zc (d1.grow (.fresh hp))
noncomputable abbrev Sp2:=List D→Gp→Q2→Prop
noncomputable def lSp(K:PySem.W.Frag)(sp:Sp2):Sp:=fun vs H Q u0=>∃ ds G R,Dens K H ds vs∧zo K G H∧sp ds G R∧∀ d G',R d G'→∀ v H',zj H H'→zo K G' H'→zO K H' d v→Q v H'
noncomputable def Df(P:Program)(w:World)(K:PySem.W.Frag)(mg:Str→Option Value)(base:Heap)(k:Nat)(x:Str)(ps:List Str)(sp:Sp2):Prop :=
 ∃ f fd,zBb P w K mg base CX0 k f fd ps (lSp K sp)∧mg x=some (.ref f)∧PySem.W.keepIn K (.ref f)=true∧Binds K fd ps []
noncomputable def zL(sp:Sp2)(t:wH):zm:=fun σ G R=>t σ G fun ds G1=>sp ds G1 R
theorem yI{sp:Sp2}{t:wH}{k k':Nat}{x:Str}{ps:List Str}(F:Df X.prog X.w X.K X.mg X.base k x ps sp)(hr:zx k' X.A)(hk:k≤k')(hg:Gl X x)(ha:A2 X (e::es) t)
  (hdb:(x==("__debug__":Str))=false:=by decide) (he:starEach (e::es) X.env=(false,eval e X.env)::starEach es X.env:=by rfl) (hpl:(backTo pos (starEach es X.env)).any (·.1)=false:=by rfl) :
  E2 X (.Call (.Name x p) (e::es) [] pos) (zL sp t):=by
 obtain⟨f,fd,F,hm,hkp,hb⟩:=F
 refine PE.mono (zIN (dvs:=[]) F (hr.mono hk) hg hm hkp hb .nil zNL ha hdb he hpl) ?_
 rintro σ1 H Q ⟨σ,G,R,r,q,kk⟩
 refine⟨σ,G,_,r,q,fun ds G1 q1 vs H1 g1 r1 d1=>?_⟩
 show lSp X.K _ (vs++[]) H1 Q E0
 rw[fk]
 exact⟨ds,G1,R,d1,r1,q1,fun d G' q' v H' g'=>kk d G' q' v H' (g1.trans g')⟩
noncomputable def spL(sp:List D→Gp→(List D→Gp→Prop)→Prop):Sp2:=fun ds G R=>sp ds G fun ls G'=>∀ l,G'.m l=none→R (.adr l) (zQ G' l ls)
noncomputable def yB(sp:List D→Gp→(List D→Gp→Prop)→Prop)(t:wH):TL2:=fun σ G R=>t σ G fun ds G1=>sp ds G1 R
theorem zAr{sp:List D→Gp→(List D→Gp→Prop)→Prop}{t:wH}{k k':Nat}{x:Str}{ps:List Str}(F:Df X.prog X.w X.K X.mg X.base k x ps (spL sp))(hmono:∀ ds G R R',(∀ ls G',R ls G'→R' ls G')→sp ds G R→sp ds G R')(hr:zx k' X.A)(hk:k≤k')(hg:Gl X x)(ha:A2 X (e::es) t)
  (hdb:(x==("__debug__":Str))=false:=by decide) (he:starEach (e::es) X.env=(false,eval e X.env)::starEach es X.env:=by rfl) (hpl:(backTo pos (starEach es X.env)).any (·.1)=false:=by rfl) :
  F2 X (.Call (.Name x p) (e::es) [] pos) (yB sp t):=by
 obtain⟨f,fd,F,hm,hkp,hb⟩:=F
 refine PE.mono (zIN (dvs:=[]) F (hr.mono hk) hg hm hkp hb .nil zNL ha hdb he hpl) ?_
 rintro σ1 H Q ⟨σ,G,R,r,q,kk⟩
 refine⟨σ,G,_,r,q,fun ds G1 q1 vs H1 g1 r1 d1=>?_⟩
 show lSp X.K _ (vs++[]) H1 Q E0
 rw[fk]
 refine⟨ds,G1,fun d G'=>∃ l ls G0,d=.adr l∧G0.m l=none∧G'=zQ G0 l ls∧R ls G0,d1,r1,hmono _ _ _ _ (fun ls G' q l n=>⟨l,ls,G',rfl,n,rfl,q⟩) q1,?_⟩
 rintro d G' ⟨l,ls,G0,rfl,n,rfl,q'⟩ v H' g' r' dv
 unfold zO at dv
 subst dv
 obtain⟨xs,e1,e2⟩:=r'.m l ls zG
 exact kk ls G0 q' l xs H' (g1.trans g') (r'.sub (.new n)) n e1 e2
section
variable {st:Stmt} {rest:List Stmt} {t u:yg}
noncomputable def yN:yg:=fun E σ G=>E.nx σ G
noncomputable def zX(t u:yg):yg:=fun E σ G=>t { E with nx:=u E } σ G
theorem wF:Ps2 X [] yN:=by
 intro pins s σ1 H E I h
 refine zLw pins s σ1 H E I ?_
 obtain⟨σ,G,D2,r,q,k⟩:=h
 exact k.nx σ G q σ1 H (.refl H) r
theorem zM(h1:P2 X st t)(h2:Ps2 X rest u):Ps2 X (st::rest) (zX t u):=by
 intro pins s σ1 H E I h
 refine zJ5 h1 h2 pins s σ1 H E I ?_
 obtain⟨σ,G,D2,r,q,k⟩:=h
 refine⟨σ,G,_,r,q,⟨fun σ' G' q' σ1' H' g' r'=>⟨σ',G',D2,r',q',k.to g'⟩,k.bk,k.ct,k.rt⟩⟩
theorem zR(h1:P2 X st t):Ps2 X [st] t:=zLx h1
noncomputable def yC(te:zm):yg:=fun E σ G=>te σ G E.rt
theorem yF(he:E2 X e te):P2 X (.Return (some e) pos) (yC te):=by
 refine PS.mono (L2.zNt he) ?_
 rintro E σ1 H ⟨σ,G,D2,r,q,k⟩
 exact⟨σ,G,_,r,q,fun d G' q' v H' g' r' d'=>k.rt d G' q' v H' g' r' d'⟩
noncomputable def wY(te:zm):yg:=fun E σ G=>te σ G fun u0 G1=>E.nx σ G1
theorem zCP(he:E2 X e te)(hs:swapsWith e none pos.line X.env=pure false:=by rfl):P2 X (.Expr e pos) (wY te):=by
 refine PS.mono (L2.zLy he hs) ?_
 rintro E σ1 H ⟨σ,G,D2,r,q,k⟩
 exact⟨σ,G,_,r,q,fun d G' q' v H' g' r' d'=>k.nx σ G' q' σ1 H' g' (r.to g' r')⟩
noncomputable def xIf(c:TT2)(t u:yg):yg:=fun E σ G=>c σ G fun b G1=>if b=true then t E σ G1 else u E σ G1
theorem zCQ{x y:List Stmt}{tc:TT2}(hc:T2 X c tc)(ha:Ps2 X x t)(hb:Ps2 X y u):P2 X (.If c x y pos) (xIf tc t u):=by
 refine PS.mono (L2.zPJ hc ha hb) ?_
 rintro E σ1 H ⟨σ,G,D2,r,q,k⟩
 refine⟨σ,G,_,r,q,fun b G' q' H' g' r'=>?_⟩
 cases b with
 | true=>exact⟨σ,G',D2,r.to g' r',q',k.to g'⟩
 | false=>exact⟨σ,G',D2,r.to g' r',q',k.to g'⟩
noncomputable abbrev TG2:=D→S2→Gp→(S2→Gp→Prop)→Prop
noncomputable def lG(K:PySem.W.Frag)(g:TG2):TG:=fun v σ1 H Q=>∃ σ G d R,Rel K σ G σ1 H∧zO K H d v∧g d σ G R∧∀ σ' G',R σ' G'→∀ σ1' H',zj H H'→Rel K σ' G' σ1' H'→Q σ1' H'
noncomputable def G2(X:Cx)(tg:Expr)(g:TG2):Prop:=PG X tg (lG X.K g)
theorem PG.mono{tg:Expr}{t t':TG}(h:PG X tg t)(hm:∀ v σ H Q,t' v σ H Q→t v σ H Q):PG X tg t':=fun pins s σ H v u Q I r q=>h pins s σ H v u Q I r (hm v σ H Q q)
noncomputable def gN(i:Nat):TG2:=fun d σ G R=>R (σ.set i (some d)) G
theorem zBC(i:Nat){x:Str}(hN:X.N.Nodup)(hi:X.N[i]?=some x:=by rfl)(hx:Loc X.env.scope x:=by first | exact Or.inl rfl | exact Or.inr rfl)(hf:X.fn x=true∨X.env.scope.names.lookup x=some .local:=by first | exact .inl rfl | exact .inr rfl | assumption):G2 X (.Name x pos) (gN i):=by
 refine PG.mono (zCc hN hi hx hf) ?_
 rintro v σ1 H Q ⟨σ,G,d,R,r,dv,q,k⟩
 exact k _ G q _ H (.refl H) (r.set i dv)
noncomputable def gNN(i j:Nat):TG2:=fun d σ G R=>match d with | .tup [a,b]=>R ((σ.set i (some a)).set j (some b)) G | _=>False
theorem zPX(i j:Nat){x y:Str}{px py:Pos}{kk:Nat}(hc:X.calm=true)(hN:X.N.Nodup)(hi:X.N[i]?=some x:=by rfl)(hj:X.N[j]?=some y:=by rfl)(hx:Loc X.env.scope x:=by first | exact Or.inl rfl | exact Or.inr rfl)(hy:Loc X.env.scope y:=by first | exact Or.inl rfl | exact Or.inr rfl)
  (hf:X.fn x=true∨X.env.scope.names.lookup x=some .local:=by first | exact .inl rfl | exact .inr rfl | assumption) (hf':X.fn y=true∨X.env.scope.names.lookup y=some .local:=by first | exact .inl rfl | exact .inr rfl | assumption) :
  G2 X (.Tuple [.Name x px,.Name y py] kk pos) (gNN i j):=by
 refine PG.mono (zNv (n:=2) hc (zGL (zCc hN hi hx hf) (zGL (zCc hN hj hy hf') zLz))) ?_
 rintro v σ1 H Q ⟨σ,G,d,R,r,dv,q,k⟩
 unfold gNN at q
 split at q
 ·rename_i d1 d2
  unfold zO at dv
  obtain⟨a,xs,rfl,hs,hd⟩:=dv
  unfold Dens at hd
  obtain⟨x1,r1,rfl,h1,hd⟩:=hd
  unfold Dens at hd
  obtain⟨x2,r2,rfl,h2,hd⟩:=hd
  unfold Dens at hd
  subst hd
  exact⟨a,[x1,x2],rfl,hs,rfl,x1,[x2],rfl,x2,[],rfl,rfl,k _ G q _ H (.refl H) ((r.set i h1).set j h2)⟩
 ·exact q.elim
noncomputable def zp(te:zm)(g:TG2):yg:=fun E σ G=>te σ G fun d G1=>g d σ G1 E.nx
theorem zKJ{g:TG2}{E:Ends}{σ1:L2.St}{H:Hp}{K:PySem.W.Frag}(h:lS K (zp te g) E σ1 H):zNx (lE K te) (lG K g) E σ1 H:=by
 obtain⟨σ,G,D2,r,q,k⟩:=h
 refine⟨σ,G,_,r,q,fun d G' q' v H' g' r' d'=>⟨σ,G',d,_,r.to g' r',d',q',fun σ' G'' q'' σ1' H'' g'' r''=>k.nx σ' G'' q'' σ1' H'' (g'.trans g'') r''⟩⟩
theorem yE(i:Nat){x:Str}{pos':Pos}(hN:X.N.Nodup)(he:E2 X e te)(hi:X.N[i]?=some x:=by rfl)(hx:Loc X.env.scope x:=by first | exact Or.inl rfl | exact Or.inr rfl)(hs:swapsWith e (some (.Name x pos')) pos.line X.env=pure false:=by rfl)(hf:X.fn x=true∨X.env.scope.names.lookup x=some .local:=by first | exact .inl rfl | exact .inr rfl | assumption) :
  P2 X (.Assign [.Name x pos'] e pos) (zp te (gN i)):=by
 refine PS.mono (L2.zNz hN hi hx he hs hf) fun E σ1 H h=>?_
 obtain⟨σ,G,D2,r,q,k⟩:=h
 refine⟨σ,G,_,r,q,fun d G' q' v H' g' r' d'=>?_⟩
 exact k.nx _ G' q' _ H' g' ((r.to g' r').set i d')
theorem zNN{tg:Expr}{g:TG2}(he:E2 X e te)(hg:G2 X tg g)(hs:swapsWithSole [tg] e pos.line X.env=pure false:=by rfl)(hw:swappedStores [tg] e X.env=pure none:=by rfl)
  (h1:(assignEach [tg] X.env).map (·.2)=[assign tg X.env]:=by rfl):P2 X (.Assign [tg] e pos) (zp te g) :=
 PS.mono (L2.zNy he hg hs hw h1) fun u0 u0 u0 h=>zKJ h
noncomputable def gIx(to ti:zm):TG2:=fun d σ G R=>to σ G fun o G1=>ti σ G1 fun i G2=>match o,i with
 | .adr l,.int k=>match G2.m l with
  | some ds=>match ixN ds.length k with | some j=>R σ (zQ G2 l (ds.set j d)) | none=>False
  | none=>False
 | _,_=>False
theorem zPY{i:Expr}{to ti:zm}(ho:E2 X o to)(hi:E2 X i ti)
  (ha:∀ v,assign (.Subscript o i pos) X.env v=(do
   let ov ← holding [v] (eval o X.env)
   let iv ← holding [v,ov] (eval i X.env)
   standAt pos
   holding [v,ov,iv] (setItem ov iv v)
   release [v,ov,iv] []):=by intro u0;rfl):G2 X (.Subscript o i pos) (gIx to ti):=by
 refine PG.mono (zNw ho hi set_list ha) ?_
 rintro v σ1 H Q ⟨σ,G,d,R,r,dv,q,k⟩
 refine⟨σ,G,_,r,q,fun dx G1 q1 x H1 g1 r1 d1=>⟨σ,G1,_,r.to g1 r1,q1,fun dy G2' q2 y H2 g2 r2 d2=>?_⟩⟩
 cases dx with
 | adr l =>
  cases dy with
  | int j =>
   dsimp only at q2
   cases e1:G2'.m l with
   | none=>rw[e1] at q2;exact q2.elim
   | some ds =>
    rw[e1] at q2
    dsimp only at q2
    cases e2:ixN ds.length j with
    | none=>rw[e2] at q2;exact q2.elim
    | some jj =>
     rw[e2] at q2
     dsimp only at q2
     have d1':=d1.grow g2
     unfold zO at d1' d2
     subst d1' d2
     obtain⟨xs,h1,h2⟩:=r2.m l ds e1
     refine⟨l,xs,j,jj,rfl,rfl,h1,by rw[← h2.length];exact e2,?_⟩
     have g3:zj H2 (wC H2 l (.lst (xs.set jj v))):=.lst h1
     exact k _ _ q2 _ _ ((g1.trans g2).trans g3) ((r.to (g1.trans g2) r2).to g3 (r2.put h1 (h2.set jj (dv.grow (g1.trans g2)))))
  | _=>exact q2.elim
 | _=>exact q2.elim
end
end
noncomputable abbrev TI2:=S2→Gp→(List D→(Gp→Prop)→Gp→Prop)→Prop
structure Walk (K:PySem.W.Frag) (H0:Hp) (ds:List D) (gd:Gp→Prop) (J:It):Prop where
 go:∀ i G H,gd G→zo K G H→zj H0 H→i<ds.length→J.go i H
 stop:∀ G H,gd G→zo K G H→zj H0 H→J.stop ds.length H
 yld:∀ i G H x H',gd G→zo K G H→zj H0 H→i<ds.length→J.yld i H x H'→zj H H'∧zo K G H'∧∃ d,ds[i]?=some d∧zO K H' d x
noncomputable def lI(K:PySem.W.Frag)(wi:TI2):TI:=fun σ1 H R=>∃ σ G R2,Rel K σ G σ1 H∧wi σ G R2∧∀ ds gd G',R2 ds gd G'→∀ J H',zj H H'→zo K G' H'→Walk K H' ds gd J→ds.length≤sizeLine→R J H'
noncomputable def I2(X:Cx)(tg iter:Expr)(wi:TI2):Prop:=PI X tg iter (lI X.K wi)
theorem PI.mono{X:Cx}{tg iter:Expr}{t t':TI}(h:PI X tg iter t)(hm:∀ σ H R,t' σ H R→t σ H R):PI X tg iter t':=fun pins s σ H R I q=>h pins s σ H R I (hm σ H R q)
section
variable {X:Cx} {tg:Expr} {a b c e o l iter elt:Expr} {es:List Expr} {pos p:Pos} {ta tb te:zm}
theorem zKK{l:Expr}{tl:TE}(hl:PE X l tl):PI X tg l (fun σ H R=>tl σ H fun x H1=>∃ a xs,x=.ref a∧((SqL X.K H1 a xs∧(xs.length≤sizeLine→R (Itl X.K a) H1))∨(SqT X.K H1 a xs∧(xs.length≤sizeLine→R (Itt X.K a) H1)))):=by
 intro pins s σ H R I h
 refine wB (hl pins s σ H _ I h) fun v s1 ⟨x,H1,I1,r1,q1⟩=>?_
 obtain⟨a,xs,e,q⟩:=q1
 subst e
 cases r1
 have fpk:∀ b∈[s1.heap.objs.size],zDC X pins H1 b:=fun b hb=>by
  have e:b=s1.heap.objs.size:=by simpa using hb
  subst e
  exact I1.fpOk (cX _) (I1.hok.fresh (cX _))
 rcases q with ⟨hq,q⟩ | ⟨hq,q⟩
 ·obtain⟨its,rv,p,hz⟩:=I1.list hq
  refine wpAny_pyIter_list p.isList ?_
  exact⟨s1.heap.objs.size,[s1.heap.objs.size],_,_,H1,rfl,I1.kept (t':=s1.toks) fun b o e=>cQ _ e,zI9 a _,⟨_,dc _ rfl,rfl,rfl⟩,fpk,q hz⟩
 ·obtain⟨its,rv,p,hz⟩:=I1.tuple hq
  refine wpAny_pyIter_tuple (show s1.heap.IsTuple a its.toArray from p) ?_
  exact⟨s1.heap.objs.size,[s1.heap.objs.size],_,_,H1,rfl,I1.kept (t':=s1.toks) fun b o e=>cQ _ e,zHK a _,⟨_,dc _ rfl,rfl,rfl⟩,fpk,q hz⟩
theorem zFT{K:PySem.W.Frag}{H0:Hp}{a:Addr}{ds:List D}:Walk K H0 ds (fun G=>Ls G a ds) (Itl K a) where
 go:=fun i G H g r u0 hi=>by
  obtain⟨xs,h1,h2⟩:=r.sq g
  exact⟨xs,xs[i]'(by rw[← h2.length];exact hi),h1,by simp⟩
 stop:=fun G H g r u0=>by
  obtain⟨xs,h1,h2⟩:=r.sq g
  exact⟨xs,h1,Nat.le_of_eq h2.length.symm⟩
 yld:=fun i G H x H' g r u0 hi y=>by
  obtain⟨xs,h1,h2⟩:=r.sq g
  obtain⟨e,y⟩:=y
  subst e
  obtain⟨d,e1,e2⟩:=h2.got (y xs h1)
  exact⟨.refl _,r,d,e1,e2⟩
theorem zKL{K:PySem.W.Frag}{H0:Hp}{a:Addr}{xs:List V}{ds:List D}(h:SqT K H0 a xs)(hd:Dens K H0 ds xs):Walk K H0 ds (fun u0=>True) (Itt K a) where
 go:=fun i G H u0 r g hi=>⟨xs,xs[i]'(by rw[← hd.length];exact hi),g.sqT h,by simp⟩
 stop:=fun G H u0 r g=>⟨xs,g.sqT h,Nat.le_of_eq hd.length.symm⟩
 yld:=fun i G H x H' u0 r g hi y=>by
  obtain⟨e,y⟩:=y
  subst e
  obtain⟨d,e1,e2⟩:=(hd.grow g).got (y xs (g.sqT h))
  exact⟨.refl _,r,d,e1,e2⟩
noncomputable def zw(lo:Int)(n:Nat):List D:=(cY n).map fun(k:Nat)=>D.int (lo+(k:Int))
theorem zAU(lo:Int)(n:Nat):(zw lo n).length=n:=by simp[zw]
theorem zHT{lo:Int}{n i:Nat}(h:i<n):(zw lo n)[i]?=some (.int (lo+i)):=by simp[zw,h]
theorem zEF{K:PySem.W.Frag}{H0:Hp}{lo:Int}{n:Nat}:Walk K H0 (zw lo n) (fun u0=>True) (Itr lo n) where
 go:=fun i G H u0 u0 u0 hi=>by rw[zAU] at hi;exact hi
 stop:=fun G H u0 u0 u0=>by rw[zAU];exact cX _
 yld:=fun i G H x H' u0 r u0 hi y=>by
  rw[zAU] at hi
  obtain⟨e,rfl⟩:=y
  subst e
  exact⟨.refl _,r,_,zHT hi,by unfold zO;rfl⟩
noncomputable def iV(t:zm):TI2:=fun σ G R=>t σ G fun d G1=>match d with
 | .tup ds=>R ds (fun u0=>True) G1
 | .adr a=>∃ ds,Ls G1 a ds∧R ds (fun G=>Ls G a ds) G1
 | _=>False
theorem zDc(h:E2 X l ta):I2 X tg l (iV ta):=by
 refine PI.mono (zKK h) ?_
 rintro σ1 H R ⟨σ,G,R2,r,q,k⟩
 refine⟨σ,G,_,r,q,fun d G1 q1 v H1 g1 r1 d1=>?_⟩
 cases d with
 | tup ds =>
  unfold zO at d1
  obtain⟨a,xs,rfl,h1,h2⟩:=d1
  exact⟨a,xs,rfl,.inr ⟨h1,fun hz=>k ds _ G1 q1 _ H1 g1 r1 (zKL h1 h2) (by rw[h2.length];exact hz)⟩⟩
 | adr a =>
  unfold zO at d1
  subst d1
  obtain⟨ds,e,q1⟩:=q1
  obtain⟨xs,h1,h2⟩:=r1.sq e
  exact⟨a,xs,rfl,.inl ⟨h1,fun hz=>k ds _ G1 q1 _ H1 g1 r1 zFT (by rw[h2.length];exact hz)⟩⟩
 | _=>exact q1.elim
noncomputable def iF(t:TL2):TI2:=fun σ G R=>t σ G fun ds G1=>∀ a,G1.m a=none→R ds (fun G=>Ls G a ds) (zQ G1 a ds)
theorem zKM{t:TL2}(h:F2 X l t):I2 X tg l (iF t):=by
 refine PI.mono (zKK h) ?_
 rintro σ1 H R ⟨σ,G,R2,r,q,k⟩
 refine⟨σ,G,_,r,q,fun ds G1 q1 a xs H1 g1 r1 n e1 d1=>?_⟩
 exact⟨a,xs,rfl,.inl ⟨.of e1,fun hz=>k ds _ _ (q1 a n) _ H1 g1 (r1.own e1 d1) zFT (by rw[d1.length];exact hz)⟩⟩
noncomputable def iR1(t:wH):TI2:=fun σ G R=>t σ G fun ds G1=>match ds with | [.int j]=>(-1000000≤j∧j≤1000000)∧R (zw 0 j.toNat) (fun u0=>True) G1 | _=>False
noncomputable def iR2(t:wH):TI2:=fun σ G R=>t σ G fun ds G1=>match ds with | [.int i,.int j]=>((-1000000≤i∧i≤1000000)∧-1000000≤j∧j≤1000000)∧R (zw i (j-i).toNat) (fun u0=>True) G1 | _=>False
theorem zAV{t:wH}(hg:Gl X "range")(hm:X.mg "range"=none)(ha:A2 X [a] t)(hs:starEach [a] X.env=[(false,eval a X.env)]:=by rfl):I2 X tg (.Call (.Name "range" p) [a] [] pos) (iR1 t):=by
 refine PI.mono (zJA hg hm ha hs) ?_
 rintro σ1 H R ⟨σ,G,R2,r,q,k⟩
 refine⟨σ,G,_,r,q,fun ds G1 q1 vs H1 g1 r1 d1=>?_⟩
 split at q1
 ·rename_i j
  unfold Dens at d1
  obtain⟨x,r',rfl,d1,d2⟩:=d1
  unfold zO at d1
  unfold Dens at d2
  subst d1 d2
  refine⟨j,rfl,by omega,by omega,k _ _ G1 q1.2 _ H1 g1 r1 zEF ?_⟩
  rw[zAU,sizeLine_eq];omega
 ·exact q1.elim
theorem zCh{t:wH}(hg:Gl X "range")(hm:X.mg "range"=none)(ha:A2 X [a,b] t)(hs:starEach [a,b] X.env=[(false,eval a X.env),(false,eval b X.env)]:=by rfl)(hs2:starEach [b] X.env=[(false,eval b X.env)]:=by rfl):I2 X tg (.Call (.Name "range" p) [a,b] [] pos) (iR2 t):=by
 refine PI.mono (zJB hg hm ha hs hs2) ?_
 rintro σ1 H R ⟨σ,G,R2,r,q,k⟩
 refine⟨σ,G,_,r,q,fun ds G1 q1 vs H1 g1 r1 d1=>?_⟩
 split at q1
 ·rename_i i j
  unfold Dens at d1
  obtain⟨x,r',rfl,d1,d2⟩:=d1
  unfold Dens at d2
  obtain⟨y,r',rfl,d2,d3⟩:=d2
  unfold zO at d1 d2
  unfold Dens at d3
  subst d1 d2 d3
  refine⟨i,j,rfl,⟨by omega,by omega,by omega,by omega⟩,k _ _ G1 q1.2 _ H1 g1 r1 zEF ?_⟩
  rw[zAU,sizeLine_eq];omega
 ·exact q1.elim
structure wt (σ σ':S2):Prop where
 len:σ.length=σ'.length
 val:∀(i:Nat) d,σ[i]?=some (some d)→σ'[i]?=some (some d)
theorem wt.refl(σ:S2):wt σ σ:=⟨rfl,fun u0 u0 h=>h⟩
noncomputable def Fg(P:S2→Gp→Prop):S2→Gp→Prop:=fun σ G=>∃ σ' G',wt σ' σ∧Sub G' G∧P σ' G'
theorem Fg.of{P:S2→Gp→Prop}{σ:S2}{G:Gp}(h:P σ G):Fg P σ G:=⟨σ,G,.refl σ,.refl G,h⟩
theorem Rel.sub{K:PySem.W.Frag}{σ σ':S2}{G G':Gp}{σ1:L2.St}{H:Hp}(r:Rel K σ G σ1 H)(s:wt σ' σ)(g:Sub G' G):Rel K σ' G' σ1 H :=
 ⟨r.g.sub g,s.len.trans r.len,fun i d e=>r.val i d (s.val i d e)⟩
noncomputable def zPZ(wi:TI2)(g:TG2)(tb:yg):yg:=fun E σ G=>wi σ G fun ds gd G1=>∃ Pv:Nat→S2→Gp→Prop,Pv 0 σ G1∧(∀ i σ G,i≤ds.length→Pv i σ G→gd G) ∧
 (∀ i x σ G,ds[i]?=some x→Pv i σ G→g x σ G fun σ2 G2=>tb { E with nx:=Fg (Pv (i+1)),ct:=Fg (Pv (i+1)),bk:=E.nx } σ2 G2)∧∀ σ G,Pv ds.length σ G→E.nx σ G
theorem zPa{wi:TI2}{g:TG2}{tb:yg}{body:List Stmt}(hp:PassesOwn (model X.prog X.w) X.A X.env X.xe)(hc:X.calm=true)(hi:I2 X tg iter wi)(hg:G2 X tg g)(hb:Ps2 X body tb)
  (hs:∀ x,foldedSetIterable iter X.env x=pure x:=by intro u0;rfl):P2 X (.For tg iter body [] pos) (zPZ wi g tb):=by
 refine PS.mono (L2.zN1 hp hc hi hg hb hs) ?_
 rintro E σ1 H ⟨σ,G,D2,r,q,k⟩
 refine⟨σ,G,_,r,q,fun ds gd G1 q1 J H1 g1 r1 W hz=>?_⟩
 obtain⟨Pv,p0,pg,pt,pd⟩:=q1
 refine⟨fun i m σ1' H'=>m=ds.length-i∧i≤ds.length∧zj H1 H'∧∃ σ' G',Rel X.K σ' G' σ1' H'∧Pv i σ' G',⟨ds.length,by simp,fh _,.refl _,σ,G1,r.to g1 r1,p0⟩,?_⟩
 rintro i m σ1' H' ⟨rfl,hi',g',σ',G',r',p'⟩
 have gd':=pg i σ' G' hi' p'
 by_cases hlt:i<ds.length
 ·refine .inr ⟨W.go i G' H' gd' r'.g g' hlt,fun σ1'' H''=>zj H1 H''∧∃ σ'' G'',Rel X.K σ'' G'' σ1'' H''∧Pv (i+1) σ'' G'',fun σ1'' H'' ⟨a1,σ'',G'',a2,a3⟩=>⟨ds.length-(i+1),by omega,rfl,hlt,a1,σ'',G'',a2,a3⟩,fun x H'' y=>?_⟩
  obtain⟨gy,ry,d,e1,e2⟩:=W.yld i G' H' x H'' gd' r'.g g' hlt y
  replace g':=g'.trans gy
  refine⟨σ',G',d,_,r'.to gy ry,e2,pt i d σ' G' e1 p',fun σ2 G2 q2 σ12 H2 g2 r2=>⟨σ2,G2,_,r2,q2,?_⟩⟩
  have back:∀ σ3 G3,Fg (Pv (i+1)) σ3 G3→∀ σ13 H3,zj H2 H3→Rel X.K σ3 G3 σ13 H3→zj H1 H3∧∃ σ'' G'',Rel X.K σ'' G'' σ13 H3∧Pv (i+1) σ'' G'':=by
   rintro σ3 G3 ⟨σ4,G4,a1,a2,a3⟩ σ13 H3 g3 r3
   exact⟨(g'.trans g2).trans g3,σ4,G4,r3.sub a1 a2,a3⟩
  exact⟨back,fun σ3 G3 q3 σ13 H3 g3 r3=>k.nx σ3 G3 q3 σ13 H3 (((g1.trans g').trans g2).trans g3) r3,back,fun d3 G3 q3 v3 H3 g3 r3 dv=>k.rt d3 G3 q3 v3 H3 (((g1.trans g').trans g2).trans g3) r3 dv⟩
 ·have e:i=ds.length:=by omega
  subst e
  exact .inl ⟨W.stop G' H' gd' r'.g g',k.nx σ' G' (pd σ' G' p') σ1' H' (g1.trans g') r'⟩
noncomputable def FgG(P:Gp→Prop):Gp→Prop:=fun G=>∃ G',Sub G' G∧P G'
theorem FgG.of{P:Gp→Prop}{G:Gp}(h:P G):FgG P G:=⟨G,.refl G,h⟩
noncomputable def yT(wi:TI2)(bd:D→Option (List D))(tc:TT2)(te:zm):TL2:=fun σ G R=>wi σ G fun ds gd G1=>∀ A,G1.m A=none→∃ Pv:Nat→List D→Gp→Prop,Pv 0 [] (zQ G1 A [])∧(∀ i acc G,i≤ds.length→Pv i acc G→gd G∧G.m A=some acc∧acc.length≤i) ∧
 (∀ i x acc G,ds[i]?=some x→Pv i acc G→match bd x with
  | some us=>tc (σ++us.map some) G fun b G3=>if b=true then te (σ++us.map some) G3 fun d G4=>G4.m A=some acc∧FgG (Pv (i+1) (acc++[d])) (zQ G4 A (acc++[d])) else FgG (Pv (i+1) acc) G3
  | none=>False)∧∀ acc G,Pv ds.length acc G→∃ G',G'.m A=none∧Sub G' G∧R acc G'
noncomputable def Ts2(X:Cx)(ifs:List Expr)(t:TT2):Prop:=PTs X ifs (lT X.K t)
noncomputable def zCi:TT2:=fun u0 G R=>R true G
theorem zEG:Ts2 X [] zCi:=by
 intro pins s σ1 H Q I h
 refine zMD pins s σ1 H Q I ?_
 obtain⟨σ,G,R,r,q,k⟩:=h
 exact k true G q H (.refl H) r.g
theorem zCR{t:TT2}(h:T2 X c t):Ts2 X [c] t:=zME h
theorem Rel.app{K:PySem.W.Frag}{σ:S2}{G:Gp}{σ1:L2.St}{H:Hp}(r:Rel K σ G σ1 H){ds:List D}{vs:List V}(h:Dens K H ds vs):Rel K (σ++ds.map some) G (σ1++vs.map some) H :=
 ⟨r.g,by simp[r.len,h.length],fun i d e=>by
  by_cases hi:i<σ.length
  ·rw[el hi] at e
   obtain⟨v,e1,e2⟩:=r.val i d e
   exact⟨v,by rw[el (by rw[← r.len];exact hi)];exact e1,e2⟩
  ·rw[dY (by omega),dJ] at e
   cases q:ds[i-σ.length]? with
   | none=>rw[q] at e;cases e
   | some d' =>
    rw[q] at e;cases e
    obtain⟨v,e1,e2⟩:=h.get q
    exact⟨v,by rw[dY (by rw[← r.len];omega),dJ,← r.len,e1];rfl,e2⟩⟩
theorem zFU{K:PySem.W.Frag}{wi:TI2}{bd:D→Option (List D)}{tc:TT2}{te:zm}{n:Nat}{g:TG}{N:Nat}
  (hb:∀(σ1:L2.St) (H:Hp) (d:D) (v:V) (us:List D) (Q:L2.St→Hp→Prop),σ1.length=N→zO K H d v→bd d=some us→us.length=n→(∀ vs,Dens K H us vs→Q (σ1++vs.map some) H)→g v (σ1++di n none) H Q)
  (hn:∀ d us,bd d=some us→us.length=n)
  {σ1:L2.St} {H:Hp} {Q:VK} (hl:σ1.length=N) (h:lL K (yT wi bd tc te) σ1 H Q):zKG n (lI K wi) g (lT K tc) (lE K te) σ1 H Q:=by
 obtain⟨σ,G,R,r,q,k⟩:=h
 refine⟨σ,G,_,r,q,fun ds gd G1 q1 J H1 g1 r1 W hz A hA=>?_⟩
 obtain⟨Pv,p0,pg,pt,pd⟩:=q1 A (r1.free hA)
 refine⟨fun i m H2=>m=ds.length-i∧i≤ds.length∧zj H1 H2∧∃ as G2,zo K G2 H2∧Pv i as G2,⟨ds.length,by simp,fh _,.fresh hA,[],zQ G1 A [],r1.new hA .nil,p0⟩,?_⟩
 rintro i m H2 ⟨rfl,hi',g2,as,G2,r2,p2⟩
 obtain⟨gd2,al,hlen⟩:=pg i as G2 hi' p2
 by_cases hlt:i<ds.length
 ·refine .inr ⟨W.go i G2 H2 gd2 r2 g2 hlt,fun x H3 y=>?_⟩
  obtain⟨gy,ry,d,e3,dv⟩:=W.yld i G2 H2 x H3 gd2 r2 g2 hlt y
  replace g2:=g2.trans gy
  replace r2:=ry
  have q3:=pt i d as G2 e3 p2
  cases eb:bd d with
  | none=>rw[eb] at q3;exact q3.elim
  | some us =>
   rw[eb] at q3
   dsimp only at q3
   have hus:=hn d us eb
   refine hb σ1 H3 d x us _ hl dv eb hus fun vs hv=>⟨?_,?_,?_⟩
   ·rw[List.take_append_of_le_length (cX _),fP]
   ·rw[du,d7,← hv.length,hus]
   ·have rr:Rel K (σ++us.map some) G2 (σ1++vs.map some) H3:=(r.to (g1.trans g2) r2).app hv
    refine⟨σ++us.map some,G2,_,rr,q3,fun b G4 q4 H4 g4 r4=>?_⟩
    cases b with
    | false =>
     obtain⟨G5,s5,p5⟩:=q4
     exact⟨ds.length-(i+1),by omega,rfl,hlt,g2.trans g4,as,G5,r4.sub s5,p5⟩
    | true =>
     refine⟨σ++us.map some,G4,_,rr.to g4 r4,q4,fun d5 G5 q5 v H5 g5 r5 d5v=>?_⟩
     obtain⟨a5,G6,s6,p6⟩:=q5
     obtain⟨acc,e6,d6⟩:=r5.m A as a5
     refine⟨acc,e6,by rw[← d6.length];omega,ds.length-(i+1),by omega,rfl,hlt,((g2.trans g4).trans g5).trans (.lst e6),as++[d5],G6,?_,p6⟩
     exact(r5.put e6 (d6.append (.cons d5v .nil))).sub s6
 ·have e:i=ds.length:=by omega
  subst e
  obtain⟨G',n',s',q'⟩:=pd as G2 p2
  obtain⟨acc,e6,d6⟩:=r2.m A as al
  exact .inl ⟨W.stop G2 H2 gd2 r2 g2,k as G' q' A acc H2 (g1.trans g2) (r2.sub s') n' e6 d6⟩
noncomputable def bd1:D→Option (List D):=fun d=>some [d]
section
variable {ifs:List Expr} {sc:Scope} {N0:List Str} {wi:TI2} {tc:TT2}
theorem PE.at{t t':TE}(h:PE X e t)(hm:∀ σ H Q,σ.length=X.N.length→t' σ H Q→t σ H Q):PE X e t':=fun pins s σ H Q I q=>h pins s σ H Q I (hm σ H Q I.len q)
theorem PS.at{st:Stmt}{t t':TS}(h:PS X st t)(hm:∀ E σ H,σ.length=X.N.length→t' E σ H→t E σ H):PS X st t':=fun pins s σ H E I q=>h pins s σ H E I (hm E σ H I.len q)
theorem zKN(s t:List (Option V))(x:Option V):List.set (s++t) (List.length s) x=s++t.set 0 x:=by
 rw[List.set_append_right _ _ (cX _),Nat.sub_self]
theorem bind1{K:PySem.W.Frag}{N:Nat}(σ1:L2.St)(H:Hp)(d:D)(v:V)(us:List D)(Q:L2.St→Hp→Prop)(hl:σ1.length=N)(dv:zO K H d v)(eb:bd1 d=some us)(hus:us.length=1)(h:∀ vs,Dens K H us vs→Q (σ1++vs.map some) H):zGK N v (σ1++di 1 none) H Q:=by
 cases eb
 have:=h [v] (.cons dv .nil)
 show Q (List.set (σ1++[none]) N (some v)) H
 rw[← hl,zKN]
 exact this
theorem zMG(x:Str){px:Pos}(hc:X.calm=true)(T:zDE X sc N0)(hi:I2 X (.Name x px) iter wi)
  (hnd:(N0++[x]).Nodup) (hx:(relabel sc X.env).names.lookup x=some .local)
  (ht:∀ C s H fp pins,Ts2 (X.comp (N0++[x]) sc C s H fp pins) ifs tc) (he:∀ C s H fp pins,E2 (X.comp (N0++[x]) sc C s H fp pins) elt te)
  (hs:∀ x,foldedSetIterable iter X.env x=pure x:=by intro u0;rfl):F2 X (.ListComp elt [⟨.Name x px,iter,ifs,0⟩] sc pos) (yT wi bd1 tc te):=by
 refine PE.at (zMF (own:=[x]) (g:=zGK X.N.length) (tc:=lT X.K tc) (te:=lE X.K te) hc T hi (fun C s H fp pins=>zCc (X:=X.comp (N0++[x]) sc C s H fp pins) hnd (by
  show(N0++[x])[X.N.length]?=some x
  rw[← T.len];simp) (.inl hx) (.inr hx)) ht he hs) fun σ H Q hl h=>?_
 exact zFU (n:=1) (N:=X.N.length) bind1 (fun d us e=>by cases e;rfl) hl h
noncomputable def zCE(i:Nat)(t:TL2):yg:=fun E σ G=>t σ G fun ds G'=>∀ l,G'.m l=none→E.nx (σ.set i (some (.adr l))) (zQ G' l ds)
theorem zHU(i:Nat)(x:Str){y:Str}{px py spos:Pos}(hc:X.calm=true)(T:zDE X sc N0)(hi:I2 X (.Name x px) iter wi)
  (hnd:(N0++[x]).Nodup) (hx:(relabel sc X.env).names.lookup x=some .local)
  (ht:∀ C s H fp pins,Ts2 (X.comp (N0++[x]) sc C s H fp pins) ifs tc) (he:∀ C s H fp pins,E2 (X.comp (N0++[x]) sc C s H fp pins) elt te)
  (hN:X.N.Nodup) (hy:X.N[i]?=some y) (hl:X.env.scope.names.lookup y=some .local)
  (hsw:swapsWith (.ListComp elt [⟨.Name x px,iter,ifs,0⟩] sc pos) (some (.Name y py)) spos.line X.env=pure true)
  (hs:∀ x,foldedSetIterable iter X.env x=pure x:=by intro u0;rfl):P2 X (.Assign [.Name y py] (.ListComp elt [⟨.Name x px,iter,ifs,0⟩] sc pos) spos) (zCE i (yT wi bd1 tc te)):=by
 refine PS.at (zHS (own:=[x]) (g:=zGK X.N.length) (tc:=lT X.K tc) (te:=lE X.K te) hc T hi (fun C s H fp pins=>zCc (X:=X.comp (N0++[x]) sc C s H fp pins) hnd (by
  show(N0++[x])[X.N.length]?=some x
  rw[← T.len];simp) (.inl hx) (.inr hx)) ht he hN hy hl hsw hs) fun E σ1 H hl h=>?_
 obtain⟨σ,G,D2,r,q,k⟩:=h
 refine zFU (n:=1) (N:=X.N.length) bind1 (fun d us e=>by cases e;rfl) hl ⟨σ,G,_,r,q,fun ds G' q' l xs H' g' r' n e d=>?_⟩
 exact k.nx _ _ (q' l n) _ H' g' ((r.to g' (r'.own e d)).set i (by unfold zO;rfl))
end
end
section
variable {X:Cx} {a b c e o:Expr} {es:List Expr} {pos p:Pos} {ta tb te:zm}
theorem zFV(h:E2 X e te)(he:∀ whole,isTrue e X.env whole=(do let v ← whole;standAt e.pos;holding [v] (truthy v)):=by intro u0;rfl):T2 X e (xB te):=by
 refine PT.mono (zNp h he) ?_
 rintro σ1 H Q ⟨σ,G,R,r,q,k⟩
 refine⟨σ,G,_,r,q,fun d G1 q1 v H1 g1 r1 d1=>?_⟩
 cases d with
 | bl c =>
  unfold zO at d1
  exact⟨c,d1,k _ G1 q1 H1 g1 r1⟩
 | _=>exact q1.elim
section
variable {t u:TT2} {rest:List Expr}
noncomputable def W2(X:Cx)(e:Expr)(t:TT2):Prop:=PW X e (lT X.K t)
theorem W2.test(h:W2 X e t):T2 X e t:=PW.pt h
noncomputable def zCj(t u:TT2):TT2:=fun σ G R=>t σ G fun c G1=>if c=true then u σ G1 R else R false G1
noncomputable def zE4(t u:TT2):TT2:=fun σ G R=>t σ G fun c G1=>if c=true then R true G1 else u σ G1 R
noncomputable def zBe(t:TT2):TT2:=fun σ G R=>t σ G fun c G1=>R (!c) G1
theorem PW.mono{t t':TT}(h:PW X e t)(hm:∀ σ H Q,t' σ H Q→t σ H Q):PW X e t':=fun w pins s σ H Q I q=>h w pins s σ H Q I (hm σ H Q q)
theorem zOO(ha:T2 X a t):W2 X (.BoolOp .And [a] pos) t:=zLv ha
theorem zPb(ha:T2 X a t):W2 X (.BoolOp .Or [a] pos) t:=zNq ha
theorem w_and(ha:T2 X a t)(hb:W2 X (.BoolOp .And (b::rest) pos) u):W2 X (.BoolOp .And (a::b::rest) pos) (zCj t u):=by
 refine PW.mono (zNr ha hb) ?_
 rintro σ1 H Q ⟨σ,G,R,r,q,k⟩
 refine⟨σ,G,_,r,q,fun c G1 q1 H1 g1 r1=>?_⟩
 cases c with
 | true=>exact⟨σ,G1,R,r.to g1 r1,q1,fun b G' q' H' g'=>k b G' q' H' (g1.trans g')⟩
 | false=>exact k _ G1 q1 H1 g1 r1
theorem w_or(ha:T2 X a t)(hb:W2 X (.BoolOp .Or (b::rest) pos) u):W2 X (.BoolOp .Or (a::b::rest) pos) (zE4 t u):=by
 refine PW.mono (zPG ha hb) ?_
 rintro σ1 H Q ⟨σ,G,R,r,q,k⟩
 refine⟨σ,G,_,r,q,fun c G1 q1 H1 g1 r1=>?_⟩
 cases c with
 | true=>exact k _ G1 q1 H1 g1 r1
 | false=>exact⟨σ,G1,R,r.to g1 r1,q1,fun b G' q' H' g'=>k b G' q' H' (g1.trans g')⟩
theorem zNO(ha:T2 X a t):T2 X (.UnaryOp .Not a pos) (zBe t):=by
 refine PT.mono (zNs ha) ?_
 rintro σ1 H Q ⟨σ,G,R,r,q,k⟩
 exact⟨σ,G,_,r,q,fun c G1 q1 H1 g1 r1=>k _ G1 q1 H1 g1 r1⟩
end
theorem zNP(ha:E2 X a ta)(hb:E2 X b tb):E2 X (.BinOp a .Sub b pos) (zW (fII fun i j=>.int (i-j)) ta tb):=zGU zN6 (zDF fun u0 u0=>⟨rfl,rfl⟩) ha hb
theorem zDG(ha:E2 X a ta)(hb:E2 X b tb):E2 X (.BinOp a .Mult b pos) (zW (yj zE1 fun i j=>.int (i*j)) ta tb):=zGU zN7 (zCg fun u0 u0=>⟨rfl,rfl⟩) ha hb
theorem zHV(ha:E2 X a ta)(hb:E2 X b tb):E2 X (.BinOp a .FloorDiv b pos) (zW (yj zJ9 fun i j=>.int (i / j)) ta tb):=zGU zL0 (zCg fun u0 u0=>⟨rfl,rfl⟩) ha hb
theorem zFW(ha:E2 X a ta)(hb:E2 X b tb):E2 X (.BinOp a .Mod b pos) (zW (yj (fun u0 j=>0<j) fun i j=>.int (i%j)) ta tb):=zGU zN8 (zCg fun u0 u0=>⟨rfl,rfl⟩) ha hb
theorem zNQ(ha:E2 X a ta)(hb:E2 X b tb):E2 X (.BinOp a .Pow b pos) (zW (yj zDo fun i j=>.int (i ^ j.toNat)) ta tb):=zGU zN9 (zCg fun u0 u0=>⟨rfl,rfl⟩) ha hb
theorem zPc(ha:E2 X a ta)(hb:E2 X b tb):E2 X (.Compare a [.Lt] [b] pos) (zW (fII fun i j=>.bl (decide (i<j))) ta tb):=zNM zNI (zDF fun u0 u0=>⟨rfl,rfl⟩) ha hb (zCN _)
theorem zOP(ha:E2 X a ta)(hb:E2 X b tb):T2 X (.Compare a [.Lt] [b] pos) (xB (zW (fII fun i j=>.bl (decide (i<j))) ta tb)):=zDb zNI (zDF fun u0 u0=>⟨rfl,rfl⟩) ha hb (zCN _)
theorem zPd(ha:E2 X a ta)(hb:E2 X b tb):T2 X (.Compare a [.Gt] [b] pos) (xB (zW (fII fun i j=>.bl (decide (j<i))) ta tb)):=zDb zPO (zDF fun u0 u0=>⟨rfl,rfl⟩) ha hb (zCN _)
theorem zQK(ha:E2 X a ta)(hb:E2 X b tb):T2 X (.Compare a [.GtE] [b] pos) (xB (zW (fII fun i j=>.bl (decide (j≤i))) ta tb)):=zDb zPP (zDF fun u0 u0=>⟨rfl,rfl⟩) ha hb (zCN _)
mutual
noncomputable def eqD:D→D→Bool
 | .non,.non=>true
 | .bl a,.bl b=>a==b
 | .int a,.int b=>a==b
 | .bl a,.int b=>(if a then 1 else 0)==b
 | .int a,.bl b=>a==(if b then 1 else 0)
 | .str a,.str b=>a==b
 | .tup a,.tup b=>eqDs a b
 | _,_=>false
noncomputable def eqDs:List D→List D→Bool
 | [],[]=>true
 | x::xs,y::ys=>eqD x y&&eqDs xs ys
 | _,_=>false
end
noncomputable def flat:Nat→D→Bool
 | _,.non=>true
 | _,.bl _=>true
 | _,.int _=>true
 | _,.str _=>true
 | _,.adr _=>false
 | _,.dic _=>false
 | 0,.tup _=>false
 | n+1,.tup ds=>ds.all (flat n)
theorem zEH:∀(xs ys:List D),eqDs xs ys=((cY (min xs.length ys.length)).all (fun j=>eqD (xs.getD j .non) (ys.getD j .non))&&xs.length==ys.length)
 | [],[]=>by simp[eqDs]
 | [],y::ys=>by simp[eqDs]
 | x::xs,[]=>by simp[eqDs]
 | x::xs,y::ys=>by
  unfold eqDs
  rw[zEH xs ys]
  have e1:min (x::xs).length (y::ys).length=min xs.length ys.length+1:=by simp only[cR];omega
  rw[e1,List.range_succ_eq_map,List.all_cons,List.all_map]
  have e2:((x::xs).length==(y::ys).length)=(xs.length==ys.length):=by
   rw[eM];simp
  rw[e2,Bool.and_assoc]
  rfl
mutual
theorem zGV:∀ d:D,(∀ n,flat n d=true→eqD d d=true)
 | .non,_,_=>rfl
 | .bl b,_,_=>by show(b==b)=true;simp
 | .int b,_,_=>by show(b==b)=true;simp
 | .str b,_,_=>by show(b==b)=true;simp
 | .adr _,n,h=>by cases n<;>simp[flat] at h
 | .dic _,n,h=>by cases n<;>simp[flat] at h
 | .tup ds,0,h=>by simp[flat] at h
 | .tup ds,n+1,h=>by
  show eqDs ds ds=true
  exact eqDs_refl ds n (by simpa[flat] using h)
theorem eqDs_refl:∀ ds:List D,(∀ n,(∀ d∈ds,flat n d=true)→eqDs ds ds=true)
 | [],_,_=>rfl
 | d::ds,n,h=>by
  show(eqD d d&&eqDs ds ds)=true
  rw[zGV d n (h d dt),eqDs_refl ds n fun x hx=>h x (dw _ hx)]
  rfl
end
section
variable {pins:List (Addr×Obj)} {σ1:L2.St} {H:Hp} {s:Shared}
mutual
theorem zO.inj(I:zP X pins σ1 H s):∀ {d d':D} {v:V} {n n':Nat},zO X.K H d v→zO X.K H d' v→flat n d=true→flat n' d'=true→d=d' 
 | .non,d',v,n,n',h,h',f,f'=>by
  unfold zO at h;subst h
  cases d' with
  | tup _=>unfold zO at h';obtain⟨u0,u0,e,u0⟩:=h';cases e
  | dic _=>unfold zO at h';cases h'.1
  | _=>unfold zO at h';first | rfl | cases h'
 | .bl b,d',v,n,n',h,h',f,f'=>by
  unfold zO at h;subst h
  cases d' with
  | tup _=>unfold zO at h';obtain⟨u0,u0,e,u0⟩:=h';cases e
  | dic _=>unfold zO at h';cases h'.1
  | _=>unfold zO at h';first | cases h';rfl | cases h'
 | .int b,d',v,n,n',h,h',f,f'=>by
  unfold zO at h;subst h
  cases d' with
  | tup _=>unfold zO at h';obtain⟨u0,u0,e,u0⟩:=h';cases e
  | dic _=>unfold zO at h';cases h'.1
  | _=>unfold zO at h';first | cases h';rfl | cases h'
 | .str b,d',v,n,n',h,h',f,f'=>by
  unfold zO at h;subst h
  cases d' with
  | tup _=>unfold zO at h';obtain⟨u0,u0,e,u0⟩:=h';cases e
  | dic _=>unfold zO at h';cases h'.1
  | _=>unfold zO at h';first | cases h';rfl | cases h'
 | .adr _,d',v,n,n',h,h',f,f'=>by cases n<;>simp[flat] at f
 | .dic _,d',v,n,n',h,h',f,f'=>by cases n<;>simp[flat] at f
 | .tup ds,d',v,n,n',h,h',f,f'=>by
  unfold zO at h
  obtain⟨a,xs,rfl,hs,hd⟩:=h
  cases d' with
  | tup ds' =>
   unfold zO at h'
   obtain⟨a',xs',e,hs',hd'⟩:=h'
   cases e
   have:=I.tuple_inj hs hs'
   subst this
   cases n with
   | zero=>simp[flat] at f
   | succ n =>
    cases n' with
    | zero=>simp[flat] at f'
    | succ n'=>rw[Dens.inj I hd hd' (by simpa[flat] using f) (by simpa[flat] using f')]
  | adr _=>cases n'<;>simp[flat] at f'
  | dic _=>cases n'<;>simp[flat] at f'
  | _=>unfold zO at h';cases h'
theorem Dens.inj(I:zP X pins σ1 H s):∀ {ds ds':List D} {xs:List V} {n n':Nat},Dens X.K H ds xs→Dens X.K H ds' xs→(∀ d∈ds,flat n d=true)→(∀ d∈ds',flat n' d=true)→ds=ds'
 | [],ds',xs,n,n',h,h',f,f'=>by
  unfold Dens at h;subst h
  cases ds' with
  | nil=>rfl
  | cons _ _=>unfold Dens at h';obtain⟨u0,u0,e,u0⟩:=h';cases e
 | d::ds,ds',xs,n,n',h,h',f,f'=>by
  unfold Dens at h
  obtain⟨x,r,rfl,h1,h2⟩:=h
  cases ds' with
  | nil=>unfold Dens at h';cases h'
  | cons d' ds' =>
   unfold Dens at h'
   obtain⟨x',r',e,h1',h2'⟩:=h'
   cases e
   rw[zO.inj I h1 h1' (f d dt) (f' d' dt),Dens.inj I h2 h2' (fun z hz=>f z (dw _ hz)) fun z hz=>f' z (dw _ hz)]
end
theorem in1_units{A:Around}:A.in1.units=A.units+1:=rfl
theorem zKO(I:zP X pins σ1 H s):∀(n:Nat) (d d':D) (v v':V) (u u':Value) (A:Around),zO X.K H d v→zO X.K H d' v'→RelV v u→RelV v' u'→flat n d=true→flat n d'=true→A.units+n<cLine→SeqAt.EqAt A s u u' (eqD d d'):=by
 intro n
 induction n with
 | zero =>
  intro d d' v v' u u' A h h' r r' f f' hu
  have fv:∀ {d:D} {v:V},flat 0 d=true→zO X.K H d v→zIS v=true∧v=vOf d:=fun {d v} f h=>by
   cases d<;>first | (simp[flat] at f;done) | (unfold zO at h;subst h;exact⟨rfl,rfl⟩)
  obtain⟨f1,e1⟩:=fv f h
  obtain⟨f2,e2⟩:=fv f' h'
  have q:=zKD (A:=A) (s:=s) r r' f1 f2
  have e:eqV v v'=eqD d d':=by
   rw[e1,e2]
   cases d<;>first | (simp[flat] at f;done) | (cases d'<;>first | (simp[flat] at f';done) | rfl)
  rw[← e];exact q
 | succ n ih =>
  intro d d' v v' u u' A h h' r r' f f' hu
  by_cases hs:flat 0 d=true∧flat 0 d'=true
  ·have fv:∀ {d:D} {v:V},flat 0 d=true→zO X.K H d v→zIS v=true∧v=vOf d:=fun {d v} f h=>by
    cases d<;>first | (simp[flat] at f;done) | (unfold zO at h;subst h;exact⟨rfl,rfl⟩)
   obtain⟨f1,e1⟩:=fv hs.1 h
   obtain⟨f2,e2⟩:=fv hs.2 h'
   have q:=zKD (A:=A) (s:=s) r r' f1 f2
   have e:eqV v v'=eqD d d':=by
    rw[e1,e2]
    cases d<;>first | (simp[flat] at hs;done) | (cases d'<;>first | (simp[flat] at hs;done) | rfl)
   rw[← e];exact q
  ·have hu0:A.units<cLine:=by omega
   cases d with
   | tup ds =>
    unfold zO at h
    obtain⟨a,xs,rfl,hsq,hd⟩:=h
    cases r
    obtain⟨its,rv,tp,u0⟩:=I.tuple hsq
    have tp':s.heap.IsTuple a its.toArray:=tp
    cases d' with
    | tup ds' =>
     unfold zO at h'
     obtain⟨a',xs',rfl,hsq',hd'⟩:=h'
     cases r'
     obtain⟨its',rv',tp2,u0⟩:=I.tuple hsq'
     by_cases ha:a=a'
     ·subst ha
      have:=I.tuple_inj hsq hsq'
      subst this
      have hds:ds=ds':=Dens.inj I hd hd' (by simpa[flat] using f) (by simpa[flat] using f')
      subst hds
      have e:eqD (.tup ds) (.tup ds)=true:=zGV _ _ f
      rw[e]
      exact SeqAt.EqAt.same _
     ·have q:=SeqAt.EqAt.of_refs ha (SeqAt.RcAt.tuples (A:=A) (s:=s) (e:=fun j=>eqD (ds.getD j .non) (ds'.getD j .non)) tp' (show s.heap.IsTuple a' its'.toArray from tp2) hu0 fun j h1 h2=>by
       have h1':j<its.length:=by simpa using h1
       have h2':j<its'.length:=by simpa using h2
       have l1:=hd.length
       have l2:=rv.length
       have l3:=hd'.length
       have l4:=rv'.length
       obtain⟨x,ex,dx⟩:=hd.get (i:=j) (d:=ds[j]'(by omega)) (by simp)
       obtain⟨y,ey,dy⟩:=hd'.get (i:=j) (d:=ds'[j]'(by omega)) (by simp)
       obtain⟨ux,eux,rx⟩:=rv.get ex
       obtain⟨uy,euy,ry⟩:=rv'.get ey
       have e1:its.toArray[j]=ux:=by
        have:=(d8.mp eux).2
        simpa using this
       have e2:its'.toArray[j]=uy:=by
        have:=(d8.mp euy).2
        simpa using this
       have g1:ds.getD j .non=ds[j]'(by omega):=by simp[fU,(show j<ds.length by omega)]
       have g2:ds'.getD j .non=ds'[j]'(by omega):=by simp[fU,(show j<ds'.length by omega)]
       rw[e1,e2]
       show SeqAt.EqAt A.in1 s ux uy (eqD (ds.getD j .non) (ds'.getD j .non))
       rw[g1,g2]
       refine ih _ _ x y ux uy A.in1 dx dy rx ry ?_ ?_ (by rw[in1_units];omega)
       ·have:∀ d∈ds,flat n d=true:=by simpa[flat] using f
        exact this _ (fQ _)
       ·have:∀ d∈ds',flat n d=true:=by simpa[flat] using f'
        exact this _ (fQ _))
      have e:eqD (.tup ds) (.tup ds')=((cY (min its.toArray.size its'.toArray.size)).all (fun j=>eqD (ds.getD j .non) (ds'.getD j .non))&&its.toArray.size==its'.toArray.size):=by
       show eqDs ds ds'=_
       rw[zEH]
       simp[hd.length,rv.length,hd'.length,rv'.length]
      rw[e];exact q
    | adr _=>simp[flat] at f'
    | dic _=>simp[flat] at f'
    | non=>unfold zO at h';subst h';cases r';exact SeqAt.EqAt.tuple_none tp' hu0
    | bl _=>unfold zO at h';subst h';cases r';exact SeqAt.EqAt.tuple_bool _ tp' hu0
    | int _=>unfold zO at h';subst h';obtain⟨t,rfl⟩:=r';exact SeqAt.EqAt.tuple_int _ _ tp' hu0
    | str _=>unfold zO at h';subst h';obtain⟨t,rfl⟩:=r';exact SeqAt.EqAt.tuple_str _ _ tp' hu0
   | adr _=>simp[flat] at f
   | dic _=>simp[flat] at f
   | non =>
    cases d' with
    | tup ds' =>
     unfold zO at h h';subst h;cases r
     obtain⟨a',xs',rfl,hsq',hd'⟩:=h'
     cases r'
     obtain⟨its',rv',tp2,u0⟩:=I.tuple hsq'
     exact SeqAt.EqAt.none_tuple (show s.heap.IsTuple a' its'.toArray from tp2) hu0
    | adr _=>simp[flat] at f'
    | dic _=>simp[flat] at f'
    | _=>exact absurd ⟨rfl,rfl⟩ hs
   | bl _ =>
    cases d' with
    | tup ds' =>
     unfold zO at h h';subst h;cases r
     obtain⟨a',xs',rfl,hsq',hd'⟩:=h'
     cases r'
     obtain⟨its',rv',tp2,u0⟩:=I.tuple hsq'
     exact SeqAt.EqAt.bool_tuple _ (show s.heap.IsTuple a' its'.toArray from tp2) hu0
    | adr _=>simp[flat] at f'
    | dic _=>simp[flat] at f'
    | _=>exact absurd ⟨rfl,rfl⟩ hs
   | int _ =>
    cases d' with
    | tup ds' =>
     unfold zO at h h';subst h;obtain⟨t,rfl⟩:=r
     obtain⟨a',xs',rfl,hsq',hd'⟩:=h'
     cases r'
     obtain⟨its',rv',tp2,u0⟩:=I.tuple hsq'
     exact SeqAt.EqAt.int_tuple _ _ (show s.heap.IsTuple a' its'.toArray from tp2) hu0
    | adr _=>simp[flat] at f'
    | dic _=>simp[flat] at f'
    | _=>exact absurd ⟨rfl,rfl⟩ hs
   | str _ =>
    cases d' with
    | tup ds' =>
     unfold zO at h h';subst h;obtain⟨t,rfl⟩:=r
     obtain⟨a',xs',rfl,hsq',hd'⟩:=h'
     cases r'
     obtain⟨its',rv',tp2,u0⟩:=I.tuple hsq'
     exact SeqAt.EqAt.str_tuple _ _ (show s.heap.IsTuple a' its'.toArray from tp2) hu0
    | adr _=>simp[flat] at f'
    | dic _=>simp[flat] at f'
    | _=>exact absurd ⟨rfl,rfl⟩ hs
end
end
section
variable {X:Cx} {pins:List (Addr×Obj)} {σ1:L2.St} {H:Hp} {s:Shared} {A:Around}
theorem zDv(I:zP X pins σ1 H s){n:Nat}{ds ds':List D}{xs xs':List V}{its its':List Value}(hd:Dens X.K H ds xs)(hd':Dens X.K H ds' xs')(rv:zT xs its)(rv':zT xs' its')
  (f:∀ d∈ds,flat n d=true) (f':∀ d∈ds',flat n d=true) (hu:A.units+n<cLine) (j:Nat) (h1:j<its.toArray.size) (h2:j<its'.toArray.size) :
  SeqAt.EqAt A s its.toArray[j] its'.toArray[j] (eqD (ds.getD j .non) (ds'.getD j .non)):=by
 have h1':j<its.length:=by simpa using h1
 have h2':j<its'.length:=by simpa using h2
 have l1:=hd.length
 have l2:=rv.length
 have l3:=hd'.length
 have l4:=rv'.length
 obtain⟨x,ex,dx⟩:=hd.get (i:=j) (d:=ds[j]'(by omega)) (by simp)
 obtain⟨y,ey,dy⟩:=hd'.get (i:=j) (d:=ds'[j]'(by omega)) (by simp)
 obtain⟨ux,eux,rx⟩:=rv.get ex
 obtain⟨uy,euy,ry⟩:=rv'.get ey
 have e1:its.toArray[j]=ux:=by
  have:=(d8.mp eux).2
  simpa using this
 have e2:its'.toArray[j]=uy:=by
  have:=(d8.mp euy).2
  simpa using this
 have g1:ds.getD j .non=ds[j]'(by omega):=by simp[fU,(show j<ds.length by omega)]
 have g2:ds'.getD j .non=ds'[j]'(by omega):=by simp[fU,(show j<ds'.length by omega)]
 rw[e1,e2,g1,g2]
 exact zKO I n _ _ x y ux uy A dx dy rx ry (f _ (fQ _)) (f' _ (fQ _)) hu
theorem zBD{ds ds':List D}{n n':Nat}(h:ds.length=n)(h':ds'.length=n'):eqDs ds ds'=((cY (min n n')).all (fun j=>eqD (ds.getD j .non) (ds'.getD j .non))&&n==n'):=by
 rw[zEH,h,h']
theorem zOQ(I:zP X pins σ1 H s){n:Nat}{d d':D}{v v':V}{u u':Value}(h:zO X.K H d v)(h':zO X.K H d' v')(r:RelV v u)(r':RelV v' u')(f:flat n d=true)(f':flat n d'=true)(hu:A.units+n+1<cLine) :
  SeqAt.RcAt A s u u' (eqD d d'):=by
 have hu0:A.units<cLine:=by omega
 have tupI:∀ {d:D} {v:V} {u:Value} {ds:List D},d=.tup ds→zO X.K H d v→RelV v u→∃ a xs its,u=.ref a∧Dens X.K H ds xs∧zT xs its∧s.heap.IsTuple a its.toArray:=fun {d v u ds} e h r=>by
  subst e
  unfold zO at h
  obtain⟨a,xs,rfl,hs,hd⟩:=h
  cases r
  obtain⟨its,rv,tp,u0⟩:=I.tuple hs
  exact⟨a,xs,its,rfl,hd,rv,tp⟩
 cases d with
 | tup ds =>
  obtain⟨a,xs,its,rfl,hd,rv,tp⟩:=tupI rfl h r
  cases d' with
  | tup ds' =>
   obtain⟨a',xs',its',rfl,hd',rv',tp'⟩:=tupI rfl h' r'
   cases n with
   | zero=>simp[flat] at f
   | succ n =>
    have q:=SeqAt.RcAt.tuples (A:=A) (s:=s) tp tp' hu0 (zDv (A:=A.in1) I hd hd' rv rv' (by simpa[flat] using f) (by simpa[flat] using f') (by rw[in1_units];omega))
    have e:eqD (.tup ds) (.tup ds')=((cY (min its.toArray.size its'.toArray.size)).all (fun j=>eqD (ds.getD j .non) (ds'.getD j .non))&&its.toArray.size==its'.toArray.size) :=
     zBD (by simp[hd.length,rv.length]) (by simp[hd'.length,rv'.length])
    rw[e];exact q
  | adr _=>cases n<;>simp[flat] at f'
  | dic _=>cases n<;>simp[flat] at f'
  | non=>unfold zO at h';subst h';cases r';exact SeqAt.RcAt.tuple_none tp hu0
  | bl _=>unfold zO at h';subst h';cases r';exact SeqAt.RcAt.tuple_bool _ tp hu0
  | int _=>unfold zO at h';subst h';obtain⟨t,rfl⟩:=r';exact SeqAt.RcAt.tuple_int _ _ tp hu0
  | str _=>unfold zO at h';subst h';obtain⟨t,rfl⟩:=r';exact SeqAt.RcAt.tuple_str _ _ tp hu0
 | adr _=>cases n<;>simp[flat] at f
 | dic _=>cases n<;>simp[flat] at f
 | non =>
  unfold zO at h;subst h;cases r
  cases d' with
  | tup ds'=>obtain⟨a',xs',its',rfl,hd',rv',tp'⟩:=tupI rfl h' r';exact SeqAt.RcAt.none_tuple tp' hu0
  | adr _=>cases n<;>simp[flat] at f'
  | dic _=>cases n<;>simp[flat] at f'
  | non=>unfold zO at h';subst h';cases r';exact SeqAt.RcAt.none_none
  | bl _=>unfold zO at h';subst h';cases r';exact SeqAt.RcAt.none_bool _
  | int _=>unfold zO at h';subst h';obtain⟨t,rfl⟩:=r';exact SeqAt.RcAt.none_int _ _
  | str _=>unfold zO at h';subst h';obtain⟨t,rfl⟩:=r';exact SeqAt.RcAt.none_str _ _
 | bl _ =>
  unfold zO at h;subst h;cases r
  cases d' with
  | tup ds'=>obtain⟨a',xs',its',rfl,hd',rv',tp'⟩:=tupI rfl h' r';exact SeqAt.RcAt.bool_tuple _ tp' hu0
  | adr _=>cases n<;>simp[flat] at f'
  | dic _=>cases n<;>simp[flat] at f'
  | non=>unfold zO at h';subst h';cases r';exact SeqAt.RcAt.bool_none _
  | bl _=>unfold zO at h';subst h';cases r';exact SeqAt.RcAt.bool_bool _ _
  | int _=>unfold zO at h';subst h';obtain⟨t,rfl⟩:=r';exact SeqAt.RcAt.bool_int _ _ _
  | str _=>unfold zO at h';subst h';obtain⟨t,rfl⟩:=r';exact SeqAt.RcAt.bool_str _ _ _
 | int _ =>
  unfold zO at h;subst h;obtain⟨t,rfl⟩:=r
  cases d' with
  | tup ds'=>obtain⟨a',xs',its',rfl,hd',rv',tp'⟩:=tupI rfl h' r';exact SeqAt.RcAt.int_tuple _ _ tp' hu0
  | adr _=>cases n<;>simp[flat] at f'
  | dic _=>cases n<;>simp[flat] at f'
  | non=>unfold zO at h';subst h';cases r';exact SeqAt.RcAt.int_none _ _
  | bl _=>unfold zO at h';subst h';cases r';exact SeqAt.RcAt.int_bool _ _ _
  | int _=>unfold zO at h';subst h';obtain⟨t,rfl⟩:=r';exact SeqAt.RcAt.int_int _ _ _ _
  | str _=>unfold zO at h';subst h';obtain⟨t,rfl⟩:=r';exact SeqAt.RcAt.int_str _ _ _ _
 | str _ =>
  unfold zO at h;subst h;obtain⟨t,rfl⟩:=r
  cases d' with
  | tup ds'=>obtain⟨a',xs',its',rfl,hd',rv',tp'⟩:=tupI rfl h' r';exact SeqAt.RcAt.str_tuple _ _ tp' hu0
  | adr _=>cases n<;>simp[flat] at f'
  | dic _=>cases n<;>simp[flat] at f'
  | non=>unfold zO at h';subst h';cases r';exact SeqAt.RcAt.str_none _ _
  | bl _=>unfold zO at h';subst h';cases r';exact SeqAt.RcAt.str_bool _ _ _
  | int _=>unfold zO at h';subst h';obtain⟨t,rfl⟩:=r';exact SeqAt.RcAt.str_int _ _ _ _
  | str _=>unfold zO at h';subst h';obtain⟨t,rfl⟩:=r';exact SeqAt.RcAt.str_str _ _ _ _
theorem zOR(I:zP X pins σ1 H s){n:Nat}{ds ds':List D}{xs xs':List V}{a a':Addr}(hs:SqL X.K H a xs)(hd:Dens X.K H ds xs)(hs':SqL X.K H a' xs')(hd':Dens X.K H ds' xs')(f:∀ d∈ds,flat n d=true)(f':∀ d∈ds',flat n d=true)(hu:A.units+n+1<cLine) :
  SeqAt.RcAt A s (.ref a) (.ref a') (eqDs ds ds'):=by
 have hu0:A.units<cLine:=by omega
 obtain⟨its,rv,pl,u0⟩:=I.list hs
 obtain⟨its',rv',pl',u0⟩:=I.list hs'
 have e:=zBD (ds:=ds) (ds':=ds') (n:=its.toArray.size) (n':=its'.toArray.size) (by simp[hd.length,rv.length]) (by simp[hd'.length,rv'.length])
 by_cases hl:its.toArray.size=its'.toArray.size
 ·have q:=SeqAt.RcAt.lists (A:=A) (s:=s) pl.isList pl'.isList hl hu0 (zDv (A:=A.in1) I hd hd' rv rv' f f' (by rw[in1_units];omega))
  have e':eqDs ds ds'=(cY its.toArray.size).all (fun j=>eqD (ds.getD j .non) (ds'.getD j .non)):=by
   rw[e,← hl];simp
  rw[e'];exact q
 ·have e':eqDs ds ds'=false:=by
   rw[e]
   have:(its.toArray.size==its'.toArray.size)=false:=by simpa using hl
   rw[this,Bool.and_false]
  rw[e']
  exact SeqAt.RcAt.lists_lengths pl.isList pl'.isList (by simpa using hl) hu0
noncomputable def zOS(K:PySem.W.Frag)(ng:Bool):R2:=fun x y H Q=>(∃ d d',zO K H d x∧zO K H d' y∧flat 8 d=true∧flat 8 d'=true∧Q (.bl (if ng then !eqD d d' else eqD d d')) H) ∨
 (∃ a a' xs xs' ds ds',x=.ref a∧y=.ref a'∧SqL K H a xs∧SqL K H a' xs'∧Dens K H ds xs∧Dens K H ds' xs'∧(∀ d∈ds,flat 8 d=true)∧(∀ d∈ds',flat 8 d=true)∧Q (.bl (if ng then !eqDs ds ds' else eqDs ds ds')) H)
theorem zOT(hu:X.A.units+10<cLine):OpR X (compareOp .Eq) (zOS X.K false):=by
 intro pins s σ H x y v u Q I rx ry h
 rcases h with ⟨d,d',h1,h2,f1,f2,q⟩ | ⟨a,a',xs,xs',ds,ds',rfl,rfl,h1,h2,h3,h4,f1,f2,q⟩
 ·exact zOQ (A:=X.A) I h1 h2 rx ry f1 f2 (by omega) X.prog X.w X.xe _ ⟨.bl _,H,I,rfl,q⟩
 ·cases rx;cases ry
  exact zOR (A:=X.A) I h1 h3 h2 h4 f1 f2 (by omega) X.prog X.w X.xe _ ⟨.bl _,H,I,rfl,q⟩
theorem zOU(I:zP X pins σ1 H s){n:Nat}{d d':D}{v v':V}{u u':Value}(h:zO X.K H d v)(h':zO X.K H d' v')(r:RelV v u)(r':RelV v' u')(f:flat n d=true)(f':flat n d'=true)(hu:A.units+n+1<cLine) :
  SeqAt.RcNeAt A s u u' (!eqD d d'):=by
 have hu0:A.units<cLine:=by omega
 have tupI:∀ {d:D} {v:V} {u:Value} {ds:List D},d=.tup ds→zO X.K H d v→RelV v u→∃ a xs its,u=.ref a∧Dens X.K H ds xs∧zT xs its∧s.heap.IsTuple a its.toArray:=fun {d v u ds} e h r=>by
  subst e
  unfold zO at h
  obtain⟨a,xs,rfl,hs,hd⟩:=h
  cases r
  obtain⟨its,rv,tp,u0⟩:=I.tuple hs
  exact⟨a,xs,its,rfl,hd,rv,tp⟩
 cases d with
 | tup ds =>
  obtain⟨a,xs,its,rfl,hd,rv,tp⟩:=tupI rfl h r
  cases d' with
  | tup ds' =>
   obtain⟨a',xs',its',rfl,hd',rv',tp'⟩:=tupI rfl h' r'
   cases n with
   | zero=>simp[flat] at f
   | succ n =>
    have q:=SeqAt.RcNeAt.tuples (A:=A) (s:=s) tp tp' hu0 (zDv (A:=A.in1) I hd hd' rv rv' (by simpa[flat] using f) (by simpa[flat] using f') (by rw[in1_units];omega))
    have e:eqD (.tup ds) (.tup ds')=((cY (min its.toArray.size its'.toArray.size)).all (fun j=>eqD (ds.getD j .non) (ds'.getD j .non))&&its.toArray.size==its'.toArray.size) :=
     zBD (by simp[hd.length,rv.length]) (by simp[hd'.length,rv'.length])
    rw[e];exact q
  | adr _=>cases n<;>simp[flat] at f'
  | dic _=>cases n<;>simp[flat] at f'
  | non=>unfold zO at h';subst h';cases r';exact SeqAt.RcNeAt.tuple_none tp hu0
  | bl _=>unfold zO at h';subst h';cases r';exact SeqAt.RcNeAt.tuple_bool _ tp hu0
  | int _=>unfold zO at h';subst h';obtain⟨t,rfl⟩:=r';exact SeqAt.RcNeAt.tuple_int _ _ tp hu0
  | str _=>unfold zO at h';subst h';obtain⟨t,rfl⟩:=r';exact SeqAt.RcNeAt.tuple_str _ _ tp hu0
 | adr _=>cases n<;>simp[flat] at f
 | dic _=>cases n<;>simp[flat] at f
 | non =>
  unfold zO at h;subst h;cases r
  cases d' with
  | tup ds'=>obtain⟨a',xs',its',rfl,hd',rv',tp'⟩:=tupI rfl h' r';exact SeqAt.RcNeAt.none_tuple tp' hu0
  | adr _=>cases n<;>simp[flat] at f'
  | dic _=>cases n<;>simp[flat] at f'
  | non=>unfold zO at h';subst h';cases r';exact SeqAt.RcNeAt.none_none
  | bl _=>unfold zO at h';subst h';cases r';exact SeqAt.RcNeAt.none_bool _
  | int _=>unfold zO at h';subst h';obtain⟨t,rfl⟩:=r';exact SeqAt.RcNeAt.none_int _ _
  | str _=>unfold zO at h';subst h';obtain⟨t,rfl⟩:=r';exact SeqAt.RcNeAt.none_str _ _
 | bl _ =>
  unfold zO at h;subst h;cases r
  cases d' with
  | tup ds'=>obtain⟨a',xs',its',rfl,hd',rv',tp'⟩:=tupI rfl h' r';exact SeqAt.RcNeAt.bool_tuple _ tp' hu0
  | adr _=>cases n<;>simp[flat] at f'
  | dic _=>cases n<;>simp[flat] at f'
  | non=>unfold zO at h';subst h';cases r';exact SeqAt.RcNeAt.bool_none _
  | bl _=>unfold zO at h';subst h';cases r';exact SeqAt.RcNeAt.bool_bool _ _
  | int _=>unfold zO at h';subst h';obtain⟨t,rfl⟩:=r';exact SeqAt.RcNeAt.bool_int _ _ _
  | str _=>unfold zO at h';subst h';obtain⟨t,rfl⟩:=r';exact SeqAt.RcNeAt.bool_str _ _ _
 | int _ =>
  unfold zO at h;subst h;obtain⟨t,rfl⟩:=r
  cases d' with
  | tup ds'=>obtain⟨a',xs',its',rfl,hd',rv',tp'⟩:=tupI rfl h' r';exact SeqAt.RcNeAt.int_tuple _ _ tp' hu0
  | adr _=>cases n<;>simp[flat] at f'
  | dic _=>cases n<;>simp[flat] at f'
  | non=>unfold zO at h';subst h';cases r';exact SeqAt.RcNeAt.int_none _ _
  | bl _=>unfold zO at h';subst h';cases r';exact SeqAt.RcNeAt.int_bool _ _ _
  | int _=>unfold zO at h';subst h';obtain⟨t,rfl⟩:=r';exact SeqAt.RcNeAt.int_int _ _ _ _
  | str _=>unfold zO at h';subst h';obtain⟨t,rfl⟩:=r';exact SeqAt.RcNeAt.int_str _ _ _ _
 | str _ =>
  unfold zO at h;subst h;obtain⟨t,rfl⟩:=r
  cases d' with
  | tup ds'=>obtain⟨a',xs',its',rfl,hd',rv',tp'⟩:=tupI rfl h' r';exact SeqAt.RcNeAt.str_tuple _ _ tp' hu0
  | adr _=>cases n<;>simp[flat] at f'
  | dic _=>cases n<;>simp[flat] at f'
  | non=>unfold zO at h';subst h';cases r';exact SeqAt.RcNeAt.str_none _ _
  | bl _=>unfold zO at h';subst h';cases r';exact SeqAt.RcNeAt.str_bool _ _ _
  | int _=>unfold zO at h';subst h';obtain⟨t,rfl⟩:=r';exact SeqAt.RcNeAt.str_int _ _ _ _
  | str _=>unfold zO at h';subst h';obtain⟨t,rfl⟩:=r';exact SeqAt.RcNeAt.str_str _ _ _ _
theorem zOV(I:zP X pins σ1 H s){n:Nat}{ds ds':List D}{xs xs':List V}{a a':Addr}(hs:SqL X.K H a xs)(hd:Dens X.K H ds xs)(hs':SqL X.K H a' xs')(hd':Dens X.K H ds' xs')(f:∀ d∈ds,flat n d=true)(f':∀ d∈ds',flat n d=true)(hu:A.units+n+1<cLine) :
  SeqAt.RcNeAt A s (.ref a) (.ref a') (!eqDs ds ds'):=by
 have hu0:A.units<cLine:=by omega
 obtain⟨its,rv,pl,u0⟩:=I.list hs
 obtain⟨its',rv',pl',u0⟩:=I.list hs'
 have e:=zBD (ds:=ds) (ds':=ds') (n:=its.toArray.size) (n':=its'.toArray.size) (by simp[hd.length,rv.length]) (by simp[hd'.length,rv'.length])
 by_cases hl:its.toArray.size=its'.toArray.size
 ·have q:=SeqAt.RcNeAt.lists (A:=A) (s:=s) pl.isList pl'.isList hl hu0 (zDv (A:=A.in1) I hd hd' rv rv' f f' (by rw[in1_units];omega))
  have e':eqDs ds ds'=(cY its.toArray.size).all (fun j=>eqD (ds.getD j .non) (ds'.getD j .non)):=by
   rw[e,← hl];simp
  rw[e'];exact q
 ·have e':eqDs ds ds'=false:=by
   rw[e]
   have:(its.toArray.size==its'.toArray.size)=false:=by simpa using hl
   rw[this,Bool.and_false]
  rw[e']
  exact SeqAt.RcNeAt.lists_lengths pl.isList pl'.isList (by simpa using hl) hu0
theorem zOW(hu:X.A.units+10<cLine):OpR X (compareOp .NotEq) (zOS X.K true):=by
 intro pins s σ H x y v u Q I rx ry h
 rcases h with ⟨d,d',h1,h2,f1,f2,q⟩ | ⟨a,a',xs,xs',ds,ds',rfl,rfl,h1,h2,h3,h4,f1,f2,q⟩
 ·exact zOU (A:=X.A) I h1 h2 rx ry f1 f2 (by omega) X.prog X.w X.xe _ ⟨.bl _,H,I,rfl,q⟩
 ·cases rx;cases ry
  exact zOV (A:=X.A) I h1 h3 h2 h4 f1 f2 (by omega) X.prog X.w X.xe _ ⟨.bl _,H,I,rfl,q⟩
noncomputable def zOX(K:PySem.W.Frag)(ng:Bool):R2:=fun x y H Q=>∃ d ds a xs,zO K H d x∧y=.ref a∧(SqL K H a xs∨SqT K H a xs)∧Dens K H ds xs∧flat 8 d=true∧(∀ z∈ds,flat 8 z=true)∧Q (.bl (if ng then !ds.any fun z=>eqD z d else ds.any fun z=>eqD z d)) H
theorem zJK{its:List Value}{ds:List D}(g:D→Bool)(hl:its.length=ds.length)(hinj:∀(i j:Nat) (u:Value) (z z':D),its[i]?=some u→its[j]?=some u→ds[i]?=some z→ds[j]?=some z'→z=z') :
  ∃ e:Value→Bool,(∀(j:Nat) (u:Value) (z:D),its[j]?=some u→ds[j]?=some z→e u=g z)∧its.any e=ds.any g:=by
 classical
 have key:∀(j:Nat) (u:Value) (z:D),its[j]?=some u→ds[j]?=some z→decide (∃(j:Nat) (z:D),its[j]?=some u∧ds[j]?=some z∧g z=true)=g z:=by
  intro j u z h1 h2
  cases hg:g z with
  | true=>exact decide_eq_true ⟨j,z,h1,h2,hg⟩
  | false =>
   refine decide_eq_false ?_
   rintro⟨j',z',h3,h4,h5⟩
   rw[hinj j j' u z z' h1 h3 h2 h4,h5] at hg
   cases hg
 refine⟨fun u=>decide (∃(j:Nat) (z:D),its[j]?=some u∧ds[j]?=some z∧g z=true),key,?_⟩
 rw[eM,List.any_eq_true,List.any_eq_true]
 constructor
 ·rintro⟨u,hu,he⟩
  obtain⟨j,z,h1,h2,h3⟩:=of_decide_eq_true he
  exact⟨z,dM h2,h3⟩
 ·rintro⟨z,hz,hg⟩
  obtain⟨j,hj⟩:=List.getElem?_of_mem hz
  have hj':j<ds.length:=(d8.mp hj).1
  refine⟨its[j]'(by omega),fQ _,decide_eq_true ⟨j,z,by simp,hj,hg⟩⟩
theorem zDw(I:zP X pins σ1 H s){n:Nat}{ds:List D}{xs:List V}{its:List Value}{d:D}{v:V}{u:Value}(hd:Dens X.K H ds xs)(rv:zT xs its)(h:zO X.K H d v)(r:RelV v u)(f:∀ z∈ds,flat n z=true)(f':flat n d=true)(hu:A.units+n<cLine) :
  ∃ e:Value→Bool,(∀ y,y∈its.toArray→SeqAt.EqAt A s y u (e y))∧its.toArray.any e=ds.any fun z=>eqD z d:=by
 have l1:=hd.length
 have l2:=rv.length
 obtain⟨e,h1,h2⟩:=zJK (its:=its) (ds:=ds) (fun z=>eqD z d) (by omega) (by
  intro i j w z z' a1 a2 a3 a4
  obtain⟨x,b1,b2⟩:=hd.get a3
  obtain⟨x',b3,b4⟩:=hd.get a4
  obtain⟨w1,c1,c2⟩:=rv.get b1
  obtain⟨w2,c3,c4⟩:=rv.get b3
  rw[a1] at c1;cases c1
  rw[a2] at c3;cases c3
  have:=c2.inj c4
  subst this
  exact zO.inj I b2 b4 (f z (dM a3)) (f z' (dM a4)))
 refine⟨e,fun y hy=>?_,by simpa using h2⟩
 have hy':y∈its:=by simpa using hy
 obtain⟨j,hj⟩:=List.getElem?_of_mem hy'
 have hjl:j<its.length:=(d8.mp hj).1
 obtain⟨x,b1,b2⟩:=hd.get (i:=j) (d:=ds[j]'(by omega)) (by simp)
 obtain⟨w1,c1,c2⟩:=rv.get b1
 rw[hj] at c1;cases c1
 rw[h1 j _ (ds[j]'(by omega)) hj (by simp)]
 exact zKO I n _ _ x v _ u A b2 h c2 r (f _ (fQ _)) f' hu
theorem zKP(hu:X.A.units+10<cLine):OpR X (compareOp .In) (zOX X.K false):=by
 intro pins s σ H x y v u Q I rx ry h
 obtain⟨d,ds,a,xs,h1,rfl,h2,h3,f1,f2,q⟩:=h
 cases ry
 rcases h2 with h2 | h2
 ·obtain⟨its,rv,pl,u0⟩:=I.list h2
  obtain⟨e,e1,e2⟩:=zDw (A:=X.A.in1) I h3 rv h1 rx f2 f1 (by rw[in1_units];omega)
  exact SeqAt.in_listAt e pl.isList e1 ⟨.bl _,H,I,rfl,by rw[e2];exact q⟩
 ·obtain⟨its,rv,tp,u0⟩:=I.tuple h2
  obtain⟨e,e1,e2⟩:=zDw (A:=X.A.in1) I h3 rv h1 rx f2 f1 (by rw[in1_units];omega)
  exact SeqAt.in_tupleAt e (show s.heap.IsTuple a its.toArray from tp) e1 ⟨.bl _,H,I,rfl,by rw[e2];exact q⟩
theorem zJL(hu:X.A.units+10<cLine):OpR X (compareOp .NotIn) (zOX X.K true):=by
 intro pins s σ H x y v u Q I rx ry h
 obtain⟨d,ds,a,xs,h1,rfl,h2,h3,f1,f2,q⟩:=h
 cases ry
 rcases h2 with h2 | h2
 ·obtain⟨its,rv,pl,u0⟩:=I.list h2
  obtain⟨e,e1,e2⟩:=zDw (A:=X.A.in1) I h3 rv h1 rx f2 f1 (by rw[in1_units];omega)
  exact SeqAt.notIn_listAt e pl.isList e1 ⟨.bl _,H,I,rfl,by rw[e2];exact q⟩
 ·obtain⟨its,rv,tp,u0⟩:=I.tuple h2
  obtain⟨e,e1,e2⟩:=zDw (A:=X.A.in1) I h3 rv h1 rx f2 f1 (by rw[in1_units];omega)
  exact SeqAt.notIn_tupleAt e (show s.heap.IsTuple a its.toArray from tp) e1 ⟨.bl _,H,I,rfl,by rw[e2];exact q⟩
end
section
variable {X:Cx} {a b c e o:Expr} {es:List Expr} {pos p:Pos} {ta tb te:zm}
noncomputable def fEq(ng:Bool):D→D→Gp→Q2→Prop:=fun x y G R=>match x,y with
 | .adr l,.adr l'=>∃ ds ds',Ls G l ds∧Ls G l' ds'∧(∀ d∈ds,flat 8 d=true)∧(∀ d∈ds',flat 8 d=true)∧R (.bl (if ng then !eqDs ds ds' else eqDs ds ds')) G
 | x,y=>flat 8 x=true∧flat 8 y=true∧R (.bl (if ng then !eqD x y else eqD x y)) G
theorem zKQ{K:PySem.W.Frag}{ng:Bool}:Fit K (zOS K ng) (fEq ng):=by
 intro dx dy G R x y H Q h r d1 d2 k
 unfold fEq at h
 split at h
 ·rename_i l l'
  obtain⟨ds,ds',e1,e2,f1,f2,h⟩:=h
  obtain⟨xs,s1,t1⟩:=r.sq e1
  obtain⟨xs',s2,t2⟩:=r.sq e2
  unfold zO at d1 d2
  exact .inr ⟨l,l',xs,xs',ds,ds',d1,d2,s1,s2,t1,t2,f1,f2,k _ G h _ H (.refl H) r (by unfold zO;rfl)⟩
 ·obtain⟨f1,f2,h⟩:=h
  exact .inl ⟨_,_,d1,d2,f1,f2,k _ G h _ H (.refl H) r (by unfold zO;rfl)⟩
noncomputable def fIn(ng:Bool):D→D→Gp→Q2→Prop:=fun x y G R=>match y with
 | .adr l=>∃ ds,Ls G l ds∧flat 8 x=true∧(∀ d∈ds,flat 8 d=true)∧R (.bl (if ng then !ds.any fun z=>eqD z x else ds.any fun z=>eqD z x)) G
 | .tup ds=>flat 8 x=true∧(∀ d∈ds,flat 8 d=true)∧R (.bl (if ng then !ds.any fun z=>eqD z x else ds.any fun z=>eqD z x)) G
 | _=>False
theorem zHW{K:PySem.W.Frag}{ng:Bool}:Fit K (zOX K ng) (fIn ng):=by
 intro dx dy G R x y H Q h r d1 d2 k
 unfold fIn at h
 split at h
 ·rename_i l
  obtain⟨ds,e1,f1,f2,h⟩:=h
  obtain⟨xs,s1,t1⟩:=r.sq e1
  unfold zO at d2
  exact⟨dx,ds,l,xs,d1,d2,.inl s1,t1,f1,f2,k _ G h _ H (.refl H) r (by unfold zO;rfl)⟩
 ·rename_i ds
  obtain⟨f1,f2,h⟩:=h
  unfold zO at d2
  obtain⟨l,xs,e,s1,t1⟩:=d2
  exact⟨dx,ds,l,xs,d1,e,.inr s1,t1,f1,f2,k _ G h _ H (.refl H) r (by unfold zO;rfl)⟩
 ·exact h.elim
theorem zQL{k:Nat}(hr:zx k X.A)(ha:E2 X a ta)(hb:E2 X b tb)(hm:behindInMarks .In b=false:=by rfl):E2 X (.Compare a [.In] [b] pos) (zW (fIn false) ta tb):=zNM (zKP (by have:=hr.units;omega)) zHW ha hb hm
theorem zHX{k:Nat}(hr:zx k X.A)(ha:E2 X a ta)(hb:E2 X b tb):T2 X (.Compare a [.Eq] [b] pos) (xB (zW (fEq false) ta tb)):=zDb (zOT (by have:=hr.units;omega)) zKQ ha hb (zCN _)
theorem zMH{k:Nat}(hr:zx k X.A)(ha:E2 X a ta)(hb:E2 X b tb):T2 X (.Compare a [.NotEq] [b] pos) (xB (zW (fEq true) ta tb)):=zDb (zOW (by have:=hr.units;omega)) zKQ ha hb (zCN _)
theorem zQM{k:Nat}(hr:zx k X.A)(ha:E2 X a ta)(hb:E2 X b tb)(hm:behindInMarks .In b=false:=by rfl):T2 X (.Compare a [.In] [b] pos) (xB (zW (fIn false) ta tb)):=zDb (zKP (by have:=hr.units;omega)) zHW ha hb hm
theorem zMI{k:Nat}(hr:zx k X.A)(ha:E2 X a ta)(hb:E2 X b tb)(hm:behindInMarks .NotIn b=false:=by rfl):T2 X (.Compare a [.NotIn] [b] pos) (xB (zW (fIn true) ta tb)):=zDb (zJL (by have:=hr.units;omega)) zHW ha hb hm
noncomputable def wD:D→D→Gp→Q2→Prop:=fun x y G R=>match x,y with
 | .adr l,.int k=>∃ ds d,Ls G l ds∧atI ds k=some d∧R d G
 | .tup ds,.int k=>match atI ds k with | some d=>R d G | none=>False
 | _,_=>False
theorem zGW{K:PySem.W.Frag}{H:Hp}{ds:List D}{xs:List V}{k:Int}{d:D}(h:Dens K H ds xs)(e:atI ds k=some d):∃ x,atI xs k=some x∧zO K H d x:=by
 unfold atI at e ⊢
 rw[h.length] at e
 cases q:ixN xs.length k with
 | none=>rw[q] at e;cases e
 | some j =>
  rw[q] at e
  exact h.get e
theorem zOY{K:PySem.W.Frag}:Fit K (fun x y H Q=>zPU K x y H Q∨zPV K x y H Q) wD:=by
 intro dx dy G R x y H Q h r d1 d2 k
 unfold wD at h
 split at h
 ·rename_i l i
  obtain⟨ds,d,e1,e2,h⟩:=h
  obtain⟨xs,s1,t1⟩:=r.sq e1
  obtain⟨z,e3,t2⟩:=zGW t1 e2
  unfold zO at d1 d2
  exact .inl ⟨l,xs,i,z,d1,d2,s1,e3,k _ G h _ H (.refl H) r t2⟩
 ·rename_i ds i
  split at h
  ·rename_i d e2
   unfold zO at d1 d2
   obtain⟨l,xs,e,s1,t1⟩:=d1
   obtain⟨z,e3,t2⟩:=zGW t1 e2
   exact .inr ⟨l,xs,i,z,e,d2,s1,e3,k _ G h _ H (.refl H) r t2⟩
  ·exact h.elim
 ·exact h.elim
theorem yo(ha:E2 X a ta)(hb:E2 X b tb)(hs:zIR b:=by intro u0 u0;rfl):E2 X (.Subscript a b pos) (zW wD ta tb) :=
 PE.mono (zPT (zL8.or zOJ) ha hb hs) fun σ1 H Q h=>zIT zOY h
noncomputable def zHY(K:PySem.W.Frag)(r:List V→Hp→VK→Prop)(f:Sp2):Prop :=
 ∀ ds G R vs H Q,f ds G R→zo K G H→Dens K H ds vs→(∀ d G',R d G'→∀ v H',zj H H'→zo K G' H'→zO K H' d v→Q v H')→r vs H Q
theorem zFX{K:PySem.W.Frag}{r:List V→Hp→VK→Prop}{f:Sp2}{t:wH}(hf:zHY K r f){σ1:L2.St}{H:Hp}{Q:VK}(h:lE K (zL f t) σ1 H Q):tCB r (lA K t) σ1 H Q:=by
 obtain⟨σ,G,R,rl,q,k⟩:=h
 exact⟨σ,G,_,rl,q,fun ds G1 q1 vs H1 g1 r1 d1=>hf ds G1 R vs H1 Q q1 r1 d1 fun d G' q' v H' g'=>k d G' q' v H' (g1.trans g')⟩
theorem zDx{id:String}{x:Str}{r:List V→Hp→VK→Prop}{f:Sp2}{t:wH}(hc:yy X (.builtin id) r)(hf:zHY X.K r f)(hg:Gl X x)(hm:X.mg x=none)(hv:bootBuiltins x=some (.builtin id))(ha:A2 X (e::es) t)(hn:x≠"__name__":=by decide)(hdb:(x==("__debug__":Str))=false:=by decide)
  (he:starEach (e::es) X.env=(false,eval e X.env)::starEach es X.env:=by rfl) (hpl:(backTo pos (starEach es X.env)).any (·.1)=false:=by rfl):E2 X (.Call (.Name x p) (e::es) [] pos) (zL f t) :=
 PE.mono (zAw hc hg hm hv ha hn hdb he hpl) fun σ1 H Q h=>zFX hf h
theorem zGX{T:String}{x:Str}{r:List V→Hp→VK→Prop}{f:Sp2}{t:wH}(hc:yy X (.type T) r)(hf:zHY X.K r f)(hg:Gl X x)(hm:X.mg x=none)(hv:bootBuiltins x=some (.type T))(ha:A2 X (e::es) t)(hn:x≠"__name__":=by decide)(hdb:(x==("__debug__":Str))=false:=by decide)
  (he:starEach (e::es) X.env=(false,eval e X.env)::starEach es X.env:=by rfl) (hpl:(backTo pos (starEach es X.env)).any (·.1)=false:=by rfl):E2 X (.Call (.Name x p) (e::es) [] pos) (zL f t) :=
 PE.mono (zBu hc hg hm hv ha hn hdb he hpl) fun σ1 H Q h=>zFX hf h
noncomputable def zGY(G:Gp):D→List D→Prop
 | .tup es,ds=>es=ds
 | .adr l,ds=>Ls G l ds
 | _,_=>False
theorem zIV{K:PySem.W.Frag}{G:Gp}{H:Hp}{d:D}{v:V}{ds:List D}(r:zo K G H)(h:zO K H d v)(e:zGY G d ds):∃ l xs,v=.ref l∧(SqL K H l xs∨SqT K H l xs)∧Dens K H ds xs:=by
 cases d with
 | tup _ =>
  have e:_=ds:=e
  subst e
  unfold zO at h
  obtain⟨l,xs,e,s1,t1⟩:=h
  exact⟨l,xs,e,.inr s1,t1⟩
 | adr l =>
  unfold zO at h
  obtain⟨xs,s1,t1⟩:=r.sq (show Ls G l ds from e)
  exact⟨l,xs,h,.inl s1,t1⟩
 | _=>exact e.elim
theorem zCk{K:PySem.W.Frag}{H:Hp}{d:D}{vs:List V}(h:Dens K H [d] vs):∃ v,vs=[v]∧zO K H d v:=by
 unfold Dens at h
 obtain⟨v,r,e,h1,h2⟩:=h
 unfold Dens at h2
 subst h2
 exact⟨v,e,h1⟩
theorem zPe{K:PySem.W.Frag}{H:Hp}{d d':D}{vs:List V}(h:Dens K H [d,d'] vs):∃ v v',vs=[v,v']∧zO K H d v∧zO K H d' v':=by
 unfold Dens at h
 obtain⟨v,r,e,h1,h2⟩:=h
 obtain⟨v',e2,h3⟩:=zCk h2
 subst e2
 exact⟨v,v',e,h1,h3⟩
noncomputable def yK:Sp2:=fun ds G R=>match ds with | [d]=>∃ l,zGY G d l∧R (.int l.length) G | _=>False
theorem zMJ:zHY X.K (fun xs H Q=>∃ p ys,xs=[.ref p]∧(SqL X.K H p ys∨SqT X.K H p ys)∧Q (.int ys.length) H) yK:=by
 intro ds G R vs H Q h r d k
 unfold yK at h
 split at h
 ·rename_i d0
  obtain⟨v,rfl,d1⟩:=zCk d
  obtain⟨l,e,h⟩:=h
  obtain⟨a,xs,rfl,s1,t1⟩:=zIV r d1 e
  exact⟨a,xs,rfl,s1,k _ G h _ H (.refl H) r (by rw[← t1.length];unfold zO;rfl)⟩
 ·exact h.elim
theorem zBf{t:wH}(hg:Gl X "len")(hm:X.mg "len"=none)(ha:A2 X [e] t)(he:starEach [e] X.env=(false,eval e X.env)::starEach [] X.env:=by rfl)(hpl:(backTo pos (starEach [] X.env)).any (·.1)=false:=by rfl):E2 X (.Call (.Name "len" p) [e] [] pos) (zL yK t):=zDx zFu zMJ hg hm PySem.boot_len ha (by decide) (by decide) he hpl
noncomputable def zAe:Sp2:=fun ds G R=>match ds with | [.int i,.int j]=>R (.int (if j<i then j else i)) G | _=>False
noncomputable def zAy:Sp2:=fun ds G R=>match ds with | [.int i,.int j]=>R (.int (if j>i then j else i)) G | _=>False
theorem zKR{f:Int→Int→Int}{sp:Sp2}(hs:∀ ds G R,sp ds G R→∃ i j,ds=[.int i,.int j]∧R (.int (f i j)) G):zHY X.K (fun xs H Q=>∃ i j,xs=[.int i,.int j]∧Q (.int (f i j)) H) sp:=by
 intro ds G R vs H Q h r d k
 obtain⟨i,j,rfl,h'⟩:=hs ds G R h
 obtain⟨v,v',rfl,d1,d2⟩:=zPe d
 unfold zO at d1 d2
 subst d1 d2
 exact⟨i,j,rfl,k _ G h' _ H (.refl H) r (by unfold zO;rfl)⟩
theorem zNR{t:wH}{e':Expr}(hc:X.calm=true)(hg:Gl X "min")(hm:X.mg "min"=none)(ha:A2 X [e,e'] t)(he:starEach [e,e'] X.env=(false,eval e X.env)::starEach [e'] X.env:=by rfl)(hpl:(backTo pos (starEach [e'] X.env)).any (·.1)=false:=by rfl):E2 X (.Call (.Name "min" p) [e,e'] [] pos) (zL zAe t):=zDx (zJE hc) (zKR fun ds G R h=>by unfold zAe at h;split at h;exact⟨_,_,rfl,h⟩;exact h.elim) hg hm (by decide +kernel) ha (by decide) (by decide) he hpl
theorem zNS{t:wH}{e':Expr}(hc:X.calm=true)(hg:Gl X "max")(hm:X.mg "max"=none)(ha:A2 X [e,e'] t)(he:starEach [e,e'] X.env=(false,eval e X.env)::starEach [e'] X.env:=by rfl)(hpl:(backTo pos (starEach [e'] X.env)).any (·.1)=false:=by rfl):E2 X (.Call (.Name "max" p) [e,e'] [] pos) (zL zAy t):=zDx (zJD hc) (zKR fun ds G R h=>by unfold zAy at h;split at h;exact⟨_,_,rfl,h⟩;exact h.elim) hg hm (by decide +kernel) ha (by decide) (by decide) he hpl
end
section
variable {X:Cx} {a b c e o:Expr} {es:List Expr} {pos p p2:Pos} {ta tb te to:zm} {tl:TL2}
noncomputable def zMK(K:PySem.W.Frag)(r:List V→Hp→VK→Prop)(g:Sp2):Prop :=
 ∀ ds G R l xs H Q,g ds G R→zo K G H→H l=some (.lst xs)→Dens K H ds xs→(∀ d G',R d G'→∀ v H',zj H H'→zo K G' H'→zO K H' d v→Q v H')→r [.ref l] H Q
noncomputable def yU(g:Sp2)(t:TL2):zm:=fun σ G R=>t σ G fun ds G1=>g ds G1 R
theorem zEI{K:PySem.W.Frag}{r:List V→Hp→VK→Prop}{g:Sp2}(hf:zMK K r g){σ1:L2.St}{H:Hp}{Q:VK}(h:lE K (yU g tl) σ1 H Q):tCB r (zKA (lL K tl) zOD) σ1 H Q:=by
 obtain⟨σ,G,R,rl,q,k⟩:=h
 exact⟨σ,G,_,rl,q,fun ds G1 q1 l xs H1 g1 r1 n e d1=>hf ds G1 R l xs H1 Q q1 r1 e d1 fun d G' q' v H' g'=>k d G' q' v H' (g1.trans g')⟩
theorem zJM{T:String}{x:Str}{r:List V→Hp→VK→Prop}{g:Sp2}(hc:yy X (.type T) r)(hf:zMK X.K r g)(hg:Gl X x)(hm:X.mg x=none)(hv:bootBuiltins x=some (.type T))(ha:F2 X e tl)(hn:x≠"__name__":=by decide)(hdb:(x==("__debug__":Str))=false:=by decide)
  (he:starEach [e] X.env=(false,eval e X.env)::starEach [] X.env:=by rfl) (hpl:(backTo pos (starEach [] X.env)).any (·.1)=false:=by rfl):E2 X (.Call (.Name x p) [e] [] pos) (yU g tl) :=
 PE.mono (zBu hc hg hm hv (yS ha zAA he) hn hdb he hpl) fun σ1 H Q h=>zEI hf h
theorem zGZ{id:String}{x:Str}{r:List V→Hp→VK→Prop}{g:Sp2}(hc:yy X (.builtin id) r)(hf:zMK X.K r g)(hg:Gl X x)(hm:X.mg x=none)(hv:bootBuiltins x=some (.builtin id))(ha:F2 X e tl)(hn:x≠"__name__":=by decide)(hdb:(x==("__debug__":Str))=false:=by decide)
  (he:starEach [e] X.env=(false,eval e X.env)::starEach [] X.env:=by rfl) (hpl:(backTo pos (starEach [] X.env)).any (·.1)=false:=by rfl):E2 X (.Call (.Name x p) [e] [] pos) (yU g tl) :=
 PE.mono (zAw hc hg hm hv (yS ha zAA he) hn hdb he hpl) fun σ1 H Q h=>zEI hf h
noncomputable def wa:Sp2:=fun ds G R=>R (.tup ds) G
theorem zHZ{K:PySem.W.Frag}:zMK K (fun xs H Q=>∃ p ys,xs=[.ref p]∧((SqL K H p ys∧∀ l,H l=none→Q (.ref l) (wC H l (.tup ys)))∨(SqT K H p ys∧Q (.ref p) H))) wa:=by
 intro ds G R l xs H Q h r e d k
 refine⟨l,xs,rfl,.inl ⟨.of e,fun l' n=>k _ G h _ _ (.fresh n) (r.fresh n) ?_⟩⟩
 unfold zO
 exact⟨l',xs,rfl,.of zc,d.grow (.fresh n)⟩
theorem zHa(hg:Gl X "tuple")(hm:X.mg "tuple"=none)(ha:F2 X e tl)(he:starEach [e] X.env=(false,eval e X.env)::starEach [] X.env:=by rfl)(hpl:(backTo pos (starEach [] X.env)).any (·.1)=false:=by rfl) :
  E2 X (.Call (.Name "tuple" p) [e] [] pos) (yU wa tl):=zJM zCD zHZ hg hm (by decide +kernel) ha (by decide) (by decide) he hpl
noncomputable def zDy:Sp2:=fun ds G R=>match ds with | [d]=>∃ l,zGY G d l∧R (.tup l) G | _=>False
theorem zJN{K:PySem.W.Frag}:zHY K (fun xs H Q=>∃ p ys,xs=[.ref p]∧((SqL K H p ys∧∀ l,H l=none→Q (.ref l) (wC H l (.tup ys)))∨(SqT K H p ys∧Q (.ref p) H))) zDy:=by
 intro ds G R vs H Q h r d k
 unfold zDy at h
 split at h
 ·rename_i d0
  obtain⟨v,rfl,d1⟩:=zCk d
  obtain⟨l,e,h⟩:=h
  obtain⟨a,xs,rfl,s1,t1⟩:=zIV r d1 e
  rcases s1 with s1 | s1
  ·refine⟨a,xs,rfl,.inl ⟨s1,fun l' n=>k _ G h _ _ (.fresh n) (r.fresh n) ?_⟩⟩
   unfold zO
   exact⟨l',xs,rfl,.of zc,t1.grow (.fresh n)⟩
  ·refine⟨a,xs,rfl,.inr ⟨s1,k _ G h _ H (.refl H) r ?_⟩⟩
   unfold zO
   exact⟨a,xs,rfl,s1,t1⟩
 ·exact h.elim
theorem zML{t:wH}(hg:Gl X "tuple")(hm:X.mg "tuple"=none)(ha:A2 X [e] t)(he:starEach [e] X.env=(false,eval e X.env)::starEach [] X.env:=by rfl)(hpl:(backTo pos (starEach [] X.env)).any (·.1)=false:=by rfl) :
  E2 X (.Call (.Name "tuple" p) [e] [] pos) (zL zDy t):=zGX zCD zJN hg hm (by decide +kernel) ha (by decide) (by decide) he hpl
theorem zBg:∀ {xs:List V} {us:List Value},xs.length=us.length→(∀(i:Nat) (x:V) (u:Value),xs[i]?=some x→us[i]?=some u→RelV x u)→zT xs us
 | [],[],_,_=>.nil
 | [],_::_,h,_=>by cases h
 | _::_,[],h,_=>by cases h
 | x::xs,u::us,h,g=>.cons (g 0 x u rfl rfl) (zBg (by simpa using h) fun i y w e1 e2=>g (i+1) y w (by simpa using e1) (by simpa using e2))
theorem Dens.ints_inv{K:PySem.W.Frag}{H:Hp}:∀ {ns:List Int} {xs:List V},Dens K H (ns.map D.int) xs→xs=ns.map V.int
 | [],xs,h=>by unfold Dens at h;exact h
 | n::r,xs,h=>by
  rw[eZ] at h
  unfold Dens at h
  obtain⟨x,y,rfl,h1,h2⟩:=h
  unfold zO at h1
  rw[h1,Dens.ints_inv h2];rfl
theorem zFY{t:TA}(hg:Gl X "range")(hm:X.mg "range"=none)(ha:PA X [a] t)(hs:starEach [a] X.env=[(false,eval a X.env)]:=by rfl) :
  PE X (.Call (.Name "range" p) [a] [] pos) (fun σ H Q=>t σ H fun vs H1=>∃ j:Int,vs=[.int j]∧∀ l,H1 l=none→Q (.ref l) (wC H1 l (.rng 0 j))):=by
 intro pins s σ H Q I h
 refine Call_ (zAp I hg hm boot_range (PyProof.Rows.callWith_type1 (wB (ha pos pins s σ H _ I h) fun us s1 ⟨vs,H1,I1,r1,q1⟩=>?_) hs rfl))
 obtain⟨j,e,q⟩:=q1
 subst e
 cases r1 with
 | cons r rr =>
  cases rr
  obtain⟨t,rfl⟩:=r
  refine call_range_1 ?_
  have hn:H1 s1.heap.objs.size=none:=I1.hok.fresh (cX _)
  exact⟨.ref s1.heap.objs.size,_,I1.laid (o:=.rng 0 j) (fun b u e=>cQ _ e) (cX _) ⟨_,_,_,dc _ rfl⟩,rfl,q _ hn⟩
theorem zHb(hc:X.calm=true):yy X (.type "list") (fun xs H Q=>∃ p j,xs=[.ref p]∧H p=some (.rng 0 j)∧(0≤j∧j≤1000000)∧∀ l,H l=none→Q (.ref l) (wC H l (.lst ((cY j.toNat).map fun(k:Nat)=>V.int k)))):=by
 intro pins s σ H xs us Q I r h
 obtain⟨p,j,rfl,hp,⟨h0,h1⟩,q⟩:=h
 obtain⟨u,rfl,rx⟩:=vals1 r
 cases rx
 obtain⟨t1,t2,t3,ho⟩:∃ t u v,s.heap.get? p=some { cls:=.type "range",data:=.fields #[.int 0 t,.int j u,.int 1 v] }:=I.hok p _ hp
 have hsz:Builtin.Range.rangeSize 0 j 1=((j.toNat:Nat):Int):=by rw[rangeSize_one];split<;>omega
 refine call_list_range (I.ok.hd hc) (show IsRange s.heap p 0 j 1 t1 t2 t3 from ho) (small_one (by omega) (by omega) (by omega) (by omega)) hsz (by omega) fun h' tk acc' c' kp e hacc=>?_
 have hn:H s.heap.objs.size=none:=I.hok.fresh (cX _)
 refine⟨.ref s.heap.objs.size,_,I.laid (o:=.lst ((cY j.toNat).map fun(k:Nat)=>V.int k)) kp (cX _) ?_,rfl,q _ hn⟩
 refine⟨?_,acc'.toList,c',?_,by rw[e]⟩
 ·rw[d7,dP,sizeLine_eq];omega
 ·refine zBg (by simp[hacc.1]) fun i x v e1 e2=>?_
  have e2':acc'[i]?=some v:=by simpa using e2
  obtain⟨t,rfl⟩:=hacc.2 i v e2'
  rw[dJ] at e1
  cases q':(cY j.toNat)[i]? with
  | none=>rw[q'] at e1;cases e1
  | some k =>
   rw[q'] at e1
   cases e1
   have hk:k=i:=by
    have:=(d8.mp q').2
    simpa using this.symm
   subst hk
   refine⟨t,?_⟩
   congr 1
   omega
noncomputable def zHc(t:wH):TL2:=fun σ G R=>t σ G fun ds G1=>match ds with | [.int j]=>(0≤j∧j≤1000000)∧R (zw 0 j.toNat) G1 | _=>False
theorem zMM{t:wH}{pos':Pos}(hc:X.calm=true)(hg:Gl X "list")(hm:X.mg "list"=none)(hg2:Gl X "range")(hm2:X.mg "range"=none)(ha:A2 X [a] t)(hs:starEach [a] X.env=[(false,eval a X.env)]:=by rfl)
  (he:starEach [.Call (.Name "range" p2) [a] [] pos] X.env=(false,eval (.Call (.Name "range" p2) [a] [] pos) X.env)::starEach [] X.env:=by rfl) (hpl:(backTo pos' (starEach [] X.env)).any (·.1)=false:=by rfl) :
  F2 X (.Call (.Name "list" p) [.Call (.Name "range" p2) [a] [] pos] [] pos') (zHc t):=by
 refine PE.mono (zBu (zHb hc) hg hm (by decide +kernel) (yS (zFY hg2 hm2 ha hs) zAA he) (by decide) (by decide) he hpl) ?_
 rintro σ1 H Q ⟨σ,G,R,rl,q,k⟩
 refine⟨σ,G,_,rl,q,fun ds G1 q1 vs H1 g1 r1 d1=>?_⟩
 split at q1
 ·rename_i j
  obtain⟨v,rfl,d2⟩:=zCk d1
  unfold zO at d2
  subst d2
  refine⟨j,rfl,fun l n=>⟨l,j,rfl,zc,q1.1,fun l' n'=>?_⟩⟩
  have g2:zj H1 (wC H1 l (.rng 0 j)):=.fresh n
  have r2:=r1.fresh (o:=.rng 0 j) n
  refine k _ G1 q1.2 l' _ _ ((g1.trans g2).trans (.fresh n')) (r2.fresh n') (r2.free n') zc ?_
  have:(cY j.toNat).map (fun(k:Nat)=>V.int k)=((cY j.toNat).map fun(k:Nat)=>(k:Int)).map V.int:=by simp
  rw[this]
  have e2:zw 0 j.toNat=((cY j.toNat).map fun(k:Nat)=>(k:Int)).map D.int:=by simp[zw]
  rw[e2]
  exact Dens.ints _
 ·exact q1.elim
noncomputable def zOZ(ta tb:zm):TL2:=fun σ G R=>ta σ G fun x G1=>tb σ G1 fun y G2=>match x,y with
 | .adr l,.int k=>match G2.m l with
  | some ds=>(0≤k∧k≤1000)∧ds.length≤1000∧R ((di k.toNat ds).flatten) G2
  | none=>False
 | _,_=>False
theorem Dens.rep{K:PySem.W.Frag}{H:Hp}{ds:List D}{xs:List V}(h:Dens K H ds xs):∀ n:Nat,Dens K H (di n ds).flatten (di n xs).flatten
 | 0=>.nil
 | n+1=>by
  rw[cP,fI,cP,fI]
  exact h.append (Dens.rep h n)
theorem zPf(ha:E2 X a ta)(hb:E2 X b tb):F2 X (.BinOp a .Mult b pos) (zOZ ta tb):=by
 refine PE.mono (zJ8 zON ha hb) ?_
 rintro σ1 H Q ⟨σ,G,R,rl,q,k⟩
 refine⟨σ,G,_,rl,q,fun dx G1 q1 x H1 g1 r1 d1=>⟨σ,G1,_,rl.to g1 r1,q1,fun dy G2 q2 y H2 g2 r2 d2=>?_⟩⟩
 split at q2
 ·rename_i l i
  split at q2
  ·rename_i ds e
   obtain⟨⟨h0,h1⟩,hz,q3⟩:=q2
   have d1':=d1.grow g2
   unfold zO at d1' d2
   subst d1' d2
   obtain⟨xs,e1,e2⟩:=r2.m l ds e
   have hlen:=e2.length
   refine⟨l,i,xs,rfl,rfl,e1,by omega,by omega,?_,fun l' n'=>?_⟩
   ·have h3:i.toNat≤1000:=by omega
    have h4:xs.length≤1000:=by omega
    have:=Nat.mul_le_mul h4 h3
    rw[sizeLine_eq];omega
   ·exact k _ G2 q3 l' _ _ ((g1.trans g2).trans (.fresh n')) (r2.fresh n') (r2.free n') zc ((e2.rep i.toNat).grow (.fresh n'))
  ·exact q2.elim
 ·exact q2.elim
noncomputable def zHd(to:zm)(t:wH):zm:=fun σ G R=>to σ G fun x G1=>match x with
 | .adr l=>match G1.m l with
  | some _=>t σ G1 fun ds G2=>match ds with
   | [d]=>(match G2.m l with | some xs=>xs.length≤1000000∧R .non (zQ G2 l (xs++[d])) | none=>False)
   | _=>False
  | none=>False
 | _=>False
theorem zEJ{t:wH}{apos:Pos}(ho:E2 X o to)(ha:A2 X [e] t)
  (hbase:attributeBase o "append" X.env (eval o X.env)=eval o X.env:=by rfl)
  (hfew:((backTo pos (starEach [e] X.env)).all (fun x=>!x.1)&&(backToKw pos (keywordEach [] X.env)).all (fun x=>x.1.isSome)
   && decide ([e].length+([]:List Keyword).length+(if ([]:List Keyword).isEmpty then 0 else 1)<30))=true:=by rfl)
  (hline:(apos.endLine==pos.line)=true:=by rfl) (hs:starEach [e] X.env=(false,eval e X.env)::starEach [] X.env:=by rfl) (hplain:(backTo pos (starEach [] X.env)).any (·.1)=false:=by rfl) :
  E2 X (.Call (.Attribute o "append" apos) [e] [] pos) (zHd to t):=by
 refine PE.mono (zKE PySem.F.plainAttrs_list PySem.F.slot_list_append PySem.F.type_list_append zFP ho ha hbase hfew hline hs hplain) ?_
 rintro σ1 H Q ⟨σ,G,R,rl,q,k⟩
 refine⟨σ,G,_,rl,q,fun dx G1 q1 x H1 g1 r1 d1=>?_⟩
 split at q1
 ·rename_i l
  split at q1
  ·rename_i ds0 e0
   unfold zO at d1
   subst d1
   obtain⟨xs0,a1,a2⟩:=r1.m l ds0 e0
   refine⟨.inl ⟨rfl,xs0,.of a1⟩,σ,G1,_,rl.to g1 r1,q1,fun ds G2 q2 vs H2 g2 r2 d2=>?_⟩
   split at q2
   ·rename_i d
    split at q2
    ·rename_i xs e1
     obtain⟨v,rfl,d3⟩:=zCk d2
     obtain⟨ys,b1,b2⟩:=r2.m l xs e1
     have hlen:=b2.length
     refine⟨l,ys,v,rfl,rfl,b1,by rw[sizeLine_eq];omega,?_⟩
     exact k _ _ q2.2 _ _ ((g1.trans g2).trans (.lst b1)) (r2.put b1 (b2.append (.cons d3 .nil))) (by unfold zO;rfl)
    ·exact q2.elim
   ·exact q2.elim
  ·exact q1.elim
 ·exact q1.elim
noncomputable def zKS(to:zm)(t:TL2):zm:=fun σ G R=>to σ G fun x G1=>match x with
 | .adr l=>match G1.m l with
  | some _=>t σ G1 fun zs G2=>match G2.m l with | some xs=>xs.length+zs.length≤1000000∧R .non (zQ G2 l (xs++zs)) | none=>False
  | none=>False
 | _=>False
theorem zGa{apos:Pos}(ho:E2 X o to)(ha:F2 X e tl)
  (hbase:attributeBase o "extend" X.env (eval o X.env)=eval o X.env:=by rfl)
  (hfew:((backTo pos (starEach [e] X.env)).all (fun x=>!x.1)&&(backToKw pos (keywordEach [] X.env)).all (fun x=>x.1.isSome)
   && decide ([e].length+([]:List Keyword).length+(if ([]:List Keyword).isEmpty then 0 else 1)<30))=true:=by rfl)
  (hline:(apos.endLine==pos.line)=true:=by rfl) (hs:starEach [e] X.env=(false,eval e X.env)::starEach [] X.env:=by rfl) (hplain:(backTo pos (starEach [] X.env)).any (·.1)=false:=by rfl) :
  E2 X (.Call (.Attribute o "extend" apos) [e] [] pos) (zKS to tl):=by
 refine PE.mono (zKE PySem.F.plainAttrs_list PySem.F.slot_list_extend PySem.F.type_list_extend zJG ho (yS ha zAA hs) hbase hfew hline hs hplain) ?_
 rintro σ1 H Q ⟨σ,G,R,rl,q,k⟩
 refine⟨σ,G,_,rl,q,fun dx G1 q1 x H1 g1 r1 d1=>?_⟩
 split at q1
 ·rename_i l
  split at q1
  ·rename_i ds0 e0
   unfold zO at d1
   subst d1
   obtain⟨xs0,a1,a2⟩:=r1.m l ds0 e0
   refine⟨.inl ⟨rfl,xs0,.of a1⟩,σ,G1,_,rl.to g1 r1,q1,fun zs G2 q2 l2 ys H2 g2 r2 n2 e2 d2=>?_⟩
   split at q2
   ·rename_i xs e1
    obtain⟨ws,b1,b2⟩:=r2.m l xs e1
    have hl1:=b2.length
    have hl2:=d2.length
    refine⟨l,l2,ws,ys,rfl,rfl,b1,e2,by rw[sizeLine_eq];omega,?_⟩
    exact k _ _ q2.2 _ _ ((g1.trans g2).trans (.lst b1)) (r2.put b1 (b2.append d2)) (by unfold zO;rfl)
   ·exact q2.elim
  ·exact q1.elim
 ·exact q1.elim
noncomputable def zMN(to:zm)(t:wH):zm:=fun σ G R=>to σ G fun x G1=>match x with
 | .adr l=>match G1.m l with
  | some _=>t σ G1 fun ds G2=>match ds with
   | [.int i]=>(match G2.m l with
    | some xs=>(0≤i∧i<xs.length∧i≤1000000)∧(match xs[i.toNat]? with | some d=>R d (zQ G2 l (xs.eraseIdx i.toNat)) | none=>False)
    | none=>False)
   | _=>False
  | none=>False
 | _=>False
theorem zPg{t:wH}{apos:Pos}(ho:E2 X o to)(ha:A2 X [e] t)
  (hbase:attributeBase o "pop" X.env (eval o X.env)=eval o X.env:=by rfl)
  (hfew:((backTo pos (starEach [e] X.env)).all (fun x=>!x.1)&&(backToKw pos (keywordEach [] X.env)).all (fun x=>x.1.isSome)
   && decide ([e].length+([]:List Keyword).length+(if ([]:List Keyword).isEmpty then 0 else 1)<30))=true:=by rfl)
  (hline:(apos.endLine==pos.line)=true:=by rfl) (hs:starEach [e] X.env=(false,eval e X.env)::starEach [] X.env:=by rfl) (hplain:(backTo pos (starEach [] X.env)).any (·.1)=false:=by rfl) :
  E2 X (.Call (.Attribute o "pop" apos) [e] [] pos) (zMN to t):=by
 refine PE.mono (zKE PySem.F.plainAttrs_list PySem.F.slot_list_pop PySem.F.type_list_pop zKF ho ha hbase hfew hline hs hplain) ?_
 rintro σ1 H Q ⟨σ,G,R,rl,q,k⟩
 refine⟨σ,G,_,rl,q,fun dx G1 q1 x H1 g1 r1 d1=>?_⟩
 split at q1
 ·rename_i l
  split at q1
  ·rename_i ds0 e0
   unfold zO at d1
   subst d1
   obtain⟨xs0,a1,a2⟩:=r1.m l ds0 e0
   refine⟨.inl ⟨rfl,xs0,.of a1⟩,σ,G1,_,rl.to g1 r1,q1,fun ds G2 q2 vs H2 g2 r2 d2=>?_⟩
   split at q2
   ·rename_i i
    split at q2
    ·rename_i xs e1
     obtain⟨⟨h0,h1,h9⟩,q2⟩:=q2
     split at q2
     ·rename_i d e2
      obtain⟨v,rfl,d3⟩:=zCk d2
      unfold zO at d3
      subst d3
      obtain⟨ys,b1,b2⟩:=r2.m l xs e1
      have hlen:=b2.length
      obtain⟨z,c1,c2⟩:=b2.get e2
      refine⟨l,ys,i,i.toNat,z,rfl,rfl,b1,by omega,by omega,?_,c1,?_⟩
      ·have hi:¬ i<0:=by omega
       unfold seqIndex?
       simp only[if_neg hi]
       rw[if_pos (by rw[fF];exact⟨decide_eq_true h0,decide_eq_true (by omega)⟩)]
      ·exact k _ _ q2 _ _ ((g1.trans g2).trans (.lst b1)) (r2.put b1 (b2.eraseIdx i.toNat)) (c2.grow (.lst b1))
     ·exact q2.elim
    ·exact q2.elim
   ·exact q2.elim
  ·exact q1.elim
 ·exact q1.elim
noncomputable def zHe(i:Nat)(te:zm)(f:Int→Int→Int):yg:=fun E σ G=>match look σ i with
 | some (.int a)=>te σ G fun y G1=>match y with | .int b=>E.nx (σ.set i (some (.int (f a b)))) G1 | _=>False
 | _=>False
noncomputable def zKT(tc:TT2)(tb:yg):yg:=fun E σ G=>∃ Pv:Nat→S2→Gp→Prop,(∃ m,Pv m σ G)∧∀ m σ G,Pv m σ G→tc σ G fun b G1=>if b=true then tb { E with nx:=Fg fun σ' G'=>∃ m',m'<m∧Pv m' σ' G',ct:=Fg fun σ' G'=>∃ m',m'<m∧Pv m' σ' G',bk:=E.nx } σ G1 else E.nx σ G1
theorem zMO{tc:TT2}{tb:yg}{body:List Stmt}(hp:PassesOwn (model X.prog X.w) X.A X.env X.xe)(hc:T2 X c tc)(hb:Ps2 X body tb):P2 X (.While c body [] pos) (zKT tc tb):=by
 refine PS.mono (L2.zJ6 hp hc hb) ?_
 rintro E σ1 H ⟨σ,G,D2,r,⟨Pv,⟨m0,p0⟩,pt⟩,k⟩
 refine⟨fun m σ1' H'=>zj H H'∧∃ σ' G',Rel X.K σ' G' σ1' H'∧Pv m σ' G',⟨m0,.refl H,σ,G,r,p0⟩,?_⟩
 rintro m σ1' H' ⟨g',σ',G',r',p'⟩
 refine⟨σ',G',_,r',pt m σ' G' p',fun b G1 q1 H1 g1 r1=>?_⟩
 cases b with
 | false=>exact k.nx _ G1 q1 _ H1 (g'.trans g1) (r'.to g1 r1)
 | true =>
  refine⟨fun σ1'' H''=>∃ m',m'<m∧(zj H H''∧∃ σ'' G'',Rel X.K σ'' G'' σ1'' H''∧Pv m' σ'' G''),fun σ1'' H'' h=>h,σ',G1,_,r'.to g1 r1,q1,?_⟩
  have back:∀ σ3 G3,Fg (fun σ' G'=>∃ m',m'<m∧Pv m' σ' G') σ3 G3→∀ σ13 H3,zj H1 H3→Rel X.K σ3 G3 σ13 H3→∃ m',m'<m∧(zj H H3∧∃ σ'' G'',Rel X.K σ'' G'' σ13 H3∧Pv m' σ'' G''):=by
   rintro σ3 G3 ⟨σ4,G4,a1,a2,m',hm,a3⟩ σ13 H3 g3 r3
   exact⟨m',hm,(g'.trans g1).trans g3,σ4,G4,r3.sub a1 a2,a3⟩
  exact⟨back,fun σ3 G3 q3 σ13 H3 g3 r3=>k.nx σ3 G3 q3 σ13 H3 ((g'.trans g1).trans g3) r3,back,fun d3 G3 q3 v3 H3 g3 r3 dv=>k.rt d3 G3 q3 v3 H3 ((g'.trans g1).trans g3) r3 dv⟩
end
section
variable {P:Program} {w:World} {K:PySem.W.Frag} {mg:Str→Option Value} {base:Heap}
noncomputable def FgR(R:Q2):Q2:=fun d G=>∃ G',Sub G' G∧R d G'
theorem FgR.of{R:Q2}{d:D}{G:Gp}(h:R d G):FgR R d G:=⟨G,.refl G,h⟩
noncomputable def zS(N:List Str)(ds:List D):S2:=ds.map some++di (N.length-ds.length) none
theorem zDH{N:List Str}{ds:List D}{vs:List V}{G:Gp}{H:Hp}(r:zo K G H)(d:Dens K H ds vs):Rel K (zS N ds) G (L2.start N vs) H :=
 ⟨r,by simp[zS,L2.start,d.length],fun i x e=>by
  unfold zS at e
  unfold L2.start
  by_cases hi:i<ds.length
  ·rw[el (by simpa using hi),dJ] at e
   cases q:ds[i]? with
   | none=>rw[q] at e;cases e
   | some y =>
    rw[q] at e;cases e
    obtain⟨v,e1,e2⟩:=d.get q
    refine⟨v,?_,e2⟩
    rw[el (by rw[d7,← d.length];exact hi),dJ,e1];rfl
  ·rw[dY (by simpa using hi),fG] at e
   split at e<;>cases e⟩
theorem zPh{x qual:Str}{st:Stmt}{f:Addr}{fd:FuncData}{N ps:List Str}{k:Nat}{sp:Sp2}(F:Fun K x qual st f fd)(S:za N ps (zC st))(hm:mg x=some (.ref f))(hb:Binds K fd ps [])(len:∀ ds G R,sp ds G R→ds.length=ps.length)
  (hbody:∀(cdv:Value) (A:Around) (outer:List Env) (s:Shared) (H:Hp) (E:XK),zx k (A.deeper (envOfC qual (zC st) s.heap.objs.size f cdv)) →
   ∃ t,Ps2 (zAq CX0 P w K mg base N qual (zC st) f cdv A outer s H E).nox (zV st) t∧∀ ds G R,sp ds G R→t { nx:=fun u0 G'=>FgR R .non G',rt:=FgR R } (zS N ds) G):Df P w K mg base (k+1) x ps sp:=by
 refine⟨f,fd,F.ok S ?_ ?_,hm,F.kp,hb⟩
 ·rintro vs H Q E ⟨ds,G,R,d,r,h,u0⟩
  rw[← d.length]
  exact len ds G R h
 ·intro cdv A outer s H vs Q E hr h
  obtain⟨ds,G,R,d,r,h,kk⟩:=h
  obtain⟨t,ht,q⟩:=hbody cdv A outer s H E hr
  refine⟨_,ht,zS N ds,G,_,zDH r d,q ds G R h,⟨?_,?_,?_,?_⟩⟩
  ·rintro σ G' ⟨G'',s',q'⟩ σ1 H' g' r'
   exact kk _ G'' q' _ H' g' (r'.g.sub s') (by unfold zO;rfl)
  ·intro σ G' h;exact h.elim
  ·intro σ G' h;exact h.elim
  ·rintro d' G' ⟨G'',s',q'⟩ v H' g' r' dv
   exact kk _ G'' q' _ H' g' (r'.sub s') dv
noncomputable abbrev zf(R:Q2):zy:={ nx:=fun u0 G'=>FgR R .non G',rt:=FgR R }
theorem yV{x qual:Str}{st:Stmt}{f:Addr}{fd:FuncData}{N ps:List Str}{k:Nat}{sp:Sp2}(t:yg)(F:Fun K x qual st f fd)(S:za N ps (zC st))(hm:mg x=some (.ref f))(hb:Binds K fd ps [])
  (ht:∀(cdv:Value) (A:Around) (outer:List Env) (s:Shared) (H:Hp) (E:XK),zx k (A.deeper (envOfC qual (zC st) s.heap.objs.size f cdv))→Ps2 (zAq CX0 P w K mg base N qual (zC st) f cdv A outer s H E).nox (zV st) t)
  (hs:∀ ds G R,sp ds G R→ds.length=ps.length∧t (zf R) (zS N ds) G):Df P w K mg base (k+1) x ps sp :=
 zPh F S hm hb (fun ds G R h=>(hs ds G R h).1) fun cdv A outer s H E hr=>⟨t,ht cdv A outer s H E hr,fun ds G R h=>(hs ds G R h).2⟩
end
noncomputable def zFZ(osc sc:Scope):List (Str×NameKind):=sc.names.map fun(n,k)=>if (k==NameKind.free&&osc.kind==.function&&osc.names.lookup n==some .cell) then (n,NameKind.cell) else (n,k)
noncomputable def zOa(ns:List (Str×NameKind))(x:Str):Bool:=match ns.lookup x with | some .local=>true | some .cell=>true | some .free=>true | _=>false
noncomputable def zNT(osc sc:Scope)(N N0 own:List Str):Bool :=
 decide (sc.kind=.function)&&sc.names.all (fun y=>decide (y.2≠.cell))&&sc.names.all (fun y=>decide (y.2=.local→sc.names.lookup y.1=some .local))
 && sc.names.all (fun y=>decide (y.2=.free→osc.names.lookup y.1=some .cell∨osc.names.lookup y.1=some .free))
 && decide (N0.length=N.length)&&(cY N0.length).all (fun i=>match N0[i]? with | some x=>!zOa (zFZ osc sc) x||decide (N[i]?=some x∧sc.names.lookup x=some .free) | none=>true)
 && decide ((N0++own).Nodup)&&own.all (fun x=>decide ((zFZ osc sc).lookup x=some .local))
structure zKU (X:Cx) (sc:Scope) (N0 own:List Str):Prop where
 ok:zDE X sc N0
 nd:(N0++own).Nodup
 loc:∀ x∈own,(relabel sc X.env).names.lookup x=some .local
theorem yf{X:Cx}{osc sc:Scope}{N N0 own:List Str}(h:zNT osc sc N N0 own=true)(e1:X.env.scope=osc:=by rfl)(e2:X.N=N:=by rfl):zKU X sc N0 own:=by
 subst e1 e2
 unfold zNT at h
 simp only[fF,decide_eq_true_eq,List.all_eq_true] at h
 obtain⟨⟨⟨⟨⟨⟨⟨h1,h2⟩,h3⟩,h4⟩,h5⟩,h6⟩,h7⟩,h8⟩:=h
 refine⟨⟨h1,h2,h3,h4,h5,fun i x e v=>?_⟩,h7,h8⟩
 have hi:i<N0.length:=(d8.mp e).1
 have q:=h6 i (dL.mpr hi)
 rw[e] at q
 dsimp only at q
 have hv:zOa (zFZ X.env.scope sc) x=true:=by
  have v':(zFZ X.env.scope sc).lookup x=some .local∨(zFZ X.env.scope sc).lookup x=some .cell∨(zFZ X.env.scope sc).lookup x=some .free:=v
  unfold zOa
  rcases v' with v' | v' | v'<;>rw[v']
 rw[hv] at q
 simpa using q
section
variable {X:Cx} {elt iter:Expr} {pos:Pos} {te:zm} {ifs:List Expr} {sc:Scope} {N0:List Str} {wi:TI2} {tc:TT2}
theorem zE5(x:Str){px:Pos}(hc:X.calm=true)(T:zKU X sc N0 [x])(hi:I2 X (.Name x px) iter wi)
  (ht:∀ C s H fp pins,Ts2 (X.comp (N0++[x]) sc C s H fp pins) ifs tc) (he:∀ C s H fp pins,E2 (X.comp (N0++[x]) sc C s H fp pins) elt te)
  (hs:∀ x,foldedSetIterable iter X.env x=pure x:=by intro u0;rfl):F2 X (.ListComp elt [⟨.Name x px,iter,ifs,0⟩] sc pos) (yT wi bd1 tc te) :=
 zMG x hc T.ok hi T.nd (T.loc x (by simp)) ht he hs
theorem zIW(i:Nat)(x:Str){y:Str}{px py spos:Pos}(hc:X.calm=true)(T:zKU X sc N0 [x])(hi:I2 X (.Name x px) iter wi)
  (ht:∀ C s H fp pins,Ts2 (X.comp (N0++[x]) sc C s H fp pins) ifs tc) (he:∀ C s H fp pins,E2 (X.comp (N0++[x]) sc C s H fp pins) elt te)
  (hN:X.N.Nodup) (hy:X.N[i]?=some y:=by rfl) (hl:X.env.scope.names.lookup y=some .local:=by rfl)
  (hsw:swapsWith (.ListComp elt [⟨.Name x px,iter,ifs,0⟩] sc pos) (some (.Name y py)) spos.line X.env=pure true:=by rfl)
  (hs:∀ x,foldedSetIterable iter X.env x=pure x:=by intro u0;rfl):P2 X (.Assign [.Name y py] (.ListComp elt [⟨.Name x px,iter,ifs,0⟩] sc pos) spos) (zCE i (yT wi bd1 tc te)) :=
 zHU i x hc T.ok hi T.nd (T.loc x (by simp)) ht he hN hy hl hsw hs
end
structure Ext (G G':Gp):Prop where
 sub:Sub G G'
 ro:G'.ro=G.ro
theorem Ext.refl(G:Gp):Ext G G:=⟨.refl G,rfl⟩
theorem Ext.trans{G G1 G2:Gp}(h:Ext G G1)(h':Ext G1 G2):Ext G G2:=⟨h.sub.trans h'.sub,h'.ro.trans h.ro⟩
theorem Ext.new{G:Gp}{l:Addr}{o:List D}(h:G.m l=none):Ext G (zQ G l o):=⟨.new h,rfl⟩
theorem Ext.ls{G G':Gp}(h:Ext G G'){a:Addr}{ds:List D}(e:Ls G a ds):Ls G' a ds:=e.sub h.sub
theorem Ext.own{G G':Gp}(h:Ext G G'){A:Addr}(n:G'.m A=none):G.m A=none:=by
 cases q:G.m A with
 | none=>rfl
 | some u=>rw[h.sub.m A u q] at n;cases n
noncomputable def yA(t:zm)(σ:S2)(G:Gp)(d:D):Prop:=∀ G2,Ext G G2→∀ R:D→Gp→Prop,R d G2→t σ G2 R
noncomputable def PuT(t:TT2)(σ:S2)(G:Gp)(b:Bool):Prop:=∀ G2,Ext G G2→∀ R:Bool→Gp→Prop,R b G2→t σ G2 R
noncomputable def PuL(t:TL2)(σ:S2)(G:Gp)(ds:List D):Prop:=∀ G2,Ext G G2→∀ R:List D→Gp→Prop,R ds G2→t σ G2 R
noncomputable def PuA(t:wH)(σ:S2)(G:Gp)(ds:List D):Prop:=∀ G2,Ext G G2→∀ R:List D→Gp→Prop,R ds G2→t σ G2 R
noncomputable def PuI(t:TI2)(σ:S2)(G:Gp)(ds:List D):Prop:=∀ G2,Ext G G2→∀ R:List D→(Gp→Prop)→Gp→Prop,(∀ gd G3,Ext G2 G3→(∀ G4,Ext G3 G4→gd G4)→R ds gd G3)→t σ G2 R
theorem yA.mono{t:zm}{σ:S2}{G G':Gp}{d:D}(h:yA t σ G d)(e:Ext G G'):yA t σ G' d:=fun G2 x=>h G2 (e.trans x)
section
variable {σ:S2} {G:Gp}
theorem zF{i:Nat}{d:D}(h:look σ i=some d):yA (zD i) σ G d:=fun G2 u0 R q=>by unfold zD;rw[h];exact q
theorem yp{d:D}:yA (xC d) σ G d:=fun u0 u0 u0 q=>q
theorem zU:PuA zI σ G []:=fun u0 u0 u0 q=>q
theorem zH{ta:zm}{tr:wH}{d:D}{ds:List D}(h:yA ta σ G d)(h':PuA tr σ G ds):PuA (zA ta tr) σ G (d::ds):=fun G2 x R q=>h G2 x _ (h' G2 x _ q)
theorem zBE{t:wH}{ds:List D}(h:PuA t σ G ds)(hl:ds.length≤100000):yA (yl t) σ G (.tup ds):=fun G2 x R q=>h G2 x _ ⟨by rw[sizeLine_eq];omega,q⟩
theorem wu{f:D→D→Gp→Q2→Prop}{ta tb:zm}{x y d:D}(ha:yA ta σ G x)(hb:yA tb σ G y)(h:∀ G2,Ext G G2→∀ R:D→Gp→Prop,R d G2→f x y G2 R):yA (zW f ta tb) σ G d:=fun G2 e R q=>ha G2 e _ (hb G2 e _ (h G2 e R q))
theorem zFa{g:Int→Int→D}{ta tb:zm}{i j:Int}(ha:yA ta σ G (.int i))(hb:yA tb σ G (.int j)):yA (zW (fII g) ta tb) σ G (g i j):=wu ha hb fun u0 u0 u0 q=>q
theorem wE{sp:Sp2}{t:wH}{ds:List D}{d:D}(ha:PuA t σ G ds)(h:∀ G2,Ext G G2→∀ R:D→Gp→Prop,R d G2→sp ds G2 R):yA (zL sp t) σ G d:=fun G2 e R q=>ha G2 e _ (h G2 e R q)
theorem zCl{t:zm}{b:Bool}(h:yA t σ G (.bl b)):PuT (xB t) σ G b:=fun G2 e R q=>h G2 e _ q
theorem zOb:PuT zCi σ G true:=fun u0 u0 u0 q=>q
theorem zIX{t:TT2}{b:Bool}(h:PuT t σ G b):PuT (zBe t) σ G (!b):=fun G2 e R q=>h G2 e _ q
theorem zFb{t:zm}{ds:List D}(h:yA t σ G (.tup ds)):PuI (iV t) σ G ds:=fun G2 e R q=>h G2 e _ (q _ G2 (.refl _) fun u0 u0=>trivial)
theorem zBw{t:zm}{a:Addr}{ds:List D}(h:yA t σ G (.adr a))(hr:Ls G a ds):PuI (iV t) σ G ds:=fun G2 e R q=>h G2 e _ ⟨ds,e.ls hr,q _ G2 (.refl _) fun G4 e4=>e4.ls (e.ls hr)⟩
end
end L3
namespace HT
section
variable {prog:Program} {w:World} {A:Around} {E:Value→Shared→Prop} {s:Shared}
theorem zKV{t b:Addr}{ws:List Value}{Q:Value→Shared→Prop}(ht:IsTup s.heap t #[])(hb:IsTup s.heap b ws.toArray)(h:Q (.ref b) s):wpAny (model prog w) A (binaryOp .Add (.ref t) (.ref b)) Q E s:=by
 obtain⟨⟨cls,dd,data,sl⟩,ho,hc,n,hd⟩:=id ht
 obtain⟨⟨cls2,dd2,data2,sl2⟩,ho2,hc2,n2,hd2⟩:=id hb
 simp only at hc hd hc2 hd2
 subst hc hd hc2 hd2
 exact concat_meets ⟨_,ho,rfl⟩ ⟨_,ho2,rfl⟩ noFill_tuple_add seq_tuple_add PySem.F.slot_tuple_add PySem.F.entry_tuple_add (PySem.F.args_tuple_add_2 _ _)
   (tuple_addW0 t b #[] ws.toArray n n2 dd dd2 sl sl2 rfl) ⟨ho,ho2,h⟩
theorem zE6{Q:List Value→Shared→Prop}{r:Addr}{a b c:Int}{t u v:Tok}{n:Nat}(hh:A.handled=none)(hr:IsRange s.heap r a b c t u v)(hsmall:Builtin.Range.small a b c=true)
  (hn:Builtin.Range.rangeSize a b c=n) (hlen:n≤2 ^ 24)
  (hQ:∀ h' tk acc,(∀ b o,s.heap.get? b=some o→h'.get? b=some o)→ItemsOf (fun i v=>∃ t,v=.int (a+i*c) t) acc n→Q acc.toList { s with heap:=h',toks:=tk }) :
  wpAny (model prog w) A (collect (.ref r)) Q E s:=by
 unfold collect
 refine cL (wpAny_runValue (dZ PySem.F.entry_proto_collect ?_))
 rw[Around.under_plainId PySem.F.plain_proto_collect _]
 show wpAny _ A.in1 (newList []>>=fun l=>again (.builtin "list.__iadd__" ⟨[l,.ref r],[]⟩)) _ _ s
 refine cL (dN ?_)
 refine cT ⟨plainId_quiet PySem.F.plain_list_iadd _,dZ PySem.F.entry_list_iadd ?_⟩
 rw[Around.under_plainId PySem.F.plain_list_iadd _]
 show wpAny _ A.in1 (Builtin.List.listExtendWith (.ref s.heap.objs.size) (.ref r) (.ref s.heap.objs.size)) _ _ _
 have hS:(s.heap.push { cls:=.type "list",data:=.seq ([]:List Value).toArray }).get? s.heap.objs.size=some { cls:=.type "list",data:=.seq #[] 0 }:=dc _ rfl
 refine eN (wpAny_extend_range (A:=A) (R:=fun res s'=>∃ h' tk acc c',res=.ok (.ret (.ref s.heap.objs.size))∧s'={ s with heap:=h',toks:=tk }∧(∀ b o,s.heap.get? b=some o→h'.get? b=some o)∧h'.get? s.heap.objs.size=some { cls:=.type "list",dict:=none,data:=.seq acc c',slots:=#[] }∧ItemsOf (fun i v=>∃ t,v=.int (a+i*c) t) acc n)
  (s:={ s with heap:=s.heap.push { cls:=.type "list",data:=.seq ([]:List Value).toArray } }) hh (cQ _ hr) hsmall hn hlen s.heap.objs.size (.ref s.heap.objs.size) 0 hS fun h' tk acc' c' hk hS' hacc=>?_) (fun fin s' h=>?_) (fun e s' h=>?_)
 ·exact⟨h',tk,acc',c',rfl,rfl,fun b o e=>hk b o (dB (db e)) (cQ _ e),hS',hacc⟩
 ·have fin':∀ {r' s''},(∃ h' tk acc c',r'=(.ok (.ret (.ref s.heap.objs.size)):Result)∧s''={ s with heap:=h',toks:=tk }∧(∀ b o,s.heap.get? b=some o→h'.get? b=some o)∧h'.get? s.heap.objs.size=some { cls:=.type "list",dict:=none,data:=.seq acc c',slots:=#[] }∧ItemsOf (fun i v=>∃ t,v=.int (a+i*c) t) acc n) →
    wpAny (model prog w) A (match Value.ref s.heap.objs.size with
     | Value.ref a=>do
      match (← load a).data with
       | Data.seq xs _=>pure xs.toList
       | _=>unsupported "internal:collect"
     | _=>unsupported "internal:collect") Q E s'':=by
   rintro r' s'' ⟨h',tk,acc,c',rfl,rfl,hk,hS',hacc⟩
   show wpAny _ A (load s.heap.objs.size>>=_) _ _ _
   refine cL (wpAny_load hS' ?_)
   exact cT (hQ h' tk acc hk hacc)
  cases fin with
  | done f =>
   have hf:=h
   obtain⟨h',tk,acc,c',e,u0⟩:=h
   cases e
   exact fin' hf
  | again c'=>exact⟨h.1,eV h.2 fun r s'' hr=>by
    have hf:=hr
    obtain⟨h',tk,acc,c',e,u0⟩:=hr
    subst e
    exact fin' hf⟩
 ·obtain⟨u0,u0,u0,u0,e,u0⟩:=h
  cases e
theorem zBa(r:Addr)(a b c:Int)(t u v:Tok)(n:Nat)(hsmall:Builtin.Range.small a b c=true)(hn:Builtin.Range.rangeSize a b c=n)(hlen:n≤2 ^ 24) :
  Meets (Builtin.«tuple.__new__» ⟨[.type "tuple",.ref r],[]⟩)
   (fun A R s=>A.handled=none∧IsRange s.heap r a b c t u v∧∀(h':Heap) tk acc,(∀ b o',s.heap.get? b=some o'→h'.get? b=some o')→ItemsOf (fun i v=>∃ t,v=.int (a+i*c) t) acc n→R (.ok (.ret (.ref h'.objs.size))) { s with heap:=h'.push { cls:=.type "tuple",data:=.seq acc },toks:=tk }) :=
 .of_wp fun prog w A R s h=>by
  obtain⟨hp,g,d,tk,os⟩:=s;obtain⟨hh,ht,h⟩:=h
  have hsub:=sub_tuple_self
  have hinit:=init_tuple_lookup
  have hmh:=madeHere_tuple
  have hT:Shared.TypeIs ⟨hp,g,d,tk,os⟩ (.ref r) "range":=⟨_,ht,rfl⟩
  wp_walk using fZ hT,zE6 (A:=A.in1) hh ht hsmall hn hlen
  intro h' tk' acc hk hacc
  show wpAny _ _ (Builtin.Tuple.tupleExact acc.toList.toArray>>=fun v=>ret v) _ _ _
  unfold Builtin.Tuple.tupleExact
  refine cL (dN ?_ (by show acc.toList.toArray.size≤sizeLine;simp only[Array.toArray_toList];rw[hacc.1,sizeLine_eq];omega))
  refine cT ⟨_,rfl,?_⟩
  have e:acc.toList.toArray=acc:=by simp
  rw[e]
  exact h h' tk' acc hk hacc
theorem zDI{Q:Value→Shared→Prop}{r:Addr}{a b c:Int}{t u v:Tok}{n:Nat}(hh:A.handled=none)(hr:IsRange s.heap r a b c t u v)(hsmall:Builtin.Range.small a b c=true)
  (hn:Builtin.Range.rangeSize a b c=n) (hlen:n≤2 ^ 24)
  (hQ:∀(h':Heap) tk acc,(∀ b o,s.heap.get? b=some o→h'.get? b=some o)→ItemsOf (fun i v=>∃ t,v=.int (a+i*c) t) acc n→Q (.ref h'.objs.size) { s with heap:=h'.push { cls:=.type "tuple",data:=.seq acc },toks:=tk }) :
  wpAny (model prog w) A (call (.type "tuple") [.ref r]) Q E s :=
 callType_new PySem.F.called_tuple (by decide) (PySem.F.typeCall_tuple_1 _) (PySem.F.newCall_tuple_1 _) (fun obj=>PySem.F.args_object_init_2 obj _) PySem.F.entry_tuple_new
  (zBa r a b c t u v n hsmall hn hlen) ⟨hh,hr,fun h' tk acc hk hacc=>⟨⟨_,dc _ rfl,rfl⟩,hQ h' tk acc hk hacc⟩⟩
theorem zB8{t sl:Addr}{items:Array Value}{vl vu:Value}{lo hi:Option Int}{Q:Value→Shared→Prop}(ht:IsTup s.heap t items)(hs:s.heap.IsSliceOf sl vl vu .none)(pl:IsPart vl lo)(pu:IsPart vu hi)
  (hw:yz items.size 0 lo=0∧yz items.size items.size hi=items.size)
  (h:Q (.ref t) s):wpAny (model prog w) A (getItem (.ref t) (.ref sl)) Q E s:=by
 obtain⟨os,hos,hcs,hds⟩:=id hs
 have hTs:s.TypeIs (.ref sl) "slice":=⟨os,hos,hcs⟩
 unfold getItem
 try with_reducible refine eu ?_
 first | refine cL (cT ?_) | skip
 refine cL (wpAny_sequenceKey ht.typeIs (by decide) ?_)
 refine cL (wpAny_callSpecial?_slot (name:=Str.ofString "__getitem__") ht.typeIs PyProof.Rows.slot_tuple_getitem
  (eY PyProof.Rows.slot_tuple_getitem ht.typeIs entry_tuple_getitem ?_ (args_tuple_getitem _ _)))
 show wpAny _ _ (Builtin.Tuple.tupleItemsOf (.ref t)>>=_) _ _ s
 refine cL (tupleItemsOf_ ht ?_)
 refine cL (fZ hTs ?_)
 rw[if_pos (by decide)]
 refine cL (zAx hs pl pu ?_)
 have hyes:((((yz items.size 0 lo:Nat):Int)==0&&(1:Int)==1&&(yz items.size items.size hi-yz items.size 0 lo)==items.size)=true):=by
  rw[hw.1,hw.2];simp
 show wpAny _ _ (if (((yz items.size 0 lo:Nat):Int)==0&&(1:Int)==1&&(yz items.size items.size hi-yz items.size 0 lo)==items.size)=true then _ else _) _ _ s
 rw[if_pos hyes]
 unfold Builtin.Tuple.tupleIsExact
 refine cL (cL (fZ ht.typeIs (cT ?_)))
 rw[if_pos (by rfl)]
 refine cL (fO ?_)
 first
  | exact cT ⟨_,rfl,cT h⟩
  | exact cL (cT (cT ⟨_,rfl,cT h⟩))
end
end HT
namespace L3
open L2
section
variable {X:Cx} {a b c e o:Expr} {es:List Expr} {pos p:Pos} {ta tb te:zm}
noncomputable def yq:D→D→Gp→Q2→Prop:=fun x y G R=>match x,y with
 | .int i,.int j=>R (.int (i+j)) G
 | .tup xs,.tup ys=>xs.length+ys.length≤1000000∧R (.tup (xs++ys)) G
 | _,_=>False
theorem OpR.or{f:Value→Value→Sem Value}{r r':R2}(h:OpR X f r)(h':OpR X f r'):OpR X f (fun x y H Q=>r x y H Q∨r' x y H Q):=by
 intro pins s σ H x y v u Q I rx ry q
 rcases q with q | q
 ·exact h pins s σ H x y v u Q I rx ry q
 ·exact h' pins s σ H x y v u Q I rx ry q
noncomputable def zNU(K:PySem.W.Frag):R2:=fun x y H Q=>∃ a b ys,x=.ref a∧y=.ref b∧SqT K H a []∧SqT K H b ys∧Q (.ref b) H
theorem zMP:OpR X (binaryOp .Add) (zNU X.K):=by
 intro pins s σ H x y v u Q I rx ry h
 obtain⟨a,b,ys,rfl,rfl,ha,hb,q⟩:=h
 cases rx
 cases ry
 obtain⟨its,r1,p1,u0⟩:=I.tuple ha
 obtain⟨its2,r2,p2,u0⟩:=I.tuple hb
 have:its=[]:=r1.nil_iff.mpr rfl
 subst this
 exact HT.zKV p1 p2 ⟨.ref b,H,I,rfl,q⟩
theorem zMQ{K:PySem.W.Frag}:Fit K (fun x y H Q=>rI0 (fun i j=>.int (i+j)) x y H Q∨zNK K x y H Q∨zNU K x y H Q) yq:=by
 intro dx dy G R x y H Q h r d1 d2 k
 unfold yq at h
 split at h
 ·rename_i i j
  unfold zO at d1 d2
  subst d1 d2
  exact .inl ⟨i,j,rfl,rfl,k _ G h _ H (.refl H) r (by unfold zO;rfl)⟩
 ·rename_i xs ys
  obtain⟨hz,h⟩:=h
  unfold zO at d1 d2
  obtain⟨a,us,rfl,s1,t1⟩:=d1
  obtain⟨b,ws,rfl,s2,t2⟩:=d2
  have l1:=t1.length
  have l2:=t2.length
  by_cases hx:xs=[]
  ·subst hx
   have hu:us=[]:=g9.mp (by rw[← l1];rfl)
   subst hu
   exact .inr (.inr ⟨a,b,ws,rfl,rfl,s1,s2,k _ G h _ H (.refl H) r (by unfold zO;exact⟨b,ws,rfl,s2,by simpa using t2⟩)⟩)
  ·refine .inr (.inl ⟨a,b,us,ws,rfl,rfl,s1,s2,fun z=>hx (g9.mp (by rw[l1,z];rfl)),by rw[sizeLine_eq];omega,fun z=>?_,fun u0 p hp=>?_⟩)
   ·have hy:ys=[]:=g9.mp (by rw[l2,z];rfl)
    subst hy
    exact k _ G h _ H (.refl H) r (by unfold zO;exact⟨a,us,rfl,s1,by simpa using t1⟩)
   ·exact k _ G h _ _ (.fresh hp) (r.fresh hp) (by unfold zO;exact⟨p,us++ws,rfl,.of zc,(t1.append t2).grow (.fresh hp)⟩)
 ·exact h.elim
theorem zAW(ha:E2 X a ta)(hb:E2 X b tb):E2 X (.BinOp a .Add b pos) (zW yq ta tb):=zGU (zN5.or (zL7.or zMP)) zMQ ha hb
noncomputable def zIY(ta tb:zm):TL2:=fun σ G R=>ta σ G fun x G1=>tb σ G1 fun y G2=>match x,y with
 | .adr l,.adr m=>∃ xs ys,G2.m l=some xs∧G2.m m=some ys∧xs.length+ys.length≤1000000∧R (xs++ys) G2
 | _,_=>False
theorem zNV(ha:E2 X a ta)(hb:E2 X b tb):F2 X (.BinOp a .Add b pos) (zIY ta tb):=by
 refine PE.mono (zJ8 zOM ha hb) ?_
 rintro σ1 H Q ⟨σ,G,R,rl,q,k⟩
 refine⟨σ,G,_,rl,q,fun dx G1 q1 x H1 g1 r1 d1=>⟨σ,G1,_,rl.to g1 r1,q1,fun dy G2 q2 y H2 g2 r2 d2=>?_⟩⟩
 split at q2
 ·rename_i l m
  obtain⟨xs,ys,e1,e2,hz,q3⟩:=q2
  have d1':=d1.grow g2
  unfold zO at d1' d2
  subst d1' d2
  obtain⟨us,a1,a2⟩:=r2.m l xs e1
  obtain⟨ws,b1,b2⟩:=r2.m m ys e2
  have l1:=a2.length
  have l2:=b2.length
  refine⟨l,m,us,ws,rfl,rfl,a1,b1,by rw[sizeLine_eq];omega,fun p hp=>?_⟩
  exact k _ G2 q3 p _ _ ((g1.trans g2).trans (.fresh hp)) (r2.fresh hp) (r2.free hp) zc ((a2.append b2).grow (.fresh hp))
 ·exact q2.elim
theorem zJO(hc:X.calm=true):yy X (.type "tuple") (fun xs H Q=>∃ p j,xs=[.ref p]∧H p=some (.rng 0 j)∧(0≤j∧j≤1000000)∧∀ l,H l=none→Q (.ref l) (wC H l (.tup ((cY j.toNat).map fun(k:Nat)=>V.int k)))):=by
 intro pins s σ H xs us Q I r h
 obtain⟨p,j,rfl,hp,⟨h0,h1⟩,q⟩:=h
 obtain⟨u,rfl,rx⟩:=vals1 r
 cases rx
 obtain⟨t1,t2,t3,ho⟩:∃ t u v,s.heap.get? p=some { cls:=.type "range",data:=.fields #[.int 0 t,.int j u,.int 1 v] }:=I.hok p _ hp
 have hsz:Builtin.Range.rangeSize 0 j 1=((j.toNat:Nat):Int):=by rw[rangeSize_one];split<;>omega
 refine HT.zDI (I.ok.hd hc) (show IsRange s.heap p 0 j 1 t1 t2 t3 from ho) (small_one (by omega) (by omega) (by omega) (by omega)) hsz (by omega) fun h' tk acc kp hacc=>?_
 have I1:zP X pins σ H { s with heap:=h',toks:=tk }:=I.kept (t':=tk) kp
 have hn:H h'.objs.size=none:=I1.hok.fresh (cX _)
 refine⟨.ref h'.objs.size,_,I1.laid (t':=tk) (o:=.tup ((cY j.toNat).map fun(k:Nat)=>V.int k)) (fun b ob q=>cQ _ q) (cX _) ?_,rfl,q _ hn⟩
 refine⟨?_,acc.toList,?_,by simpa using zDn.new _ _⟩
 ·rw[d7,dP,sizeLine_eq];omega
 ·refine zBg (by simp[hacc.1]) fun i x v e1 e2=>?_
  have e2':acc[i]?=some v:=by simpa using e2
  obtain⟨t,rfl⟩:=hacc.2 i v e2'
  rw[dJ] at e1
  cases q':(cY j.toNat)[i]? with
  | none=>rw[q'] at e1;cases e1
  | some k =>
   rw[q'] at e1
   cases e1
   have hk:k=i:=by
    have:=(d8.mp q').2
    simpa using this.symm
   subst hk
   refine⟨t,?_⟩
   congr 1
   omega
noncomputable def zKW(t:wH):zm:=fun σ G R=>t σ G fun ds G1=>match ds with | [.int j]=>(0≤j∧j≤1000000)∧R (.tup (zw 0 j.toNat)) G1 | _=>False
theorem zOc{t:wH}{pos' p2:Pos}(hc:X.calm=true)(hg:Gl X "tuple")(hm:X.mg "tuple"=none)(hg2:Gl X "range")(hm2:X.mg "range"=none)(ha:A2 X [a] t)(hs:starEach [a] X.env=[(false,eval a X.env)]:=by rfl)
  (he:starEach [.Call (.Name "range" p2) [a] [] pos] X.env=(false,eval (.Call (.Name "range" p2) [a] [] pos) X.env)::starEach [] X.env:=by rfl) (hpl:(backTo pos' (starEach [] X.env)).any (·.1)=false:=by rfl) :
  E2 X (.Call (.Name "tuple" p) [.Call (.Name "range" p2) [a] [] pos] [] pos') (zKW t):=by
 refine PE.mono (zBu (zJO hc) hg hm (by decide +kernel) (yS (zFY hg2 hm2 ha hs) zAA he) (by decide) (by decide) he hpl) ?_
 rintro σ1 H Q ⟨σ,G,R,rl,q,k⟩
 refine⟨σ,G,_,rl,q,fun ds G1 q1 vs H1 g1 r1 d1=>?_⟩
 split at q1
 ·rename_i j
  obtain⟨v,rfl,d2⟩:=zCk d1
  unfold zO at d2
  subst d2
  refine⟨j,rfl,fun l n=>⟨l,j,rfl,zc,q1.1,fun l' n'=>?_⟩⟩
  have g2:zj H1 (wC H1 l (.rng 0 j)):=.fresh n
  have r2:=r1.fresh (o:=.rng 0 j) n
  refine k _ G1 q1.2 _ _ ((g1.trans g2).trans (.fresh n')) (r2.fresh n') ?_
  have:(cY j.toNat).map (fun(k:Nat)=>V.int k)=((cY j.toNat).map fun(k:Nat)=>(k:Int)).map V.int:=by simp
  rw[this]
  have e2:zw 0 j.toNat=((cY j.toNat).map fun(k:Nat)=>(k:Int)).map D.int:=by simp[zw]
  rw[e2]
  unfold zO
  exact⟨l',_,rfl,.of zc,Dens.ints _⟩
 ·exact q1.elim
noncomputable def zQN(K:PySem.W.Frag):V→Option Int→Option Int→Hp→VK→Prop:=fun x lo hi H Q=>∃ a xs,x=.ref a∧SqT K H a xs∧(HT.yz xs.length 0 lo=0∧HT.yz xs.length xs.length hi=xs.length)∧Q (.ref a) H
theorem zMR:SlR X (zQN X.K):=by
 intro pins s σ H x v vl vu lo hi sl Q I rx hs pl pu h
 obtain⟨a,xs,rfl,hx,hw,q⟩:=h
 cases rx
 obtain⟨its,r,ht,hz⟩:=I.tuple hx
 have hlen:its.toArray.size=xs.length:=by rw[dg];exact r.length.symm
 refine⟨"tuple",_,PyProof.Rows.slot_tuple_getitem.lookup,ht.typeIs,?_⟩
 exact HT.zB8 ht hs pl pu (by rw[hlen];exact hw) ⟨.ref a,H,I,rfl,q⟩
noncomputable abbrev TO2:=S2→Gp→(Option Int→Gp→Prop)→Prop
noncomputable def lO(K:PySem.W.Frag)(t:TO2):TO:=fun σ1 H Q=>∃ σ G R,Rel K σ G σ1 H∧t σ G R∧∀ o G',R o G'→∀ H',zj H H'→zo K G' H'→Q o H'
noncomputable def O2(X:Cx)(e:Option Expr)(t:TO2):Prop:=PO X e (lO X.K t)
noncomputable def yr:TO2:=fun u0 G R=>R none G
noncomputable def wO(t:zm):TO2:=fun σ G R=>t σ G fun d G1=>match d with | .int i=>R (some i) G1 | _=>False
theorem zEK:O2 X none yr:=by
 intro pins s σ1 H Q I h
 refine zL5 pins s σ1 H Q I ?_
 obtain⟨σ,G,R,r,q,k⟩:=h
 exact k none G q H (.refl H) r.g
theorem zCS(h:E2 X e te):O2 X (some e) (wO te):=by
 intro pins s σ1 H Q I q
 refine zL6 h pins s σ1 H Q I ?_
 obtain⟨σ,G,R,r,q,k⟩:=q
 refine⟨σ,G,_,r,q,fun d G1 q1 v H1 g1 r1 d1=>?_⟩
 cases d with
 | int i =>
  unfold zO at d1
  exact⟨i,d1,k _ G1 q1 H1 g1 r1⟩
 | _=>exact q1.elim
noncomputable def cutD(xs:List D)(lo hi:Option Int):List D:=(xs.drop (HT.yz xs.length 0 lo)).take (HT.yz xs.length xs.length hi-HT.yz xs.length 0 lo)
noncomputable def wP(t:zm)(tl th:TO2):zm:=fun σ G R=>t σ G fun d G1=>tl σ G1 fun lo G2=>th σ G2 fun hi G3=>match d with | .tup xs=>R (.tup (cutD xs lo hi)) G3 | _=>False
theorem zCm{lo hi:Option Expr}{tl th:TO2}{p2:Pos}(he:E2 X e te)(hl:O2 X lo tl)(hu:O2 X hi th):E2 X (.Subscript e (.Slice lo hi none p2) pos) (wP te tl th):=by
 refine PE.mono (zGQ (zOI.or zMR) he hl hu) ?_
 rintro σ1 H Q ⟨σ,G,R,r,q,k⟩
 refine⟨σ,G,_,r,q,fun d G1 q1 v H1 g1 r1 d1=>⟨σ,G1,_,r.to g1 r1,q1,fun o1 G2 q2 H2 g2 r2=>⟨σ,G2,_,r.to (g1.trans g2) r2,q2,fun o2 G3 q3 H3 g3 r3=>?_⟩⟩⟩
 cases d with
 | tup xs =>
  have d1':=(d1.grow g2).grow g3
  unfold zO at d1'
  obtain⟨a,us,rfl,s1,t1⟩:=d1'
  have hl:=t1.length
  by_cases hw:HT.yz us.length 0 o1=0∧HT.yz us.length us.length o2=us.length
  ·refine .inr ⟨a,us,rfl,s1,hw,k _ G3 q3 _ H3 ((g1.trans g2).trans g3) r3 ?_⟩
   have e:cutD xs o1 o2=xs:=by
    unfold cutD
    rw[hl,hw.1,hw.2]
    simp[← hl]
   rw[e]
   unfold zO
   exact⟨a,us,rfl,s1,t1⟩
  ·refine .inl ⟨a,us,rfl,s1,hw,fun p hp=>k _ G3 q3 _ _ (((g1.trans g2).trans g3).trans (.fresh hp)) (r3.fresh hp) ?_⟩
   unfold zO
   refine⟨p,_,rfl,.of zc,?_⟩
   unfold cutD zGR
   rw[hl]
   exact((t1.drop).take).grow (.fresh hp)
 | _=>exact q3.elim
theorem zT.reverse:∀ {xs:List V} {us:List Value},zT xs us→zT xs.reverse us.reverse
 | _,_,.nil=>.nil
 | _,_,.cons r rr=>by
  rw[gC,gC]
  exact(zT.reverse rr).append (.cons r .nil)
end
section
variable {σ:S2} {G:Gp}
theorem yt{α:Type}{ds:List α}{i:Nat}{x:α}(h:ds[i]?=some x):ds.take (i+1)=ds.take i++[x]:=by
 rw[List.take_add_one,h];rfl
theorem zCn{wi:TI2}{bd:D→Option (List D)}{tc:TT2}{te:zm}{ds:List D}(p:D→Bool)(f:D→D)(us:D→List D)(hw:PuI wi σ G ds)
  (hx:∀ x∈ds,bd x=some (us x)∧PuT tc (σ++(us x).map some) G (p x)∧(p x=true→yA te (σ++(us x).map some) G (f x))):PuL (yT wi bd tc te) σ G ((ds.filter p).map f):=by
 intro G2 e R q
 refine hw G2 e _ fun gd G3 e3 hgd A nA=>?_
 refine⟨fun i acc G'=>G'=zQ G3 A acc∧acc=((ds.take i).filter p).map f,⟨rfl,by simp⟩,?_,?_,?_⟩
 ·rintro i acc G' hi ⟨rfl,rfl⟩
  refine⟨hgd _ (.new nA),zG,?_⟩
  rw[d7]
  exact eD (fT _ _) (by rw[dO];omega)
 ·rintro i x acc G' hi ⟨rfl,rfl⟩
  obtain⟨hb,ht,he⟩:=hx x (dM hi)
  rw[hb]
  dsimp only
  have ex:Ext G (zQ G3 A (((ds.take i).filter p).map f)):=(e.trans e3).trans (.new nA)
  refine ht _ ex _ ?_
  cases hp:p x with
  | false =>
   rw[if_neg (by simp)]
   exact .of ⟨rfl,by rw[yt hi];simp[hp]⟩
  | true =>
   rw[if_pos rfl]
   refine he hp _ ex _ ⟨zG,.of ⟨zBv,by rw[yt hi];simp[hp]⟩⟩
 ·rintro acc G' ⟨rfl,rfl⟩
  exact⟨G2,e3.own nA,e3.sub.trans (.new nA),by rw[fP];exact q⟩
theorem zHf{wi:TI2}{bd:D→Option (List D)}{te:zm}{ds:List D}(f:D→D)(us:D→List D)(hw:PuI wi σ G ds)
  (hx:∀ x∈ds,bd x=some (us x)∧yA te (σ++(us x).map some) G (f x)):PuL (yT wi bd zCi te) σ G (ds.map f):=by
 have:=zCn (tc:=zCi) (fun u0=>true) f us hw fun x h=>⟨(hx x h).1,zOb,fun u0=>(hx x h).2⟩
 rwa [List.filter_eq_self.mpr (fun u0 u0=>rfl)] at this
theorem zDJ{t:wH}{j:Int}(h:PuA t σ G [.int j])(hj:-1000000≤j∧j≤1000000):PuI (iR1 t) σ G (zw 0 j.toNat):=fun G2 e R q=>h G2 e _ ⟨hj,q _ G2 (.refl _) fun u0 u0=>trivial⟩
theorem zJP{t:wH}{i j:Int}(h:PuA t σ G [.int i,.int j])(hj:(-1000000≤i∧i≤1000000)∧-1000000≤j∧j≤1000000):PuI (iR2 t) σ G (zw i (j-i).toNat):=fun G2 e R q=>h G2 e _ ⟨hj,q _ G2 (.refl _) fun u0 u0=>trivial⟩
theorem wt.nil:wt [] []:=.refl _
theorem wt.keep{o:Option D}{r r':S2}(h:wt r r'):wt (o::r) (o::r'):=⟨by simp[h.len],fun i d e=>by
 cases i with
 | zero=>simpa using e
 | succ i=>simpa using h.val i d (by simpa using e)⟩
theorem wt.skip{o:Option D}{r r':S2}(h:wt r r'):wt (none::r) (o::r'):=⟨by simp[h.len],fun i d e=>by
 cases i with
 | zero=>simp at e
 | succ i=>simpa using h.val i d (by simpa using e)⟩
theorem wt.trans{a b c:S2}(h:wt a b)(h':wt b c):wt a c:=⟨h.len.trans h'.len,fun i d e=>h'.val i d (h.val i d e)⟩
theorem zIZ{σ:S2}{G:Gp}:Fg (fun σ' G'=>σ'=σ∧G'=G)=fun σ' G'=>wt σ σ'∧Sub G G':=by
 funext σ' G'
 apply propext
 constructor
 ·rintro⟨u0,u0,h1,h2,rfl,rfl⟩
  exact⟨h1,h2⟩
 ·rintro⟨h1,h2⟩
  exact⟨σ,G,h1,h2,rfl,rfl⟩
noncomputable def wv(wi:TI2)(g:TG2)(tb:yg):yg:=fun E σ G=>Fg (fun σ' G'=>zPZ wi g tb E σ' G') σ G
theorem zAs{X:Cx}{tg iter:Expr}{pos:Pos}{wi:TI2}{g:TG2}{tb:yg}{body:List Stmt}(hp:PassesOwn (model X.prog X.w) X.A X.env X.xe)(hc:X.calm=true)(hi:I2 X tg iter wi)(hg:G2 X tg g)(hb:Ps2 X body tb)
  (hs:∀ x,foldedSetIterable iter X.env x=pure x:=by intro u0;rfl):P2 X (.For tg iter body [] pos) (wv wi g tb):=by
 refine PS.mono (zPa hp hc hi hg hb hs) ?_
 rintro E σ1 H ⟨σ,G,D2,r,⟨σ',G',s1,s2,q⟩,k⟩
 exact⟨σ',G',D2,r.sub s1 s2,q,k⟩
noncomputable def zIa(tc:TT2)(tb:yg):yg:=fun E σ G=>Fg (fun σ' G'=>zKT tc tb E σ' G') σ G
theorem zKX{X:Cx}{c:Expr}{pos:Pos}{tc:TT2}{tb:yg}{body:List Stmt}(hp:PassesOwn (model X.prog X.w) X.A X.env X.xe)(hc:T2 X c tc)(hb:Ps2 X body tb):P2 X (.While c body [] pos) (zIa tc tb):=by
 refine PS.mono (zMO hp hc hb) ?_
 rintro E σ1 H ⟨σ,G,D2,r,⟨σ',G',s1,s2,q⟩,k⟩
 exact⟨σ',G',D2,r.sub s1 s2,q,k⟩
theorem zKY{wi:TI2}{g:TG2}{tb:yg}{E:zy}{ds:List D}(hw:PuI wi σ G ds)
  (hb:∀ x∈ds,∀ G1,Ext G G1→g x σ G1 fun σ2 G2=>tb { E with nx:=fun σ' G'=>wt σ σ'∧Sub G1 G',ct:=fun σ' G'=>wt σ σ'∧Sub G1 G',bk:=E.nx } σ2 G2) (h:∀ G1,Ext G G1→E.nx σ G1) {σ0:S2} (hf:wt σ σ0:=by exact .refl _):wv wi g tb E σ0 G:=by
 refine⟨σ,G,hf,.refl G,?_⟩
 refine hw G (.refl G) _ fun gd G3 e3 hgd=>⟨fun i σ' G'=>σ'=σ∧G'=G3,⟨rfl,rfl⟩,?_,?_,?_⟩
 ·rintro i σ' G' u0 ⟨rfl,rfl⟩
  exact hgd _ (.refl _)
 ·rintro i x σ' G' hi ⟨rfl,rfl⟩
  rw[zIZ]
  exact hb x (dM hi) _ e3
 ·rintro σ' G' ⟨rfl,rfl⟩
  exact h _ e3
end
noncomputable def zKZ(ds:List D)(gd:Gp→Prop)(G1:Gp)(g:TG2)(tb:yg)(E:zy)(σ:S2):Prop:=∃ Pv:Nat→S2→Gp→Prop,Pv 0 σ G1∧(∀ i σ G,i≤ds.length→Pv i σ G→gd G) ∧
 (∀ i x σ G,ds[i]?=some x→Pv i σ G→g x σ G fun σ2 G2=>tb { E with nx:=Fg (Pv (i+1)),ct:=Fg (Pv (i+1)),bk:=E.nx } σ2 G2)∧∀ σ G,Pv ds.length σ G→E.nx σ G
theorem zOd{σ:S2}{I:Gp→Prop}:Fg (fun σ' G'=>σ'=σ∧I G')=fun σ' G'=>wt σ σ'∧∃ G'',Sub G'' G'∧I G'':=by
 funext σ' G'
 apply propext
 constructor
 ·rintro⟨u0,G'',h1,h2,rfl,h3⟩
  exact⟨h1,G'',h2,h3⟩
 ·rintro⟨h1,G'',h2,h3⟩
  exact⟨σ,G'',h1,h2,rfl,h3⟩
theorem zDz{ds:List D}{gd:Gp→Prop}{G1:Gp}{g:TG2}{tb:yg}{E:zy}{σ:S2}(I:Nat→Gp→Prop)(h0:I 0 G1)(hg:∀ i G',I i G'→gd G')
  (hb:∀ i x,ds[i]?=some x→∀ G2,I i G2→g x σ G2 fun σ2 G3=>tb { E with nx:=fun σ' G'=>wt σ σ'∧∃ G'',Sub G'' G'∧I (i+1) G'',ct:=fun σ' G'=>wt σ σ'∧∃ G'',Sub G'' G'∧I (i+1) G'',bk:=E.nx } σ2 G3)
  (h:∀ G2,I ds.length G2→E.nx σ G2):zKZ ds gd G1 g tb E σ:=by
 refine⟨fun i σ' G'=>σ'=σ∧I i G',⟨rfl,h0⟩,?_,?_,?_⟩
 ·rintro i σ' G' u0 ⟨u0,h⟩
  exact hg i G' h
 ·rintro i x σ' G' hi ⟨rfl,hI⟩
  rw[zOd]
  exact hb i x hi G' hI
 ·rintro σ' G' ⟨rfl,hI⟩
  exact h G' hI
noncomputable def zNW(ds:List D)(gd:Gp→Prop)(G1:Gp)(A:Addr)(bd:D→Option (List D))(tc:TT2)(te:zm)(σ:S2)(R:List D→Gp→Prop):Prop:=∃ Pv:Nat→List D→Gp→Prop,Pv 0 [] (zQ G1 A [])∧(∀ i acc G,i≤ds.length→Pv i acc G→gd G∧G.m A=some acc∧acc.length≤i) ∧
 (∀ i x acc G,ds[i]?=some x→Pv i acc G→match bd x with
  | some us=>tc (σ++us.map some) G fun b G3=>if b=true then te (σ++us.map some) G3 fun d G4=>G4.m A=some acc∧FgG (Pv (i+1) (acc++[d])) (zQ G4 A (acc++[d])) else FgG (Pv (i+1) acc) G3
  | none=>False)∧∀ acc G,Pv ds.length acc G→∃ G',G'.m A=none∧Sub G' G∧R acc G'
theorem zIb{wi:TI2}{bd:D→Option (List D)}{tc:TT2}{te:zm}{σ:S2}{G:Gp}{R:List D→Gp→Prop}(h:wi σ G fun ds gd G1=>∀ A,G1.m A=none→zNW ds gd G1 A bd tc te σ R):yT wi bd tc te σ G R:=h
theorem zGb{ds:List D}{gd:Gp→Prop}{G1:Gp}{bd:D→Option (List D)}{tc:TT2}{te:zm}{σ:S2}{R:List D→Gp→Prop}{A:Addr}(I:Nat→List D→Gp→Prop)(h0:I 0 [] (zQ G1 A []))(hg:∀ i acc G',I i acc G'→gd G'∧G'.m A=some acc∧acc.length≤i)
  (hb:∀ i x acc G',ds[i]?=some x→I i acc G'→∃ us,bd x=some us∧tc (σ++us.map some) G' fun b G3=>if b=true then te (σ++us.map some) G3 fun d G4=>G4.m A=some acc∧FgG (I (i+1) (acc++[d])) (zQ G4 A (acc++[d])) else FgG (I (i+1) acc) G3)
  (h:∀ acc G',I ds.length acc G'→∃ G'',G''.m A=none∧Sub G'' G'∧R acc G''):zNW ds gd G1 A bd tc te σ R:=by
 refine⟨I,h0,fun i acc G' u0 q=>hg i acc G' q,fun i x acc G' hi q=>?_,h⟩
 obtain⟨us,e,q⟩:=hb i x acc G' hi q
 rw[e]
 exact q
noncomputable def zFc:Sp2:=fun ds G R=>∃(a:Addr) (ns:List Int),ds=[.adr a]∧G.ro a=some (ns.map D.int)∧ns.length≤63∧(∀ l,G.m l=none)∧R (.bl true) G
theorem zOe{K:PySem.W.Frag}{H:Hp}{a:Addr}{ns:List Int}(hl:ns.length≤63)(hO:zMC H)(hS:SqL K H a (ns.map V.int)):lSp K zFc [.ref a] H (fun v u0=>v=.bl true) fun u0 u0 u0=>False:=by
 refine⟨[.adr a],⟨fun u0=>none,fun b=>if b=a then some (ns.map D.int) else none⟩,fun d u0=>d=.bl true,.cons (by unfold zO;rfl) .nil,⟨fun b ds e=>(by cases e),fun b ds e=>?_⟩,⟨a,ns,rfl,by simp,hl,fun u0=>rfl,rfl⟩,fun d G' q v H' g r dv=>?_⟩
 ·by_cases hb:b=a
  ·subst hb
   simp at e
   subst e
   refine⟨_,?_,Dens.ints ns⟩
   rcases hS with h | h
   ·rcases hO b with h' | ⟨o,xs,h'⟩ | ⟨ps,h'⟩
    ·rcases h with h | ⟨o,h⟩<;>(rw[h'] at h;cases h)
    ·rcases h with h | ⟨o',h⟩
     ·rw[h'] at h;cases h
     ·exact .inl ⟨o',h⟩
    ·rcases h with h | ⟨o',h⟩<;>(rw[h'] at h;cases h)
   ·exact .inr h
  ·simp[hb] at e
 ·subst q
  unfold zO at dv
  exact dv
noncomputable def OkS(s:Int)(b:Bool):Prop:=b=false→0≤s∧s<2147483647
noncomputable def zAt(G:Gp)(l:Addr):Prop:=∃ s b,G.m l=some [.int s,.bl b]∧OkS s b
noncomputable def Dr(l:Addr)(G G':Gp):Prop:=∃ s b,G'=zQ G l [.int s,.bl b]∧OkS s b
theorem Dr.st{l:Addr}{G G':Gp}(h:Dr l G G'):zAt G' l:=by
 obtain⟨s,b,rfl,h⟩:=h
 exact⟨s,b,zG,h⟩
theorem Dr.trans{l:Addr}{G G1 G2:Gp}(h:Dr l G G1)(h':Dr l G1 G2):Dr l G G2:=by
 obtain⟨s,b,rfl,h⟩:=h
 obtain⟨s',b',rfl,h'⟩:=h'
 exact⟨s',b',zBv,h'⟩
theorem zMS{G:Gp}{l:Addr}{o:List D}(h:G.m l=some o):zQ G l o=G:=by
 cases G with
 | mk m ro =>
  unfold zQ
  congr 1
  funext b
  by_cases hb:b=l
  ·subst hb;rw[if_pos rfl];exact h.symm
  ·rw[if_neg hb]
theorem Dr.refl{l:Addr}{G:Gp}(h:zAt G l):Dr l G G:=by
 obtain⟨s,b,h1,h2⟩:=h
 exact⟨s,b,(zMS h1).symm,h2⟩
theorem Dr.ro{l:Addr}{G G':Gp}(h:Dr l G G'):G'.ro=G.ro:=by
 obtain⟨s,b,rfl,h⟩:=h;rfl
theorem Dr.ne{l a:Addr}{G G':Gp}(h:Dr l G G')(ha:a≠l):G'.m a=G.m a:=by
 obtain⟨s,b,rfl,h⟩:=h;exact zb ha
theorem Dr.none{l a:Addr}{G G':Gp}(h:Dr l G G')(s:zAt G l)(ha:G.m a=none):G'.m a=none:=by
 obtain⟨u0,u0,h1,u0⟩:=s
 rw[h.ne (fun e=>by subst e;rw[h1] at ha;cases ha)];exact ha
theorem zAt.ne{l a:Addr}{G:Gp}(s:zAt G l)(ha:G.m a=none):a≠l:=fun e=>by
 obtain⟨u0,u0,h1,u0⟩:=s
 subst e;rw[h1] at ha;cases ha
theorem zAt.ext{l:Addr}{G G':Gp}(s:zAt G l)(h:Sub G G'):zAt G' l:=by
 obtain⟨x,b,h1,h2⟩:=s
 exact⟨x,b,h.m l _ h1,h2⟩
theorem Dr.sub{l:Addr}{G G1 G2:Gp}(h:Dr l G1 G2)(e:Sub G G1):∃ G',Dr l G G'∧Sub G' G2:=by
 obtain⟨s,b,rfl,h⟩:=h
 refine⟨zQ G l [.int s,.bl b],⟨s,b,rfl,h⟩,⟨fun a o q=>?_,fun a o q=>e.ro a o q⟩⟩
 by_cases ha:a=l
 ·subst ha;rw[zG] at q ⊢;exact q
 ·rw[zb ha] at q ⊢;exact e.m a o q
theorem zCo{α:Type}(x:α)(r:List α):atI (x::r) 0=some x:=zBB (j:=0) rfl
theorem zGc{α:Type}(x y:α)(r:List α):atI (x::y::r) 1=some y:=zBB (j:=1) rfl
theorem zKa{α:Type}(x y z:α)(r:List α):atI (x::y::z::r) 2=some z:=zBB (j:=2) rfl
theorem zDd{x:D}{r:List D}{G:Gp}{R:Q2}:wD (.tup (x::r)) (.int 0) G R=R x G:=by simp only[wD,zCo]
theorem zDe{x y:D}{r:List D}{G:Gp}{R:Q2}:wD (.tup (x::y::r)) (.int 1) G R=R y G:=by simp only[wD,zGc]
theorem zEL{x y z:D}{r:List D}{G:Gp}{R:Q2}:wD (.tup (x::y::z::r)) (.int 2) G R=R z G:=by simp only[wD,zKa]
theorem zBF{x:D}{ng:Bool}{ds:List D}{G:Gp}{R:Q2}:fIn ng x (.tup ds) G R=(flat 8 x=true∧(∀ d∈ds,flat 8 d=true)∧R (.bl (if ng then !ds.any fun z=>eqD z x else ds.any fun z=>eqD z x)) G):=rfl
theorem zHg:(0≤sizeLine)=True:=by rw[sizeLine_eq];simp
theorem zHh:(1≤sizeLine)=True:=by rw[sizeLine_eq];simp
theorem zHi:(2≤sizeLine)=True:=by rw[sizeLine_eq];simp
theorem zHj:(3≤sizeLine)=True:=by rw[sizeLine_eq];simp
theorem wb(p:Prop):(True∧p)=p:=by simp
theorem zBG{p q:Prop}:(if true=true then p else q)=p:=if_pos rfl
theorem zBH{p q:Prop}:(if false=true then p else q)=q:=if_neg (by simp)
section
variable {X:Cx} {pins:List (Addr×Obj)} {σ1:L2.St} {H:Hp} {s:Shared} {A:Around}
end
section
variable {X:Cx} {e o:Expr} {es:List Expr} {to:zm} {t:wH} {name:Str} {apos cpos:Pos}
end
end L3
namespace HT
section
variable {prog:Program} {w:World} {A:Around} {R:Result→Shared→Prop} {I:Addr} {fp wr:List Addr} {n:Nat} {P:Nat→Value→Prop} {St:Nat→Heap→Prop}
structure Cmp (prog:Program) (w:World) (A:Around) (P:Nat→Value→Prop) (bt:Nat→Nat→Bool) (wr:List Addr) (S:Addr) (Kp:Heap→Prop):Prop where
 cmp:∀ i j vi vj (s:Shared) (Q:Value→Shared→Prop) (E:Value→Shared→Prop),Kp s.heap→P i vi→P j vj→Q (.bool (bt i j)) s→wpAny (model prog w) A (richCompare .Lt vi vj) Q E s
 keep:∀ h h':Heap,Kp h→(∀ b o,b∉wr→b≠S→h.get? b=some o→h'.get? b=some o)→Kp h'
theorem zKb(W:Walks prog w A.in1 I fp wr n P St)(bt:Nat→Nat→Bool){Kp:Heap→Prop}(S:Addr)(C:Cmp prog w A.in1 P bt wr S Kp)(hSf:S∉fp) :
  ∀(k j:Nat) (s:Shared) (vb:Value) (c:Nat),n-(j+1)=k→j+1≤n→St (j+1) s.heap→Kp s.heap→P (argBest bt j) vb →
  s.heap.get? S=some { cls:=.type "list",dict:=none,data:=.seq #[vb,vb] c,slots:=#[] } →
  (∀ v h' tk,P (argBest bt (n-1)) v→(∀ b o,b∉wr→b≠S→s.heap.get? b=some o→h'.get? b=some o)→R (.ok (.ret v)) { s with heap:=h',toks:=tk }) →
  codeAny (model prog w) A (.builtin "min.loop" ⟨[.ref I,.none,.ref S],[]⟩) R s:=by
 have nw:S∉wr:=fun h=>hSf (W.sub _ h)
 have nm:(toString "min"++toString ".loop":String)="min.loop":=by decide
 intro k
 induction k with
 | zero =>
  intro j s vb c hk hj st kp pb hS fin
  have hin:j+1=n:=by omega
  refine dZ PySem.F.entry_min_loop ?_
  rw[Around.under_plainId PySem.F.plain_min_loop _]
  show wpAny _ A.in1 (seqItems? (.ref S)>>=_) _ _ s
  refine cL (gg hS rfl ?_)
  show wpAny _ A.in1 (tryCatch (pyNext (.ref I)) _>>=_) _ _ s
  refine cL (gc (W.done s _ _ (hin▸st) fun h' tk hk'=>?_))
  have hS':=hk' S _ nw hS
  show wpAny _ A.in1 (updateSeq S (fun u0=>#[])>>=_) _ _ _
  refine cL ?_
  refine fC hS' rfl (cL (wpAny_letGo (cT ?_)))
  exact fin vb _ tk (by rw[← hin];exact pb) fun b o h1 h2 e=>(dA _ _ (Ne.symm h2)).trans (hk' b o h1 e)
 | succ k ih =>
  intro j s vb c hk hj st kp pb hS fin
  have lt:j+1<n:=by omega
  refine dZ PySem.F.entry_min_loop ?_
  rw[Around.under_plainId PySem.F.plain_min_loop _]
  show wpAny _ A.in1 (seqItems? (.ref S)>>=_) _ _ s
  refine cL (gg hS rfl ?_)
  show wpAny _ A.in1 (tryCatch (pyNext (.ref I)) _>>=_) _ _ s
  refine cL (gc (W.item (j+1) s _ _ lt st fun v h' tk pv st' hk'=>?_))
  have hS':=hk' S _ nw hS
  have kp':Kp h':=C.keep _ _ kp fun b o h1 u0 e=>hk' b o h1 e
  show wpAny _ A.in1 (tryCatch (holding [v,v] (richCompare .Lt v vb>>=_)) _>>=_) _ _ _
  refine cL (gc (eu (cL (C.cmp (j+1) (argBest bt j) v vb _ _ _ kp' pv pb ?_))))
  refine cL (eu (wpAny_truthy_bool ?_))
  refine cL (wpAny_letGo (cT ?_))
  cases hb:bt (j+1) (argBest bt j) with
  | true =>
   simp only[if_true]
   refine cL ?_
   refine fC hS' rfl (cL (wpAny_letGo ?_))
   rw[nm]
   refine cT ⟨plainId_quiet PySem.F.plain_min_loop _,ih (j+1) _ v _ (by omega) lt (W.frame _ _ _ st' fun b hbf o e=>?_) (C.keep _ _ kp' fun b o u0 h2 e=>(dA _ _ (Ne.symm h2)).trans e) (by simp only[argBest,hb,if_true];exact pv) (et _ hS' rfl)
    fun v' h'' tk'' pv' hk''=>?_⟩
   ·exact(dA _ _ (fun h:S=b=>hSf (by rw[h];exact hbf))).trans e
   ·exact fin v' h'' tk'' pv' fun b o h1 h2 e=>hk'' b o h1 h2 ((dA _ _ (Ne.symm h2)).trans (hk' b o h1 e))
  | false =>
   simp only[cM,if_false]
   refine cL (wpAny_letGo ?_)
   rw[nm]
   refine cT ⟨plainId_quiet PySem.F.plain_min_loop _,ih (j+1) _ vb c (by omega) lt st' kp' (by simp only[argBest,hb,cM,if_false];exact pb) hS' fun v' h'' tk'' pv' hk''=>?_⟩
   exact fin v' h'' tk'' pv' fun b o h1 h2 e=>hk'' b o h1 h2 (hk' b o h1 e)
theorem zJQ(W:Walks prog w A.in1 I fp wr n P St)(bt:Nat→Nat→Bool){Kp:Heap→Prop}(S:Addr)(C:Cmp prog w A.in1 P bt wr S Kp)(hSf:S∉fp)(hn:0<n){s:Shared}{c:Nat}(st:St 0 s.heap)(kp:Kp s.heap)
  (hS:s.heap.get? S=some { cls:=.type "list",dict:=none,data:=.seq #[] c,slots:=#[] })
  (fin:∀ v h' tk,P (argBest bt (n-1)) v→(∀ b o,b∉wr→b≠S→s.heap.get? b=some o→h'.get? b=some o)→R (.ok (.ret v)) { s with heap:=h',toks:=tk }) :
  codeAny (model prog w) A (.builtin "min.loop" ⟨[.ref I,.none,.ref S],[]⟩) R s:=by
 have nw:S∉wr:=fun h=>hSf (W.sub _ h)
 have nm:(toString "min"++toString ".loop":String)="min.loop":=by decide
 refine dZ PySem.F.entry_min_loop ?_
 rw[Around.under_plainId PySem.F.plain_min_loop _]
 show wpAny _ A.in1 (seqItems? (.ref S)>>=_) _ _ s
 refine cL (gg hS rfl ?_)
 show wpAny _ A.in1 (tryCatch (pyNext (.ref I)) _>>=_) _ _ s
 refine cL (gc (W.item 0 s _ _ hn st fun v h' tk pv st' hk'=>?_))
 have hS':=hk' S _ nw hS
 show wpAny _ A.in1 (updateSeq S (fun u0=>#[v,v])>>=_) _ _ _
 refine cL ?_
 refine fC hS' rfl ?_
 rw[nm]
 refine cT ⟨plainId_quiet PySem.F.plain_min_loop _,zKb W bt S C hSf _ 0 _ v _ rfl hn (W.frame _ _ _ st' fun b hbf o e=>?_) (C.keep _ _ kp fun b o h1 h2 e=>(dA _ _ (Ne.symm h2)).trans (hk' b o h1 e)) pv (et _ hS' rfl) fun v' h'' tk'' pv' hk''=>?_⟩
 ·exact(dA _ _ (fun h:S=b=>hSf (by rw[h];exact hbf))).trans e
 ·exact fin v' h'' tk'' pv' fun b o h1 h2 e=>hk'' b o h1 h2 ((dA _ _ (Ne.symm h2)).trans (hk' b o h1 e))
end
section
variable {prog:Program} {w:World} {A:Around} {E:Value→Shared→Prop} {s:Shared}
noncomputable def zAB(h:Heap)(as:List Addr)(nss:List (List Int)):Prop:=as.length=nss.length∧∀(i:Nat) a ns,as[i]?=some a→nss[i]?=some ns→∃ its:List Value,IsTup h a its.toArray∧IntsAre its ns
theorem IsTup.at'{h h':Heap}{a:Addr}{its:Array Value}(x:IsTup h a its)(k:∀ o,h.get? a=some o→h'.get? a=some o):IsTup h' a its:=let ⟨o,h1,h2,h3⟩:=x;⟨o,k o h1,h2,h3⟩
theorem zAB.keep{h h':Heap}{as:List Addr}{nss:List (List Int)}(x:zAB h as nss)(k:∀ a∈as,∀ o,h.get? a=some o→h'.get? a=some o):zAB h' as nss :=
 ⟨x.1,fun i a ns h1 h2=>by obtain⟨its,t,q⟩:=x.2 i a ns h1 h2;exact⟨its,IsTup.at' t (k a (dM h1)),q⟩⟩
theorem zAB.lt{h:Heap}{as:List Addr}{nss:List (List Int)}(x:zAB h as nss):∀ a∈as,a<h.objs.size:=fun a ha=>by
 obtain⟨i,hi⟩:=List.getElem?_of_mem ha
 have hl:i<as.length:=(d8.mp hi).1
 obtain⟨its,⟨o,e,u0⟩,u0⟩:=x.2 i a (nss[i]'(by rw[← x.1];exact hl)) hi (by simp)
 exact db e
noncomputable def btT(nss:List (List Int))(i j:Nat):Bool:=lexLt (nss.getD i []) (nss.getD j [])
theorem zKc{as:List Addr}{nss:List (List Int)}{wr:List Addr}{S:Addr}(hu:A.units<cLine)(h1:∀ a∈as,a∉wr)(h2:S∉as) :
  Cmp prog w A (fun i v=>(as.map Value.ref)[i]?=some v) (btT nss) wr S (fun h=>zAB h as nss) where
 cmp:=fun i j vi vj s Q E kp pi pj q=>by
  have gi:∀ {i:Nat} {v:Value},(as.map Value.ref)[i]?=some v→∃ a,as[i]?=some a∧v=Value.ref a:=fun {i v} e=>by
   rw[dJ] at e
   cases q:as[i]? with
   | none=>rw[q] at e;cases e
   | some a=>rw[q] at e;cases e;exact⟨a,rfl,rfl⟩
  obtain⟨a,ea,rfl⟩:=gi pi
  obtain⟨b,eb,rfl⟩:=gi pj
  have li:i<nss.length:=by rw[← kp.1];exact(d8.mp ea).1
  have lj:j<nss.length:=by rw[← kp.1];exact(d8.mp eb).1
  obtain⟨its,t1,i1⟩:=kp.2 i a nss[i] ea (by simp)
  obtain⟨its2,t2,i2⟩:=kp.2 j b nss[j] eb (by simp)
  have e:btT nss i j=lexLt nss[i] nss[j]:=by simp[btT,fU,li,lj]
  rw[e] at q
  exact zHN t1 t2 i1 i2 hu q
 keep:=fun h h' kp k=>kp.keep fun a ha o e=>k a o (h1 a ha) (fun z=>h2 (z▸ha)) e
noncomputable def zPi(prog:Program)(w:World)(A:Around)(Q:Value→Shared→Prop)(it:Value)(s₂:Shared):Prop:=∃ I fp wr n P St bt Kp,it=.ref I∧Walks prog w A.in1 I fp wr n P St∧St 0 s₂.heap∧(∀ b∈fp,b<s₂.heap.objs.size)∧0<n∧Cmp prog w A.in1 P bt wr s₂.heap.objs.size Kp∧Kp s₂.heap ∧
 ∀ v h' tk,P (argBest bt (n-1)) v→(∀ b o,b∉wr→s₂.heap.get? b=some o→h'.get? b=some o)→Q v { s₂ with heap:=h',toks:=tk }
theorem zKd{Q:Value→Shared→Prop}{it:Value}{s₂:Shared}(h₂:zPi prog w A Q it s₂):wpAny (model prog w) A.in1 (newList []>>=fun best=>again (.builtin "min.loop" ⟨[it,.none,best],[]⟩)) (fun fin s'=>match fin with | .done f=>wants Q E (.ok f) s' | .again c'=>c'.quiet=true∧codeAny (model prog w) A c' (wants Q E) s') (fun e s'=>wants Q E (.error e) s') s₂:=by
 obtain⟨I,fp,wr,n,P,St,bt,Kp,rfl,W,hst,hfp,hn,C,kp,hQ⟩:=h₂
 refine cL (dN ?_)
 have hSf:s₂.heap.objs.size∉fp:=fun hm=>eG _ (hfp _ hm)
 refine cT ⟨plainId_quiet PySem.F.plain_min_loop _,zJQ W bt s₂.heap.objs.size C hSf hn (W.frame _ _ _ hst fun b u0 o e=>cQ _ e) (C.keep _ _ kp fun b o u0 u0 e=>cQ _ e) (dc _ rfl) fun v h' tk hP hk=>?_⟩
 exact hQ v h' tk hP fun b o hbw e=>hk b o hbw (dB (db e)) (cQ _ e)
theorem zJR{a b c:Value}{Q:Value→Shared→Prop}
  (h:wpAny (model prog w) A.in1 (pyIter (.ref s.heap.objs.size)) (zPi prog w A Q) E { s with heap:=s.heap.push { cls:=.type "tuple",data:=.seq #[a,b,c] } }) :
  wpAny (model prog w) A (call (.builtin "min") [a,b,c]) Q E s:=by
 have nm:(toString "min"++toString ".loop":String)="min.loop":=by decide
 refine call_function_tree PySem.F.kind_min PySem.F.plain_min PySem.F.entry_min (PySem.F.args_min3 _ _ _) ?_
 show wpAny _ A.in1 (Builtin.Builtins.bindParams "min" ["key","default"] 0 ⟨[],[]⟩>>=_) _ _ s
 refine cL (eQ (show Builtin.Builtins.bindParams "min" ["key","default"] 0 ⟨[],[]⟩=pure [none,none] from rfl) ?_)
 show wpAny _ A.in1 (newTuple [a,b,c]>>=_) _ _ s
 refine cL (dN ?_)
 refine cL (eN h (fun it s₂ h₂=>?_) fun u0 u0 e=>e)
 have:=zKd (E:=E) h₂
 rw[nm]
 exact this
theorem min_three{a b c:Addr}{nss:List (List Int)}{Q:Value→Shared→Prop}(hh:A.handled=none)(hu:A.in1.units<cLine)(ht:zAB s.heap [a,b,c] nss)
  (h:∀ h' tk v,[Value.ref a,Value.ref b,Value.ref c][argBest (btT nss) 2]?=some v→(∀ d o,s.heap.get? d=some o→h'.get? d=some o)→Q v { s with heap:=h',toks:=tk }) :
  wpAny (model prog w) A (call (.builtin "min") [.ref a,.ref b,.ref c]) Q E s:=by
 have hT:(s.heap.push { cls:=.type "tuple",data:=.seq #[.ref a,.ref b,.ref c] }).IsTuple s.heap.objs.size #[.ref a,.ref b,.ref c]:=⟨_,dc _ rfl,rfl,0,rfl⟩
 refine zJR (wpAny_pyIter_tuple hT ?_)
 have hsz:(s.heap.push { cls:=.type "tuple",data:=.seq #[Value.ref a,Value.ref b,Value.ref c] }).objs.size=s.heap.objs.size+1:=fB ..
 have la:∀ x∈[a,b,c],x<s.heap.objs.size:=ht.lt
 refine⟨_,[_,s.heap.objs.size],[_],_,_,_,btT nss,fun h=>zAB h [a,b,c] nss,rfl,Walks.tuple (A:=A.in1) hh _ s.heap.objs.size (by rw[hsz];exact dB (gH _)) #[.ref a,.ref b,.ref c],
  ⟨⟨_,dc _ rfl,rfl,rfl⟩,hT.push _⟩,fun d hd=>?_,by simp,?_,ht.keep fun x hx o e=>cQ _ (cQ _ e),fun v h' tk hP hk=>?_⟩
 ·show d<((s.heap.push _).push _).objs.size
  rw[fB,hsz]
  rcases dC.mp hd with rfl | hd
  ·rw[hsz];exact gH _
  ·rcases dC.mp hd with rfl | hd
   ·exact Nat.lt_succ_of_lt (gH _)
   ·cases hd
 ·have:=zKc (prog:=prog) (w:=w) (A:=A.in1) (as:=[a,b,c]) (nss:=nss) (wr:=[s.heap.objs.size+1]) (S:=s.heap.objs.size+1+1) hu (fun x hx z=>by
   have h1:=la x hx
   rw[dq] at z
   rw[z] at h1
   exact absurd h1 (Nat.not_lt.mpr (Nat.le_succ _))) (fun z=>absurd (la _ z) (Nat.not_lt.mpr (eD (Nat.le_succ _) (Nat.le_succ _))))
  rw[show((s.heap.push { cls:=.type "tuple",data:=.seq #[Value.ref a,Value.ref b,Value.ref c] }).objs.size)=s.heap.objs.size+1 from hsz]
  refine⟨fun i j vi vj s Q E kp pi pj q=>this.cmp i j vi vj s Q E kp (by simpa using pi) (by simpa using pj) q,fun h h' kp k=>this.keep h h' kp fun b o h1 h2 e=>k b o h1 ?_ e⟩
  show b≠((s.heap.push _).push _).objs.size
  rw[fB,hsz];exact h2
 ·have hold:∀ d o,s.heap.get? d=some o→h'.get? d=some o:=fun d o e=>by
   refine hk d o (fun hm=>?_) (cQ _ (cQ _ e))
   rcases dC.mp hm with e1 | hm
   ·have:=db e;rw[e1,hsz] at this;exact eG _ (Nat.lt_of_succ_lt this)
   ·cases hm
  exact h h' tk v (by simpa using hP) hold
end
end HT
namespace L3
open L2
section
variable {X:Cx} {a b c d e o:Expr} {es:List Expr} {pos p:Pos} {ta tb tc td te:zm} {tl:TL2}
theorem zD0{x:Str}{n:Int}{t:Tok}(hg:Gl X x)(hm:X.mg x=some (.int n t))(hd:(x==("__debug__":Str))=false:=by decide):E2 X (.Name x pos) (xC (.int n)):=by
 refine PE.mono (zFr (v:=.int n) hg hm ⟨t,rfl⟩ hd) ?_
 rintro σ1 H Q ⟨σ,G,R,r,q,k⟩
 exact k _ G q _ H (.refl H) r.g (by unfold zO;rfl)
section
variable {op op' op'':CmpOp} {r r' r'':R2} {f g h:D→D→Gp→Q2→Prop}
end
end
end L3
namespace K
open L2 L3
noncomputable abbrev nD(n:Nat):D:=.int (n:Int)
noncomputable def prs(n:Nat):List (Nat×Nat):=(cY n).flatMap fun i=>(cY (n-(i+1))).map fun k=>(i,i+1+k)
noncomputable def prD(p:Nat×Nat):D:=.tup [nD p.1,nD p.2]
noncomputable def zn(n:Nat)(q:Nat×Nat→Bool):D:=.tup [nD n,.tup (((prs n).filter q).map prD)]
noncomputable def adj(q:Nat×Nat→Bool)(i j:Nat):Bool:=decide (i≠j)&&q (min i j,max i j)
theorem zIc{n:Nat}{p:Nat×Nat}:p∈prs n↔p.1<p.2∧p.2<n:=by
 obtain⟨i,j⟩:=p
 unfold prs
 simp only[List.mem_flatMap,dI,dL,Prod.mk.injEq]
 constructor
 ·rintro⟨a,ha,k,hk,rfl,rfl⟩;omega
 ·rintro⟨h1,h2⟩;exact⟨i,by omega,j-(i+1),by omega,rfl,by omega⟩
theorem zCF{α β:Type}{f:α→List β}:∀ {l:List α},l.Nodup→(∀ x∈l,(f x).Nodup)→(∀ x∈l,∀ y∈l,x≠y→∀ z,z∈f x→z∉f y)→(l.flatMap f).Nodup
 | [],_,_,_=>by simp
 | a::r,h,h1,h2=>by
  rw[List.flatMap_cons]
  obtain⟨ha,hr⟩:=fi.mp h
  refine List.nodup_append.mpr ⟨h1 a (by simp),zCF hr (fun x hx=>h1 x (by simp[hx])) (fun x hx y hy=>h2 x (by simp[hx]) y (by simp[hy])),fun x hx y hy e=>?_⟩
  subst e
  obtain⟨b,hb,hz⟩:=List.mem_flatMap.mp hy
  exact h2 a (by simp) b (by simp[hb]) (fun e=>ha (e▸hb)) x hx hz
theorem zCG{α β:Type}{f:α→β}(hf:∀ x y,f x=f y→x=y):∀ {l:List α},l.Nodup→(l.map f).Nodup
 | [],_=>by simp
 | a::r,h=>by
  obtain⟨ha,hr⟩:=fi.mp h
  rw[eZ]
  refine fi.mpr ⟨fun hm=>?_,zCG hf hr⟩
  obtain⟨b,hb,e⟩:=dI.mp hm
  exact ha (hf _ _ e▸hb)
theorem zJS(n:Nat):(prs n).Nodup:=by
 unfold prs
 refine zCF gJ (fun i u0=>zCG (fun x y e=>by simpa using e) gJ) fun i u0 j u0 hne z hz hz'=>?_
 obtain⟨k,u0,rfl⟩:=dI.mp hz
 obtain⟨k',u0,e⟩:=dI.mp hz'
 exact hne (by simpa using(congrArg Prod.fst e).symm)
theorem zEM{n:Nat}(h:n≤100):(prs n).length≤10000:=by
 unfold prs
 rw[List.length_flatMap]
 have:∀ l:List Nat,(∀ x∈l,x≤100)→l.sum≤100*l.length:=by
  intro l
  induction l with
  | nil=>simp
  | cons a r ih =>
   intro h
   have h1:=h a (by simp)
   have h2:=ih fun x hx=>h x (by simp[hx])
   simp only[List.sum_cons,cR];omega
 have q:=this ((cY n).map fun i=>((cY (n-(i+1))).map fun k=>(i,i+1+k)).length) (by simp;omega)
 simp only[d7,dP] at q ⊢
 omega
theorem zGd{n:Nat}(p:Nat×Nat):flat (n+1) (prD p)=true:=by simp[prD,flat]
theorem zBx{i j:Int}:eqD (.int i) (.int j)=decide (i=j):=by show(i==j)=decide (i=j);rw[eM];simp
theorem zMT(p q:Nat×Nat):eqD (prD p) (prD q)=decide (p=q):=by
 obtain⟨a,b⟩:=p
 obtain⟨c,d⟩:=q
 show(((a:Int)==(c:Int))&&(((b:Int)==(d:Int))&&true))=decide ((a,b)=(c,d))
 rw[eM];simp;omega
theorem zMU(l:List (Nat×Nat))(p:Nat×Nat):((l.map prD).any fun z=>eqD z (prD p))=decide (p∈l):=by
 rw[List.any_map,eM]
 simp only[List.any_eq_true,Function.comp,zMT,decide_eq_true_eq]
 constructor
 ·rintro⟨x,h,rfl⟩;exact h
 ·intro h;exact⟨p,h,rfl⟩
theorem zDq{a b:Nat}:((a:Int)=(b:Int))↔a=b:=by omega
theorem zBh{n:Nat}{q:Nat×Nat→Bool}{G:Gp}{R:Q2}:wD (zn n q) (.int 0) G R=R (nD n) G:=zDd
theorem zCT{n:Nat}{q:Nat×Nat→Bool}{G:Gp}{R:Q2}:wD (zn n q) (.int 1) G R=R (.tup (((prs n).filter q).map prD)) G:=zDe
noncomputable def zEN:List D→Gp→(List D→Gp→Prop)→Prop:=fun ds G R=>∃ n:Nat,ds=[nD n]∧n≤100∧R ((prs n).map prD) G
theorem zHk:∀ ds G R R',(∀ ls G',R ls G'→R' ls G')→zEN ds G R→zEN ds G R':=by
 rintro ds G R R' h ⟨n,e,hn,q⟩
 exact⟨n,e,hn,h _ _ q⟩
noncomputable def yZ:=zEN
theorem zCp:∀ ds G R R',(∀ ls G',R ls G'→R' ls G')→yZ ds G R→yZ ds G R':=zHk
noncomputable def zBy:Sp2:=fun ds G R=>∃(n:Nat) (q:Nat×Nat→Bool) (i j:Nat),ds=[zn n q,nD i,nD j]∧i<n∧j<n∧R (.bl (adj q i j)) G
noncomputable def zFv:yg:=(yC (zW (fIn false) (yl (zA (zL zAe (zA (zD 1) (zA (zD 2) zI))) (zA (zL zAy (zA (zD 1) (zA (zD 2) zI))) zI))) (zW wD (zD 0) (xC (.int 1)))))
theorem zMV{n:Nat}{q:Nat×Nat→Bool}{i j:Nat}(hi:i<n)(hj:j<n):decide ((min i j,max i j)∈(prs n).filter q)=adj q i j:=by
 rw[eM,decide_eq_true_eq,fj,zIc]
 unfold adj
 simp only[fF,decide_eq_true_eq]
 constructor
 ·rintro⟨h1,h2⟩;exact⟨by omega,h2⟩
 ·rintro⟨h1,h2⟩;exact⟨by omega,h2⟩
theorem zKe{n:Nat}{q:Nat×Nat→Bool}:∀ d∈((prs n).filter q).map prD,flat 8 d=true:=by
 intro x hx
 obtain⟨p,u0,rfl⟩:=dI.mp hx
 exact zGd p
theorem zOf(ds:List D)(G:Gp)(R:Q2)(h:zBy ds G R):ds.length=3∧zFv (zf R) (zS ["web","one","other"] ds) G:=by
 obtain⟨n,q,i,j,rfl,hi,hj,h⟩:=h
 refine⟨rfl,?_⟩
 have e1:(if (j:Int)<(i:Int) then (j:Int) else i)=((min i j:Nat):Int):=by split<;>omega
 have e2:(if (j:Int)>(i:Int) then (j:Int) else i)=((max i j:Nat):Int):=by split<;>omega
 unfold zFv
 ((try dsimp only [yC,zX,zp,xIf,wY,yN,gN,gNN,zW,yl,wA,zl,zA,zI,zL,yB,yU,wa,zD,look,zS,zAe,zAy,zBF,zDd,zDe,zEL,zBh,zCT,fII,yj,yq,fEq,xC,xB,zE4,zCj,zBe,zHe,dh,cV,cW,cN,cO,cR,cU,cP,cS,Nat.reduceSub,Nat.reduceAdd,zHg,zHh,zHi,zHj,wb,zBG,zBH,if_true,if_false,cM]) <;> (try simp only [yC,zX,zp,xIf,wY,yN,gN,gNN,zW,yl,wA,zl,zA,zI,zL,yB,yU,wa,zD,look,zS,zAe,zAy,zBF,zDd,zDe,zEL,zBh,zCT,fII,yj,yq,fEq,xC,xB,zE4,zCj,zBe,zHe,dh,cV,cW,cN,cO,cR,cU,cP,cS,Nat.reduceSub,Nat.reduceAdd,zHg,zHh,zHi,zHj,wb,zBG,zBH,if_true,if_false,cM]))
 rw[e1,e2]
 have e3:=zMU ((prs n).filter q) (min i j,max i j)
 rw[zMV hi hj] at e3
 refine⟨zGd (min i j,max i j),zKe,?_⟩
 rw[← e3] at h
 exact .of h
theorem zBz(n:Nat):zw 0 ((n:Int)).toNat=(cY n).map nD:=by simp[zw,nD]
theorem zDf{σ:S2}{G:Gp}{n:Nat}{q:Nat×Nat→Bool}{t:zm}(h:yA t σ G (zn n q)):yA (zW wD t (xC (.int 0))) σ G (nD n):=wu h yp fun u0 u0 u0 q=>by rw[zBh];exact q
theorem zAC{l:Addr}{x:D}{ds:List D}{k:Int}{G:Gp}{R:Q2}(h:G.m l=some ds)(e:atI ds k=some x)(q:R x G):wD (.adr l) (.int k) G R:=⟨ds,x,.inl h,e,q⟩
theorem zNX{i:Nat}{l:Addr}{x d:D}{r:List D}{σ:S2}{G:Gp}{R:S2→Gp→Prop}(ho:look σ i=some (.adr l))(h:G.m l=some (x::r))(q:R σ (zQ G l (d::r))):gIx (zD i) (xC (.int 0)) d σ G R:=by
 unfold gIx zD
 rw[ho]
 show match G.m l with | some ds=>_ | none=>_
 rw[h]
 have e:ixN (x::r).length 0=some 0:=by simp[ixN]
 show match ixN (x::r).length 0 with | some j=>R σ (zQ G l ((x::r).set j d)) | none=>False
 rw[e]
 exact q
noncomputable def wQ:Sp2:=fun ds G R=>∃(a:Addr) (ns:List Int) (k:Nat),ds=[.adr a,nD k]∧Ls G a (ns.map D.int)∧∀ c:Int,R (.int c) G
noncomputable def zAf:yg:=(zX (xIf (xB (zW (fII fun i j=>.bl (decide (i<j))) (zD 1) (zL yK (zA (zD 0) zI)))) (yC (zW wD (zD 0) (zD 1))) yN) (yC (xC (.int 0))))
theorem zGe(ds:List D)(G:Gp)(R:Q2)(h:wQ ds G R):ds.length=2∧zAf (zf R) (zS ["script","k"] ds) G:=by
 obtain⟨a,ns,k,rfl,ha,h⟩:=h
 refine⟨rfl,?_⟩
 unfold zAf
 ((try dsimp only [yC,zX,zp,xIf,wY,yN,gN,gNN,zW,yl,wA,zl,zA,zI,zL,yB,yU,wa,zD,look,zS,zAe,zAy,zBF,zDd,zDe,zEL,zBh,zCT,fII,yj,yq,fEq,xC,xB,zE4,zCj,zBe,zHe,dh,cV,cW,cN,cO,cR,cU,cP,cS,Nat.reduceSub,Nat.reduceAdd,zHg,zHh,zHi,zHj,wb,zBG,zBH,if_true,if_false,cM]) <;> (try simp only [yC,zX,zp,xIf,wY,yN,gN,gNN,zW,yl,wA,zl,zA,zI,zL,yB,yU,wa,zD,look,zS,zAe,zAy,zBF,zDd,zDe,zEL,zBh,zCT,fII,yj,yq,fEq,xC,xB,zE4,zCj,zBe,zHe,dh,cV,cW,cN,cO,cR,cU,cP,cS,Nat.reduceSub,Nat.reduceAdd,zHg,zHh,zHi,zHj,wb,zBG,zBH,if_true,if_false,cM]))
 refine⟨ns.map D.int,ha,?_⟩
 dsimp only
 by_cases hk:k<ns.length
 ·rw[decide_eq_true (by rw[d7];omega),if_pos rfl]
  exact⟨_,.int ns[k],ha,zBB (by simp[hk]),FgR.of (h _)⟩
 ·rw[decide_eq_false (by rw[d7];omega),if_neg (by simp)]
  exact FgR.of (h 0)
noncomputable def yb:List D→Gp→(List D→Gp→Prop)→Prop:=fun ds G R=>∃(a:Addr) (ns:List Int) (k:Nat),ds=[.adr a,nD k]∧Ls G a (ns.map D.int)∧∀ s b,OkS s b→R [.int s,.bl b] G
theorem zFw:∀ ds G R R',(∀ ls G',R ls G'→R' ls G')→yb ds G R→yb ds G R':=by
 rintro ds G R R' h ⟨a,ns,k,e,ha,q⟩
 exact⟨a,ns,k,e,ha,fun s b o=>h _ _ (q s b o)⟩
noncomputable def zB0:yg:=(zX (zp (zL wQ (zA (zD 0) (zA (zD 1) zI))) (gN 2)) (zX (xIf (xB (zW (fII fun i j=>.bl (decide (j≤i))) (zD 2) (zW (yj zDo fun i j=>.int (i ^ j.toNat)) (xC (.int 10)) (xC (.int 18))))) (yC (zl (wA (zA (zW (fII fun i j=>.int (i-j)) (zD 2) (zW (yj zDo fun i j=>.int (i ^ j.toNat)) (xC (.int 10)) (xC (.int 18)))) (zA (xC (.bl true)) zI))))) yN) (yC (zl (wA (zA (zW (yj (fun u0 j=>0<j) fun i j=>.int (i%j)) (zD 2) (xC (.int 2147483647))) (zA (xC (.bl false)) zI)))))))
theorem zKf:zDo 10 18:=by unfold zDo;decide
theorem zJT(ds:List D)(G:Gp)(R:Q2)(h:spL yb ds G R):ds.length=2∧zB0 (zf R) (zS ["script","k","cell"] ds) G:=by
 obtain⟨a,ns,k,rfl,ha,h⟩:=h
 refine⟨rfl,?_⟩
 unfold zB0
 ((try dsimp only [yC,zX,zp,xIf,wY,yN,gN,gNN,zW,yl,wA,zl,zA,zI,zL,yB,yU,wa,zD,look,zS,zAe,zAy,zBF,zDd,zDe,zEL,zBh,zCT,fII,yj,yq,fEq,xC,xB,zE4,zCj,zBe,zHe,dh,cV,cW,cN,cO,cR,cU,cP,cS,Nat.reduceSub,Nat.reduceAdd,zHg,zHh,zHi,zHj,wb,zBG,zBH,if_true,if_false,cM]) <;> (try simp only [yC,zX,zp,xIf,wY,yN,gN,gNN,zW,yl,wA,zl,zA,zI,zL,yB,yU,wa,zD,look,zS,zAe,zAy,zBF,zDd,zDe,zEL,zBh,zCT,fII,yj,yq,fEq,xC,xB,zE4,zCj,zBe,zHe,dh,cV,cW,cN,cO,cR,cU,cP,cS,Nat.reduceSub,Nat.reduceAdd,zHg,zHh,zHi,zHj,wb,zBG,zBH,if_true,if_false,cM]))
 refine⟨a,ns,k,rfl,ha,fun c=>?_⟩
 ((try dsimp only [yC,zX,zp,xIf,wY,yN,gN,gNN,zW,yl,wA,zl,zA,zI,zL,yB,yU,wa,zD,look,zS,zAe,zAy,zBF,zDd,zDe,zEL,zBh,zCT,fII,yj,yq,fEq,xC,xB,zE4,zCj,zBe,zHe,dh,cV,cW,cN,cO,cR,cU,cP,cS,Nat.reduceSub,Nat.reduceAdd,zHg,zHh,zHi,zHj,wb,zBG,zBH,if_true,if_false,cM]) <;> (try simp only [yC,zX,zp,xIf,wY,yN,gN,gNN,zW,yl,wA,zl,zA,zI,zL,yB,yU,wa,zD,look,zS,zAe,zAy,zBF,zDd,zDe,zEL,zBh,zCT,fII,yj,yq,fEq,xC,xB,zE4,zCj,zBe,zHe,dh,cV,cW,cN,cO,cR,cU,cP,cS,Nat.reduceSub,Nat.reduceAdd,zHg,zHh,zHi,zHj,wb,zBG,zBH,if_true,if_false,cM]))
 refine⟨zKf,?_⟩
 split
 ·refine⟨zKf,fun l hl=>?_⟩
  exact FgR.of (h _ true (fun z=>by cases z) l hl)
 ·refine⟨by decide,fun l hl=>?_⟩
  exact FgR.of (h _ false (fun u0=>⟨gU _ (by decide),Int.emod_lt_of_pos _ (by decide)⟩) l hl)
noncomputable def yW:Sp2:=fun ds G R=>∃(l:Addr) (m:Nat),ds=[.adr l,nD m]∧zAt G l∧0<m∧m<1000000∧∀(r:Nat) G',r<m→Dr l G G'→R (nD r) G'
noncomputable def zCq:yg:=(zX (xIf (xB (zW wD (zD 0) (xC (.int 1)))) (zX (zp (zW (yj (fun u0 j=>0<j) fun i j=>.int (i%j)) (zW wD (zD 0) (xC (.int 0))) (zD 1)) (gN 2)) (zX (zp (zW (yj zJ9 fun i j=>.int (i / j)) (zW wD (zD 0) (xC (.int 0))) (zD 1)) (gIx (zD 0) (xC (.int 0)))) (yC (zD 2)))) yN) (zX (zp (zW (yj (fun u0 j=>0<j) fun i j=>.int (i%j)) (zW yq (zW (yj zE1 fun i j=>.int (i*j)) (zW wD (zD 0) (xC (.int 0))) (xC (.int 48271))) (xC (.int 29))) (xC (.int 2147483647))) (gIx (zD 0) (xC (.int 0)))) (zX (zp (zW (yj (fun u0 j=>0<j) fun i j=>.int (i%j)) (zW yq (zW yq (zW (yj zE1 fun i j=>.int (i*j)) (zW wD (zD 0) (xC (.int 0))) (zW wD (zD 0) (xC (.int 0)))) (zW (yj zE1 fun i j=>.int (i*j)) (xC (.int 39373)) (zW wD (zD 0) (xC (.int 0))))) (xC (.int 7))) (xC (.int 2147483629))) (gN 3)) (zX (zp (zW (yj (fun u0 j=>0<j) fun i j=>.int (i%j)) (zW yq (zW (yj zE1 fun i j=>.int (i*j)) (zD 3) (zD 3)) (zW (yj zE1 fun i j=>.int (i*j)) (xC (.int 16807)) (zD 3))) (xC (.int 2147483587))) (gN 3)) (yC (zW (yj (fun u0 j=>0<j) fun i j=>.int (i%j)) (zW (yj zJ9 fun i j=>.int (i / j)) (zD 3) (xC (.int 8))) (zD 1)))))))
theorem zEO{x:Int}{m:Nat}(h:0<m):∃ r:Nat,r<m∧x%(m:Int)=r:=⟨(x%(m:Int)).toNat,by
 have h1:=gU x (b:=(m:Int)) (by omega)
 have h2:=Int.emod_lt_of_pos x (b:=(m:Int)) (by omega)
 omega,by
 have h1:=gU x (b:=(m:Int)) (by omega)
 omega⟩
theorem zKg(ds:List D)(G:Gp)(R:Q2)(h:yW ds G R):ds.length=2∧zCq (zf R) (zS ["state","many","found","mixed"] ds) G:=by
 obtain⟨l,m,rfl,⟨s,b,hG,ok⟩,hm,hm2,h⟩:=h
 refine⟨rfl,?_⟩
 unfold zCq
 ((try dsimp only [yC,zX,zp,xIf,wY,yN,gN,gNN,zW,yl,wA,zl,zA,zI,zL,yB,yU,wa,zD,look,zS,zAe,zAy,zBF,zDd,zDe,zEL,zBh,zCT,fII,yj,yq,fEq,xC,xB,zE4,zCj,zBe,zHe,dh,cV,cW,cN,cO,cR,cU,cP,cS,Nat.reduceSub,Nat.reduceAdd,zHg,zHh,zHi,zHj,wb,zBG,zBH,if_true,if_false,cM]) <;> (try simp only [yC,zX,zp,xIf,wY,yN,gN,gNN,zW,yl,wA,zl,zA,zI,zL,yB,yU,wa,zD,look,zS,zAe,zAy,zBF,zDd,zDe,zEL,zBh,zCT,fII,yj,yq,fEq,xC,xB,zE4,zCj,zBe,zHe,dh,cV,cW,cN,cO,cR,cU,cP,cS,Nat.reduceSub,Nat.reduceAdd,zHg,zHh,zHi,zHj,wb,zBG,zBH,if_true,if_false,cM]))
 refine zAC hG (zGc _ _ _) ?_
 cases b with
 | true =>
  ((try dsimp only [yC,zX,zp,xIf,wY,yN,gN,gNN,zW,yl,wA,zl,zA,zI,zL,yB,yU,wa,zD,look,zS,zAe,zAy,zBF,zDd,zDe,zEL,zBh,zCT,fII,yj,yq,fEq,xC,xB,zE4,zCj,zBe,zHe,dh,cV,cW,cN,cO,cR,cU,cP,cS,Nat.reduceSub,Nat.reduceAdd,zHg,zHh,zHi,zHj,wb,zBG,zBH,if_true,if_false,cM]) <;> (try simp only [yC,zX,zp,xIf,wY,yN,gN,gNN,zW,yl,wA,zl,zA,zI,zL,yB,yU,wa,zD,look,zS,zAe,zAy,zBF,zDd,zDe,zEL,zBh,zCT,fII,yj,yq,fEq,xC,xB,zE4,zCj,zBe,zHe,dh,cV,cW,cN,cO,cR,cU,cP,cS,Nat.reduceSub,Nat.reduceAdd,zHg,zHh,zHi,zHj,wb,zBG,zBH,if_true,if_false,cM]))
  refine zAC hG (zCo _ _) ?_
  ((try dsimp only [yC,zX,zp,xIf,wY,yN,gN,gNN,zW,yl,wA,zl,zA,zI,zL,yB,yU,wa,zD,look,zS,zAe,zAy,zBF,zDd,zDe,zEL,zBh,zCT,fII,yj,yq,fEq,xC,xB,zE4,zCj,zBe,zHe,dh,cV,cW,cN,cO,cR,cU,cP,cS,Nat.reduceSub,Nat.reduceAdd,zHg,zHh,zHi,zHj,wb,zBG,zBH,if_true,if_false,cM]) <;> (try simp only [yC,zX,zp,xIf,wY,yN,gN,gNN,zW,yl,wA,zl,zA,zI,zL,yB,yU,wa,zD,look,zS,zAe,zAy,zBF,zDd,zDe,zEL,zBh,zCT,fII,yj,yq,fEq,xC,xB,zE4,zCj,zBe,zHe,dh,cV,cW,cN,cO,cR,cU,cP,cS,Nat.reduceSub,Nat.reduceAdd,zHg,zHh,zHi,zHj,wb,zBG,zBH,if_true,if_false,cM]))
  refine⟨by omega,zAC hG (zCo _ _) ?_⟩
  ((try dsimp only [yC,zX,zp,xIf,wY,yN,gN,gNN,zW,yl,wA,zl,zA,zI,zL,yB,yU,wa,zD,look,zS,zAe,zAy,zBF,zDd,zDe,zEL,zBh,zCT,fII,yj,yq,fEq,xC,xB,zE4,zCj,zBe,zHe,dh,cV,cW,cN,cO,cR,cU,cP,cS,Nat.reduceSub,Nat.reduceAdd,zHg,zHh,zHi,zHj,wb,zBG,zBH,if_true,if_false,cM]) <;> (try simp only [yC,zX,zp,xIf,wY,yN,gN,gNN,zW,yl,wA,zl,zA,zI,zL,yB,yU,wa,zD,look,zS,zAe,zAy,zBF,zDd,zDe,zEL,zBh,zCT,fII,yj,yq,fEq,xC,xB,zE4,zCj,zBe,zHe,dh,cV,cW,cN,cO,cR,cU,cP,cS,Nat.reduceSub,Nat.reduceAdd,zHg,zHh,zHi,zHj,wb,zBG,zBH,if_true,if_false,cM]))
  refine⟨⟨by omega,by omega⟩,zNX rfl hG ?_⟩
  ((try dsimp only [yC,zX,zp,xIf,wY,yN,gN,gNN,zW,yl,wA,zl,zA,zI,zL,yB,yU,wa,zD,look,zS,zAe,zAy,zBF,zDd,zDe,zEL,zBh,zCT,fII,yj,yq,fEq,xC,xB,zE4,zCj,zBe,zHe,dh,cV,cW,cN,cO,cR,cU,cP,cS,Nat.reduceSub,Nat.reduceAdd,zHg,zHh,zHi,zHj,wb,zBG,zBH,if_true,if_false,cM]) <;> (try simp only [yC,zX,zp,xIf,wY,yN,gN,gNN,zW,yl,wA,zl,zA,zI,zL,yB,yU,wa,zD,look,zS,zAe,zAy,zBF,zDd,zDe,zEL,zBh,zCT,fII,yj,yq,fEq,xC,xB,zE4,zCj,zBe,zHe,dh,cV,cW,cN,cO,cR,cU,cP,cS,Nat.reduceSub,Nat.reduceAdd,zHg,zHh,zHi,zHj,wb,zBG,zBH,if_true,if_false,cM]))
  obtain⟨r,hr,e⟩:=zEO (x:=s) hm
  rw[e]
  exact FgR.of (h r _ hr ⟨_,true,rfl,fun z=>by cases z⟩)
 | false =>
  obtain⟨h0,h1⟩:=ok rfl
  ((try dsimp only [yC,zX,zp,xIf,wY,yN,gN,gNN,zW,yl,wA,zl,zA,zI,zL,yB,yU,wa,zD,look,zS,zAe,zAy,zBF,zDd,zDe,zEL,zBh,zCT,fII,yj,yq,fEq,xC,xB,zE4,zCj,zBe,zHe,dh,cV,cW,cN,cO,cR,cU,cP,cS,Nat.reduceSub,Nat.reduceAdd,zHg,zHh,zHi,zHj,wb,zBG,zBH,if_true,if_false,cM]) <;> (try simp only [yC,zX,zp,xIf,wY,yN,gN,gNN,zW,yl,wA,zl,zA,zI,zL,yB,yU,wa,zD,look,zS,zAe,zAy,zBF,zDd,zDe,zEL,zBh,zCT,fII,yj,yq,fEq,xC,xB,zE4,zCj,zBe,zHe,dh,cV,cW,cN,cO,cR,cU,cP,cS,Nat.reduceSub,Nat.reduceAdd,zHg,zHh,zHi,zHj,wb,zBG,zBH,if_true,if_false,cM]))
  refine zAC hG (zCo _ _) ?_
  ((try dsimp only [yC,zX,zp,xIf,wY,yN,gN,gNN,zW,yl,wA,zl,zA,zI,zL,yB,yU,wa,zD,look,zS,zAe,zAy,zBF,zDd,zDe,zEL,zBh,zCT,fII,yj,yq,fEq,xC,xB,zE4,zCj,zBe,zHe,dh,cV,cW,cN,cO,cR,cU,cP,cS,Nat.reduceSub,Nat.reduceAdd,zHg,zHh,zHi,zHj,wb,zBG,zBH,if_true,if_false,cM]) <;> (try simp only [yC,zX,zp,xIf,wY,yN,gN,gNN,zW,yl,wA,zl,zA,zI,zL,yB,yU,wa,zD,look,zS,zAe,zAy,zBF,zDd,zDe,zEL,zBh,zCT,fII,yj,yq,fEq,xC,xB,zE4,zCj,zBe,zHe,dh,cV,cW,cN,cO,cR,cU,cP,cS,Nat.reduceSub,Nat.reduceAdd,zHg,zHh,zHi,zHj,wb,zBG,zBH,if_true,if_false,cM]))
  refine⟨.inl ⟨by omega,by omega⟩,by decide,zNX rfl hG ?_⟩
  have p0:=gU (s*48271+29) (b:=2147483647) (by decide)
  have p1:=Int.emod_lt_of_pos (s*48271+29) (b:=2147483647) (by decide)
  generalize (s*48271+29)%2147483647=s1 at p0 p1 ⊢
  have hG1:(zQ G l [D.int s1,D.bl false]).m l=some [D.int s1,D.bl false]:=zG
  ((try dsimp only [yC,zX,zp,xIf,wY,yN,gN,gNN,zW,yl,wA,zl,zA,zI,zL,yB,yU,wa,zD,look,zS,zAe,zAy,zBF,zDd,zDe,zEL,zBh,zCT,fII,yj,yq,fEq,xC,xB,zE4,zCj,zBe,zHe,dh,cV,cW,cN,cO,cR,cU,cP,cS,Nat.reduceSub,Nat.reduceAdd,zHg,zHh,zHi,zHj,wb,zBG,zBH,if_true,if_false,cM]) <;> (try simp only [yC,zX,zp,xIf,wY,yN,gN,gNN,zW,yl,wA,zl,zA,zI,zL,yB,yU,wa,zD,look,zS,zAe,zAy,zBF,zDd,zDe,zEL,zBh,zCT,fII,yj,yq,fEq,xC,xB,zE4,zCj,zBe,zHe,dh,cV,cW,cN,cO,cR,cU,cP,cS,Nat.reduceSub,Nat.reduceAdd,zHg,zHh,zHi,zHj,wb,zBG,zBH,if_true,if_false,cM]))
  refine zAC hG1 (zCo _ _) (zAC hG1 (zCo _ _) ?_)
  ((try dsimp only [yC,zX,zp,xIf,wY,yN,gN,gNN,zW,yl,wA,zl,zA,zI,zL,yB,yU,wa,zD,look,zS,zAe,zAy,zBF,zDd,zDe,zEL,zBh,zCT,fII,yj,yq,fEq,xC,xB,zE4,zCj,zBe,zHe,dh,cV,cW,cN,cO,cR,cU,cP,cS,Nat.reduceSub,Nat.reduceAdd,zHg,zHh,zHi,zHj,wb,zBG,zBH,if_true,if_false,cM]) <;> (try simp only [yC,zX,zp,xIf,wY,yN,gN,gNN,zW,yl,wA,zl,zA,zI,zL,yB,yU,wa,zD,look,zS,zAe,zAy,zBF,zDd,zDe,zEL,zBh,zCT,fII,yj,yq,fEq,xC,xB,zE4,zCj,zBe,zHe,dh,cV,cW,cN,cO,cR,cU,cP,cS,Nat.reduceSub,Nat.reduceAdd,zHg,zHh,zHi,zHj,wb,zBG,zBH,if_true,if_false,cM]))
  refine⟨.inl ⟨by omega,by omega⟩,zAC hG1 (zCo _ _) ?_⟩
  ((try dsimp only [yC,zX,zp,xIf,wY,yN,gN,gNN,zW,yl,wA,zl,zA,zI,zL,yB,yU,wa,zD,look,zS,zAe,zAy,zBF,zDd,zDe,zEL,zBh,zCT,fII,yj,yq,fEq,xC,xB,zE4,zCj,zBe,zHe,dh,cV,cW,cN,cO,cR,cU,cP,cS,Nat.reduceSub,Nat.reduceAdd,zHg,zHh,zHi,zHj,wb,zBG,zBH,if_true,if_false,cM]) <;> (try simp only [yC,zX,zp,xIf,wY,yN,gN,gNN,zW,yl,wA,zl,zA,zI,zL,yB,yU,wa,zD,look,zS,zAe,zAy,zBF,zDd,zDe,zEL,zBh,zCT,fII,yj,yq,fEq,xC,xB,zE4,zCj,zBe,zHe,dh,cV,cW,cN,cO,cR,cU,cP,cS,Nat.reduceSub,Nat.reduceAdd,zHg,zHh,zHi,zHj,wb,zBG,zBH,if_true,if_false,cM]))
  refine⟨.inl ⟨by omega,by omega⟩,by decide,?_⟩
  have p2:=gU (s1*s1+39373*s1+7) (b:=2147483629) (by decide)
  have p3:=Int.emod_lt_of_pos (s1*s1+39373*s1+7) (b:=2147483629) (by decide)
  generalize (s1*s1+39373*s1+7)%2147483629=s2 at p2 p3 ⊢
  refine⟨.inl ⟨by omega,by omega⟩,.inl ⟨by omega,by omega⟩,by decide,⟨by decide,by decide⟩,by omega,?_⟩
  obtain⟨r,hr,e⟩:=zEO (x:=(s2*s2+16807*s2)%2147483587 / 8) hm
  rw[e]
  exact FgR.of (h r _ hr ⟨_,false,rfl,fun u0=>⟨p0,p1⟩⟩)
noncomputable def zBi(n i:Nat):List (Nat×Nat):=(cY i).flatMap fun i=>(cY (n-(i+1))).map fun k=>(i,i+1+k)
theorem zFd(n:Nat):zBi n n=prs n:=rfl
theorem zEP(n i:Nat):zBi n (i+1)=zBi n i++(cY (n-(i+1))).map fun k=>(i,i+1+k):=by
 unfold zBi
 rw[gR,List.flatMap_append]
 simp
theorem zJU{n i:Nat}(hi:i≤n)(h:n≤100):(zBi n i).length≤10000:=by
 have:(zBi n i).length≤(prs n).length:=by
  obtain⟨k,rfl⟩:=Nat.exists_eq_add_of_le hi
  rw[← zFd]
  have:∀ k,(zBi (i+k) i).length≤(zBi (i+k) (i+k)).length:=fun k=>by
   unfold zBi
   rw[List.range_add,List.flatMap_append,du];omega
  exact this k
 have:=zEM h
 omega
theorem zHl{n i:Nat}{x:D}(h:((cY n).map nD)[i]?=some x):x=nD i∧i<n:=by
 rw[dJ] at h
 cases q:(cY n)[i]? with
 | none=>rw[q] at h;cases h
 | some k =>
  rw[q] at h
  cases h
  obtain⟨h1,h2⟩:=d8.mp q
  simp at h1 h2
  subst h2
  exact⟨rfl,h1⟩
theorem zDK{wi:TI2}{g:TG2}{tb:yg}{E:zy}{σ:S2}{G:Gp}(h:wi σ G fun ds gd G1=>zKZ ds gd G1 g tb E σ):wv wi g tb E σ G:=.of h
theorem zKh{t:wH}{g:TG2}{tb:yg}{E:zy}{σ:S2}{G:Gp}{n:Nat}(ht:PuA t σ G [nD n])(hn:n≤1000)(h:zKZ ((cY n).map nD) (fun u0=>True) G g tb E σ):wv (iR1 t) g tb E σ G:=by
 refine zDK (ht G (.refl G) _ ⟨by omega,?_⟩)
 rw[zBz]
 exact h
theorem zHm{t:wH}{g:TG2}{tb:yg}{E:zy}{σ:S2}{G:Gp}{i j:Int}(ht:PuA t σ G [.int i,.int j])(hn:(-1000≤i∧i≤1000)∧-1000≤j∧j≤1000)(h:zKZ (zw i (j-i).toNat) (fun u0=>True) G g tb E σ):wv (iR2 t) g tb E σ G :=
 zDK (ht G (.refl G) _ ⟨by omega,h⟩)
theorem zMW{i:Nat}{l:Addr}{d:D}{xs:List D}{σ:S2}{G:Gp}{t:wH}{R:Q2}(ho:look σ i=some (.adr l))(h:G.m l=some xs)(ht:∀ Q:List D→Gp→Prop,Q [d] G→t σ G Q)(hz:xs.length≤1000000)(q:R .non (zQ G l (xs++[d]))):zHd (zD i) t σ G R:=by
 unfold zHd zD
 rw[ho]
 show match G.m l with | some _=>_ | none=>_
 rw[h]
 refine ht _ ?_
 show match G.m l with | some xs=>_ | none=>_
 rw[h]
 exact⟨hz,q⟩
theorem zId{i:Nat}{l:Addr}{zs xs:List D}{σ:S2}{G:Gp}{t:TL2}{R:Q2}(ho:look σ i=some (.adr l))(h:G.m l=some xs)(ht:∀ Q:List D→Gp→Prop,Q zs G→t σ G Q)(hz:xs.length+zs.length≤1000000)(q:R .non (zQ G l (xs++zs))):zKS (zD i) t σ G R:=by
 unfold zKS zD
 rw[ho]
 show match G.m l with | some _=>_ | none=>_
 rw[h]
 refine ht _ ?_
 show match G.m l with | some xs=>_ | none=>_
 rw[h]
 exact⟨hz,q⟩
theorem zIe{σ:S2}{G:Gp}{t:zm}{ps:List Nat}(h:yA t σ G (.tup (ps.map nD))):yA (zL yK (zA t zI)) σ G (nD ps.length):=wE (zH h zU) fun u0 u0 u0 q=>⟨ps.map nD,rfl,by rw[d7];exact q⟩
noncomputable def zB1:yg:=(zX (zp (zl (wA zI)) (gN 1)) (zX (wv (iR1 (zA (zD 0) zI)) (gN 2) (wY (zKS (zD 1) (yT (iR2 (zA (zW yq (zD 2) (xC (.int 1))) (zA (zD 0) zI))) bd1 zCi (yl (zA (zD 2) (zA (zD 3) zI))))))) (yC (zD 1))))
theorem zJV(ds:List D)(G:Gp)(R:Q2)(h:spL yZ ds G R):ds.length=1∧zB1 (zf R) (zS ["many","found","one"] ds) G:=by
 obtain⟨n,rfl,hn,h⟩:=h
 refine⟨rfl,?_⟩
 unfold zB1
 ((try dsimp only [yC,zX,zp,xIf,wY,yN,gN,gNN,zW,yl,wA,zl,zA,zI,zL,yB,yU,wa,zD,look,zS,zAe,zAy,zBF,zDd,zDe,zEL,zBh,zCT,fII,yj,yq,fEq,xC,xB,zE4,zCj,zBe,zHe,dh,cV,cW,cN,cO,cR,cU,cP,cS,Nat.reduceSub,Nat.reduceAdd,zHg,zHh,zHi,zHj,wb,zBG,zBH,if_true,if_false,cM]) <;> (try simp only [yC,zX,zp,xIf,wY,yN,gN,gNN,zW,yl,wA,zl,zA,zI,zL,yB,yU,wa,zD,look,zS,zAe,zAy,zBF,zDd,zDe,zEL,zBh,zCT,fII,yj,yq,fEq,xC,xB,zE4,zCj,zBe,zHe,dh,cV,cW,cN,cO,cR,cU,cP,cS,Nat.reduceSub,Nat.reduceAdd,zHg,zHh,zHi,zHj,wb,zBG,zBH,if_true,if_false,cM]))
 intro l hl
 refine zKh (n:=n) (zH (zF rfl) zU) (by omega) ?_
 refine zDz (fun i G'=>G'=zQ G l ((zBi n i).map prD)) rfl (fun u0 u0 u0=>trivial) ?_ ?_
 ·rintro i x hx G2 rfl
  obtain⟨rfl,hi⟩:=zHl hx
  have hlen:=zJU (n:=n) (i:=i+1) (by omega) hn
  rw[zEP,du,d7,dP] at hlen
  have hw:PuI (iR2 (zA (zW yq (zD 2) (xC (.int 1))) (zA (zD 0) zI))) [some (nD n),some (.adr l),some (nD i)] (zQ G l ((zBi n i).map prD)) (zw ((i:Int)+1) ((n:Int)-((i:Int)+1)).toNat) :=
   zJP (zH (wu (zF rfl) yp fun u0 u0 u0 q=>q) (zH (zF rfl) zU)) (by omega)
  have:=zHf (bd:=bd1) (te:=yl (zA (zD 2) (zA (zD 3) zI))) (fun d=>.tup [nD i,d]) (fun d=>[d]) hw fun x hx=>⟨rfl,zBE (zH (zF rfl) (zH (zF rfl) zU)) (by simp)⟩
  ((try dsimp only [yC,zX,zp,xIf,wY,yN,gN,gNN,zW,yl,wA,zl,zA,zI,zL,yB,yU,wa,zD,look,zS,zAe,zAy,zBF,zDd,zDe,zEL,zBh,zCT,fII,yj,yq,fEq,xC,xB,zE4,zCj,zBe,zHe,dh,cV,cW,cN,cO,cR,cU,cP,cS,Nat.reduceSub,Nat.reduceAdd,zHg,zHh,zHi,zHj,wb,zBG,zBH,if_true,if_false,cM]) <;> (try simp only [yC,zX,zp,xIf,wY,yN,gN,gNN,zW,yl,wA,zl,zA,zI,zL,yB,yU,wa,zD,look,zS,zAe,zAy,zBF,zDd,zDe,zEL,zBh,zCT,fII,yj,yq,fEq,xC,xB,zE4,zCj,zBe,zHe,dh,cV,cW,cN,cO,cR,cU,cP,cS,Nat.reduceSub,Nat.reduceAdd,zHg,zHh,zHi,zHj,wb,zBG,zBH,if_true,if_false,cM]))
  have e:((n:Int)-((i:Int)+1)).toNat=n-(i+1):=by omega
  have e2:dh (fun d=>D.tup [nD i,d]) (zw ((i:Int)+1) ((n:Int)-((i:Int)+1)).toNat)=((cY (n-(i+1))).map fun k=>(i,i+1+k)).map prD:=by
   rw[e]
   unfold zw
   rw[fb,fb]
   refine g8 fun k u0=>?_
   simp[prD,nD]
  rw[e2] at this
  refine zId rfl zG (fun Q q=>this _ (.refl _) Q q) (by simp only[d7,dP];omega) ⟨.keep (.keep (.skip .nil)),_,.refl _,?_⟩
  rw[zBv,zEP,fX]
 ·rintro G2 rfl
  rw[d7,dP,zFd]
  exact FgR.of (h l hl)
theorem zKi(l:List Nat)(i:Nat):((l.map nD).any fun z=>eqD z (nD i))=decide (i∈l):=by
 rw[List.any_map,eM]
 simp only[List.any_eq_true,Function.comp,zBx,decide_eq_true_eq,zDq]
 constructor
 ·rintro⟨x,h,rfl⟩;exact h
 ·intro h;exact⟨i,h,rfl⟩
theorem zGf(l:List Nat):∀ d∈l.map nD,flat 8 d=true:=by
 intro d hd
 obtain⟨k,u0,rfl⟩:=dI.mp hd
 rfl
theorem zOg{σ:S2}{G:Gp}{t u:zm}{ng:Bool}{x:D}{ds:List D}{b:Bool}(h:yA t σ G x)(h':yA u σ G (.tup ds))(f:flat 8 x=true)(fs:∀ d∈ds,flat 8 d=true)(e:(if ng then !ds.any fun z=>eqD z x else ds.any fun z=>eqD z x)=b):yA (zW (fIn ng) t u) σ G (.bl b) :=
 wu h h' fun u0 u0 u0 q=>⟨f,fs,by rw[e];exact q⟩
theorem zKj{σ:S2}{G:Gp}{t u:zm}{i j:Int}(h:yA t σ G (.int i))(h':yA u σ G (.int j)):yA (zW yq t u) σ G (.int (i+j)):=wu h h' fun u0 u0 u0 q=>q
noncomputable def zBI(n:Nat)(r:List Nat):Prop:=r.Perm (cY n++cY n)
theorem zBI.len{n:Nat}{r:List Nat}(h:zBI n r):r.length=2*n:=by
 have:=h.length_eq
 simp at this;omega
theorem zBI.mem{n:Nat}{r:List Nat}(h:zBI n r){x:Nat}:x∈r↔x<n:=by
 rw[h.mem_iff];simp
theorem zGg{n i:Nat}:(cY n).count i=if i<n then 1 else 0:=by
 induction n with
 | zero=>simp
 | succ n ih =>
  rw[gR,List.count_append,ih]
  by_cases h:i=n
  ·subst h;simp
  ·have:(n==i)=false:=by simpa using fun e=>h e.symm
   simp[List.count_cons,this]
   split<;>split<;>omega
theorem zBI.count{n:Nat}{r:List Nat}(h:zBI n r){i:Nat}(hi:i<n):r.count i=2:=by
 rw[h.count_eq,List.count_append,zGg,if_pos hi]
noncomputable def both(r:List Nat)(p:Nat×Nat):List Nat:=r.filter fun x=>decide (x=p.1)||decide (x=p.2)
noncomputable def zAX(r:List Nat)(p:Nat×Nat):Bool:=match both r p with | a::b::c::_=>decide (a≠b)&&decide (b≠c) | _=>false
theorem zKk{n:Nat}{r:List Nat}(h:zBI n r){p:Nat×Nat}(hp:p∈prs n):(both r p).length=4:=by
 obtain⟨i,j⟩:=p
 obtain⟨h1,h2⟩:=zIc.mp hp
 have:∀ l:List Nat,(l.filter fun x=>decide (x=i)||decide (x=j)).length=l.count i+l.count j:=by
  intro l
  induction l with
  | nil=>rfl
  | cons a r ih =>
   simp only[List.filter_cons,List.count_cons]
   by_cases ha:a=i
   ·subst ha
    have:¬ a=j:=by dsimp only at h1;omega
    simp[this,ih];omega
   ·by_cases hb:a=j
    ·subst hb;simp[ha,ih];omega
    ·simp[ha,hb,ih]
 unfold both
 rw[this,h.count (by dsimp only at h1 h2;omega),h.count h2]
theorem _root_.L3.Sub.put{G G':Gp}{f:Addr}{x:List D}(h:Sub G G')(n:G.m f=none):Sub G (zQ G' f x) :=
 ⟨fun a o e=>by rw[zb (gne e n)];exact h.m a o e,fun a o e=>h.ro a o e⟩
noncomputable def yk:Sp2:=fun ds G R=>∃(n:Nat) (r:List Nat),ds=[.tup (r.map nD)]∧zBI n r∧n≤100∧R (zn n (zAX r)) G
noncomputable def zBJ:yg:=(zX (zp (zW (yj zJ9 fun i j=>.int (i / j)) (zL yK (zA (zD 0) zI)) (xC (.int 2))) (gN 1)) (zX (zp (zl (wA zI)) (gN 2)) (zX (wv (iF (yB yZ (zA (zD 1) zI))) (gNN 3 4) (zX (zCE 5 (yT (iV (zD 0)) bd1 (xB (zW (fIn false) (zD 6) (yl (zA (zD 3) (zA (zD 4) zI))))) (zD 6))) (xIf (zCj (xB (zW (fEq true) (zW wD (zD 5) (xC (.int 0))) (zW wD (zD 5) (xC (.int 1))))) (xB (zW (fEq true) (zW wD (zD 5) (xC (.int 1))) (zW wD (zD 5) (xC (.int 2)))))) (wY (zHd (zD 2) (zA (yl (zA (zD 3) (zA (zD 4) zI))) zI))) yN))) (yC (yl (zA (zD 1) (zA (zL zDy (zA (zD 2) zI)) zI)))))))
theorem zMX{σ:S2}{G:Gp}{r:List Nat}{p:Nat×Nat}{x1 x2 x5:Option D}(h:σ=[some (.tup (r.map nD)),x1,x2,some (nD p.1),some (nD p.2),x5]) :
  PuL (yT (iV (zD 0)) bd1 (xB (zW (fIn false) (zD 6) (yl (zA (zD 3) (zA (zD 4) zI))))) (zD 6)) σ G ((both r p).map nD):=by
 subst h
 have:=zCn (bd:=bd1) (tc:=(xB (zW (fIn false) (zD 6) (yl (zA (zD 3) (zA (zD 4) zI)))))) (te:=zD 6) (fun d=>match d with | .int x=>decide (x.toNat=p.1)||decide (x.toNat=p.2) | _=>false) (fun d=>d) (fun d=>[d])
  (zFb (σ:=[some (.tup (r.map nD)),x1,x2,some (nD p.1),some (nD p.2),x5]) (G:=G) (zF (i:=0) rfl)) fun x hx=>by
   obtain⟨k,hk,rfl⟩:=dI.mp hx
   refine⟨rfl,zCl (zOg (zF (d:=nD k) rfl) (zBE (zH (zF (d:=nD p.1) rfl) (zH (zF (d:=nD p.2) rfl) zU)) (by simp)) rfl (zGf [p.1,p.2]) ?_),fun u0=>zF rfl⟩
   have:=zKi [p.1,p.2] k
   simp only[dh] at this
   simp only[cM,if_false,this]
   rw[eM]
   simp
 have e:dh (fun d=>d) (List.filter (fun d=>match d with | .int x=>decide (x.toNat=p.1)||decide (x.toNat=p.2) | _=>false) (r.map nD))=(both r p).map nD:=by
  rw[List.map_id',List.filter_map]
  rfl
 rw[e] at this
 exact this
theorem zDt{α:Type}{f:α→D}{l:List α}{i:Nat}{x:D}(h:(l.map f)[i]?=some x):∃ a,l[i]?=some a∧x=f a:=by
 rw[dJ] at h
 cases q:l[i]? with
 | none=>rw[q] at h;cases h
 | some a=>rw[q] at h;cases h;exact⟨a,rfl,rfl⟩
theorem zHn(ds:List D)(G:Gp)(R:Q2)(h:yk ds G R):ds.length=1∧zBJ (zf R) (zS ["ring","many","found","one","other","some"] ds) G:=by
 obtain⟨n,r,rfl,hr,hn,h⟩:=h
 refine⟨rfl,?_⟩
 unfold zBJ
 ((try dsimp only [yC,zX,zp,xIf,wY,yN,gN,gNN,zW,yl,wA,zl,zA,zI,zL,yB,yU,wa,zD,look,zS,zAe,zAy,zBF,zDd,zDe,zEL,zBh,zCT,fII,yj,yq,fEq,xC,xB,zE4,zCj,zBe,zHe,zCE,dh,cV,cW,cN,cO,cR,cU,cP,cS,Nat.reduceSub,Nat.reduceAdd,zHg,zHh,zHi,zHj,wb,zBG,zBH,if_true,if_false,cM]) <;> (try simp only [yC,zX,zp,xIf,wY,yN,gN,gNN,zW,yl,wA,zl,zA,zI,zL,yB,yU,wa,zD,look,zS,zAe,zAy,zBF,zDd,zDe,zEL,zBh,zCT,fII,yj,yq,fEq,xC,xB,zE4,zCj,zBe,zHe,zCE,dh,cV,cW,cN,cO,cR,cU,cP,cS,Nat.reduceSub,Nat.reduceAdd,zHg,zHh,zHi,zHj,wb,zBG,zBH,if_true,if_false,cM]))
 refine⟨r.map nD,rfl,?_⟩
 ((try dsimp only [yC,zX,zp,xIf,wY,yN,gN,gNN,zW,yl,wA,zl,zA,zI,zL,yB,yU,wa,zD,look,zS,zAe,zAy,zBF,zDd,zDe,zEL,zBh,zCT,fII,yj,yq,fEq,xC,xB,zE4,zCj,zBe,zHe,zCE,dh,cV,cW,cN,cO,cR,cU,cP,cS,Nat.reduceSub,Nat.reduceAdd,zHg,zHh,zHi,zHj,wb,zBG,zBH,if_true,if_false,cM]) <;> (try simp only [yC,zX,zp,xIf,wY,yN,gN,gNN,zW,yl,wA,zl,zA,zI,zL,yB,yU,wa,zD,look,zS,zAe,zAy,zBF,zDd,zDe,zEL,zBh,zCT,fII,yj,yq,fEq,xC,xB,zE4,zCj,zBe,zHe,zCE,dh,cV,cW,cN,cO,cR,cU,cP,cS,Nat.reduceSub,Nat.reduceAdd,zHg,zHh,zHi,zHj,wb,zBG,zBH,if_true,if_false,cM]))
 refine⟨⟨by decide,by decide⟩,fun f hf=>?_⟩
 have e:(((r.map nD).length:Int) / 2)=(n:Int):=by rw[d7,hr.len];omega
 rw[e]
 refine zDK ⟨n,rfl,hn,fun a ha=>?_⟩
 have fa:a≠f:=fun e=>by rw[e,zG] at ha;cases ha
 have ga:G.m a=none:=by rw[zb fa] at ha;exact ha
 refine zDz (fun k G'=>G'.m f=some ((((prs n).take k).filter (zAX r)).map prD)∧G'.m a=some ((prs n).map prD)∧Sub G G') ⟨?_,zG,?_⟩ (fun u0 u0 h=>.inl h.2.1) ?_ ?_
 ·rw[zb (Ne.symm fa)];exact zG
 ·exact((Sub.refl G).put hf).put ga
 ·rintro k x hx G2 ⟨h1,h2,h3⟩
  obtain⟨p,hp,rfl⟩:=zDt hx
  have hp':=dM hp
  have hc:(((prs n).take (k+1)).filter (zAX r))=(((prs n).take k).filter (zAX r))++(if zAX r p=true then [p] else []):=by
   rw[yt hp,List.filter_append]
   congr 1
   simp[List.filter_cons]
  show gNN 3 4 (.tup [nD p.1,nD p.2]) _ _ _
  ((try dsimp only [yC,zX,zp,xIf,wY,yN,gN,gNN,zW,yl,wA,zl,zA,zI,zL,yB,yU,wa,zD,look,zS,zAe,zAy,zBF,zDd,zDe,zEL,zBh,zCT,fII,yj,yq,fEq,xC,xB,zE4,zCj,zBe,zHe,zCE,dh,cV,cW,cN,cO,cR,cU,cP,cS,Nat.reduceSub,Nat.reduceAdd,zHg,zHh,zHi,zHj,wb,zBG,zBH,if_true,if_false,cM]) <;> (try simp only [yC,zX,zp,xIf,wY,yN,gN,gNN,zW,yl,wA,zl,zA,zI,zL,yB,yU,wa,zD,look,zS,zAe,zAy,zBF,zDd,zDe,zEL,zBh,zCT,fII,yj,yq,fEq,xC,xB,zE4,zCj,zBe,zHe,zCE,dh,cV,cW,cN,cO,cR,cU,cP,cS,Nat.reduceSub,Nat.reduceAdd,zHg,zHh,zHi,zHj,wb,zBG,zBH,if_true,if_false,cM]))
  refine zMX rfl G2 (.refl G2) _ fun s hs=>?_
  have hl:=zKk hr hp'
  have hz:((((prs n).take k).filter (zAX r)).map prD).length≤1000000:=by
   rw[d7]
   have:=fT (zAX r) ((prs n).take k)
   rw[dO] at this
   have:=zEM hn
   omega
  have sf:s≠f:=fun e=>by rw[e,h1] at hs;cases hs
  have sa:s≠a:=fun e=>by rw[e,h2] at hs;cases hs
  have gs:G.m s=none:=by
   cases q:G.m s with
   | none=>rfl
   | some o=>rw[h3.m s o q] at hs;cases hs
  match hb:both r p,hl with
  | [x,y,z,w],_ =>
   have hcr:zAX r p=(decide (x≠y)&&decide (y≠z)):=by unfold zAX;rw[hb]
   rw[hcr] at hc
   ((try dsimp only [yC,zX,zp,xIf,wY,yN,gN,gNN,zW,yl,wA,zl,zA,zI,zL,yB,yU,wa,zD,look,zS,zAe,zAy,zBF,zDd,zDe,zEL,zBh,zCT,fII,yj,yq,fEq,xC,xB,zE4,zCj,zBe,zHe,zCE,dh,cV,cW,cN,cO,cR,cU,cP,cS,Nat.reduceSub,Nat.reduceAdd,zHg,zHh,zHi,zHj,wb,zBG,zBH,if_true,if_false,cM]) <;> (try simp only [yC,zX,zp,xIf,wY,yN,gN,gNN,zW,yl,wA,zl,zA,zI,zL,yB,yU,wa,zD,look,zS,zAe,zAy,zBF,zDd,zDe,zEL,zBh,zCT,fII,yj,yq,fEq,xC,xB,zE4,zCj,zBe,zHe,zCE,dh,cV,cW,cN,cO,cR,cU,cP,cS,Nat.reduceSub,Nat.reduceAdd,zHg,zHh,zHi,zHj,wb,zBG,zBH,if_true,if_false,cM]))
   refine zAC zG (zCo _ _) (zAC zG (zGc _ _ _) ?_)
   ((try dsimp only [yC,zX,zp,xIf,wY,yN,gN,gNN,zW,yl,wA,zl,zA,zI,zL,yB,yU,wa,zD,look,zS,zAe,zAy,zBF,zDd,zDe,zEL,zBh,zCT,fII,yj,yq,fEq,xC,xB,zE4,zCj,zBe,zHe,zCE,dh,cV,cW,cN,cO,cR,cU,cP,cS,Nat.reduceSub,Nat.reduceAdd,zHg,zHh,zHi,zHj,wb,zBG,zBH,if_true,if_false,cM]) <;> (try simp only [yC,zX,zp,xIf,wY,yN,gN,gNN,zW,yl,wA,zl,zA,zI,zL,yB,yU,wa,zD,look,zS,zAe,zAy,zBF,zDd,zDe,zEL,zBh,zCT,fII,yj,yq,fEq,xC,xB,zE4,zCj,zBe,zHe,zCE,dh,cV,cW,cN,cO,cR,cU,cP,cS,Nat.reduceSub,Nat.reduceAdd,zHg,zHh,zHi,zHj,wb,zBG,zBH,if_true,if_false,cM]))
   refine⟨rfl,rfl,?_⟩
   have exy:(!eqD (nD x) (nD y))=decide (x≠y):=by rw[zBx];rw[eM];simp;omega
   have eyz:(!eqD (nD y) (nD z))=decide (y≠z):=by rw[zBx];rw[eM];simp;omega
   rw[exy]
   have no:(decide (x≠y)&&decide (y≠z))=false→wt [some (.tup (r.map nD)),some (.int n),some (.adr f),none,none,none] [some (.tup (r.map nD)),some (.int n),some (.adr f),some (nD p.1),some (nD p.2),some (.adr s)]∧∃ G'',Sub G'' (zQ G2 s ([x,y,z,w].map nD))∧(G''.m f=some ((((prs n).take (k+1)).filter (zAX r)).map prD)∧G''.m a=some ((prs n).map prD)∧Sub G G''):=fun hf=>by
    refine⟨.keep (.keep (.keep (.skip (.skip (.skip .nil))))),G2,.new hs,?_,h2,h3⟩
    rw[hc,hf];simpa using h1
   by_cases c1:x≠y
   ·rw[decide_eq_true c1]
    ((try dsimp only [yC,zX,zp,xIf,wY,yN,gN,gNN,zW,yl,wA,zl,zA,zI,zL,yB,yU,wa,zD,look,zS,zAe,zAy,zBF,zDd,zDe,zEL,zBh,zCT,fII,yj,yq,fEq,xC,xB,zE4,zCj,zBe,zHe,zCE,dh,cV,cW,cN,cO,cR,cU,cP,cS,Nat.reduceSub,Nat.reduceAdd,zHg,zHh,zHi,zHj,wb,zBG,zBH,if_true,if_false,cM]) <;> (try simp only [yC,zX,zp,xIf,wY,yN,gN,gNN,zW,yl,wA,zl,zA,zI,zL,yB,yU,wa,zD,look,zS,zAe,zAy,zBF,zDd,zDe,zEL,zBh,zCT,fII,yj,yq,fEq,xC,xB,zE4,zCj,zBe,zHe,zCE,dh,cV,cW,cN,cO,cR,cU,cP,cS,Nat.reduceSub,Nat.reduceAdd,zHg,zHh,zHi,zHj,wb,zBG,zBH,if_true,if_false,cM]))
    refine zAC zG (zGc _ _ _) (zAC zG (zKa _ _ _ _) ?_)
    ((try dsimp only [yC,zX,zp,xIf,wY,yN,gN,gNN,zW,yl,wA,zl,zA,zI,zL,yB,yU,wa,zD,look,zS,zAe,zAy,zBF,zDd,zDe,zEL,zBh,zCT,fII,yj,yq,fEq,xC,xB,zE4,zCj,zBe,zHe,zCE,dh,cV,cW,cN,cO,cR,cU,cP,cS,Nat.reduceSub,Nat.reduceAdd,zHg,zHh,zHi,zHj,wb,zBG,zBH,if_true,if_false,cM]) <;> (try simp only [yC,zX,zp,xIf,wY,yN,gN,gNN,zW,yl,wA,zl,zA,zI,zL,yB,yU,wa,zD,look,zS,zAe,zAy,zBF,zDd,zDe,zEL,zBh,zCT,fII,yj,yq,fEq,xC,xB,zE4,zCj,zBe,zHe,zCE,dh,cV,cW,cN,cO,cR,cU,cP,cS,Nat.reduceSub,Nat.reduceAdd,zHg,zHh,zHi,zHj,wb,zBG,zBH,if_true,if_false,cM]))
    refine⟨rfl,rfl,?_⟩
    rw[eyz]
    by_cases c2:y≠z
    ·rw[decide_eq_true c2]
     ((try dsimp only [yC,zX,zp,xIf,wY,yN,gN,gNN,zW,yl,wA,zl,zA,zI,zL,yB,yU,wa,zD,look,zS,zAe,zAy,zBF,zDd,zDe,zEL,zBh,zCT,fII,yj,yq,fEq,xC,xB,zE4,zCj,zBe,zHe,zCE,dh,cV,cW,cN,cO,cR,cU,cP,cS,Nat.reduceSub,Nat.reduceAdd,zHg,zHh,zHi,zHj,wb,zBG,zBH,if_true,if_false,cM]) <;> (try simp only [yC,zX,zp,xIf,wY,yN,gN,gNN,zW,yl,wA,zl,zA,zI,zL,yB,yU,wa,zD,look,zS,zAe,zAy,zBF,zDd,zDe,zEL,zBh,zCT,fII,yj,yq,fEq,xC,xB,zE4,zCj,zBe,zHe,zCE,dh,cV,cW,cN,cO,cR,cU,cP,cS,Nat.reduceSub,Nat.reduceAdd,zHg,zHh,zHi,zHj,wb,zBG,zBH,if_true,if_false,cM]))
     refine zMW (d:=prD p) rfl (by rw[zb (Ne.symm sf)];exact h1) (fun Q q=>by ((try dsimp only [yC,zX,zp,xIf,wY,yN,gN,gNN,zW,yl,wA,zl,zA,zI,zL,yB,yU,wa,zD,look,zS,zAe,zAy,zBF,zDd,zDe,zEL,zBh,zCT,fII,yj,yq,fEq,xC,xB,zE4,zCj,zBe,zHe,zCE,dh,cV,cW,cN,cO,cR,cU,cP,cS,Nat.reduceSub,Nat.reduceAdd,zHg,zHh,zHi,zHj,wb,zBG,zBH,if_true,if_false,cM]) <;> (try simp only [yC,zX,zp,xIf,wY,yN,gN,gNN,zW,yl,wA,zl,zA,zI,zL,yB,yU,wa,zD,look,zS,zAe,zAy,zBF,zDd,zDe,zEL,zBh,zCT,fII,yj,yq,fEq,xC,xB,zE4,zCj,zBe,zHe,zCE,dh,cV,cW,cN,cO,cR,cU,cP,cS,Nat.reduceSub,Nat.reduceAdd,zHg,zHh,zHi,zHj,wb,zBG,zBH,if_true,if_false,cM]));exact q) hz ⟨.keep (.keep (.keep (.skip (.skip (.skip .nil))))),_,.refl _,?_,?_,?_⟩
     ·rw[zG,hc,decide_eq_true c1,decide_eq_true c2]
      simp
     ·rw[zb fa,zb (Ne.symm sa)];exact h2
     ·exact(h3.put gs).put hf
    ·rw[decide_eq_false c2]
     ((try dsimp only [yC,zX,zp,xIf,wY,yN,gN,gNN,zW,yl,wA,zl,zA,zI,zL,yB,yU,wa,zD,look,zS,zAe,zAy,zBF,zDd,zDe,zEL,zBh,zCT,fII,yj,yq,fEq,xC,xB,zE4,zCj,zBe,zHe,zCE,dh,cV,cW,cN,cO,cR,cU,cP,cS,Nat.reduceSub,Nat.reduceAdd,zHg,zHh,zHi,zHj,wb,zBG,zBH,if_true,if_false,cM]) <;> (try simp only [yC,zX,zp,xIf,wY,yN,gN,gNN,zW,yl,wA,zl,zA,zI,zL,yB,yU,wa,zD,look,zS,zAe,zAy,zBF,zDd,zDe,zEL,zBh,zCT,fII,yj,yq,fEq,xC,xB,zE4,zCj,zBe,zHe,zCE,dh,cV,cW,cN,cO,cR,cU,cP,cS,Nat.reduceSub,Nat.reduceAdd,zHg,zHh,zHi,zHj,wb,zBG,zBH,if_true,if_false,cM]))
     exact no (by simp[c2])
   ·rw[decide_eq_false c1]
    ((try dsimp only [yC,zX,zp,xIf,wY,yN,gN,gNN,zW,yl,wA,zl,zA,zI,zL,yB,yU,wa,zD,look,zS,zAe,zAy,zBF,zDd,zDe,zEL,zBh,zCT,fII,yj,yq,fEq,xC,xB,zE4,zCj,zBe,zHe,zCE,dh,cV,cW,cN,cO,cR,cU,cP,cS,Nat.reduceSub,Nat.reduceAdd,zHg,zHh,zHi,zHj,wb,zBG,zBH,if_true,if_false,cM]) <;> (try simp only [yC,zX,zp,xIf,wY,yN,gN,gNN,zW,yl,wA,zl,zA,zI,zL,yB,yU,wa,zD,look,zS,zAe,zAy,zBF,zDd,zDe,zEL,zBh,zCT,fII,yj,yq,fEq,xC,xB,zE4,zCj,zBe,zHe,zCE,dh,cV,cW,cN,cO,cR,cU,cP,cS,Nat.reduceSub,Nat.reduceAdd,zHg,zHh,zHi,zHj,wb,zBG,zBH,if_true,if_false,cM]))
    exact no (by simp[c1])
 ·rintro G2 ⟨h1,h2,h3⟩
  rw[d7,fP] at h1
  ((try dsimp only [yC,zX,zp,xIf,wY,yN,gN,gNN,zW,yl,wA,zl,zA,zI,zL,yB,yU,wa,zD,look,zS,zAe,zAy,zBF,zDd,zDe,zEL,zBh,zCT,fII,yj,yq,fEq,xC,xB,zE4,zCj,zBe,zHe,zCE,dh,cV,cW,cN,cO,cR,cU,cP,cS,Nat.reduceSub,Nat.reduceAdd,zHg,zHh,zHi,zHj,wb,zBG,zBH,if_true,if_false,cM]) <;> (try simp only [yC,zX,zp,xIf,wY,yN,gN,gNN,zW,yl,wA,zl,zA,zI,zL,yB,yU,wa,zD,look,zS,zAe,zAy,zBF,zDd,zDe,zEL,zBh,zCT,fII,yj,yq,fEq,xC,xB,zE4,zCj,zBe,zHe,zCE,dh,cV,cW,cN,cO,cR,cU,cP,cS,Nat.reduceSub,Nat.reduceAdd,zHg,zHh,zHi,zHj,wb,zBG,zBH,if_true,if_false,cM]))
  refine⟨((prs n).filter (zAX r)).map prD,.inl h1,?_⟩
  exact⟨G,h3,h⟩
theorem zEQ{α:Type}:∀(l:List α) (i:Nat) (h:i<l.length),(l[i]::l.eraseIdx i).Perm l
 | a::r,0,_=>by simp
 | a::r,i+1,h=>by
  have hi:i<r.length:=by simpa using h
  simp only[List.getElem_cons_succ,List.eraseIdx_cons_succ]
  exact(fK.swap a (r[i]'hi) _).trans ((zEQ r i (by simpa using h)).cons a)
theorem zCH{α β:Type}(f:α→β):∀(l:List α) (i:Nat),(l.map f).eraseIdx i=(l.eraseIdx i).map f
 | [],_=>by simp
 | a::r,0=>by simp
 | a::r,i+1=>by simp[zCH f r i]
noncomputable def DrS(l:Addr)(G G':Gp):Prop:=∃ G1,Dr l G G1∧Sub G1 G'
theorem DrS.dr{l:Addr}{G G1 G2:Gp}(h:DrS l G G1)(d:Dr l G1 G2):DrS l G G2:=by
 obtain⟨G0,d0,s0⟩:=h
 obtain⟨G3,d3,s3⟩:=d.sub s0
 exact⟨G3,d0.trans d3,s3⟩
theorem DrS.put{l f:Addr}{G G1:Gp}{x:List D}(h:DrS l G G1)(s:zAt G l)(n:G.m f=none):DrS l G (zQ G1 f x):=by
 obtain⟨G0,d0,s0⟩:=h
 exact⟨G0,d0,s0.put (d0.none s n)⟩
theorem DrS.refl{l:Addr}{G:Gp}(s:zAt G l):DrS l G G:=⟨G,.refl s,.refl G⟩
theorem DrS.st{l:Addr}{G G':Gp}(h:DrS l G G'):zAt G' l:=by
 obtain⟨G0,d0,s0⟩:=h
 exact d0.st.ext s0
theorem DrS.own{l:Addr}{G G':Gp}(h:DrS l G G')(s:zAt G l){a:Addr}(n:G'.m a=none):G.m a=none:=by
 obtain⟨G0,d0,s0⟩:=h
 have n0:G0.m a=none:=by
  cases q:G0.m a with
  | none=>rfl
  | some o=>rw[s0.m a o q] at n;cases n
 by_cases ha:a=l
 ·subst ha
  obtain⟨u0,u0,e,u0⟩:=d0.st
  rw[e] at n0;cases n0
 ·rw[d0.ne ha] at n0;exact n0
theorem DrS.fin{l:Addr}{G G':Gp}{d:D}{R:Q2}(h:DrS l G G')(q:∀ G',Dr l G G'→R d G'):FgR R d G':=by
 obtain⟨G0,d0,s0⟩:=h
 exact⟨G0,s0,q G0 d0⟩
theorem drawn{σ:S2}{G G0:Gp}{st lf:Addr}{xs:List Nat}{i0 i2 k:Nat}{t:wH}{R:Q2}(h0:look σ i0=some (.adr st))(h2:look σ i2=some (.adr lf))(hk:σ.length=k)
  (ht:PuA t σ G [nD xs.length]) (hs:zAt G st) (hs0:zAt G0 st) (hne:lf≠st) (hx:G.m lf=some (xs.map nD)) (h0lf:G0.m lf=none) (hd:DrS st G0 G) (hlen:xs.length≤1000)
  (hR:∀(ys:List Nat) (G':Gp),ys.Perm xs→DrS st G0 G'→R (.tup (ys.map nD)) G') :
  yU wa (yT (iR1 t) bd1 zCi (zMN (zD i2) (zA (zL yW (zA (zD i0) (zA (zL yK (zA (zD i2) zI)) zI))) zI))) σ G R:=by
 have lk:∀(j:Nat) (o:D) (d:D),look σ j=some o→look (σ++[some d]) j=some o:=fun j o d h=>by
  clear h0 h2 hk ht
  induction σ generalizing j with
  | nil=>cases h
  | cons a r ih =>
   cases j with
   | zero=>exact h
   | succ j=>exact ih j h
 refine zIb (ht G (.refl G) _ ⟨by omega,fun A hA=>?_⟩)
 rw[zBz]
 have Alf:A≠lf:=fun e=>by rw[e,hx] at hA;cases hA
 have Ast:A≠st:=hs.ne hA
 refine zGb (fun i acc G'=>∃ ys zs:List Nat,acc=ys.map nD∧ys.length=i∧(ys++zs).Perm xs∧G'.m A=some acc∧G'.m lf=some (zs.map nD)∧DrS st G0 G')
  ⟨[],xs,rfl,rfl,.refl _,zG,by rw[zb (Ne.symm Alf)];exact hx,hd.put hs0 (hd.own hs0 hA)⟩ (fun i acc G' ⟨ys,zs,h1,h2,h3,h4,h5,h6⟩=>⟨trivial,h4,by rw[h1,d7];omega⟩) ?_ ?_
 ·rintro i x acc G' hi ⟨ys,zs,rfl,h2',h3,h4,h5,h6⟩
  obtain⟨rfl,hi⟩:=zHl hi
  refine⟨[nD i],rfl,?_⟩
  have hz:ys.length+zs.length=xs.length:=by have:=h3.length_eq;rwa [du] at this
  have st':=h6.st
  unfold zCi
  dsimp only
  rw[if_pos rfl]
  unfold zMN
  rw[show zD i2=fun σ G R=>match look σ i2 with | some d=>R d G | none=>False from rfl]
  dsimp only
  rw[show dh some [nD i]=[some (nD i)] from rfl,lk i2 _ _ h2]
  dsimp only
  rw[h5]
  dsimp only
  simp only[zA,zL,zD,zI,lk i0 _ _ h0,lk i2 _ _ h2]
  refine⟨zs.map nD,.inl h5,?_⟩
  rw[d7]
  refine⟨st,zs.length,rfl,st',by omega,by omega,fun r G1 hr d1=>?_⟩
  have e1:G1.m lf=some (zs.map nD):=by rw[d1.ne hne];exact h5
  dsimp only
  rw[e1]
  dsimp only
  refine⟨⟨by omega,by rw[d7];omega,by omega⟩,?_⟩
  have e2:(dh nD zs)[(r:Int).toNat]?=some (nD zs[r]):=by simp[hr]
  rw[e2]
  dsimp only
  have Aa:(zQ G1 lf ((dh nD zs).eraseIdx (r:Int).toNat)).m A=some (ys.map nD):=by rw[zb Alf,d1.ne Ast];exact h4
  refine⟨Aa,.of ⟨ys++[zs[r]],zs.eraseIdx r,by simp,by simp[h2'],?_,zG,?_,?_⟩⟩
  ·rw[eA]
   exact((zEQ zs r hr).append_left ys).trans h3
  ·rw[zb (Ne.symm Alf),zG]
   simp[zCH]
  ·have hA0:G0.m A=none:=hd.own hs0 hA
   exact(((h6.dr d1).put hs0 h0lf).put hs0 hA0)
 ·rintro acc G' ⟨ys,zs,rfl,h2',h3,h4,h5,h6⟩
  rw[d7,dP] at h2'
  have hz:ys.length+zs.length=xs.length:=by have:=h3.length_eq;rwa [du] at this
  have:zs=[]:=g9.mp (by omega)
  subst this
  rw[fk] at h3
  -- forget the list itself
  obtain⟨G1,d1,s1⟩:=h6
  refine⟨G1,d1.none hs0 (hd.own hs0 hA),s1,?_⟩
  exact hR ys G1 h3 ⟨G1,d1,.refl _⟩
noncomputable def wc:Sp2:=fun ds G R=>∃(l:Addr) (n:Nat),ds=[.adr l,nD n]∧zAt G l∧n≤100∧∀(r:List Nat) (G':Gp),zBI n r→Dr l G G'→R (.tup (r.map nD)) G'
noncomputable def zCr:yg:=(zX (zp (zl (zOZ (zl (zHc (zA (zD 1) zI))) (xC (.int 2)))) (gN 2)) (yC (yU wa (yT (iR1 (zA (zW (yj zE1 fun i j=>.int (i*j)) (xC (.int 2)) (zD 1)) zI)) bd1 zCi (zMN (zD 2) (zA (zL yW (zA (zD 0) (zA (zL yK (zA (zD 2) zI)) zI))) zI))))))
theorem zKl(ds:List D)(G:Gp)(R:Q2)(h:wc ds G R):ds.length=2∧zCr (zf R) (zS ["state","many","left"] ds) G:=by
 obtain⟨l,n,rfl,hs,hn,h⟩:=h
 refine⟨rfl,?_⟩
 unfold zCr zX zp zl zOZ zHc
 ((try dsimp only [yC,zX,zp,xIf,wY,yN,gN,gNN,zW,yl,wA,zl,zA,zI,zL,yB,yU,wa,zD,look,zS,zAe,zAy,zBF,zDd,zDe,zEL,zBh,zCT,fII,yj,yq,fEq,xC,xB,zE4,zCj,zBe,zHe,zCE,dh,cV,cW,cN,cO,cR,cU,cP,cS,Nat.reduceSub,Nat.reduceAdd,zHg,zHh,zHi,zHj,wb,zBG,zBH,if_true,if_false,cM]) <;> (try simp only [yC,zX,zp,xIf,wY,yN,gN,gNN,zW,yl,wA,zl,zA,zI,zL,yB,yU,wa,zD,look,zS,zAe,zAy,zBF,zDd,zDe,zEL,zBh,zCT,fII,yj,yq,fEq,xC,xB,zE4,zCj,zBe,zHe,zCE,dh,cV,cW,cN,cO,cR,cU,cP,cS,Nat.reduceSub,Nat.reduceAdd,zHg,zHh,zHi,zHj,wb,zBG,zBH,if_true,if_false,cM]))
 refine⟨by omega,fun a ha=>?_⟩
 rw[zG]
 dsimp only
 rw[zBz]
 refine⟨by omega,by simp;omega,fun lf hlf=>?_⟩
 have e:(di (2:Int).toNat (dh nD (cY n))).flatten=(cY n++cY n).map nD:=by
  show(di 2 _).flatten=_
  simp[cP]
 rw[e]
 have hlf0:G.m lf=none:=by
  have:lf≠a:=fun e=>by rw[e,zG] at hlf;cases hlf
  rw[zb this] at hlf;exact hlf
 have la:lf≠l:=hs.ne hlf0
 have hsG:zAt (zQ (zQ G a (dh nD (cY n))) lf ((cY n++cY n).map nD)) l:=(hs.ext (.new ha)).ext (.new hlf)
 have hdr:DrS l G (zQ (zQ G a (dh nD (cY n))) lf ((cY n++cY n).map nD)):=((DrS.refl hs).put hs ha).put hs hlf0
 have hlen:(cY n++cY n).length=2*n:=by simp;omega
 refine drawn (k:=3) (xs:=cY n++cY n) (i0:=0) (i2:=2) rfl rfl rfl (zH ?_ zU) hsG hs la zG hlf0 hdr (by omega) fun ys G' hp hd=>hd.fin fun G1 d1=>h ys G1 hp d1
 have:nD (cY n++cY n).length=.int (2*(n:Int)):=by rw[hlen];unfold nD;congr 1
 rw[this]
 exact wu yp (zF rfl) fun u0 u0 u0 q=>⟨.inl ⟨by decide,by decide⟩,q⟩
theorem zER{l s:List (Nat×Nat)}(h:s.Sublist l)(nd:l.Nodup):(l.filter fun x=>decide (x∈s))=s:=by
 induction h with
 | slnil=>rfl
 | @cons s l a h ih =>
  obtain⟨h1,h2⟩:=fi.mp nd
  have:a∉s:=fun m=>h1 (h.subset m)
  rw[List.filter_cons,if_neg (by simpa using this)]
  exact ih h2
 | @cons_cons s l a h ih =>
  obtain⟨h1,h2⟩:=fi.mp nd
  rw[List.filter_cons,if_pos (by simp)]
  congr 1
  refine Eq.trans (List.filter_congr fun x hx=>?_) (ih h2)
  have:x≠a:=fun e=>h1 (e▸hx)
  simp[this]
theorem zMY{n:Nat}{s:List (Nat×Nat)}(h:s.Sublist (prs n)):zn n (fun p=>decide (p∈s))=.tup [nD n,.tup (s.map prD)]:=by
 unfold zn
 rw[zER h (zJS n)]
theorem picked{σ:S2}{G G0:Gp}{st pl:Addr}{n i0 i4 k:Nat}{tc:TT2}{R:List D→Gp→Prop}(h0:look σ i0=some (.adr st))(h4:look σ i4=some (.adr pl))(hk:σ.length=k)
  (hs0:zAt G0 st) (hne:pl≠st) (hx:G.m pl=some ((prs n).map prD)) (hd:DrS st G0 G)
  (hc:∀(p:Nat×Nat) (G':Gp) (Q:Bool→Gp→Prop),p∈prs n→zAt G' st→(∀ b G1,Dr st G' G1→Q b G1)→tc (σ++[some (prD p)]) G' Q)
  (hR:∀(s:List (Nat×Nat)) (G':Gp),s.Sublist (prs n)→DrS st G0 G'→R (s.map prD) G') :
  yT (iV (zD i4)) bd1 tc (zD k) σ G R:=by
 have lk:∀ d,look (σ++[some d]) k=some d:=fun d=>by
  subst hk
  clear h0 h4 hc
  induction σ with
  | nil=>rfl
  | cons a r ih=>exact ih
 refine zIb ?_
 unfold iV zD
 rw[h4]
 refine⟨(prs n).map prD,.inl hx,fun A hA=>?_⟩
 have Apl:A≠pl:=fun e=>by rw[e,hx] at hA;cases hA
 have Ast:A≠st:=hd.st.ne hA
 have hA0:=hd.own hs0 hA
 refine zGb (fun i acc G'=>∃ s:List (Nat×Nat),acc=s.map prD∧s.Sublist ((prs n).take i)∧G'.m A=some acc∧G'.m pl=some ((prs n).map prD)∧DrS st G0 G')
  ⟨[],rfl,by simp,zG,by rw[zb (Ne.symm Apl)];exact hx,hd.put hs0 hA0⟩ (fun i acc G' ⟨s,h1,h2,h3,h4,h5⟩=>⟨.inl h4,h3,by rw[h1,d7];exact eD h2.length_le (by rw[dO];omega)⟩) ?_ ?_
 ·rintro i x acc G' hi ⟨s,rfl,h2,h3,h4',h5⟩
  obtain⟨p,hp,rfl⟩:=zDt hi
  refine⟨[prD p],rfl,hc p G' _ (dM hp) h5.st fun b G1 d1=>?_⟩
  have m1:G1.m A=some (s.map prD):=by rw[d1.ne Ast];exact h3
  have m2:G1.m pl=some ((prs n).map prD):=by rw[d1.ne hne];exact h4'
  cases b with
  | false =>
   rw[if_neg (by simp)]
   exact .of ⟨s,rfl,by rw[yt hp];exact h2.trans (List.sublist_append_left _ _),m1,m2,h5.dr d1⟩
  | true =>
   rw[if_pos rfl]
   show match look (σ++[some (prD p)]) k with | some d=>_ | none=>_
   rw[lk]
   refine⟨m1,.of ⟨s++[p],by simp,by rw[yt hp];exact h2.append (List.Sublist.refl _),zG,by rw[zb (Ne.symm Apl)];exact m2,(h5.dr d1).put hs0 hA0⟩⟩
 ·rintro acc G' ⟨s,rfl,h2,h3,h4',h5⟩
  rw[d7,fP] at h2
  obtain⟨G1,d1,s1⟩:=h5
  exact⟨G1,d1.none hs0 hA0,s1,hR s G1 h2 ⟨G1,d1,.refl _⟩⟩
noncomputable def zAz:Sp2:=fun ds G R=>∃(l:Addr) (m:Nat),ds=[.adr l,nD m]∧zAt G l∧1≤m∧m≤50∧∀(n:Nat) (q:Nat×Nat→Bool) (G':Gp),1≤n→n≤m→Dr l G G'→R (zn n q) G'
noncomputable def zD1:yg:=(zX (zp (zW yq (xC (.int 1)) (zL yW (zA (zD 0) (zA (zD 1) zI)))) (gN 2)) (zX (zp (zL yW (zA (zD 0) (zA (xC (.int 5)) zI))) (gN 3)) (zX (zp (zl (yB yZ (zA (zD 2) zI))) (gN 4)) (zX (xIf (xB (zW (fEq false) (zD 3) (xC (.int 0)))) (yC (zL yk (zA (zL wc (zA (zD 0) (zA (zD 2) zI))) zI))) yN) (zX (xIf (xB (zW (fEq false) (zD 3) (xC (.int 1)))) (yC (yl (zA (zD 2) (zA (yU wa (yT (iV (zD 4)) bd1 (zE4 (xB (zW (fEq false) (zW wD (zD 6) (xC (.int 1))) (zW yq (zW wD (zD 6) (xC (.int 0))) (xC (.int 1))))) (xB (zW (fEq false) (zL yW (zA (zD 0) (zA (xC (.int 6)) zI))) (xC (.int 0))))) (zD 6))) zI)))) yN) (zX (zp (zW wD (zl (wA (zA (xC (.int 2)) (zA (xC (.int 3)) (zA (xC (.int 4)) zI))))) (zW (fII fun i j=>.int (i-j)) (zD 3) (xC (.int 2)))) (gN 5)) (yC (yl (zA (zD 2) (zA (yU wa (yT (iV (zD 4)) bd1 (xB (zW (fEq false) (zL yW (zA (zD 0) (zA (zD 5) zI))) (xC (.int 0)))) (zD 6))) zI))))))))))
theorem zMZ(ds:List D)(G:Gp)(R:Q2)(h:zAz ds G R):ds.length=2∧zD1 (zf R) (zS ["state","most","many","way","pairs_v","far"] ds) G:=by
 obtain⟨l,m,rfl,hs,hm1,hm,h⟩:=h
 refine⟨rfl,?_⟩
 unfold zD1
 ((try dsimp only [yC,zX,zp,xIf,wY,yN,gN,gNN,zW,yl,wA,zl,zA,zI,zL,yB,yU,wa,zD,look,zS,zAe,zAy,zBF,zDd,zDe,zEL,zBh,zCT,fII,yj,yq,fEq,xC,xB,zE4,zCj,zBe,zHe,zCE,dh,cV,cW,cN,cO,cR,cU,cP,cS,Nat.reduceSub,Nat.reduceAdd,zHg,zHh,zHi,zHj,wb,zBG,zBH,if_true,if_false,cM]) <;> (try simp only [yC,zX,zp,xIf,wY,yN,gN,gNN,zW,yl,wA,zl,zA,zI,zL,yB,yU,wa,zD,look,zS,zAe,zAy,zBF,zDd,zDe,zEL,zBh,zCT,fII,yj,yq,fEq,xC,xB,zE4,zCj,zBe,zHe,zCE,dh,cV,cW,cN,cO,cR,cU,cP,cS,Nat.reduceSub,Nat.reduceAdd,zHg,zHh,zHi,zHj,wb,zBG,zBH,if_true,if_false,cM]))
 refine⟨l,m,rfl,hs,by omega,by omega,fun r G1 hr d1=>?_⟩
 ((try dsimp only [yC,zX,zp,xIf,wY,yN,gN,gNN,zW,yl,wA,zl,zA,zI,zL,yB,yU,wa,zD,look,zS,zAe,zAy,zBF,zDd,zDe,zEL,zBh,zCT,fII,yj,yq,fEq,xC,xB,zE4,zCj,zBe,zHe,zCE,dh,cV,cW,cN,cO,cR,cU,cP,cS,Nat.reduceSub,Nat.reduceAdd,zHg,zHh,zHi,zHj,wb,zBG,zBH,if_true,if_false,cM]) <;> (try simp only [yC,zX,zp,xIf,wY,yN,gN,gNN,zW,yl,wA,zl,zA,zI,zL,yB,yU,wa,zD,look,zS,zAe,zAy,zBF,zDd,zDe,zEL,zBh,zCT,fII,yj,yq,fEq,xC,xB,zE4,zCj,zBe,zHe,zCE,dh,cV,cW,cN,cO,cR,cU,cP,cS,Nat.reduceSub,Nat.reduceAdd,zHg,zHh,zHi,zHj,wb,zBG,zBH,if_true,if_false,cM]))
 refine⟨l,5,rfl,d1.st,by omega,by omega,fun way G2 hway d2=>?_⟩
 have d12:=d1.trans d2
 have e1:(1:Int)+(r:Int)=((r+1:Nat):Int):=by omega
 ((try dsimp only [yC,zX,zp,xIf,wY,yN,gN,gNN,zW,yl,wA,zl,zA,zI,zL,yB,yU,wa,zD,look,zS,zAe,zAy,zBF,zDd,zDe,zEL,zBh,zCT,fII,yj,yq,fEq,xC,xB,zE4,zCj,zBe,zHe,zCE,dh,cV,cW,cN,cO,cR,cU,cP,cS,Nat.reduceSub,Nat.reduceAdd,zHg,zHh,zHi,zHj,wb,zBG,zBH,if_true,if_false,cM]) <;> (try simp only [yC,zX,zp,xIf,wY,yN,gN,gNN,zW,yl,wA,zl,zA,zI,zL,yB,yU,wa,zD,look,zS,zAe,zAy,zBF,zDd,zDe,zEL,zBh,zCT,fII,yj,yq,fEq,xC,xB,zE4,zCj,zBe,zHe,zCE,dh,cV,cW,cN,cO,cR,cU,cP,cS,Nat.reduceSub,Nat.reduceAdd,zHg,zHh,zHi,zHj,wb,zBG,zBH,if_true,if_false,cM]))
 rw[e1]
 refine⟨r+1,rfl,by omega,fun pl hpl=>?_⟩
 have hpl0:G.m pl=none:=by
  have:pl≠l:=d2.st.ne hpl
  rw[d12.ne this] at hpl;exact hpl
 have hne:pl≠l:=hs.ne hpl0
 have hdr:DrS l G (zQ G2 pl ((prs (r+1)).map prD)):=(DrS.put (x:=(prs (r+1)).map prD) ⟨G2,d12,.refl _⟩ hs hpl0)
 have fin:∀(s:List (Nat×Nat)) (G':Gp),s.Sublist (prs (r+1))→DrS l G G'→FgR R (.tup [.int ((r+1:Nat):Int),.tup (s.map prD)]) G':=fun s G' hsub hd=>hd.fin fun G3 d3=>by
  have:=h (r+1) (fun p=>decide (p∈s)) G3 (by omega) (by omega) d3
  rw[zMY hsub] at this
  exact this
 have e0:eqD (nD way) (.int 0)=decide (way=0):=by rw[zBx];rw[eM];simp
 have e1':eqD (nD way) (.int 1)=decide (way=1):=by rw[zBx];rw[eM];simp;omega
 refine⟨rfl,rfl,?_⟩
 rw[e0]
 by_cases w0:way=0
 ·rw[decide_eq_true w0,if_pos rfl]
  refine⟨l,r+1,rfl,hdr.st,by omega,fun ring G3 hring d3=>?_⟩
  ((try dsimp only [yC,zX,zp,xIf,wY,yN,gN,gNN,zW,yl,wA,zl,zA,zI,zL,yB,yU,wa,zD,look,zS,zAe,zAy,zBF,zDd,zDe,zEL,zBh,zCT,fII,yj,yq,fEq,xC,xB,zE4,zCj,zBe,zHe,zCE,dh,cV,cW,cN,cO,cR,cU,cP,cS,Nat.reduceSub,Nat.reduceAdd,zHg,zHh,zHi,zHj,wb,zBG,zBH,if_true,if_false,cM]) <;> (try simp only [yC,zX,zp,xIf,wY,yN,gN,gNN,zW,yl,wA,zl,zA,zI,zL,yB,yU,wa,zD,look,zS,zAe,zAy,zBF,zDd,zDe,zEL,zBh,zCT,fII,yj,yq,fEq,xC,xB,zE4,zCj,zBe,zHe,zCE,dh,cV,cW,cN,cO,cR,cU,cP,cS,Nat.reduceSub,Nat.reduceAdd,zHg,zHh,zHi,zHj,wb,zBG,zBH,if_true,if_false,cM]))
  refine⟨r+1,ring,rfl,hring,by omega,?_⟩
  exact(hdr.dr d3).fin fun G4 d4=>h _ _ G4 (by omega) (by omega) d4
 ·rw[decide_eq_false w0,if_neg (by simp)]
  refine⟨rfl,rfl,?_⟩
  rw[e1']
  by_cases w1:way=1
  ·rw[decide_eq_true w1,if_pos rfl]
   refine picked (k:=6) (i0:=0) (n:=r+1) rfl rfl rfl hs hne zG hdr (fun p G' Q hp hst hQ=>?_) fun s G' hsub hd=>?_
   ·show zE4 _ _ _ _ _
    unfold prD
    ((try dsimp only [yC,zX,zp,xIf,wY,yN,gN,gNN,zW,yl,wA,zl,zA,zI,zL,yB,yU,wa,zD,look,zS,zAe,zAy,zBF,zDd,zDe,zEL,zBh,zCT,fII,yj,yq,fEq,xC,xB,zE4,zCj,zBe,zHe,zCE,dh,cV,cW,cN,cO,cR,cU,cP,cS,Nat.reduceSub,Nat.reduceAdd,zHg,zHh,zHi,zHj,wb,zBG,zBH,if_true,if_false,cM]) <;> (try simp only [yC,zX,zp,xIf,wY,yN,gN,gNN,zW,yl,wA,zl,zA,zI,zL,yB,yU,wa,zD,look,zS,zAe,zAy,zBF,zDd,zDe,zEL,zBh,zCT,fII,yj,yq,fEq,xC,xB,zE4,zCj,zBe,zHe,zCE,dh,cV,cW,cN,cO,cR,cU,cP,cS,Nat.reduceSub,Nat.reduceAdd,zHg,zHh,zHi,zHj,wb,zBG,zBH,if_true,if_false,cM]))
    refine⟨rfl,rfl,?_⟩
    cases eqD (nD p.2) (.int ((p.1:Int)+1)) with
    | true=>rw[if_pos rfl];exact hQ true G' (.refl hst)
    | false =>
     rw[if_neg (by simp)]
     refine⟨l,6,rfl,hst,by omega,by omega,fun x G3 hx d3=>?_⟩
     exact⟨rfl,rfl,hQ _ G3 d3⟩
   ·exact fin s G' hsub hd
  ·rw[decide_eq_false w1,if_neg (by simp)]
   intro a ha
   have hat:∃ far:Nat,atI [D.int 2,D.int 3,D.int 4] ((way:Int)-2)=some (nD far)∧0<far∧far≤4:=by
    have:way=2∨way=3∨way=4:=by omega
    rcases this with rfl | rfl | rfl
    ·exact⟨2,zCo _ _,by omega,by omega⟩
    ·exact⟨3,zGc _ _ _,by omega,by omega⟩
    ·exact⟨4,zKa _ _ _ _,by omega,by omega⟩
   obtain⟨far,hat,hf1,hf2⟩:=hat
   refine zAC zG hat ?_
   have apl:pl≠a:=fun e=>by rw[← e,zG] at ha;cases ha
   have ha0:=hdr.own hs ha
   refine picked (k:=6) (i0:=0) (n:=r+1) rfl rfl rfl hs hne (by rw[zb apl];exact zG) (hdr.put hs ha0) (fun p G' Q hp hst hQ=>?_) fun s G' hsub hd=>?_
   ·show xB _ _ _ _
    ((try dsimp only [yC,zX,zp,xIf,wY,yN,gN,gNN,zW,yl,wA,zl,zA,zI,zL,yB,yU,wa,zD,look,zS,zAe,zAy,zBF,zDd,zDe,zEL,zBh,zCT,fII,yj,yq,fEq,xC,xB,zE4,zCj,zBe,zHe,zCE,dh,cV,cW,cN,cO,cR,cU,cP,cS,Nat.reduceSub,Nat.reduceAdd,zHg,zHh,zHi,zHj,wb,zBG,zBH,if_true,if_false,cM]) <;> (try simp only [yC,zX,zp,xIf,wY,yN,gN,gNN,zW,yl,wA,zl,zA,zI,zL,yB,yU,wa,zD,look,zS,zAe,zAy,zBF,zDd,zDe,zEL,zBh,zCT,fII,yj,yq,fEq,xC,xB,zE4,zCj,zBe,zHe,zCE,dh,cV,cW,cN,cO,cR,cU,cP,cS,Nat.reduceSub,Nat.reduceAdd,zHg,zHh,zHi,zHj,wb,zBG,zBH,if_true,if_false,cM]))
    refine⟨l,far,rfl,hst,by omega,by omega,fun x G3 hx d3=>?_⟩
    exact⟨rfl,rfl,hQ _ G3 d3⟩
   ·exact fin s G' hsub hd
section
variable {σ:S2} {G:Gp}
theorem zKm{x y:D}{ng:Bool}{G:Gp}{R:Q2}(hx:flat 8 x=true)(hy:flat 8 y=true)(q:R (.bl (if ng then !eqD x y else eqD x y)) G):fEq ng x y G R:=by
 cases x with
 | adr _=>simp[flat] at hx
 | _=>exact⟨hx,hy,q⟩
theorem zNY{ta tb:zm}{x y:D}{ng b:Bool}(ha:yA ta σ G x)(hb:yA tb σ G y)(hx:flat 8 x=true)(hy:flat 8 y=true)(e:(if ng then !eqD x y else eqD x y)=b):yA (zW (fEq ng) ta tb) σ G (.bl b) :=
 wu ha hb fun u0 u0 u0 q=>zKm hx hy (by rw[e];exact q)
theorem zKn{tc:TT2}{t u:yg}{E:zy}(h:PuT tc σ G false)(h':u E σ G):xIf tc t u E σ G:=h G (.refl G) _ (by rw[if_neg (by simp)];exact h')
theorem zKo{tc:TT2}{t u:yg}{E:zy}(h:PuT tc σ G true)(h':t E σ G):xIf tc t u E σ G:=h G (.refl G) _ (by rw[if_pos rfl];exact h')
theorem zQO{te:zm}{t u:yg}{E:zy}(h:te σ G fun d G1=>match d with | .bl b=>if b=true then t E σ G1 else u E σ G1 | _=>False):xIf (xB te) t u E σ G:=h
theorem zJW{tc:TT2}{t u:yg}{E:zy}(h:PuT tc σ G false)(h':u E σ G):zX (xIf tc t yN) u E σ G:=h G (.refl G) _ (by rw[if_neg (by simp)];exact h')
theorem zES{te:zm}{E:zy}{d:D}(h:yA te σ G d)(h':E.rt d G):yC te E σ G:=h G (.refl G) _ h'
theorem ww{te:zm}{g:TG2}{u:yg}{E:zy}(h:te σ G fun d G1=>g d σ G1 fun σ' G'=>u E σ' G'):zX (zp te g) u E σ G:=h
theorem zBK{sp:Sp2}{t:wH}{ds:List D}{R:Q2}(h:PuA t σ G ds)(h':sp ds G R):zL sp t σ G R:=h G (.refl G) _ h'
theorem yL{ta:zm}{tr:wH}{d:D}{R:List D→Gp→Prop}(h:yA ta σ G d)(h':tr σ G fun xs G2=>R (d::xs) G2):zA ta tr σ G R:=h G (.refl G) _ h'
theorem zBL{ta:zm}{tr:wH}{R:List D→Gp→Prop}(h:ta σ G fun d G1=>tr σ G1 fun xs G2=>R (d::xs) G2):zA ta tr σ G R:=h
theorem zOh{sp:Sp2}{t:wH}{R:Q2}(h:t σ G fun ds G1=>sp ds G1 R):zL sp t σ G R:=h
theorem zFe{tl:TL2}{ds:List D}{R:Q2}(h:PuL tl σ G ds)(h':∀ l,G.m l=none→R (.adr l) (zQ G l ds)):zl tl σ G R:=h G (.refl G) _ h'
theorem zCs{te:zm}{g:TG2}{u:yg}{E:zy}{d:D}(h:yA te σ G d)(h':g d σ G fun σ' G'=>u E σ' G'):zX (zp te g) u E σ G:=h G (.refl G) _ h'
theorem _root_.L3.Dr.new{l:Addr}{G G':Gp}{x:List D}(h:Dr l (zQ G l x) G')(n:G.m l=none):Ext G G':=by
 obtain⟨s,b,rfl,u0⟩:=h
 rw[zBv]
 exact .new n
end
theorem zJX{σ:S2}{G:Gp}{a:Addr}{ns:List Int}{c:Int}(hc:1≤c∧c≤100)(h:look σ 0=some (.adr a))(ha:Ls G a (ns.map D.int)) :
  ∃ m:Nat,PuI (iR1 (zA (zL zAy (zA (xC (.int 1)) (zA (zL zAe (zA (zL yK (zA (zD 0) zI)) (zA (xC (.int c)) zI))) zI))) zI)) σ G ((cY m).map nD):=by
 have h1:yA (zL yK (zA (zD 0) zI)) σ G (.int (ns.length:Int)):=wE (zH (zF h) zU) fun G2 e R q=>⟨ns.map D.int,e.ls ha,by rw[d7];exact q⟩
 have h2:yA (zL zAe (zA (zL yK (zA (zD 0) zI)) (zA (xC (.int c)) zI))) σ G (.int (if c<(ns.length:Int) then c else ns.length)):=wE (zH h1 (zH yp zU)) fun u0 u0 u0 q=>q
 have h3:yA (zL zAy (zA (xC (.int 1)) (zA (zL zAe (zA (zL yK (zA (zD 0) zI)) (zA (xC (.int c)) zI))) zI))) σ G (.int (if (if c<(ns.length:Int) then c else ns.length)>1 then (if c<(ns.length:Int) then c else ns.length) else 1)):=wE (zH yp (zH h2 zU)) fun u0 u0 u0 q=>q
 have hb:(if (if c<(ns.length:Int) then c else ns.length)>1 then (if c<(ns.length:Int) then c else (ns.length:Int)) else 1)≤100∧1≤(if (if c<(ns.length:Int) then c else ns.length)>1 then (if c<(ns.length:Int) then c else (ns.length:Int)) else 1):=by
  split<;>split<;>omega
 generalize (if (if c<(ns.length:Int) then c else ns.length)>1 then (if c<(ns.length:Int) then c else (ns.length:Int)) else 1)=m at h3 hb
 refine⟨m.toNat,?_⟩
 have:(m.toNat:Int)=m:=by omega
 have q:=zDJ (zH h3 zU) (by omega)
 rw[← this,zBz] at q
 exact q
theorem zJY{a:Addr}{G:Gp}{σ:S2}{k:Nat}{ns:List Int}{i j:Nat}(hs:look σ i=some (.adr a))(hk:look σ j=some (nD k))(ha:Ls G a (ns.map D.int)){R:Q2}(h:∀ l s b,G.m l=none→OkS s b→R (.adr l) (zQ G l [.int s,.bl b])):zl (yB yb (zA (zD i) (zA (zD j) zI))) σ G R:=by
 unfold zl yB zA zI zD
 simp only[hs,hk]
 exact⟨a,ns,k,rfl,ha,fun s b o l hl=>h l s b hl o⟩
theorem zJZ{a:Addr}{G:Gp}{σ:S2}{k x:Nat}{ns:List Int}{i j:Nat}{u:yg}{E:zy}(hs:look σ i=some (.adr a))(hk:look σ j=some (nD k))(ha:Ls G a (ns.map D.int))(h:∀ l s b,G.m l=none→OkS s b→u E (σ.set x (some (.adr l))) (zQ G l [.int s,.bl b])) :
  zX (zp (zl (yB yb (zA (zD i) (zA (zD j) zI)))) (gN x)) u E σ G:=by
 have:=zJY (σ:=σ) (G:=G) (R:=fun d G1=>gN x d σ G1 (u E)) hs hk ha fun l s b hl ok=>h l s b hl ok
 exact this
theorem getD_mem{ps:List Nat}{i:Nat}(h:i<ps.length):ps.getD i 0∈ps:=by
 simp[fU,h]
theorem zOi{ps:List Nat}{i:Nat}(h:i<ps.length):atI (ps.map nD) (i:Int)=some (nD (ps.getD i 0)):=zBB (by simp[fU,h])
theorem zOj{σ:S2}{G:Gp}{t u:zm}{ps:List Nat}{i:Nat}(h:yA t σ G (.tup (ps.map nD)))(h':yA u σ G (nD i))(hi:i<ps.length):yA (zW wD t u) σ G (nD (ps.getD i 0)):=wu h h' fun u0 u0 u0 q=>by
 simp only[wD,zOi hi];exact q
theorem zOk{σ:S2}{G:Gp}{t:zm}{ds:List D}(h:yA t σ G (.tup ds)):yA (zL yK (zA t zI)) σ G (nD ds.length):=wE (zH h zU) fun u0 u0 u0 q=>⟨ds,rfl,q⟩
theorem zKp(i j:Nat):eqD (nD i) (nD j)=decide (i=j):=by rw[zBx,eM];simp;omega
theorem zKq{σ:S2}{G:Gp}{t u v:zm}{xs:List D}{i j:Int}(h:yA t σ G (.tup xs))(h1:yA u σ G (.int i))(h2:yA v σ G (.int j)):yA (wP t (wO u) (wO v)) σ G (.tup (L3.cutD xs (some i) (some j))):=fun G2 e R q=>h G2 e _ (h1 G2 e _ (h2 G2 e _ q))
theorem zPj{σ:S2}{G:Gp}{t:TL2}{R:List D→(Gp→Prop)→Gp→Prop}(h:t σ G fun ds G1=>∀ a,G1.m a=none→R ds (fun G=>Ls G a ds) (zQ G1 a ds)):iF t σ G R:=h
theorem zET{σ:S2}{G:Gp}{t:wH}{R:List D→Gp→Prop}(h:t σ G fun ds G1=>ds.length≤sizeLine∧R ds G1):wA t σ G R:=h
theorem wx{σ:S2}{G:Gp}{R:List D→Gp→Prop}(h:R [] G):zI σ G R:=h
theorem zFf{ds:List D}{gd:Gp→Prop}{G1:Gp}{g:TG2}{tb:yg}{E:zy}{σ:S2}(hgd:gd G1)
  (hb:∀ x∈ds,g x σ G1 fun σ2 G2=>tb { E with nx:=fun σ' G'=>wt σ σ'∧Sub G1 G',ct:=fun σ' G'=>wt σ σ'∧Sub G1 G',bk:=E.nx } σ2 G2) (h:E.nx σ G1):zKZ ds gd G1 g tb E σ:=by
 refine⟨fun i σ' G'=>σ'=σ∧G'=G1,⟨rfl,rfl⟩,?_,?_,?_⟩
 ·rintro i σ' G' u0 ⟨rfl,rfl⟩
  exact hgd
 ·rintro i x σ' G' hi ⟨rfl,rfl⟩
  rw[zIZ]
  exact hb x (dM hi)
 ·rintro σ' G' ⟨rfl,rfl⟩
  exact h
theorem zEU{σ:S2}{G:Gp}{t u:zm}{xs ys:List D}(h:yA t σ G (.tup xs))(h':yA u σ G (.tup ys))(hl:xs.length+ys.length≤1000000):yA (zW yq t u) σ G (.tup (xs++ys)):=wu h h' fun u0 u0 u0 q=>⟨hl,q⟩
theorem zMa{σ:S2}{G:Gp}{t:zm}{n:Nat}(h:yA t σ G (nD n))(hn:n≤1000):yA (zKW (zA t zI)) σ G (.tup ((cY n).map nD)):=fun G2 e R q=>zH h zU G2 e _ ⟨by omega,by rw[zBz];exact q⟩
end K
namespace HT
theorem zCt:Slot "reversed" "__next__" "reversed.__next__" :=
 .of (owner:="reversed") (n:="__next__") (by rw[typeLookup_type,builtinLookup_eq_fast];kernel_rfl) (by decide +kernel) (by decide +kernel) (by decide +kernel)
  (by first | exact .inl (by decide +kernel) | exact .inr (by decide +kernel)) (by rw[isSubtype_type];kernel_rfl)
theorem zMb:Slot "reversed" "__init__" "object.__init__" :=
 .of (owner:="object") (n:="__init__") (by rw[typeLookup_type,builtinLookup_eq_fast];kernel_rfl) (by decide +kernel) (by decide +kernel) (by decide +kernel)
  (by first | exact .inl (by decide +kernel) | exact .inr (by decide +kernel)) (by rw[isSubtype_type];kernel_rfl)
theorem zIf:Slot "reversed" "__iter__" "reversed.__iter__" :=
 .of (owner:="reversed") (n:="__iter__") (by rw[typeLookup_type,builtinLookup_eq_fast];kernel_rfl) (by decide +kernel) (by decide +kernel) (by decide +kernel)
  (by first | exact .inl (by decide +kernel) | exact .inr (by decide +kernel)) (by rw[isSubtype_type];kernel_rfl)
theorem zCI:entryFor table "reversed.__next__"=some Builtin.«reversed.__next__»:=entryFor_of_tree (by kernel_rfl)
theorem zCu(a:Value):argsOk "reversed.__next__" ⟨[a],[]⟩:=by unfold argsOk;kernel_rfl
theorem zFx(a:Value):argsOk "reversed.__iter__" ⟨[a],[]⟩:=by unfold argsOk;kernel_rfl
theorem zE7:entryFor table "reversed.__iter__"=some Builtin.«dict_keyiterator.__iter__» :=
 entryFor_alias (id':="dict_keyiterator.__iter__") (by kernel_rfl) (by first | rfl | decide +kernel | (unfold String.splitOn;simp +decide [String.splitOnAux])) (by decide +kernel) (by kernel_rfl)
theorem zDL:TypeCalled "reversed" "reversed.__new__" "object.__init__" :=
 ⟨by decide +kernel,by decide +kernel,⟨_,_,PySem.F.mro_reversed⟩,PySem.F.made_reversed,by decide +kernel,by rw[isSubtype_type];kernel_rfl,zMb⟩
theorem zMc:typeLookup (.type "tuple") "__reversed__"=pure none:=by rw[typeLookup_type,builtinLookup_eq_fast];kernel_rfl
theorem zKr:typeLookup (.type "reversed") "__len__"=pure none:=by rw[typeLookup_type,builtinLookup_eq_fast];kernel_rfl
theorem zMd:typeLookup (.type "reversed") "__length_hint__"=pure (some (.builtin "reversed.__length_hint__")):=by rw[typeLookup_type,builtinLookup_eq_fast];kernel_rfl
section
variable {prog:Program} {w:World} {A:Around} {E:Value→Shared→Prop} {s:Shared}
noncomputable def zKs(l:Addr)(i:Int):Obj:={ cls:=.type "reversed",data:=.fields #[.ref l,rawInt i] }
theorem zEV{l:Addr}{items:Array Value}{Q₁:Value→Shared→Prop}(hl:IsTup s.heap l items)(hz:items.size≤sizeLine)
  (h:∀ tk,Q₁ (.ref s.heap.objs.size) { s with heap:=s.heap.push (zKs l ((items.size:Int)-1)),toks:=tk }) :
  codeAny (model prog w) A (.call (.builtin "reversed.__new__") ⟨[.type "reversed",.ref l],[]⟩) (wants Q₁ E) s:=by
 refine codeAny_of_tree ?_
 show wpAny _ A.in1 (do checkBuiltinCall "reversed.__new__" ⟨[.type "reversed",.ref l],[]⟩;again (.builtin "reversed.__new__" ⟨[.type "reversed",.ref l],[]⟩)) _ _ s
 refine cL (eQ (PySem.F.newCall_reversed_1 _) (cT ⟨plainId_quiet PySem.F.plain_reversed_new _,dZ PySem.F.entry_reversed_new ?_⟩))
 rw[Around.under_plainId PySem.F.plain_reversed_new _]
 unfold Builtin.«reversed.__new__»
 refine cL (eQ (newClass_reversed _) ?_)
 try dsimp only
 refine cL (eQ (a:=()) (by first | rfl | kernel_rfl) ?_)
 refine cL (eQ (a:=()) (by first | rfl | kernel_rfl) ?_)
 try dsimp only
 refine cL (gu hl.typeIs zMc ?_)
 try dsimp only
 refine cL ?_
 wp_delta
 refine cL (wpAny_isInstance (T:="tuple") (b:=false) hl.typeIs (by rw[isSubtype_type];kernel_rfl) ?_)
 rw[if_neg (by simp)]
 refine cL (gu hl.typeIs PyProof.Rows.slot_tuple_getitem.lookup ?_)
 refine cT ?_
 rw[if_neg (by simp)]
 have hz':=hz
 rw[sizeLine_eq] at hz'
 refine cL (PyProof.Rows.len_tuple hl (by omega) ?_)
 refine cL (eQ (a:=some ((items.size:Nat):Int)) rfl ?_)
 dsimp only
 unfold Builtin.SmallTypes.newRecord
 refine cL (dN ?_ (by size_fits))
 exact cT (h _)
theorem zB9{l:Addr}{items:Array Value}{Q:Value→Shared→Prop}(hl:IsTup s.heap l items)(hz:items.size≤sizeLine)
  (h:∀ tk,Q (.ref s.heap.objs.size) { s with heap:=s.heap.push (zKs l ((items.size:Int)-1)),toks:=tk }):wpAny (model prog w) A (call (.type "reversed") [.ref l]) Q E s:=by
 refine callType_codes (Q₁:=fun obj s₁=>s₁.TypeIs obj "reversed"∧Q obj s₁) zDL (PySem.F.typeCall_reversed_1 _) PySem.F.entry_object_init
  (zEV hl hz fun tk=>⟨⟨_,dc _ rfl,rfl⟩,h tk⟩) fun obj s₁ h₁=>?_
 exact⟨h₁.1,PySem.F.args_object_init_2 obj _,object_init_meets zDL.init.lookup zDL.made (by decide) prog w A.in1 _ s₁ ⟨h₁.1,rfl,h₁.2⟩⟩
noncomputable def zCA(h:Heap)(a l:Addr)(i:Int):Prop:=∃ o,h.get? a=some o∧o.cls=.type "reversed"∧o.data=.fields #[.ref l,rawInt i]
theorem zCA.typeIs{a l:Addr}{i:Int}(x:zCA s.heap a l i):s.TypeIs (.ref a) "reversed":=let ⟨o,ho,hc,_⟩:=x;⟨o,ho,hc⟩
theorem zCA.at'{h h':Heap}{a l:Addr}{i:Int}(x:zCA h a l i)(e:∀ o,h.get? a=some o→h'.get? a=some o):zCA h' a l i:=let ⟨o,ho,r⟩:=x;⟨o,e _ ho,r⟩
theorem zMe{it l:Addr}{i:Nat}{items:Array Value}{x:Value}{Q:Option Value→Shared→Prop}(hit:zCA s.heap it l (i:Int))(hl:IsTup s.heap l items)(hx:items[i]?=some x)(hz:items.size≤sizeLine)
  (hQ:∀ h' tk,s.toks≤tk→zCA h' it l ((i:Int)-1)→g6 it s.heap h'→Q (some x) { s with heap:=h',toks:=tk }):wpAny (model prog w) A (pyNext (.ref it)) Q E s:=by
 obtain⟨o,ho,hc,hd⟩:=id hit
 have hi:i<items.size:=(fN.mp hx).1
 rw[sizeLine_eq] at hz
 unfold pyNext
 refine cL (g7 (wpAny_callSpecial?_slot (name:=Str.ofString "__next__") hit.typeIs zCt
  (eY zCt hit.typeIs zCI ?_ (zCu _))))
 unfold Builtin.«reversed.__next__»
 refine cL (eQ (a:=(Value.ref it,[])) rfl ?_)
 try dsimp only
 refine cL (gA ho hd (x:=.ref l) rfl ?_)
 refine cL (gA ho hd (x:=rawInt (i:Int)) rfl ?_)
 show wpAny _ _ (if (i:Int)<0 then _ else _) _ _ s
 rw[if_neg (by omega)]
 refine cL (gu hl.typeIs PyProof.Rows.slot_tuple_getitem.lookup ?_)
 show wpAny _ _ (if (false:Bool)=true then _ else _) _ _ s
 rw[if_neg (by simp)]
 refine cL (wpAny_mkInt ?_)
 refine cL (g7 (PyProof.Rows.getItem_tuple (s:={ s with toks:=s.toks+1 }) hl (k:=(i:Int)) (j:=i) (x:=x) (by omega) (by omega) (by unfold seqIndex?;simp;omega) hx ?_))
 dsimp only
 refine cL (gA ho hd (x:=rawInt (i:Int)) rfl ?_)
 refine cL (wpAny_setField ho hd (by simp) ?_)
 exact cT ⟨x,rfl,cT (hQ _ _ (by simp) ⟨_,et _ ho (Obj.isFreed_of_fields (Obj.data_mapFields hd _)),(Obj.cls_mapFields ..).trans hc,by rw[Obj.data_mapFields hd];simp⟩ (g6.update ..))⟩
theorem zOl{it l:Addr}{Q:Option Value→Shared→Prop}(hh:A.handled=none)(hit:zCA s.heap it l (-1))
  (hQ:∀ h',Heap.ExtBut it s.heap h'→Q none { s with heap:=h' }):wpAny (model prog w) A (pyNext (.ref it)) Q E s:=by
 obtain⟨o,ho,hc,hd⟩:=id hit
 unfold pyNext
 refine cL (g7 (wpAny_callSpecial?_slot (name:=Str.ofString "__next__") hit.typeIs zCt
  (eY zCt hit.typeIs zCI ?_ (zCu _))))
 unfold Builtin.«reversed.__next__»
 refine cL (eQ (a:=(Value.ref it,[])) rfl ?_)
 try dsimp only
 refine cL (gA ho hd (x:=.ref l) rfl ?_)
 refine cL (gA ho hd (x:=rawInt (-1)) rfl ?_)
 show wpAny _ _ (if (-1:Int)<0 then _ else _) _ _ s
 rw[if_pos (by decide)]
 refine cL (fO ?_)
 refine cL ?_
 wp_delta
 refine cL (wpAny_setField ho hd (by simp) ?_)
 have ho2:=et (Obj.mapFields (·.setIfInBounds 1 (rawInt (-1)))) ho (Obj.isFreed_of_fields (Obj.data_mapFields hd _))
 refine wpAny_setField ho2 (Obj.data_mapFields hd _) (by simp) ?_
 refine cL ?_
 first
 | show wpAny _ _ (newExc (.type "StopIteration") []>>=_) _ _ _
 | (refine cL ?_;show wpAny _ _ (newExc (.type "StopIteration") []>>=_) _ _ _)
 refine cL ?_
 simp only[newExc,newTuple]
 refine cL (dN ?_ (by size_fits))
 refine cL (m:=firstArgMember _ _) (eQ (a:=Value.none) (by first | rfl | (simp only[firstArgMember];rfl)) ?_)
 refine dN ?_ (by size_fits)
 simp only[raiseNew]
 refine cL (wpAny_handled ?_)
 first | rw[show A.in1.handled=none from hh] | rw[hh]
 refine cL (cT (wpAny_throw ?_))
 refine cL (wpAny_isInstance (T:="StopIteration") (b:=true) ⟨_,dc _ rfl,rfl⟩ isSubtype_stop ?_)
 exact cT (hQ _ (fun b o hb e=>cQ _ (cQ _ ((dA _ _ (Ne.symm hb)).trans ((dA _ _ (Ne.symm hb)).trans e)))))
theorem zIg{it l:Addr}{i:Int}{Q:Value→Shared→Prop}(hit:zCA s.heap it l i)(h:Q (.ref it) s):wpAny (model prog w) A (pyIter (.ref it)) Q E s:=by
 refine wpAny_pyIter_slot hit.typeIs zIf (eY zIf hit.typeIs zE7 ?_ (zFx _))
 show wpAny _ _ (ret (.ref it)) _ _ s
 exact cT ⟨_,rfl,"reversed",_,hit.typeIs,zCt.lookup,h⟩
theorem zGh:Slot "reversed" "__length_hint__" "reversed.__length_hint__" :=
 .of (owner:="reversed") (n:="__length_hint__") (by rw[typeLookup_type,builtinLookup_eq_fast];kernel_rfl) (by decide +kernel) (by decide +kernel) (by decide +kernel)
  (by first | exact .inl (by decide +kernel) | exact .inr (by decide +kernel)) (by rw[isSubtype_type];kernel_rfl)
theorem zE8:entryFor table "reversed.__length_hint__"=some Builtin.«reversed.__length_hint__»:=entryFor_of_tree (by kernel_rfl)
theorem zFy(a:Value):argsOk "reversed.__length_hint__" ⟨[a],[]⟩:=by unfold argsOk;kernel_rfl
theorem Walks.rev{prog:Program}{w:World}{A:Around}(hh:A.handled=none)(I l:Addr)(hne:l≠I)(items:Array Value)(hz:items.size≤sizeLine) :
  Walks prog w A I [I,l] [I] items.size (fun i v=>items[items.size-1-i]?=some v) (fun i h=>i≤items.size∧zCA h I l ((items.size:Int)-1-(i:Int))∧IsTup h l items) where
 sub:=fun b hb=>by simp at hb;simp[hb]
 frame:=fun u0 u0 u0 x hk=>⟨x.1,x.2.1.at' fun o e=>hk I (by simp) o e,IsTup.at' x.2.2 fun o e=>hk l (by simp) o e⟩
 item:=fun i s Q E hi x hQ=>by
  have e:(items.size:Int)-1-(i:Int)=((items.size-1-i:Nat):Int):=by omega
  have hit:=x.2.1
  rw[e] at hit
  have hx:items[items.size-1-i]?=some (items[items.size-1-i]'(by omega)):=Array.getElem?_eq_getElem (by omega)
  refine zMe hit x.2.2 hx hz fun h' tk u0 hit' hs'=>?_
  have e2:((items.size-1-i:Nat):Int)-1=(items.size:Int)-1-((i+1:Nat):Int):=by omega
  rw[e2] at hit'
  exact hQ _ h' tk hx ⟨hi,hit',IsTup.at' x.2.2 fun o eo=>(hs'.2 l hne).trans eo⟩ fun b o hb eo=>hs'.extBut b o (fun h=>hb (by simp[h])) eo
 done:=fun s Q E x hQ=>by
  have e:(items.size:Int)-1-(items.size:Int)=-1:=by omega
  have hit:=x.2.1
  rw[e] at hit
  exact zOl hh hit fun h' he'=>hQ h' s.toks fun b o hb eo=>he' b o (fun h=>hb (by simp[h])) eo
 self:=fun u0 u0 u0 u0 x hQ=>zIg x.2.1 hQ
theorem zMf{r l:Addr}{items:Array Value}{Q:Bool→Shared→Prop}(hr:zCA s.heap r l ((items.size:Int)-1))(hl:IsTup s.heap l items)(hlen:items.size≤2 ^ 24)
  (h:∀ b tk,Q b { s with toks:=tk }):wpAny (model prog w) A (Builtin.List.listLengthHint (.ref r)) Q E s:=by
 obtain⟨o,ho,hc,hd⟩:=id hr
 unfold Builtin.List.listLengthHint
 refine cL (gu hr.typeIs zKr ?_)
 show wpAny _ A (specialOf (Value.ref r) (Str.ofString "__length_hint__")>>=_) _ _ _
 refine cL (gu hr.typeIs zMd ?_)
 generalize hid:("reversed.__length_hint__":String)=id0
 wp_delta
 rw[show splitId id0=some ("reversed","__length_hint__") from by subst hid;decide +kernel]
 subst hid
 refine cL (wpAny_isInstance (T:="reversed") (b:=true) hr.typeIs (by rw[isSubtype_type];kernel_rfl) ?_)
 refine fJ (fun hab=>absurd hab (by decide)) (fun u0=>?_)
 refine fJ (fun hab=>absurd hab (by decide +kernel)) (fun u0=>?_)
 refine cL (fO ?_)
 refine cL (eQ (zGh.bind _) ?_)
 refine cL (g7 (eY zGh hr.typeIs zE8 ?_ (zFy _)))
 unfold Builtin.«reversed.__length_hint__»
 refine cL (eQ (a:=(Value.ref r)) rfl ?_)
 refine cL (gA ho hd (x:=.ref l) rfl ?_)
 show wpAny _ _ (call (.builtin "len") [.ref l]>>=_) _ _ s
 refine cL (PyProof.Rows.len_tuple hl (by omega) ?_)
 refine cL (eQ (a:=some ((items.size:Nat):Int)) rfl ?_)
 dsimp only
 refine cL (gA ho hd (x:=rawInt ((items.size:Int)-1)) rfl ?_)
 show wpAny _ _ (if ((items.size:Nat):Int)<(items.size:Int)-1+1 then _ else _) _ _ _
 rw[if_neg (by omega)]
 unfold retInt
 refine cL (wpAny_mkInt ?_)
 refine cT ⟨_,rfl,?_⟩
 have e1:(items.size:Int)-1+1=(items.size:Int):=by omega
 rw[e1]
 dsimp only
 have hf:Builtin.List.listFitsIndex (items.size:Int)=true:=by simp[Builtin.List.listFitsIndex];omega
 have htl:Builtin.List.listTooLong ((items.size:Int).toNat)=false:=by simp[Builtin.List.listTooLong,sizeLine];omega
 have hnn:¬ (items.size:Int)<0:=Int.not_lt.mpr (Int.natCast_nonneg _)
 generalize (items.size:Int)=z at hf htl hnn ⊢
 rw[show asInt? (Value.int z (s.toks+1+1))=pure (some z) from rfl,pure_bind]
 dsimp only
 rw[if_neg (by rw[hf];decide),if_neg hnn,if_neg (by rw[htl];decide)]
 exact cT (h _ _)
theorem zJa{R:Result→Shared→Prop}{r l:Addr}{items:Array Value}(hh:A.handled=none)(hr:zCA s.heap r l ((items.size:Int)-1))(hl:IsTup s.heap l items)(hlen:items.size≤2 ^ 24)
  (S:Addr) (hSr:S≠r) (hSl:S≠l) (hlr:l≠r) (res:Value) (c₀:Nat) (hS:s.heap.get? S=some { cls:=.type "list",data:=.seq #[] c₀ })
  (hR:∀ h' tk acc' c',(∀ b o,b≠S→b≠r→s.heap.get? b=some o→h'.get? b=some o)→h'.get? S=some { cls:=.type "list",dict:=none,data:=.seq acc' c',slots:=#[] } →
   ItemsOf (fun i v=>items[items.size-1-i]?=some v) acc' items.size→R (.ok (.ret res)) { s with heap:=h',toks:=tk }) :
  wpAny (model prog w) A.in1 (Builtin.List.listExtendWith (.ref S) (.ref r) res)
   (fun fin s'=>match fin with | .done f=>R (.ok f) s' | .again c'=>c'.quiet=true∧codeAny (model prog w) A c' R s') (fun e s'=>R (.error e) s') s:=by
 have hz:items.size≤sizeLine:=by rw[sizeLine_eq];omega
 have W:=(Walks.rev (prog:=prog) (w:=w) (A:=A.in1) hh r l hlr items hz).toS
 have hSf:S∉[r,l]:=by simp[hSr,hSl]
 have key:∀(h:Heap) (c₁ tk:Nat),(∀ b o,b≠S→s.heap.get? b=some o→h.get? b=some o) →
   h.get? S=some { cls:=.type "list",data:=.seq #[] c₁ }→codeAny (model prog w) A (.builtin "list.extend.loop" ⟨[.ref S,.ref r,res],[]⟩) R { s with heap:=h,toks:=tk }:=by
  intro h c₁ tk hk hS₁
  refine codeAny_extend_loopS W hz S hSf res items.size 0 _ #[] c₁ (by omega) (fh _) ⟨fh _,?_,IsTup.at' hl fun o e=>hk l o (Ne.symm hSl) e⟩ hS₁ (ItemsOf.nil _) fun s' acc' c' hm hS' hacc=>?_
  ·exact(show zCA s.heap r l ((items.size:Int)-1-((0:Nat):Int)) by simpa using hr).at' fun o e=>hk r o (Ne.symm hSr) e
  rw[Moved.eq_with hm]
  refine hR s'.heap s'.toks acc' c' (fun b o hb hbr e=>hm.heap b o (fun hmem=>?_) (hk b o hb e)) hS' hacc
  rcases dC.mp hmem with e' | hmem
  ·exact hb e'
  ·exact hbr (dq.mp hmem)
 unfold Builtin.List.listExtendWith
 refine cL (fZ hr.typeIs ?_)
 have h1:Builtin.List.listSameRef (.ref S) (.ref r)=false:=by simp[Builtin.List.listSameRef,hSr]
 have h2:(Value.type "reversed"==Value.type "list")=false:=by decide
 have h3:(Value.type "reversed"==Value.type "tuple")=false:=by decide
 simp only[h1,h2,h3,Bool.or_false,cM,if_false]
 refine cL (zIg hr ?_)
 refine cL (eu (zMf hr hl hlen fun b tk=>?_))
 refine fJ (fun u0=>?_) (fun u0=>cT ⟨plainId_quiet F.plain_extend_loop _,key _ c₀ _ (fun b o u0 e=>e) hS⟩)
 refine cL (fO ?_)
 refine cL ?_
 show wpAny _ _ (updateSeq S (·.push .none)>>=fun u0=>updateSeq S (·.pop)) _ _ _
 refine cL (fC hS rfl ?_)
 have hS₂:=et (Obj.mapSeq (·.push Value.none)) hS rfl
 refine fC (hz:=by seq_fits) hS₂ rfl ?_
 have hS₃:=et (Obj.mapSeq (·.pop)) hS₂ rfl
 refine cT ⟨plainId_quiet F.plain_extend_loop _,key _ _ _ (fun b o hb e=>?_) hS₃⟩
 exact(dA _ _ (Ne.symm hb)).trans ((dA _ _ (Ne.symm hb)).trans e)
theorem zHo{Q:List Value→Shared→Prop}{r l:Addr}{items:Array Value}(hh:A.handled=none)(hr:zCA s.heap r l ((items.size:Int)-1))(hl:IsTup s.heap l items)(hlr:l≠r)(hlen:items.size≤2 ^ 24)
  (hQ:∀ h' tk acc,(∀ b o,b≠r→s.heap.get? b=some o→h'.get? b=some o)→ItemsOf (fun i v=>items[items.size-1-i]?=some v) acc items.size→Q acc.toList { s with heap:=h',toks:=tk }) :
  wpAny (model prog w) A (collect (.ref r)) Q E s:=by
 obtain⟨o,ho,hc,hd⟩:=id hr
 obtain⟨ol,hol,hlc,hld⟩:=id hl
 unfold collect
 refine cL (wpAny_runValue (dZ PySem.F.entry_proto_collect ?_))
 rw[Around.under_plainId PySem.F.plain_proto_collect _]
 show wpAny _ A.in1 (newList []>>=fun l=>again (.builtin "list.__iadd__" ⟨[l,.ref r],[]⟩)) _ _ s
 refine cL (dN ?_)
 refine cT ⟨plainId_quiet PySem.F.plain_list_iadd _,dZ PySem.F.entry_list_iadd ?_⟩
 rw[Around.under_plainId PySem.F.plain_list_iadd _]
 show wpAny _ A.in1 (Builtin.List.listExtendWith (.ref s.heap.objs.size) (.ref r) (.ref s.heap.objs.size)) _ _ _
 have hS:(s.heap.push { cls:=.type "list",data:=.seq ([]:List Value).toArray }).get? s.heap.objs.size=some { cls:=.type "list",data:=.seq #[] 0 }:=dc _ rfl
 refine eN (zJa (A:=A) (R:=fun res s'=>∃ h' tk acc c',res=.ok (.ret (.ref s.heap.objs.size))∧s'={ s with heap:=h',toks:=tk }∧(∀ b o,b≠r→s.heap.get? b=some o→h'.get? b=some o)∧h'.get? s.heap.objs.size=some { cls:=.type "list",dict:=none,data:=.seq acc c',slots:=#[] }∧ItemsOf (fun i v=>items[items.size-1-i]?=some v) acc items.size)
  (s:={ s with heap:=s.heap.push { cls:=.type "list",data:=.seq ([]:List Value).toArray } }) hh (hr.at' fun o e=>cQ _ e) (hl.push _) hlen s.heap.objs.size (Ne.symm (dB (db ho))) (Ne.symm (dB (db hol))) hlr (.ref s.heap.objs.size) 0 hS fun h' tk acc' c' hk hS' hacc=>?_) (fun fin s' h=>?_) (fun e s' h=>?_)
 ·exact⟨h',tk,acc',c',rfl,rfl,fun b o hb e=>hk b o (dB (db e)) hb (cQ _ e),hS',hacc⟩
 ·have fin':∀ {r' s''},(∃ h' tk acc c',r'=(.ok (.ret (.ref s.heap.objs.size)):Result)∧s''={ s with heap:=h',toks:=tk }∧(∀ b o,b≠r→s.heap.get? b=some o→h'.get? b=some o)∧h'.get? s.heap.objs.size=some { cls:=.type "list",dict:=none,data:=.seq acc c',slots:=#[] }∧ItemsOf (fun i v=>items[items.size-1-i]?=some v) acc items.size) →
    wpAny (model prog w) A (match Value.ref s.heap.objs.size with
     | Value.ref a=>do
      match (← load a).data with
       | Data.seq xs _=>pure xs.toList
       | _=>unsupported "internal:collect"
     | _=>unsupported "internal:collect") Q E s'':=by
   rintro r' s'' ⟨h',tk,acc,c',rfl,rfl,hk,hS',hacc⟩
   show wpAny _ A (load s.heap.objs.size>>=_) _ _ _
   refine cL (wpAny_load hS' ?_)
   exact cT (hQ h' tk acc hk hacc)
  cases fin with
  | done f =>
   have hf:=h
   obtain⟨h',tk,acc,c',e,u0⟩:=h
   cases e
   exact fin' hf
  | again c'=>exact⟨h.1,eV h.2 fun r s'' hr=>by
    have hf:=hr
    obtain⟨h',tk,acc,c',e,u0⟩:=hr
    subst e
    exact fin' hf⟩
 ·obtain⟨u0,u0,u0,u0,e,u0⟩:=h
  cases e
theorem zCU(r l:Addr)(items:Array Value)(hlr:l≠r)(hlen:items.size≤2 ^ 24) :
  Meets (Builtin.«tuple.__new__» ⟨[.type "tuple",.ref r],[]⟩)
   (fun A R s=>A.handled=none∧zCA s.heap r l ((items.size:Int)-1)∧IsTup s.heap l items∧∀(h':Heap) tk acc,(∀ b o',b≠r→s.heap.get? b=some o'→h'.get? b=some o')→ItemsOf (fun i v=>items[items.size-1-i]?=some v) acc items.size→R (.ok (.ret (.ref h'.objs.size))) { s with heap:=h'.push { cls:=.type "tuple",data:=.seq acc },toks:=tk }) :=
 .of_wp fun prog w A R s h=>by
  obtain⟨hp,g,d,tk,os⟩:=s;obtain⟨hh,hr,hl,h⟩:=h
  have hsub:=sub_tuple_self
  have hinit:=init_tuple_lookup
  have hmh:=madeHere_tuple
  have hT:Shared.TypeIs ⟨hp,g,d,tk,os⟩ (.ref r) "reversed":=hr.typeIs (s:=⟨hp,g,d,tk,os⟩)
  wp_walk using fZ hT,zHo (A:=A.in1) hh hr hl hlr hlen
  intro h' tk' acc hk hacc
  show wpAny _ _ (Builtin.Tuple.tupleExact acc.toList.toArray>>=fun v=>ret v) _ _ _
  unfold Builtin.Tuple.tupleExact
  refine cL (dN ?_ (by show acc.toList.toArray.size≤sizeLine;simp only[Array.toArray_toList];rw[hacc.1,sizeLine_eq];omega))
  refine cT ⟨_,rfl,?_⟩
  have e:acc.toList.toArray=acc:=by simp
  rw[e]
  exact h h' tk' acc hk hacc
theorem zE9{Q:Value→Shared→Prop}{r l:Addr}{items:Array Value}(hh:A.handled=none)(hr:zCA s.heap r l ((items.size:Int)-1))(hl:IsTup s.heap l items)(hlr:l≠r)(hlen:items.size≤2 ^ 24)
  (hQ:∀(h':Heap) tk acc,(∀ b o,b≠r→s.heap.get? b=some o→h'.get? b=some o)→ItemsOf (fun i v=>items[items.size-1-i]?=some v) acc items.size→Q (.ref h'.objs.size) { s with heap:=h'.push { cls:=.type "tuple",data:=.seq acc },toks:=tk }) :
  wpAny (model prog w) A (call (.type "tuple") [.ref r]) Q E s :=
 callType_new PySem.F.called_tuple (by decide) (PySem.F.typeCall_tuple_1 _) (PySem.F.newCall_tuple_1 _) (fun obj=>PySem.F.args_object_init_2 obj _) PySem.F.entry_tuple_new
  (zCU r l items hlr hlen) ⟨hh,hr,hl,fun h' tk acc hk hacc=>⟨⟨_,dc _ rfl,rfl⟩,hQ h' tk acc hk hacc⟩⟩
theorem zJb{items acc:Array Value}(h:ItemsOf (fun i v=>items[items.size-1-i]?=some v) acc items.size):acc=items.toList.reverse.toArray:=by
 obtain⟨h1,h2⟩:=h
 apply Array.ext_getElem?
 intro i
 by_cases hi:i<acc.size
 ·have e:=h2 i acc[i] (Array.getElem?_eq_getElem hi)
  rw[Array.getElem?_eq_getElem hi,← e]
  simp only[List.getElem?_toArray]
  rw[List.getElem?_reverse (by simp;omega)]
  simp
 ·rw[Array.getElem?_eq_none (by omega),Array.getElem?_eq_none (by simp;omega)]
end
end HT
namespace L3
open L2
section
variable {X:Cx} {a b c e o:Expr} {es:List Expr} {pos p:Pos} {ta tb te:zm}
theorem zMg{t:TA}{pos' p2:Pos}(hc:X.calm=true)(hg:Gl X "tuple")(hm:X.mg "tuple"=none)(hg2:Gl X "reversed")(hm2:X.mg "reversed"=none)(ha:PA X [a] t)(hs:starEach [a] X.env=[(false,eval a X.env)]:=by rfl)
  (he:starEach [.Call (.Name "reversed" p2) [a] [] pos] X.env=(false,eval (.Call (.Name "reversed" p2) [a] [] pos) X.env)::starEach [] X.env:=by rfl) (hpl:(backTo pos' (starEach [] X.env)).any (·.1)=false:=by rfl) :
  PE X (.Call (.Name "tuple" p) [.Call (.Name "reversed" p2) [a] [] pos] [] pos') (fun σ H Q=>t σ H fun vs H1=>∃ d xs,vs=[.ref d]∧SqT X.K H1 d xs∧xs.length≤1000000∧∀ l,H1 l=none→Q (.ref l) (wC H1 l (.tup xs.reverse))):=by
 intro pins s σ H Q I h
 refine eI (zAp I hg hm (show bootBuiltins "tuple"=some (.type "tuple") by decide +kernel) ?_ (by decide) (by decide))
 refine PyProof.Rows.callWith_type1 ?_ he hpl
 rw[he]
 show wpAny _ _ (spliced ((false,eval (.Call (.Name "reversed" p2) [a] [] pos) X.env)::backTo pos' (starEach [] X.env))) _ _ s
 refine Calls.spliced_cons ?_
 refine eI (zAp I hg2 hm2 (show bootBuiltins "reversed"=some (.type "reversed") by decide +kernel) ?_ (by decide) (by decide))
 refine PyProof.Rows.callWith_type1 (wB (ha pos pins s σ H _ I h) fun us s1 ⟨vs,H1,I1,r1,q1⟩=>?_) hs rfl
 obtain⟨d,xs,rfl,hq,hz,q⟩:=q1
 obtain⟨u,rfl,rx⟩:=vals1 r1
 cases rx
 obtain⟨its,rv,ht,u0⟩:=I1.tuple hq
 have hsz:its.length≤1000000:=by rw[← rv.length];exact hz
 have hlt:d<s1.heap.objs.size:=by obtain⟨o,ho,u0⟩:=ht;exact db ho
 refine HT.zB9 ht (by rw[sizeLine_eq];simp;omega) fun tk=>?_
 show wpAny _ _ (spliced []) _ _ _
 refine Calls.spliced_nil ?_
 refine HT.zE9 (l:=d) (items:=its.toArray) (s:={ s1 with heap:=s1.heap.push (HT.zKs d ((its.toArray.size:Int)-1)),toks:=tk }) (I.ok.hd hc) ⟨_,dc _ rfl,rfl,rfl⟩ (ht.push _) (dB hlt) (by simp;omega) fun h' tk' acc kp hacc=>?_
 have I3:zP X pins σ H1 { s1 with heap:=h',toks:=tk' }:=I1.kept (t':=tk') fun b o e=>kp b o (dB (db e)) (cQ _ e)
 have hn:H1 h'.objs.size=none:=I3.hok.fresh (cX _)
 refine⟨.ref h'.objs.size,_,I3.laid (t':=tk') (o:=.tup xs.reverse) (fun b ob q=>cQ _ q) (cX _) ?_,rfl,q _ hn⟩
 refine⟨by rw[List.length_reverse,sizeLine_eq];omega,its.reverse,zT.reverse rv,?_⟩
 rw[HT.zJb hacc]
 exact zDn.new _ _
noncomputable def zHp:Sp2:=fun ds G R=>match ds with | [.tup xs]=>xs.length≤1000000∧R (.tup xs.reverse) G | _=>False
theorem zOm{t:wH}{pos' p2:Pos}(hc:X.calm=true)(hg:Gl X "tuple")(hm:X.mg "tuple"=none)(hg2:Gl X "reversed")(hm2:X.mg "reversed"=none)(ha:A2 X [a] t)(hs:starEach [a] X.env=[(false,eval a X.env)]:=by rfl)
  (he:starEach [.Call (.Name "reversed" p2) [a] [] pos] X.env=(false,eval (.Call (.Name "reversed" p2) [a] [] pos) X.env)::starEach [] X.env:=by rfl) (hpl:(backTo pos' (starEach [] X.env)).any (·.1)=false:=by rfl) :
  E2 X (.Call (.Name "tuple" p) [.Call (.Name "reversed" p2) [a] [] pos] [] pos') (zL zHp t):=by
 refine PE.mono (zMg hc hg hm hg2 hm2 ha hs he hpl) ?_
 rintro σ1 H Q ⟨σ,G,R,rl,q,k⟩
 refine⟨σ,G,_,rl,q,fun ds G1 q1 vs H1 g1 r1 d1=>?_⟩
 unfold zHp at q1
 split at q1
 ·rename_i xs
  obtain⟨v,rfl,d2⟩:=zCk d1
  unfold zO at d2
  obtain⟨d,us,rfl,s1,t1⟩:=d2
  refine⟨d,us,rfl,s1,by rw[t1.length] at *;exact q1.1,fun l n=>k _ G1 q1.2 _ _ (g1.trans (.fresh n)) (r1.fresh n) ?_⟩
  unfold zO
  exact⟨l,_,rfl,.of zc,(t1.reverse).grow (.fresh n)⟩
 ·exact q1.elim
end
section
variable {X:Cx} {a b c e o:Expr} {es:List Expr} {pos p:Pos} {ta tb te:zm} {tl:TL2}
noncomputable def zFA(x y:List Int):List Int:=if HT.lexLt y x then y else x
noncomputable def zCv(nss:List (List Int)):List Int:=nss.getD (argBest (HT.btT nss) (nss.length-1)) []
theorem zKt(x y z:List Int):zCv [x,y,z]=zFA (zFA x y) z:=by
 have e:zCv [x,y,z]=[x,y,z].getD (if HT.btT [x,y,z] 2 (if HT.btT [x,y,z] 1 0 then 1 else 0) then 2 else if HT.btT [x,y,z] 1 0 then 1 else 0) []:=rfl
 rw[e]
 have e1:HT.btT [x,y,z] 1 0=HT.lexLt y x:=rfl
 have e2:HT.btT [x,y,z] 2 1=HT.lexLt z y:=rfl
 have e3:HT.btT [x,y,z] 2 0=HT.lexLt z x:=rfl
 unfold zFA
 rw[e1]
 by_cases h1:HT.lexLt y x=true
 ·simp only[h1,if_true,e2]
  by_cases h2:HT.lexLt z y=true
  ·simp[h2]
  ·simp[h2]
 ·simp only[h1,cM,if_false]
  rw[e3]
  by_cases h2:HT.lexLt z x=true
  ·simp[h2]
  ·simp[h2]
theorem zBM(bt:Nat→Nat→Bool):∀ n,argBest bt n≤n
 | 0=>cX _
 | n+1=>by
  unfold argBest
  have:=zBM bt n
  split<;>omega
noncomputable def zCw(K:PySem.W.Frag)(H:Hp)(as:List Addr)(nss:List (List Int)):Prop:=as.length=nss.length∧∀(i:Nat) a ns,as[i]?=some a→nss[i]?=some ns→SqT K H a (ns.map V.int)
theorem zCw.at{pins:List (Addr×Obj)}{s:Shared}{σ:L2.St}{H:Hp}{as:List Addr}{nss:List (List Int)}(I:zP X pins σ H s)(h:zCw X.K H as nss):HT.zAB s.heap as nss:=by
 refine⟨h.1,fun i a ns h1 h2=>?_⟩
 obtain⟨its,rv,ht,u0⟩:=I.tuple (h.2 i a ns h1 h2)
 exact⟨its,ht,intsAre_of rv⟩
theorem zHq(hc:X.calm=true)(hu:X.A.units+10<cLine):yy X (.builtin "min") (fun xs H Q=>∃ a b c nss,xs=[.ref a,.ref b,.ref c]∧zCw X.K H [a,b,c] nss∧∀ d,[a,b,c][argBest (HT.btT nss) 2]?=some d→Q (.ref d) H):=by
 intro pins s σ H xs us Q I r h
 obtain⟨a,b,c,nss,rfl,ht,q⟩:=h
 have:us=[.ref a,.ref b,.ref c]:=by
  cases r with
  | cons r1 r =>
   cases r with
   | cons r2 r =>
    cases r with
    | cons r3 r=>cases r;cases r1;cases r2;cases r3;rfl
 subst this
 refine HT.min_three (I.ok.hd hc) (by show X.A.in1.units<cLine;simp[Around.in1] at *;omega) (ht.at I) fun h' tk v hv kp=>?_
 have e:[Value.ref a,Value.ref b,Value.ref c]=[a,b,c].map Value.ref:=rfl
 rw[e,dJ] at hv
 cases q':[a,b,c][argBest (HT.btT nss) 2]? with
 | none=>rw[q'] at hv;cases hv
 | some d =>
  rw[q'] at hv
  cases hv
  exact⟨.ref d,H,I.kept (t':=tk) kp,rfl,q d q'⟩
noncomputable def tupI(ns:List Int):D:=.tup (ns.map D.int)
theorem zKu{K:PySem.W.Frag}{H:Hp}{ns:List Int}{v:V}(h:zO K H (tupI ns) v):∃ a,v=.ref a∧SqT K H a (ns.map V.int):=by
 unfold tupI zO at h
 obtain⟨a,us,rfl,s1,t1⟩:=h
 have:=t1.ints_inv
 subst this
 exact⟨a,rfl,s1⟩
theorem zDg{K:PySem.W.Frag}{H:Hp}{ns:List Int}{a:Addr}(h:SqT K H a (ns.map V.int)):zO K H (tupI ns) (.ref a):=by
 unfold tupI zO
 exact⟨a,_,rfl,h,Dens.ints ns⟩
theorem zDM{K:PySem.W.Frag}{H:Hp}:∀ {nss:List (List Int)} {vs:List V},Dens K H (nss.map tupI) vs→∃ as,vs=as.map V.ref∧zCw K H as nss
 | [],vs,h=>by unfold Dens at h;exact⟨[],h,rfl,fun i a ns h1 h2=>by simp at h1⟩
 | ns::r,vs,h=>by
  rw[eZ] at h
  unfold Dens at h
  obtain⟨x,y,rfl,h1,h2⟩:=h
  obtain⟨a,rfl,s1⟩:=zKu h1
  obtain⟨as,rfl,ha⟩:=zDM h2
  refine⟨a::as,rfl,by simp[ha.1],fun i a' ns' h1 h2=>?_⟩
  cases i with
  | zero=>simp at h1 h2;subst h1 h2;exact s1
  | succ i=>exact ha.2 i a' ns' (by simpa using h1) (by simpa using h2)
noncomputable def zHr:Sp2:=fun ds G R=>∃ x y z:List Int,ds=[tupI x,tupI y,tupI z]∧R (tupI (zCv [x,y,z])) G
theorem zCw.pick{K:PySem.W.Frag}{H:Hp}{as:List Addr}{nss:List (List Int)}(h:zCw K H as nss)(hp:0<nss.length){d:Addr}(hd:as[argBest (HT.btT nss) (as.length-1)]?=some d):zO K H (tupI (zCv nss)) (.ref d):=by
 rw[h.1] at hd
 have hl:argBest (HT.btT nss) (nss.length-1)<nss.length:=by have:=zBM (HT.btT nss) (nss.length-1);omega
 refine zDg (h.2 _ d _ hd ?_)
 unfold zCv
 simp[fU,hl]
theorem zOn{t:wH}{e' e'':Expr}{k:Nat}(hr:zx k X.A)(hc:X.calm=true)(hg:Gl X "min")(hm:X.mg "min"=none)(ha:A2 X [e,e',e''] t)(he:starEach [e,e',e''] X.env=(false,eval e X.env)::starEach [e',e''] X.env:=by rfl)(hpl:(backTo pos (starEach [e',e''] X.env)).any (·.1)=false:=by rfl) :
  E2 X (.Call (.Name "min" p) [e,e',e''] [] pos) (zL zHr t):=zDx (zHq hc (by have:=hr.units;omega)) (by
   rintro ds G R vs H Q ⟨x,y,z,rfl,h⟩ r d k
   obtain⟨as,rfl,ha⟩:=zDM (nss:=[x,y,z]) d
   match as,ha with
   | [a,b,c],ha=>exact⟨a,b,c,[x,y,z],rfl,ha,fun d hd=>k _ G h _ H (.refl H) r (ha.pick (by simp) hd)⟩) hg hm (by decide +kernel) ha (by decide) (by decide) he hpl
end
end L3
namespace HT
open PySem PyProof.Rows
theorem zKv(A:Around)(s:Shared)(a:Int)(t:Tok)(c:Int)(u:Tok)(prog:Program)(w:World)(E:Value→Shared→Prop)(Q:Value→Shared→Prop)(h:Q (.bool (decide (c<a))) s) :
  wpAny (model prog w) A (richCompare .Gt (.int a t) (.int c u)) Q E s :=
 (PyProof.Rows.gt_int h:wpAny (model prog w) A (compareOp .Gt (.int a t) (.int c u)) Q E s)
section
open PySem.SeqAt
open PySem.MeetsSeq PySem.MeetsSeq2 PySem.MeetsSeq3
theorem zFB(l b:Addr)(items items2:Array Value)(n n2:Nat)(dd dd2:Option Addr)(sl sl2:Array (Option Value))(ns ms:List Int)(hi:IntsAre items.toList ns)(hj:IntsAre items2.toList ms) :
  Meets (Builtin.«tuple.__gt__» ⟨[.ref l,.ref b],[]⟩)
   (fun u0 R s=>s.heap.get? l=some { cls:=.type "tuple",dict:=dd,data:=.seq items n,slots:=sl }∧s.heap.get? b=some { cls:=.type "tuple",dict:=dd2,data:=.seq items2 n2,slots:=sl2 } ∧
    R (.ok (.ret (.bool (lexLt ms ns)))) s) :=
 .of_wp fun prog w A R s h=>by
  obtain⟨hp,g,d,tk,os⟩:=s;obtain⟨hl,hb,h⟩:=h
  have f2:=AutoSeq1.sub_tuple_tuple
  have z1:items.size=ns.length:=by rw[← hi.length];simp
  have z2:items2.size=ms.length:=by rw[← hj.length];simp
  wp_walk using wpAny_loadPart' hl,wpAny_loadPart' hb,wpAny_forIn_list _ (fun rest b s'=>b.1=none∧s'=⟨hp,g,d,tk,os⟩∧∃(vs ws:List Value) (ns' ms':List Int),rest=vs.zip ws ∧
   IntsAre vs ns'∧IntsAre ws ms'∧ns'.length+items2.size=ms'.length+items.size∧R (.ok (.ret (.bool (lexLt ms' ns')))) ⟨hp,g,d,tk,os⟩) _
  case turn =>
   rintro⟨y,x⟩ rest b s' ⟨hb',rfl,vs,ws,ns',ms',hz,hvi,hwi,hlen,hR⟩
   cases hvi with
   | nil=>rw[List.zip_nil_left] at hz;cases hz
   | cons a t hvi' =>
    cases hwi with
    | nil=>rw[List.zip_nil_right] at hz;cases hz
    | cons c u hwi' =>
     rw[gp] at hz
     injection hz with hyx hrest
     injection hyx with hy hx
     subst hy hx
     rw[zEC] at hR
     simp only[cR] at hlen
     obtain⟨e,he,hiff⟩:=zGO A.in1 ⟨hp,g,d,tk,os⟩ a t c u
     refine cL (he prog w _ _ ?_)
     cases e with
     | true =>
      rw[if_pos (hiff.mp rfl).symm] at hR
      wp_walk
      exact⟨rfl,rfl,_,_,_,_,hrest,hvi',hwi',by omega,hR⟩
     | false =>
      rw[if_neg (fun q=>absurd (hiff.mpr q.symm) eK)] at hR
      have hri:=zKv A.in1 ⟨hp,g,d,tk,os⟩ a t c u prog w
      wp_walk using hri
      exact⟨_,rfl,by simpa using hR⟩
  case fin =>
   rintro⟨b1,b2⟩ s' ⟨hb',rfl,vs,ws,ns',ms',hz,hvi,hwi,hlen,hR⟩
   simp only at hb'
   subst hb'
   have hv:lexLt ms' ns'=decide (items2.size<items.size):=by
    cases hvi with
    | nil =>
     cases hwi with
     | nil =>
      simp only[cU] at hlen
      rw[zCC]
      exact(decide_eq_false (by omega)).symm
     | cons c u hw =>
      simp only[cU,cR] at hlen
      rw[zBd]
      exact(decide_eq_false (by omega)).symm
    | cons a t hv =>
     cases hwi with
     | nil =>
      simp only[cU,cR] at hlen
      rw[zBc]
      exact(decide_eq_true (by omega)).symm
     | cons c u hw =>
      rw[gp] at hz
      cases hz
   rw[hv] at hR
   wp_walk
   exact⟨_,rfl,by simpa[Builtin.Tuple.tupleCompareSizes] using hR⟩
  case h =>
   exact⟨rfl,rfl,items.toList,items2.toList,ns,ms,rfl,hi,hj,by omega,h⟩
end
section
variable {prog:Program} {w:World} {A:Around} {E:Value→Shared→Prop} {s:Shared}
theorem zHs{l b:Addr}{items items2:Array Value}{ns ms:List Int}{Q:Value→Shared→Prop}(hl:IsTup s.heap l items)(hb:IsTup s.heap b items2)(hi:IntsAre items.toList ns)(hj:IntsAre items2.toList ms)
  (hu:A.units<cLine) (h:Q (.bool (lexLt ms ns)) s):wpAny (model prog w) A (compareOp .Gt (.ref l) (.ref b)) Q E s:=by
 obtain⟨⟨cls,dd,data,sl⟩,ho,hc,n,hd⟩:=id hl
 obtain⟨⟨cls2,dd2,data2,sl2⟩,ho2,hc2,n2,hd2⟩:=id hb
 simp only at hc hd hc2 hd2
 subst hc hd hc2 hd2
 exact richCompare_meets_room (op:=.Gt) ⟨_,ho,rfl⟩ ⟨_,ho2,rfl⟩ PySem.F.slot_tuple_gt PySem.F.entry_tuple_gt (PySem.F.args_tuple_gt_2 _ _) (zFB l b items items2 n n2 dd dd2 sl sl2 ns ms hi hj)
  ⟨ho,ho2,show Value.bool (lexLt ms ns)≠Value.notImplemented∧Q (.bool (lexLt ms ns)) s from⟨(fun x=>nomatch x),h⟩⟩ hu
end
end HT
namespace L3
open L2
section
variable {X:Cx} {a b c e o:Expr} {es:List Expr} {pos p:Pos} {ta tb te:zm}
noncomputable def zFz(t:zm)(tl th:TO2):TL2:=fun σ G R=>t σ G fun d G1=>tl σ G1 fun lo G2=>th σ G2 fun hi G3=>match d with | .adr l=>∃ ds,Ls G3 l ds∧R (cutD ds lo hi) G3 | _=>False
theorem zMh{lo hi:Option Expr}{tl th:TO2}{p2:Pos}(he:E2 X e te)(hl:O2 X lo tl)(hu:O2 X hi th):F2 X (.Subscript e (.Slice lo hi none p2) pos) (zFz te tl th):=by
 refine PE.mono (zGQ zL9 he hl hu) ?_
 rintro σ1 H Q ⟨σ,G,R,r,q,k⟩
 refine⟨σ,G,_,r,q,fun d G1 q1 v H1 g1 r1 d1=>⟨σ,G1,_,r.to g1 r1,q1,fun o1 G2 q2 H2 g2 r2=>⟨σ,G2,_,r.to (g1.trans g2) r2,q2,fun o2 G3 q3 H3 g3 r3=>?_⟩⟩⟩
 cases d with
 | adr l =>
  obtain⟨ds,ls,q3⟩:=q3
  obtain⟨xs,s1,t1⟩:=r3.sq ls
  unfold zO at d1
  subst d1
  have hl:=t1.length
  refine⟨l,xs,rfl,s1,fun p hp=>k _ G3 q3 p _ _ (((g1.trans g2).trans g3).trans (.fresh hp)) (r3.fresh hp) (r3.free hp) zc ?_⟩
  unfold cutD zGR
  rw[hl]
  exact((t1.drop).take).grow (.fresh hp)
 | _=>exact q3.elim
end
end L3
namespace HT
section
variable {prog:Program} {w:World} {A:Around} {E:Value→Shared→Prop} {s:Shared}
end
end HT
namespace L3
open L2
section
variable {X:Cx} {a b c e o:Expr} {es:List Expr} {pos p:Pos} {ta tb te:zm}
theorem zT.rep{xs:List V}{us:List Value}(r:zT xs us):∀ n:Nat,zT (di n xs).flatten (di n us).flatten
 | 0=>.nil
 | n+1=>by
  rw[cP,cP,fI,fI]
  exact r.append (zT.rep r n)
end
end L3
namespace HT
section
variable {prog:Program} {w:World} {A:Around} {E:Value→Shared→Prop} {s:Shared}
end
end HT
namespace L3
open L2
section
variable {X:Cx} {a b c e o:Expr} {es:List Expr} {pos p:Pos} {ta tb te:zm}
end
end L3
namespace HZ
structure Zs (prog:Program) (w:World) (i l:Addr) (xs:Array Value) where
 It:Nat→Heap→Prop
 Sq:Heap→Prop
 item:∀(A:Around) (E:Value→Shared→Prop) (s:Shared) (k:Nat) (x:Value) (Q:Value→Shared→Prop),It k s.heap→Sq s.heap→xs[k]?=some x→(∀ h',It (k+1) h'→g6 i s.heap h'→Q x { s with heap:=h' })→wpAny (model prog w) A (Builtin.SmallTypes.nextOf (.ref i)) Q E s
 fin:∀(A:Around) (E:Value→Shared→Prop) (s:Shared) (k:Nat) (Q:Value→Shared→Prop),A.handled=none→It k s.heap→Sq s.heap→xs[k]?=none→(∀ h' e,Heap.ExtBut i s.heap h'→(∃ o,h'.get? e=some o∧o.cls=.type "StopIteration")→E (.ref e) { s with heap:=h' })→wpAny (model prog w) A (Builtin.SmallTypes.nextOf (.ref i)) Q E s
 itAt:∀ {k:Nat} {h h':Heap},It k h→(∀ o,h.get? i=some o→h'.get? i=some o)→It k h'
 sqAt:∀ {h h':Heap},Sq h→(∀ o,h.get? l=some o→h'.get? l=some o)→Sq h'
 itHas:∀ {k:Nat} {h:Heap},It k h→∃ o,h.get? i=some o∧∀ v,o.data≠.cell v
theorem Zs.lt{prog:Program}{w:World}{i l:Addr}{xs:Array Value}(Z:Zs prog w i l xs){k:Nat}{h:Heap}(x:Z.It k h):i<h.objs.size:=let ⟨_,e,_⟩:=Z.itHas x;db e
section
variable {prog:Program} {w:World} {A:Around} {E:Value→Shared→Prop} {s:Shared}
end
section
variable {prog:Program} {w:World} {A:Around} {E:Value→Shared→Prop} {s:Shared} {z a b i j l m:Addr} {xs ys:Array Value} (Z1:Zs prog w i l xs) (Z2:Zs prog w j m ys)
end
end HZ
namespace L2
open HZ
end L2
namespace L3
open L2
end L3
namespace HZ
section
variable {prog:Program} {w:World} {A:Around} {E:Value→Shared→Prop}
end
end HZ
namespace L2
open HZ
variable {X:Cx} {pos:Pos}
end L2
namespace L3
open L2
section
variable {X:Cx} {e:Expr} {te:zm} {pos p p2 p3 p4:Pos}
theorem zPk{body:List Stmt}:Ps2 X body (fun u0 u0 u0=>False):=by
 rintro pins s σ H E I ⟨σ',G,D2,r,q,k⟩
 exact q.elim
end
end L3
namespace HS
structure SB (a0:Array Keyed) (kd:SortKind) (z:SortSt):Prop where
 pm:(arrOf z).Perm a0
 kd:kindOf z=kd
 fl:failedOf z=none
 pe:pendingOf z=#[]
theorem SB.sz{a0:Array Keyed}{kd:SortKind}{z:SortSt}(b:SB a0 kd z):(arrOf z).size=a0.size:=b.pm.size_eq
theorem SB.put{a0:Array Keyed}{kd:SortKind}{z:SortSt}(b:SB a0 kd z){ys:Array Keyed}(p:ys.Perm (arrOf z)):SB a0 kd (setArr z ys):=⟨p.trans b.pm,b.kd,b.fl,b.pe⟩
section
variable {prog:Program} {w:World} {A:Around} {E:Value→Shared→Prop} {s:Shared} {a0:Array Keyed} {kd:SortKind} {κ:KeyKind}
noncomputable abbrev Ky(κ:KeyKind)(z:SortSt)(i:Nat):κ.α:=KK κ (arrOf z) i
variable (L:∀(z:SortSt) (i j:Nat) (Q:Option Bool→SortSt→Prop),SB a0 kd z→i<a0.size→j<a0.size→Q (some (κ.blt (Ky κ z i) (Ky κ z j))) z→wpS (model prog w) A E s (ltAt' i j) Q z)
include L
omit L in
end
end HS
namespace HM
open HS
noncomputable abbrev SM:=StateT SortSt Sem
noncomputable def zAI:Bool→Keyed→Array Keyed→Nat→Nat→Nat→SM (Option Nat):=sortPriv% PySem.Builtin.gallop
noncomputable def zGi:Array Keyed→Array Keyed→SM (Array Keyed):=sortPriv% PySem.Builtin.mergeLo
noncomputable def zGj:Array Keyed→Array Keyed→SM (Array Keyed):=sortPriv% PySem.Builtin.mergeHi
noncomputable def zGk:Nat→SM Unit:=sortPriv% PySem.Builtin.setMinGallop
noncomputable def ky(κ:KeyKind)(p:Keyed):κ.α:=(κ.keyOf p.1).getD κ.dflt
noncomputable def byd(left:Bool)(key:Keyed)(arr:Array Keyed)(base i:Nat):SM (Option Bool):=do
 let x ← elem' arr (base+i)
 if left=true then lt' x key
 else do
  let r ← lt' key x
  pure (r.map fun c=>!c)
section
variable {prog:Program} {w:World} {A:Around} {E:Value→Shared→Prop} {s:Shared} {kd:SortKind} {κ:KeyKind} {P:Keyed→Prop}
theorem zY{arr:Array Keyed}{i:Nat}{p:Keyed}{Q:Keyed→SortSt→Prop}{z:SortSt}(h:arr[i]?=some p)(q:Q p z):wpS (model prog w) A E s (elem' arr i) Q z:=by
 rw[elem'_eq,h]
 exact d9 q
variable (L:∀(z:SortSt) (x y:Keyed) (Q:Option Bool→SortSt→Prop),kindOf z=kd→P x→P y→Q (some (κ.blt (ky κ x) (ky κ y))) z→wpS (model prog w) A E s (lt' x y) Q z)
include L
theorem zOo{left:Bool}{key:Keyed}{arr:Array Keyed}{base i:Nat}{z:SortSt}{Q:Option Bool→SortSt→Prop}(hz:kindOf z=kd)(hk:P key)(ha:∀ p∈arr,P p)(hi:base+i<arr.size)
  (h:Q (some (if left=true then κ.blt (ky κ arr[base+i]) (ky κ key) else !κ.blt (ky κ key) (ky κ arr[base+i]))) z):wpS (model prog w) A E s (byd left key arr base i) Q z:=by
 unfold byd
 refine cZ (zY (getElem?_pos arr _ hi) ?_)
 cases left with
 | true =>
  simp only[if_true] at h ⊢
  exact L _ _ _ _ hz (ha _ (dS hi)) hk h
 | false =>
  simp only[cM,if_false] at h ⊢
  exact cZ (L _ _ _ _ hz hk (ha _ (dS hi)) (d9 h))
structure Turn (B:Nat→Bool) (n r:Nat):Prop where
 le:r≤n
 yes:∀ i,i<r→B i=true
 no:∀ i,r≤i→i<n→B i=false
theorem wI{left:Bool}{key:Keyed}{arr:Array Keyed}{base n hint:Nat}{z:SortSt}{Q:Option Nat→SortSt→Prop}{B:Nat→Bool}(hz:kindOf z=kd)(hk:P key)(ha:∀ p∈arr,P p)(hb:base+n≤arr.size)(hh:hint<n)
  (hB:∀ i,(hi:base+i<arr.size)→i<n→(if left=true then κ.blt (ky κ arr[base+i]) (ky κ key) else !κ.blt (ky κ key) (ky κ arr[base+i]))=B i)
  (mo:∀ i j,i≤j→j<n→B j=true→B i=true) (h:∀ r,Turn B n r→Q (some r) z):wpS (model prog w) A E s (zAI left key arr base n hint) Q z:=by
 have bd:∀ {i:Nat} {Q:Option Bool→SortSt→Prop},i<n→Q (some (B i)) z→wpS (model prog w) A E s (byd left key arr base i) Q z:=fun {i Q} hi q=>zOo L hz hk ha (by omega) (by rw[hB i (by omega) hi];exact q)
 refine cZ (m:=byd left key arr base hint) (bd hh ?_)
 dsimp only
 cases hr:B hint with
 | true =>
  rw[if_pos rfl]
  refine cZ (fw (eh (β:=Option (Option Nat)×Nat×Nat) (I:=fun x c z'=>z'=z∧c.1=none∧c.2.1<c.2.2∧x+1≤c.2.2∧hint+c.2.1<n∧B (hint+c.2.1)=true) (Q:=fun c z'=>z'=z∧c.1=none∧c.2.1<c.2.2∧hint+c.2.1<n∧B (hint+c.2.1)=true∧(c.2.2≥n-hint∨B (hint+c.2.2)=false)) (fun x c z' x1 x2 ⟨e1,e2,q1,q2,q3,q4⟩=>?stp) (fun c z' ⟨e1,e2,q1,q2,q3,q4⟩=>⟨e1,e2,q1,q3,q4,.inl (by omega)⟩) ⟨rfl,rfl,Nat.zero_lt_one,cX _,hh,hr⟩) fun c z' ⟨e1,e2,q1,q3,q4,q5⟩=>?pst)
  case stp =>
   obtain⟨c0,la,of⟩:=c
   subst e1
   dsimp only at e2 q1 q2 q3 q4 ⊢
   by_cases g:of≥n-hint
   ·rw[if_pos g]
    exact d9 ⟨rfl,rfl,q1,q3,q4,.inl g⟩
   ·rw[if_neg g]
    refine cZ (m:=byd left key arr base (hint+of)) (bd (by omega) ?_)
    dsimp only
    cases e:B (hint+of) with
    | true=>exact d9 ⟨rfl,rfl,by dsimp only;omega,by dsimp only;omega,by dsimp only;omega,e⟩
    | false=>exact d9 ⟨rfl,rfl,q1,q3,q4,.inr e⟩
  case pst =>
   obtain⟨c0,la,of⟩:=c
   subst e1
   dsimp only at e2 q1 q3 q4 q5 ⊢
   rw[e2]
   dsimp only
   have y1:∀ i,i<hint+la+1→B i=true:=fun i hi=>by
    exact mo i (hint+la) (by omega) q3 q4
   have y2:∀ i,hint+min of (n-hint)≤i→i<n→B i=false:=fun i i1 i2=>by
    rcases q5 with q5 | q5
    ·omega
    ·cases e':B i with
     | false=>rfl
     | true=>rw[mo _ i (by omega) i2 e'] at q5;cases q5
   have l1:hint+la+1≤hint+min of (n-hint):=by omega
   have l2:hint+min of (n-hint)≤n:=by omega
   refine cZ (fw (eh (β:=Option (Option Nat)×Nat×Nat) (I:=fun x c z''=>z''=z'∧c.1=none∧c.2.1≤c.2.2∧c.2.2≤n∧c.2.2-c.2.1≤n-x∧(∀ i,i<c.2.1→B i=true)∧∀ i,c.2.2≤i→i<n→B i=false) (Q:=fun c z''=>z''=z'∧c.1=none∧Turn B n c.2.2) (fun x c z'' x1 x2 ⟨e1,e2,q1,q2,q3,q4,q5⟩=>?st2) (fun c z'' ⟨e1,e2,q1,q2,q3,q4,q5⟩=>⟨e1,e2,q2,fun i hi'=>q4 i (by omega),q5⟩) ⟨rfl,rfl,l1,l2,by dsimp only;omega,y1,y2⟩) fun c z'' ⟨e1,e2,e3⟩=>?ps2)
   case st2 =>
    clear y1 y2 l1 l2
    obtain⟨c0,lo,hi⟩:=c
    subst e1
    dsimp only at e2 q1 q2 q3 q4 q5 ⊢
    by_cases g:lo≥hi
    ·rw[if_pos g]
     exact d9 ⟨rfl,rfl,q2,fun i hi'=>q4 i (by dsimp only at hi';omega),q5⟩
    ·rw[if_neg g]
     refine cZ (m:=byd left key arr base (lo+(hi-lo) / 2)) (bd (by omega) ?_)
     dsimp only
     cases e:B (lo+(hi-lo) / 2) with
     | true=>exact d9 ⟨rfl,rfl,by dsimp only;omega,q2,by dsimp only;omega,fun i hi'=>mo i (lo+(hi-lo) / 2) (by dsimp only at hi';omega) (by omega) e,q5⟩
     | false =>
      refine d9 ⟨rfl,rfl,by dsimp only;omega,by dsimp only;omega,by dsimp only;omega,q4,fun i i1 i2=>?_⟩
      dsimp only at i1
      cases e':B i with
      | false=>rfl
      | true=>rw[mo _ i i1 i2 e'] at e;cases e
   case ps2 =>
    obtain⟨c0,lo,hi⟩:=c
    dsimp only at e2 e3 ⊢
    subst e1
    rw[e2]
    exact d9 (h _ e3)
 | false =>
  rw[if_neg (by simp)]
  refine cZ (fw (eh (β:=Option (Option Nat)×Nat×Nat) (I:=fun x c z'=>z'=z∧c.1=none∧c.2.1<c.2.2∧x+1≤c.2.2∧c.2.1≤hint∧B (hint-c.2.1)=false) (Q:=fun c z'=>z'=z∧c.1=none∧c.2.1<c.2.2∧c.2.1≤hint∧B (hint-c.2.1)=false∧(c.2.2≥hint+1∨(c.2.2≤hint∧B (hint-c.2.2)=true))) (fun x c z' x1 x2 ⟨e1,e2,q1,q2,q3,q4⟩=>?stp) (fun c z' ⟨e1,e2,q1,q2,q3,q4⟩=>⟨e1,e2,q1,q3,q4,.inl (by omega)⟩) ⟨rfl,rfl,Nat.zero_lt_one,cX _,fh _,hr⟩) fun c z' ⟨e1,e2,q1,q3,q4,q5⟩=>?pst)
  case stp =>
   obtain⟨c0,la,of⟩:=c
   subst e1
   dsimp only at e2 q1 q2 q3 q4 ⊢
   by_cases g:of≥hint+1
   ·rw[if_pos g]
    exact d9 ⟨rfl,rfl,q1,q3,q4,.inl g⟩
   ·rw[if_neg g]
    refine cZ (m:=byd left key arr base (hint-of)) (bd (by omega) ?_)
    dsimp only
    cases e:B (hint-of) with
    | true=>exact d9 ⟨rfl,rfl,q1,q3,q4,.inr ⟨by dsimp only;omega,e⟩⟩
    | false=>exact d9 ⟨rfl,rfl,by dsimp only;omega,by dsimp only;omega,by dsimp only;omega,e⟩
  case pst =>
   obtain⟨c0,la,of⟩:=c
   subst e1
   dsimp only at e2 q1 q3 q4 q5 ⊢
   rw[e2]
   dsimp only
   have y1:∀ i,i<hint+1-min of (hint+1)→B i=true:=fun i hi=>by
    rcases q5 with q5 | ⟨q5,q6⟩
    ·omega
    ·exact mo i (hint-of) (by omega) (by omega) q6
   have y2:∀ i,hint-la≤i→i<n→B i=false:=fun i i1 i2=>by
    cases e':B i with
    | false=>rfl
    | true=>rw[mo _ i i1 i2 e'] at q4;cases q4
   have l1:hint+1-min of (hint+1)≤hint-la:=by omega
   have l2:hint-la≤n:=by omega
   refine cZ (fw (eh (β:=Option (Option Nat)×Nat×Nat) (I:=fun x c z''=>z''=z'∧c.1=none∧c.2.1≤c.2.2∧c.2.2≤n∧c.2.2-c.2.1≤n-x∧(∀ i,i<c.2.1→B i=true)∧∀ i,c.2.2≤i→i<n→B i=false) (Q:=fun c z''=>z''=z'∧c.1=none∧Turn B n c.2.2) (fun x c z'' x1 x2 ⟨e1,e2,q1,q2,q3,q4,q5⟩=>?st2) (fun c z'' ⟨e1,e2,q1,q2,q3,q4,q5⟩=>⟨e1,e2,q2,fun i hi'=>q4 i (by omega),q5⟩) ⟨rfl,rfl,l1,l2,by dsimp only;omega,y1,y2⟩) fun c z'' ⟨e1,e2,e3⟩=>?ps2)
   case st2 =>
    clear y1 y2 l1 l2
    obtain⟨c0,lo,hi⟩:=c
    subst e1
    dsimp only at e2 q1 q2 q3 q4 q5 ⊢
    by_cases g:lo≥hi
    ·rw[if_pos g]
     exact d9 ⟨rfl,rfl,q2,fun i hi'=>q4 i (by dsimp only at hi';omega),q5⟩
    ·rw[if_neg g]
     refine cZ (m:=byd left key arr base (lo+(hi-lo) / 2)) (bd (by omega) ?_)
     dsimp only
     cases e:B (lo+(hi-lo) / 2) with
     | true=>exact d9 ⟨rfl,rfl,by dsimp only;omega,q2,by dsimp only;omega,fun i hi'=>mo i (lo+(hi-lo) / 2) (by dsimp only at hi';omega) (by omega) e,q5⟩
     | false =>
      refine d9 ⟨rfl,rfl,by dsimp only;omega,by dsimp only;omega,by dsimp only;omega,q4,fun i i1 i2=>?_⟩
      dsimp only at i1
      cases e':B i with
      | false=>rfl
      | true=>rw[mo _ i i1 i2 e'] at e;cases e
   case ps2 =>
    obtain⟨c0,lo,hi⟩:=c
    dsimp only at e2 e3 ⊢
    subst e1
    rw[e2]
    exact d9 (h _ e3)
end
section
variable {κ:KeyKind}
theorem zd{xs:Array Keyed}{i:Nat}(h:i<xs.size):KK κ xs i=ky κ xs[i]:=by
 unfold KK ky
 rw[getElem?_pos xs i h]
noncomputable def Srt(κ:KeyKind)(l:List Keyed):Prop:=l.Pairwise fun x y=>κ.kle (ky κ x) (ky κ y)
structure MO (κ:KeyKind) (a b r:Array Keyed):Prop where
 sr:Srt κ r.toList
 pm:r.toList.Perm (a.toList++b.toList)
structure MI (κ:KeyKind) (a b out:Array Keyed) (ia ib:Nat):Prop where
 sr:Srt κ out.toList
 pm:(out.toList++(a.toList.drop ia++b.toList.drop ib)).Perm (a.toList++b.toList)
 la:∀ x∈out.toList,∀ j,ia≤j→j<a.size→κ.kle (ky κ x) (KK κ a j)
 lb:∀ x∈out.toList,∀ j,ib≤j→j<b.size→κ.kle (ky κ x) (KK κ b j)
 sz:out.size=ia+ib
theorem zBj{a:Array Keyed}{i:Nat}(h:SortedToK κ a a.size):Srt κ (a.toList.drop i):=by
 unfold Srt
 rw[gG]
 intro j k hj hk jk
 rw[eT,da] at hj hk
 have:=h (i+j) (i+k) (by omega) (by omega)
 rw[zd (by omega),zd (by omega)] at this
 simpa using this
theorem wJ{a:Array Keyed}{i:Nat}{y:Keyed}(h:y∈a.toList.drop i):∃ j,i≤j∧j<a.size∧ky κ y=KK κ a j:=by
 obtain⟨j,hj,rfl⟩:=fV.mp h
 rw[eT,da] at hj
 refine⟨i+j,by omega,by omega,?_⟩
 rw[zd (by omega)]
 simp
theorem zB2{a:Array Keyed}{i:Nat}:(a.extract i a.size).toList=a.toList.drop i:=by
 rw[eU,eF]
 rw[fL (by simp)]
theorem wR{l m:List Keyed}(h1:Srt κ l)(h2:Srt κ m)(h:∀ x∈l,∀ y∈m,κ.kle (ky κ x) (ky κ y)):Srt κ (l++m):=List.pairwise_append.mpr ⟨h1,h2,h⟩
variable {a b out:Array Keyed} {ia ib:Nat}
theorem MI.doneA(m:MI κ a b out ia ib)(sa:SortedToK κ a a.size)(e:ib=b.size):MO κ a b (out++a.extract ia a.size++b.extract ib b.size):=by
 have e1:(out++a.extract ia a.size++b.extract ib b.size).toList=out.toList++(a.toList.drop ia++b.toList.drop ib):=by
  rw[dX,dX,zB2,zB2,eA]
 have e2:b.toList.drop ib=[]:=by rw[e,← da,List.drop_length]
 refine⟨?_,by rw[e1];exact m.pm⟩
 rw[e1,e2,fk]
 refine wR m.sr (zBj sa) fun x hx y hy=>?_
 obtain⟨j,j1,j2,j3⟩:=wJ (κ:=κ) hy
 rw[j3]
 exact m.la x hx j j1 j2
theorem MI.doneB(m:MI κ a b out ia ib)(sb:SortedToK κ b b.size)(e:ia=a.size):MO κ a b (out++a.extract ia a.size++b.extract ib b.size):=by
 have e1:(out++a.extract ia a.size++b.extract ib b.size).toList=out.toList++(a.toList.drop ia++b.toList.drop ib):=by
  rw[dX,dX,zB2,zB2,eA]
 have e2:a.toList.drop ia=[]:=by rw[e,← da,List.drop_length]
 refine⟨?_,by rw[e1];exact m.pm⟩
 rw[e1,e2,cW]
 refine wR m.sr (zBj sb) fun x hx y hy=>?_
 obtain⟨j,j1,j2,j3⟩:=wJ (κ:=κ) hy
 rw[j3]
 exact m.lb x hx j j1 j2
theorem MI.lastA(m:MI κ a b out ia ib)(sa:SortedToK κ a a.size)(sb:SortedToK κ b b.size)(la:∀ j,j<b.size→κ.kle (KK κ b j) (KK κ a (a.size-1)))(e:ia+1=a.size):MO κ a b (out++b.extract ib b.size++a.extract ia a.size):=by
 have e1:(out++b.extract ib b.size++a.extract ia a.size).toList=out.toList++(b.toList.drop ib++a.toList.drop ia):=by
  rw[dX,dX,zB2,zB2,eA]
 refine⟨?_,by rw[e1];exact(fK.append_left _ List.perm_append_comm).trans m.pm⟩
 rw[e1]
 refine wR m.sr (wR (zBj sb) (zBj sa) fun x hx y hy=>?_) fun x hx y hy=>?_
 ·obtain⟨j,j1,j2,j3⟩:=wJ (κ:=κ) hx
  obtain⟨k,k1,k2,k3⟩:=wJ (κ:=κ) hy
  rw[j3,k3,show k=a.size-1 by omega]
  exact la j j2
 ·rcases dH.mp hy with hy | hy
  ·obtain⟨j,j1,j2,j3⟩:=wJ (κ:=κ) hy
   rw[j3]
   exact m.lb x hx j j1 j2
  ·obtain⟨j,j1,j2,j3⟩:=wJ (κ:=κ) hy
   rw[j3]
   exact m.la x hx j j1 j2
theorem zFg{a:Array Keyed}{i:Nat}(h:i<a.size):a.toList.drop i=a[i]::a.toList.drop (i+1):=by
 rw[List.drop_eq_getElem_cons (by simpa using h)]
 simp
theorem MI.pushA(m:MI κ a b out ia ib)(sa:SortedToK κ a a.size)(h:ia<a.size)(hb:∀ j,ib≤j→j<b.size→κ.kle (KK κ a ia) (KK κ b j)):MI κ a b (out.push a[ia]) (ia+1) ib:=by
 refine⟨?_,?_,fun x hx j j1 j2=>?_,fun x hx j j1 j2=>?_,by rw[eX,m.sz];omega⟩
 ·rw[dG]
  refine wR m.sr (gS _ _) fun x hx y hy=>?_
  rw[dq.mp hy,← zd h]
  exact m.la x hx ia (cX _) h
 ·rw[dG,eA]
  have:=m.pm
  rw[zFg h] at this
  exact this
 ·rw[dG] at hx
  rcases dH.mp hx with hx | hx
  ·exact m.la x hx j (by omega) j2
  ·rw[dq.mp hx,← zd h]
   exact sa ia j (by omega) j2
 ·rw[dG] at hx
  rcases dH.mp hx with hx | hx
  ·exact m.lb x hx j j1 j2
  ·rw[dq.mp hx,← zd h]
   exact hb j j1 j2
theorem MI.pushB(m:MI κ a b out ia ib)(sb:SortedToK κ b b.size)(h:ib<b.size)(ha:∀ j,ia≤j→j<a.size→κ.kle (KK κ b ib) (KK κ a j)):MI κ a b (out.push b[ib]) ia (ib+1):=by
 refine⟨?_,?_,fun x hx j j1 j2=>?_,fun x hx j j1 j2=>?_,by rw[eX,m.sz];omega⟩
 ·rw[dG]
  refine wR m.sr (gS _ _) fun x hx y hy=>?_
  rw[dq.mp hy,← zd h]
  exact m.lb x hx ib (cX _) h
 ·rw[dG,eA]
  refine fK.trans ?_ m.pm
  rw[zFg h]
  refine fK.append_left _ ?_
  show(b[ib]::(List.drop ia a.toList++List.drop (ib+1) b.toList)).Perm _
  exact List.perm_middle.symm
 ·rw[dG] at hx
  rcases dH.mp hx with hx | hx
  ·exact m.la x hx j j1 j2
  ·rw[dq.mp hx,← zd h]
   exact ha j j1 j2
 ·rw[dG] at hx
  rcases dH.mp hx with hx | hx
  ·exact m.lb x hx j (by omega) j2
  ·rw[dq.mp hx,← zd h]
   exact sb ib j (by omega) j2
theorem zEW{a:Array Keyed}{i k:Nat}(h:i+k<a.size):a.extract i (i+(k+1))=(a.extract i (i+k)).push a[i+k]:=by
 apply Array.ext'
 rw[dG,eU,eU,eF,eF,show i+(k+1)-i=k+1 by omega,show i+k-i=k by omega,List.take_add_one]
 congr 1
 rw[List.getElem?_drop,fe (by simpa using h)]
 simp
theorem zCx{a:Array Keyed}{i:Nat}:a.extract i (i+0)=#[]:=by
 apply Array.ext'
 rw[eU,eF]
 simp
theorem MI.manyA(sa:SortedToK κ a a.size)(m:MI κ a b out ia ib):∀ k,ia+k≤a.size→(∀ i,ia≤i→i<ia+k→∀ j,ib≤j→j<b.size→κ.kle (KK κ a i) (KK κ b j))→MI κ a b (out++a.extract ia (ia+k)) (ia+k) ib
 | 0,_,_=>by rw[zCx,Array.append_empty];exact m
 | k+1,hk,h=>by
  have:=(MI.manyA sa m k (by omega) fun i i1 i2=>h i i1 (by omega)).pushA sa (by omega) (h (ia+k) (by omega) (by omega))
  rw[zEW (by omega),Array.append_push]
  exact this
theorem MI.manyB(sb:SortedToK κ b b.size)(m:MI κ a b out ia ib):∀ k,ib+k≤b.size→(∀ i,ib≤i→i<ib+k→∀ j,ia≤j→j<a.size→κ.kle (KK κ b i) (KK κ a j))→MI κ a b (out++b.extract ib (ib+k)) ia (ib+k)
 | 0,_,_=>by rw[zCx,Array.append_empty];exact m
 | k+1,hk,h=>by
  have:=(MI.manyB sb m k (by omega) fun i i1 i2=>h i i1 (by omega)).pushB sb (by omega) (h (ib+k) (by omega) (by omega))
  rw[zEW (by omega),Array.append_push]
  exact this
end
structure Kp (z z':SortSt):Prop where
 kd:kindOf z'=kindOf z
 ar:arrOf z'=arrOf z
 pe:pendingOf z'=pendingOf z
 fl:failedOf z'=failedOf z
theorem Kp.refl(z:SortSt):Kp z z:=⟨rfl,rfl,rfl,rfl⟩
theorem Kp.trans{z z' z'':SortSt}(h:Kp z z')(h':Kp z' z''):Kp z z'':=⟨h'.kd.trans h.kd,h'.ar.trans h.ar,h'.pe.trans h.pe,h'.fl.trans h.fl⟩
section
variable {prog:Program} {w:World} {A:Around} {E:Value→Shared→Prop} {s:Shared} {kd:SortKind} {κ:KeyKind} {P:Keyed→Prop}
theorem zCy{g:Nat}{z:SortSt}{Q:Unit→SortSt→Prop}(h:∀ z',Kp z z'→Q () z'):wpS (model prog w) A E s (zGk g) Q z:=gO (h _ ⟨rfl,rfl,rfl,rfl⟩)
variable (L:∀(z:SortSt) (x y:Keyed) (Q:Option Bool→SortSt→Prop),kindOf z=kd→P x→P y→Q (some (κ.blt (ky κ x) (ky κ y))) z→wpS (model prog w) A E s (lt' x y) Q z)
include L
theorem zHt{a b:Array Keyed}{z:SortSt}{Q:Array Keyed→SortSt→Prop}(hz:kindOf z=kd)(pa:∀ p∈a,P p)(pb:∀ p∈b,P p)(ha:1≤a.size)(hb:1≤b.size)(sa:SortedToK κ a a.size)(sb:SortedToK κ b b.size)
  (fst:∀ j,j<a.size→κ.kle (KK κ b 0) (KK κ a j)) (lst:∀ j,j<b.size→κ.kle (KK κ b j) (KK κ a (a.size-1))) (h:∀ r z',MO κ a b r→Kp z z'→Q r z'):wpS (model prog w) A E s (zGi a b) Q z:=by
 refine cZ (wpS_lift (fO ⟨rfl,?_⟩))
 refine cZ (m:=elem' b 0) (zY (getElem?_pos b 0 (by omega)) ?_)
 dsimp only
 have m0:MI κ a b #[b[0]] 0 1:=by
  have:MI κ a b #[] 0 0:=⟨fH.nil,by simp,fun x hx=>by simp at hx,fun x hx=>by simp at hx,rfl⟩
  exact this.pushB sb (by omega) fun j u0 j2=>fst j j2
 by_cases c1:1=b.size
 ·rw[if_pos (by simpa using c1)]
  exact d9 (h _ _ (m0.doneA sa c1) (.refl z))
 rw[if_neg (by simpa using c1)]
 by_cases c2:0+1=a.size
 ·rw[if_pos (by simpa using c2)]
  exact d9 (h _ _ (m0.lastA sa sb lst c2) (.refl z))
 rw[if_neg (by simpa using c2)]
 refine cZ (wpS_get ?_)
 skip
 refine cZ (fw (eh (β:=Option (Array Keyed)×Array Keyed×Nat×Nat×Nat) (I:=fun x c z'=>Kp z z'∧c.1=none∧MI κ a b c.2.1 c.2.2.1 c.2.2.2.1∧c.2.2.1+1<a.size∧c.2.2.2.1<b.size∧x≤c.2.1.size) (Q:=fun c z'=>Kp z z'∧∃ r,c.1=some r∧MO κ a b r) (fun x c z1 x1 x2 ⟨k1,e2,m1,q1,q2,q3⟩=>?stp) (fun c z1 ⟨k1,e2,m1,q1,q2,q3⟩=>?fin) ⟨.refl z,rfl,m0,by dsimp only;omega,by dsimp only;omega,fh _⟩) fun c z1 ⟨k1,r,e2,mo⟩=>?pst)
 case pst =>
  rw[e2]
  exact d9 (h _ _ mo k1)
 case fin =>
  have:=m1.sz
  omega
 case stp =>
  clear m0
  obtain⟨c0,out,ia,ib,mg⟩:=c
  dsimp only at e2 m1 q1 q2 q3 ⊢
  refine cZ (fw (eh (β:=Option (Array Keyed)×Array Keyed×Nat×Nat×Nat×Nat) (I:=fun y c z'=>Kp z z'∧c.1=none∧MI κ a b c.2.1 c.2.2.1 c.2.2.2.1∧c.2.2.1+1<a.size∧c.2.2.2.1<b.size∧out.size+y≤c.2.1.size) (Q:=fun c z'=>Kp z z'∧((∃ r,c.1=some r∧MO κ a b r)∨(c.1=none∧MI κ a b c.2.1 c.2.2.1 c.2.2.2.1∧c.2.2.1+1<a.size∧c.2.2.2.1<b.size∧out.size+1≤c.2.1.size))) (fun y c z2 y1 y2 ⟨k2,e3,m2,p1,p2,p3⟩=>?stp1) (fun c z2 ⟨k2,e3,m2,p1,p2,p3⟩=>⟨k2,.inr ⟨e3,m2,p1,p2,by omega⟩⟩) ⟨k1,rfl,m1,q1,q2,by dsimp only;omega⟩) fun c z2 ⟨k2,o⟩=>?pst1)
  case stp1 =>
   obtain⟨c0',out',ia',ib',ac,bc⟩:=c
   dsimp only at e3 m2 p1 p2 p3 ⊢
   refine cZ (m:=elem' b ib') (zY (getElem?_pos b ib' p2) ?_)
   refine cZ (m:=elem' a ia') (zY (getElem?_pos a ia' (by omega)) ?_)
   refine cZ (m:=lt' b[ib'] a[ia']) (L _ _ _ _ (k2.kd.trans hz) (pb _ (dS p2)) (pa _ (dS _)) ?_)
   dsimp only
   cases e:κ.blt (ky κ b[ib']) (ky κ a[ia']) with
   | true =>
    rw[if_pos rfl]
    refine cZ (m:=elem' b ib') (zY (getElem?_pos b ib' p2) ?_)
    have m3:=m2.pushB sb p2 fun j j1 j2=>KeyOrd.kle_trans (KeyOrd.kle_of_klt (by rw[zd p2,zd (by omega)];exact e)) (sa ia' j j1 j2)
    by_cases c3:ib'+1=b.size
    ·rw[if_pos (by simpa using c3)]
     exact d9 ⟨k2,.inl ⟨_,rfl,m3.doneA sa c3⟩⟩
    rw[if_neg (by simpa using c3)]
    split
    ·exact d9 ⟨k2,.inr ⟨rfl,m3,p1,by dsimp only;omega,by dsimp only;rw[eX];omega⟩⟩
    ·exact d9 ⟨k2,rfl,m3,p1,by dsimp only;omega,by dsimp only;rw[eX];omega⟩
   | false =>
    rw[if_neg (by simp)]
    refine cZ (m:=elem' a ia') (zY (getElem?_pos a ia' (by omega)) ?_)
    have m3:=m2.pushA sa (by omega) fun j j1 j2=>KeyOrd.kle_trans (show κ.kle (KK κ a ia') (KK κ b ib') by rw[zd p2,zd (by omega)];exact e) (sb ib' j j1 j2)
    by_cases c3:ia'+1+1=a.size
    ·rw[if_pos (by simpa using c3)]
     exact d9 ⟨k2,.inl ⟨_,rfl,m3.lastA sa sb lst c3⟩⟩
    rw[if_neg (by simpa using c3)]
    split
    ·exact d9 ⟨k2,.inr ⟨rfl,m3,by dsimp only;omega,p2,by dsimp only;rw[eX];omega⟩⟩
    ·exact d9 ⟨k2,rfl,m3,by dsimp only;omega,p2,by dsimp only;rw[eX];omega⟩
  case pst1 =>
   obtain⟨c0',out',ia',ib',ac,bc⟩:=c
   dsimp only at o ⊢
   rcases o with ⟨r,e3,mo⟩ | ⟨e3,m2,p1,p2,p3⟩
   ·rw[e3]
    exact d9 ⟨k2,r,rfl,mo⟩
   rw[e3]
   dsimp only
   refine cZ (wpS_lift (fO ⟨rfl,?_⟩))
   refine cZ (fw (eh (β:=Option (Array Keyed)×Array Keyed×Nat×Nat×Nat×Nat×Nat) (I:=fun y c z'=>Kp z z'∧c.1=none∧MI κ a b c.2.1 c.2.2.1 c.2.2.2.1∧c.2.2.1+1<a.size∧c.2.2.2.1<b.size∧out.size+1≤c.2.1.size) (Q:=fun c z'=>Kp z z'∧((∃ r,c.1=some r∧MO κ a b r)∨(c.1=none∧MI κ a b c.2.1 c.2.2.1 c.2.2.2.1∧c.2.2.1+1<a.size∧c.2.2.2.1<b.size∧out.size+1≤c.2.1.size))) (fun y c z3 y1 y2 ⟨k3,e4,m3,r1,r2,r3⟩=>?stp2) (fun c z3 ⟨k3,e4,m3,r1,r2,r3⟩=>⟨k3,.inr ⟨e4,m3,r1,r2,r3⟩⟩) ⟨k2,rfl,m2,p1,p2,p3⟩) fun c z3 ⟨k3,o⟩=>?pst2)
   case pst2 =>
    obtain⟨c0'',out'',ia'',ib'',mg',ac',bc'⟩:=c
    dsimp only at o ⊢
    rcases o with ⟨r,e4,mo⟩ | ⟨e4,m3,r1,r2,r3⟩
    ·rw[e4]
     exact d9 ⟨k3,r,rfl,mo⟩
    rw[e4]
    dsimp only
    refine cZ (m:=zGk (mg'+1)) (zCy fun z4 k4=>?_)
    exact d9 ⟨k3.trans k4,rfl,m3,r1,r2,by dsimp only;omega⟩
   case stp2 =>
    clear m2 p1 p2 p3 m1 q1 q2 e3 e2 k1 k2
    obtain⟨c0'',out'',ia'',ib'',mg',ac',bc'⟩:=c
    dsimp only at e4 m3 r1 r2 r3 ⊢
    have s3:=m3.sz
    rcases Classical.em (mg'>1) with hm | hm
    rw[if_pos hm]
    rotate_left
    rw[if_neg hm]
    all_goals
     refine cZ (m:=zGk _) (zCy fun z4 k4=>?_)
     have kz:=k3.trans k4
     refine cZ (m:=elem' b ib'') (zY (getElem?_pos b ib'' r2) ?_)
     refine cZ (m:=zAI false b[ib''] a ia'' (a.size-ia'') 0) (wI L (B:=fun t=>!κ.blt (KK κ b ib'') (KK κ a (ia''+t))) (kz.kd.trans hz) (pb _ (dS r2)) pa (by omega) (by omega) (fun t h1 h2=>by rw[if_neg (by simp),zd h1,zd r2]) (fun t u tu un q=>?_) fun k tk=>?_)
     ·simp only[fu] at q ⊢
      exact KeyOrd.kle_trans (sa _ _ (by omega) (by omega)) q
     dsimp only
     have l4:=tk.le
     have ya:∀ t,ia''≤t→t<ia''+k→∀ j,ib''≤j→j<b.size→κ.kle (KK κ a t) (KK κ b j):=fun t t1 t2 j j1 j2=>by
      have q:=tk.yes (t-ia'') (by omega)
      rw[show ia''+(t-ia'')=t by omega,fu] at q
      exact KeyOrd.kle_trans q (sb _ _ j1 j2)
     have na:∀ t,ia''+k≤t→t<a.size→κ.kle (KK κ b ib'') (KK κ a t):=fun t t1 t2=>by
      have q:=tk.no (t-ia'') (by omega) (by omega)
      rw[show ia''+(t-ia'')=t by omega,Bool.not_eq_false'] at q
      exact KeyOrd.kle_of_klt q
     by_cases hk:k>0
     ·rw[if_pos hk]
      have m4:=MI.manyA sa m3 k (by omega) ya
      have s4:=m4.sz
      by_cases c3:ia''+k+1=a.size
      ·rw[if_pos (by simpa using c3)]
       exact d9 ⟨kz,.inl ⟨_,rfl,m4.lastA sa sb lst c3⟩⟩
      rw[if_neg (by simpa using c3)]
      by_cases c4:ia''+k=a.size
      ·rw[if_pos (by simpa using c4)]
       exact d9 ⟨kz,.inl ⟨_,rfl,m4.doneB sb c4⟩⟩
      rw[if_neg (by simpa using c4)]
      refine cZ (m:=elem' b ib'') (zY (getElem?_pos b ib'' r2) ?_)
      have m5:=MI.pushB m4 sb r2 na
      have s5:=m5.sz
      by_cases c5:ib''+1=b.size
      ·rw[if_pos (by simpa using c5)]
       exact d9 ⟨kz,.inl ⟨_,rfl,m5.doneA sa c5⟩⟩
      rw[if_neg (by simpa using c5)]
      have i5:ia''+k<a.size:=by omega
      refine cZ (m:=elem' a (ia''+k)) (zY (getElem?_pos a (ia''+k) i5) ?_)
      refine cZ (m:=zAI true a[ia''+k] b (ib''+1) (b.size-(ib''+1)) 0) (wI L (B:=fun t=>κ.blt (KK κ b (ib''+1+t)) (KK κ a (ia''+k))) (kz.kd.trans hz) (pa _ (dS i5)) pb (by omega) (by omega) (fun t h1 h2=>by rw[if_pos rfl,zd h1,zd i5]) (fun t u tu un q=>KeyOrd.klt_of_kle_of_klt (sb _ _ (by omega) (by omega)) q) fun k' tk'=>?_)
      dsimp only
      have l6:=tk'.le
      have ym:∀ t,ib''+1≤t→t<ib''+1+k'→∀ j,ia''+k≤j→j<a.size→κ.kle (KK κ b t) (KK κ a j):=fun t t1 t2 j j1 j2=>by
       have q:=tk'.yes (t-(ib''+1)) (by omega)
       rw[show ib''+1+(t-(ib''+1))=t by omega] at q
       exact KeyOrd.kle_trans (KeyOrd.kle_of_klt q) (sa _ _ j1 j2)
      have nm:∀ t,ib''+1+k'≤t→t<b.size→κ.kle (KK κ a (ia''+k)) (KK κ b t):=fun t t1 t2=>by
       have q:=tk'.no (t-(ib''+1)) (by omega) (by omega)
       rw[show ib''+1+(t-(ib''+1))=t by omega] at q
       exact q
      by_cases hk':k'>0
      ·rw[if_pos hk']
       have m6:=MI.manyB sb m5 k' (by omega) ym
       have s6:=m6.sz
       by_cases c6:ib''+1+k'=b.size
       ·rw[if_pos (by simpa using c6)]
        exact d9 ⟨kz,.inl ⟨_,rfl,m6.doneA sa c6⟩⟩
       rw[if_neg (by simpa using c6)]
       have iu:ia''+k<a.size:=by omega
       refine cZ (m:=elem' a (ia''+k)) (zY (getElem?_pos a (ia''+k) iu) ?_)
       have m7:=MI.pushA m6 sa iu nm
       have s7:=m7.sz
       by_cases c7:ia''+k+1+1=a.size
       ·rw[if_pos (by simpa using c7)]
        exact d9 ⟨kz,.inl ⟨_,rfl,m7.lastA sa sb lst c7⟩⟩
       rw[if_neg (by simpa using c7)]
       split
       ·exact d9 ⟨kz,.inr ⟨rfl,m7,by dsimp only;omega,by dsimp only;omega,by dsimp only;rw[s7];omega⟩⟩
       ·exact d9 ⟨kz,rfl,m7,by dsimp only;omega,by dsimp only;omega,by dsimp only;rw[s7];omega⟩
      ·rw[if_neg hk']
       have iu:ia''+k<a.size:=by omega
       refine cZ (m:=elem' a (ia''+k)) (zY (getElem?_pos a (ia''+k) iu) ?_)
       have m7:=MI.pushA m5 sa iu (fun t t1 t2=>nm t (by omega) t2)
       have s7:=m7.sz
       by_cases c7:ia''+k+1+1=a.size
       ·rw[if_pos (by simpa using c7)]
        exact d9 ⟨kz,.inl ⟨_,rfl,m7.lastA sa sb lst c7⟩⟩
       rw[if_neg (by simpa using c7)]
       split
       ·exact d9 ⟨kz,.inr ⟨rfl,m7,by dsimp only;omega,by dsimp only;omega,by dsimp only;rw[s7];omega⟩⟩
       ·exact d9 ⟨kz,rfl,m7,by dsimp only;omega,by dsimp only;omega,by dsimp only;rw[s7];omega⟩
     ·rw[if_neg hk]
      refine cZ (m:=elem' b ib'') (zY (getElem?_pos b ib'' r2) ?_)
      have m5:=MI.pushB m3 sb r2 (fun t t1 t2=>na t (by omega) t2)
      have s5:=m5.sz
      by_cases c5:ib''+1=b.size
      ·rw[if_pos (by simpa using c5)]
       exact d9 ⟨kz,.inl ⟨_,rfl,m5.doneA sa c5⟩⟩
      rw[if_neg (by simpa using c5)]
      have i5:ia''<a.size:=by omega
      refine cZ (m:=elem' a (ia'')) (zY (getElem?_pos a (ia'') i5) ?_)
      refine cZ (m:=zAI true a[ia''] b (ib''+1) (b.size-(ib''+1)) 0) (wI L (B:=fun t=>κ.blt (KK κ b (ib''+1+t)) (KK κ a (ia''))) (kz.kd.trans hz) (pa _ (dS i5)) pb (by omega) (by omega) (fun t h1 h2=>by rw[if_pos rfl,zd h1,zd i5]) (fun t u tu un q=>KeyOrd.klt_of_kle_of_klt (sb _ _ (by omega) (by omega)) q) fun k' tk'=>?_)
      dsimp only
      have l6:=tk'.le
      have ym:∀ t,ib''+1≤t→t<ib''+1+k'→∀ j,ia''≤j→j<a.size→κ.kle (KK κ b t) (KK κ a j):=fun t t1 t2 j j1 j2=>by
       have q:=tk'.yes (t-(ib''+1)) (by omega)
       rw[show ib''+1+(t-(ib''+1))=t by omega] at q
       exact KeyOrd.kle_trans (KeyOrd.kle_of_klt q) (sa _ _ j1 j2)
      have nm:∀ t,ib''+1+k'≤t→t<b.size→κ.kle (KK κ a (ia'')) (KK κ b t):=fun t t1 t2=>by
       have q:=tk'.no (t-(ib''+1)) (by omega) (by omega)
       rw[show ib''+1+(t-(ib''+1))=t by omega] at q
       exact q
      by_cases hk':k'>0
      ·rw[if_pos hk']
       have m6:=MI.manyB sb m5 k' (by omega) ym
       have s6:=m6.sz
       by_cases c6:ib''+1+k'=b.size
       ·rw[if_pos (by simpa using c6)]
        exact d9 ⟨kz,.inl ⟨_,rfl,m6.doneA sa c6⟩⟩
       rw[if_neg (by simpa using c6)]
       have iu:ia''<a.size:=by omega
       refine cZ (m:=elem' a (ia'')) (zY (getElem?_pos a (ia'') iu) ?_)
       have m7:=MI.pushA m6 sa iu nm
       have s7:=m7.sz
       by_cases c7:ia''+1+1=a.size
       ·rw[if_pos (by simpa using c7)]
        exact d9 ⟨kz,.inl ⟨_,rfl,m7.lastA sa sb lst c7⟩⟩
       rw[if_neg (by simpa using c7)]
       split
       ·exact d9 ⟨kz,.inr ⟨rfl,m7,by dsimp only;omega,by dsimp only;omega,by dsimp only;rw[s7];omega⟩⟩
       ·exact d9 ⟨kz,rfl,m7,by dsimp only;omega,by dsimp only;omega,by dsimp only;rw[s7];omega⟩
      ·rw[if_neg hk']
       have iu:ia''<a.size:=by omega
       refine cZ (m:=elem' a (ia'')) (zY (getElem?_pos a (ia'') iu) ?_)
       have m7:=MI.pushA m5 sa iu (fun t t1 t2=>nm t (by omega) t2)
       have s7:=m7.sz
       by_cases c7:ia''+1+1=a.size
       ·rw[if_pos (by simpa using c7)]
        exact d9 ⟨kz,.inl ⟨_,rfl,m7.lastA sa sb lst c7⟩⟩
       rw[if_neg (by simpa using c7)]
       split
       ·exact d9 ⟨kz,.inr ⟨rfl,m7,by dsimp only;omega,by dsimp only;omega,by dsimp only;rw[s7];omega⟩⟩
       ·exact d9 ⟨kz,rfl,m7,by dsimp only;omega,by dsimp only;omega,by dsimp only;rw[s7];omega⟩
end
section
variable {κ:KeyKind}
structure MJ (κ:KeyKind) (a b:Array Keyed) (na nb:Nat) (out:Array Keyed):Prop where
 sr:Srt κ out.toList.reverse
 pm:(a.toList.take na++b.toList.take nb++out.toList.reverse).Perm (a.toList++b.toList)
 la:∀ x∈out.toList,∀ j,j<na→κ.kle (KK κ a j) (ky κ x)
 lb:∀ x∈out.toList,∀ j,j<nb→κ.kle (KK κ b j) (ky κ x)
 sz:out.size+(na+nb)=a.size+b.size
 ha:na≤a.size
 hb:nb≤b.size
theorem zCz{a:Array Keyed}{i:Nat}(h:SortedToK κ a a.size):Srt κ (a.toList.take i):=(zBj (i:=0) h).sublist (List.take_sublist _ _)
theorem wK{a:Array Keyed}{i:Nat}{y:Keyed}(h:y∈a.toList.take i):∃ j,j<i∧j<a.size∧ky κ y=KK κ a j:=by
 obtain⟨j,hj,rfl⟩:=fV.mp h
 rw[dO,da] at hj
 refine⟨j,by omega,by omega,?_⟩
 rw[zd (by omega)]
 simp
theorem zD2{a:Array Keyed}{i:Nat}:(a.extract 0 i).toList=a.toList.take i:=by
 rw[eU,eF]
 simp
variable {a b out:Array Keyed} {na nb:Nat}
theorem MJ.fin(m:MJ κ a b na nb out)(s:Srt κ (a.toList.take na++b.toList.take nb)):MO κ a b (a.extract 0 na++b.extract 0 nb++out.reverse):=by
 have e1:(a.extract 0 na++b.extract 0 nb++out.reverse).toList=a.toList.take na++b.toList.take nb++out.toList.reverse:=by
  rw[dX,dX,zD2,zD2,Array.toList_reverse]
 refine⟨?_,by rw[e1];exact m.pm⟩
 rw[e1]
 refine wR s m.sr fun x hx y hy=>?_
 rw[List.mem_reverse] at hy
 rcases dH.mp hx with hx | hx
 ·obtain⟨j,j1,j2,j3⟩:=wK (κ:=κ) hx
  rw[j3];exact m.la y hy j j1
 ·obtain⟨j,j1,j2,j3⟩:=wK (κ:=κ) hx
  rw[j3];exact m.lb y hy j j1
theorem MJ.doneA(m:MJ κ a b na nb out)(sb:SortedToK κ b b.size)(e:na=0):MO κ a b (a.extract 0 na++b.extract 0 nb++out.reverse):=m.fin (by subst e;simpa using zCz sb)
theorem MJ.doneB(m:MJ κ a b na nb out)(sa:SortedToK κ a a.size)(e:nb=0):MO κ a b (a.extract 0 na++b.extract 0 nb++out.reverse):=m.fin (by subst e;simpa using zCz sa)
theorem MJ.fstB(m:MJ κ a b na nb out)(sa:SortedToK κ a a.size)(sb:SortedToK κ b b.size)(f:∀ j,j<a.size→κ.kle (KK κ b 0) (KK κ a j))(e:nb=1):MO κ a b (b.extract 0 nb++a.extract 0 na++out.reverse):=by
 have e1:(b.extract 0 nb++a.extract 0 na++out.reverse).toList=b.toList.take nb++a.toList.take na++out.toList.reverse:=by
  rw[dX,dX,zD2,zD2,Array.toList_reverse]
 refine⟨?_,by rw[e1];exact(fK.append_right _ List.perm_append_comm).trans m.pm⟩
 rw[e1]
 refine wR (wR (zCz sb) (zCz sa) fun x hx y hy=>?_) m.sr fun x hx y hy=>?_
 ·obtain⟨j,j1,j2,j3⟩:=wK (κ:=κ) hx
  obtain⟨k,k1,k2,k3⟩:=wK (κ:=κ) hy
  rw[j3,k3,show j=0 by omega]
  exact f k k2
 ·rw[List.mem_reverse] at hy
  rcases dH.mp hx with hx | hx
  ·obtain⟨j,j1,j2,j3⟩:=wK (κ:=κ) hx
   rw[j3];exact m.lb y hy j j1
  ·obtain⟨j,j1,j2,j3⟩:=wK (κ:=κ) hx
   rw[j3];exact m.la y hy j j1
theorem take_snoc{a:Array Keyed}{i:Nat}(h:i<a.size):a.toList.take (i+1)=a.toList.take i++[a[i]]:=by
 rw[List.take_add_one,fe (by simpa using h)]
 simp
theorem MJ.pushA(m:MJ κ a b (na+1) nb out)(sa:SortedToK κ a a.size)(h:na<a.size)(hb:∀ j,j<nb→κ.kle (KK κ b j) (KK κ a na)):MJ κ a b na nb (out.push a[na]):=by
 refine⟨?_,?_,fun x hx j j1=>?_,fun x hx j j1=>?_,by have:=m.sz;rw[eX];omega,by omega,m.hb⟩
 ·rw[dG,gL]
  refine wR (gS _ _) m.sr fun x hx y hy=>?_
  rw[List.mem_reverse] at hy
  rw[gj] at hx
  rw[dq.mp hx,← zd h]
  exact m.la y hy na (by omega)
 ·rw[dG,gL]
  refine fK.trans ?_ m.pm
  rw[take_snoc h]
  simp only[gj,eA]
  refine fK.append_left _ ?_
  show(b.toList.take nb++(a[na]::out.toList.reverse)).Perm (a[na]::(b.toList.take nb++out.toList.reverse))
  exact List.perm_middle
 ·rw[dG] at hx
  rcases dH.mp hx with hx | hx
  ·exact m.la x hx j (by omega)
  ·rw[dq.mp hx,← zd h]
   exact sa j na (by omega) h
 ·rw[dG] at hx
  rcases dH.mp hx with hx | hx
  ·exact m.lb x hx j j1
  ·rw[dq.mp hx,← zd h]
   exact hb j j1
theorem MJ.pushB(m:MJ κ a b na (nb+1) out)(sb:SortedToK κ b b.size)(h:nb<b.size)(ha:∀ j,j<na→κ.kle (KK κ a j) (KK κ b nb)):MJ κ a b na nb (out.push b[nb]):=by
 refine⟨?_,?_,fun x hx j j1=>?_,fun x hx j j1=>?_,by have:=m.sz;rw[eX];omega,m.ha,by omega⟩
 ·rw[dG,gL]
  refine wR (gS _ _) m.sr fun x hx y hy=>?_
  rw[List.mem_reverse] at hy
  rw[gj] at hx
  rw[dq.mp hx,← zd h]
  exact m.lb y hy nb (by omega)
 ·rw[dG,gL]
  have:=m.pm
  rw[take_snoc h] at this
  simp only[gj,eA] at this ⊢
  exact this
 ·rw[dG] at hx
  rcases dH.mp hx with hx | hx
  ·exact m.la x hx j j1
  ·rw[dq.mp hx,← zd h]
   exact ha j j1
 ·rw[dG] at hx
  rcases dH.mp hx with hx | hx
  ·exact m.lb x hx j (by omega)
  ·rw[dq.mp hx,← zd h]
   exact sb j nb (by omega) h
theorem zIh{a:Array Keyed}{i k:Nat}(h:i+k<a.size){out:Array Keyed}:out++(a.extract i (i+(k+1))).reverse=out.push a[i+k]++(a.extract i (i+k)).reverse:=by
 apply Array.ext'
 rw[zEW h,dX,dX,Array.toList_reverse,Array.toList_reverse,dG,dG,gL,gj,eA]
theorem MJ.manyA(sa:SortedToK κ a a.size):∀ k na out,MJ κ a b (na+k) nb out→(∀ i,na≤i→i<na+k→∀ j,j<nb→κ.kle (KK κ b j) (KK κ a i))→MJ κ a b na nb (out++(a.extract na (na+k)).reverse)
 | 0,na,out,m,_=>by rw[zCx];simpa using m
 | k+1,na,out,m,h=>by
  have hk:na+k<a.size:=by have:=m.ha;omega
  rw[zIh hk]
  exact MJ.manyA sa k na _ (MJ.pushA m sa hk (h (na+k) (by omega) (by omega))) fun i i1 i2=>h i i1 (by omega)
theorem MJ.manyB(sb:SortedToK κ b b.size):∀ k nb out,MJ κ a b na (nb+k) out→(∀ i,nb≤i→i<nb+k→∀ j,j<na→κ.kle (KK κ a j) (KK κ b i))→MJ κ a b na nb (out++(b.extract nb (nb+k)).reverse)
 | 0,nb,out,m,_=>by rw[zCx];simpa using m
 | k+1,nb,out,m,h=>by
  have hk:nb+k<b.size:=by have:=m.hb;omega
  rw[zIh hk]
  exact MJ.manyB sb k nb _ (MJ.pushB m sb hk (h (nb+k) (by omega) (by omega))) fun i i1 i2=>h i i1 (by omega)
theorem MJ.pushA'(m:MJ κ a b na nb out)(sa:SortedToK κ a a.size)(h1:1≤na)(h:na-1<a.size)(hb:∀ j,j<nb→κ.kle (KK κ b j) (KK κ a (na-1))):MJ κ a b (na-1) nb (out.push a[na-1]):=MJ.pushA (by rwa [Nat.sub_add_cancel h1]) sa h hb
theorem MJ.pushB'(m:MJ κ a b na nb out)(sb:SortedToK κ b b.size)(h1:1≤nb)(h:nb-1<b.size)(ha:∀ j,j<na→κ.kle (KK κ a j) (KK κ b (nb-1))):MJ κ a b na (nb-1) (out.push b[nb-1]):=MJ.pushB (by rwa [Nat.sub_add_cancel h1]) sb h ha
theorem MJ.manyA'{at':Nat}(m:MJ κ a b na nb out)(sa:SortedToK κ a a.size)(h:at'≤na)(hb:∀ i,at'≤i→i<na→∀ j,j<nb→κ.kle (KK κ b j) (KK κ a i)):MJ κ a b at' nb (out++(a.extract at' na).reverse):=by
 have e:na=at'+(na-at'):=by omega
 have:=MJ.manyA sa (na-at') at' out (by rw[← e];exact m) fun i i1 i2=>hb i i1 (by omega)
 rwa [← e] at this
theorem MJ.manyB'{at':Nat}(m:MJ κ a b na nb out)(sb:SortedToK κ b b.size)(h:at'≤nb)(ha:∀ i,at'≤i→i<nb→∀ j,j<na→κ.kle (KK κ a j) (KK κ b i)):MJ κ a b na at' (out++(b.extract at' nb).reverse):=by
 have e:nb=at'+(nb-at'):=by omega
 have:=MJ.manyB sb (nb-at') at' out (by rw[← e];exact m) fun i i1 i2=>ha i i1 (by omega)
 rwa [← e] at this
end
section
variable {prog:Program} {w:World} {A:Around} {E:Value→Shared→Prop} {s:Shared} {kd:SortKind} {κ:KeyKind} {P:Keyed→Prop}
variable (L:∀(z:SortSt) (x y:Keyed) (Q:Option Bool→SortSt→Prop),kindOf z=kd→P x→P y→Q (some (κ.blt (ky κ x) (ky κ y))) z→wpS (model prog w) A E s (lt' x y) Q z)
include L
theorem zHu{a b:Array Keyed}{z:SortSt}{Q:Array Keyed→SortSt→Prop}(hz:kindOf z=kd)(pa:∀ p∈a,P p)(pb:∀ p∈b,P p)(ha:1≤a.size)(hb:1≤b.size)(sa:SortedToK κ a a.size)(sb:SortedToK κ b b.size)
  (fst:∀ j,j<a.size→κ.kle (KK κ b 0) (KK κ a j)) (lst:∀ j,j<b.size→κ.kle (KK κ b j) (KK κ a (a.size-1))) (h:∀ r z',MO κ a b r→Kp z z'→Q r z'):wpS (model prog w) A E s (zGj a b) Q z:=by
 refine cZ (wpS_lift (fO ⟨rfl,?_⟩))
 have ia0:a.size-1<a.size:=by omega
 refine cZ (m:=elem' a (a.size-1)) (zY (getElem?_pos a (a.size-1) ia0) ?_)
 have m0:MJ κ a b (a.size-1) b.size #[a[a.size-1]]:=by
  have:MJ κ a b a.size b.size #[]:=⟨fH.nil,by
   rw[← da,← da,fP,fP];simp,fun x hx=>by simp at hx,fun x hx=>by simp at hx,by simp,cX _,cX _⟩
  exact this.pushA' sa ha ia0 fun j j1=>lst j j1
 by_cases c1:a.size-1=0
 ·rw[if_pos (by simpa using c1)]
  exact d9 (h _ _ (m0.doneA sb c1) (.refl z))
 rw[if_neg (by simpa using c1)]
 by_cases c2:b.size=1
 ·rw[if_pos (by simpa using c2)]
  exact d9 (h _ _ (m0.fstB sa sb fst c2) (.refl z))
 rw[if_neg (by simpa using c2)]
 refine cZ (wpS_get ?_)
 dsimp only
 refine cZ (fw (eh (β:=Option (Array Keyed)×Nat×Nat×Array Keyed×Nat) (I:=fun x c z'=>Kp z z'∧c.1=none∧MJ κ a b c.2.1 c.2.2.1 c.2.2.2.1∧1≤c.2.1∧2≤c.2.2.1∧x≤c.2.2.2.1.size) (Q:=fun c z'=>Kp z z'∧∃ r,c.1=some r∧MO κ a b r) (fun x c z1 x1 x2 ⟨k1,e2,m1,q1,q2,q3⟩=>?stp) (fun c z1 ⟨k1,e2,m1,q1,q2,q3⟩=>?fin) ⟨.refl z,rfl,m0,by dsimp only;omega,by dsimp only;omega,fh _⟩) fun c z1 ⟨k1,r,e2,mo⟩=>?pst)
 case pst =>
  rw[e2]
  exact d9 (h _ _ mo k1)
 case fin =>
  have:=m1.sz
  omega
 case stp =>
  clear m0
  obtain⟨c0,na,nb,out,mg⟩:=c
  dsimp only at e2 m1 q1 q2 q3 ⊢
  refine cZ (fw (eh (β:=Option (Array Keyed)×Nat×Nat×Array Keyed×Nat×Nat) (I:=fun y c z'=>Kp z z'∧c.1=none∧MJ κ a b c.2.1 c.2.2.1 c.2.2.2.1∧1≤c.2.1∧2≤c.2.2.1∧out.size+y≤c.2.2.2.1.size) (Q:=fun c z'=>Kp z z'∧((∃ r,c.1=some r∧MO κ a b r)∨(c.1=none∧MJ κ a b c.2.1 c.2.2.1 c.2.2.2.1∧1≤c.2.1∧2≤c.2.2.1∧out.size+1≤c.2.2.2.1.size))) (fun y c z2 y1 y2 ⟨k2,e3,m2,p1,p2,p3⟩=>?stp1) (fun c z2 ⟨k2,e3,m2,p1,p2,p3⟩=>⟨k2,.inr ⟨e3,m2,p1,p2,by omega⟩⟩) ⟨k1,rfl,m1,q1,q2,by dsimp only;omega⟩) fun c z2 ⟨k2,o⟩=>?pst1)
  case stp1 =>
   obtain⟨c0',na',nb',out',ac,bc⟩:=c
   dsimp only at e3 m2 p1 p2 p3 ⊢
   have ja:na'-1<a.size:=by have:=m2.ha;omega
   have jb:nb'-1<b.size:=by have:=m2.hb;omega
   refine cZ (m:=elem' b (nb'-1)) (zY (getElem?_pos b _ jb) ?_)
   refine cZ (m:=elem' a (na'-1)) (zY (getElem?_pos a _ ja) ?_)
   refine cZ (m:=lt' b[nb'-1] a[na'-1]) (L _ _ _ _ (k2.kd.trans hz) (pb _ (dS jb)) (pa _ (dS ja)) ?_)
   dsimp only
   cases e:κ.blt (ky κ b[nb'-1]) (ky κ a[na'-1]) with
   | true =>
    rw[if_pos rfl]
    refine cZ (m:=elem' a (na'-1)) (zY (getElem?_pos a _ ja) ?_)
    have m3:=m2.pushA' sa p1 ja fun j j1=>KeyOrd.kle_trans (sb j (nb'-1) (by omega) jb) (KeyOrd.kle_of_klt (by rw[zd jb,zd ja];exact e))
    by_cases c3:na'-1=0
    ·rw[if_pos (by simpa using c3)]
     exact d9 ⟨k2,.inl ⟨_,rfl,m3.doneA sb c3⟩⟩
    rw[if_neg (by simpa using c3)]
    split
    ·exact d9 ⟨k2,.inr ⟨rfl,m3,by dsimp only;omega,p2,by dsimp only;rw[eX];omega⟩⟩
    ·exact d9 ⟨k2,rfl,m3,by dsimp only;omega,p2,by dsimp only;rw[eX];omega⟩
   | false =>
    rw[if_neg (by simp)]
    refine cZ (m:=elem' b (nb'-1)) (zY (getElem?_pos b _ jb) ?_)
    have m3:=m2.pushB' sb (by omega) jb fun j j1=>KeyOrd.kle_trans (sa j (na'-1) (by omega) ja) (show κ.kle (KK κ a (na'-1)) (KK κ b (nb'-1)) by rw[zd jb,zd ja];exact e)
    by_cases c3:nb'-1=1
    ·rw[if_pos (by simpa using c3)]
     exact d9 ⟨k2,.inl ⟨_,rfl,m3.fstB sa sb fst c3⟩⟩
    rw[if_neg (by simpa using c3)]
    split
    ·exact d9 ⟨k2,.inr ⟨rfl,m3,p1,by dsimp only;omega,by dsimp only;rw[eX];omega⟩⟩
    ·exact d9 ⟨k2,rfl,m3,p1,by dsimp only;omega,by dsimp only;rw[eX];omega⟩
  case pst1 =>
   obtain⟨c0',na',nb',out',ac,bc⟩:=c
   dsimp only at o ⊢
   rcases o with ⟨r,e3,mo⟩ | ⟨e3,m2,p1,p2,p3⟩
   ·rw[e3]
    exact d9 ⟨k2,r,rfl,mo⟩
   rw[e3]
   dsimp only
   refine cZ (wpS_lift (fO ⟨rfl,?_⟩))
   refine cZ (fw (eh (β:=Option (Array Keyed)×Nat×Nat×Array Keyed×Nat×Nat×Nat) (I:=fun y c z'=>Kp z z'∧c.1=none∧MJ κ a b c.2.1 c.2.2.1 c.2.2.2.1∧1≤c.2.1∧2≤c.2.2.1∧out.size+1≤c.2.2.2.1.size) (Q:=fun c z'=>Kp z z'∧((∃ r,c.1=some r∧MO κ a b r)∨(c.1=none∧MJ κ a b c.2.1 c.2.2.1 c.2.2.2.1∧1≤c.2.1∧2≤c.2.2.1∧out.size+1≤c.2.2.2.1.size))) (fun y c z3 y1 y2 ⟨k3,e4,m3,r1,r2,r3⟩=>?stp2) (fun c z3 ⟨k3,e4,m3,r1,r2,r3⟩=>⟨k3,.inr ⟨e4,m3,r1,r2,r3⟩⟩) ⟨k2,rfl,m2,p1,p2,p3⟩) fun c z3 ⟨k3,o⟩=>?pst2)
   case pst2 =>
    obtain⟨c0'',na'',nb'',out'',mg',ac',bc'⟩:=c
    dsimp only at o ⊢
    rcases o with ⟨r,e4,mo⟩ | ⟨e4,m3,r1,r2,r3⟩
    ·rw[e4]
     exact d9 ⟨k3,r,rfl,mo⟩
    rw[e4]
    dsimp only
    refine cZ (m:=zGk (mg'+1)) (zCy fun z4 k4=>?_)
    exact d9 ⟨k3.trans k4,rfl,m3,r1,r2,by dsimp only;omega⟩
   case stp2 =>
    clear m2 p1 p2 p3 m1 q1 q2 e3 e2 k1 k2
    obtain⟨c0'',na'',nb'',out'',mg',ac',bc'⟩:=c
    dsimp only at e4 m3 r1 r2 r3 ⊢
    have s3:=m3.sz
    have h3a:=m3.ha
    have h3b:=m3.hb
    have jb:nb''-1<b.size:=by omega
    rcases Classical.em (mg'>1) with hm | hm
    rw[if_pos hm]
    rotate_left
    rw[if_neg hm]
    all_goals
     refine cZ (m:=zGk _) (zCy fun z4 k4=>?_)
     have kz:=k3.trans k4
     refine cZ (m:=elem' b (nb''-1)) (zY (getElem?_pos b _ jb) ?_)
     refine cZ (m:=zAI false b[nb''-1] a 0 na'' (na''-1)) (wI L (B:=fun t=>!κ.blt (KK κ b (nb''-1)) (KK κ a t)) (kz.kd.trans hz) (pb _ (dS jb)) pa (by omega) (by omega) (fun t h1 h2=>by rw[if_neg (by simp),← zd h1,← zd jb,Nat.zero_add]) (fun t u tu un q=>?_) fun k tk=>?_)
     ·simp only[fu] at q ⊢
      exact KeyOrd.kle_trans (sa _ _ tu (by omega)) q
     dsimp only
     have l4:=tk.le
     have ya:∀ t,k≤t→t<na''→∀ j,j<nb''→κ.kle (KK κ b j) (KK κ a t):=fun t t1 t2 j j1=>by
      have q:=tk.no t t1 t2
      rw[Bool.not_eq_false'] at q
      exact KeyOrd.kle_trans (sb j (nb''-1) (by omega) jb) (KeyOrd.kle_of_klt q)
     have yn:∀ t,t<k→κ.kle (KK κ a t) (KK κ b (nb''-1)):=fun t t1=>by
      have q:=tk.yes t t1
      rw[fu] at q
      exact q
     by_cases hk:na''-k>0
     ·rw[if_pos hk]
      have m4:=MJ.manyA' m3 sa l4 ya
      have s4:=m4.sz
      by_cases c3:k=0
      ·rw[if_pos (by simpa using c3)]
       exact d9 ⟨kz,.inl ⟨_,rfl,m4.doneA sb c3⟩⟩
      rw[if_neg (by simpa using c3)]
      refine cZ (m:=elem' b (nb''-1)) (zY (getElem?_pos b _ jb) ?_)
      have m5:=MJ.pushB' m4 sb (by omega) jb yn
      have s5:=m5.sz
      by_cases c5:nb''-1=1
      ·rw[if_pos (by simpa using c5)]
       exact d9 ⟨kz,.inl ⟨_,rfl,m5.fstB sa sb fst c5⟩⟩
      rw[if_neg (by simpa using c5)]
      have i5:k-1<a.size:=by omega
      refine cZ (m:=elem' a (k-1)) (zY (getElem?_pos a (k-1) i5) ?_)
      refine cZ (m:=zAI true a[k-1] b 0 (nb''-1) (nb''-1-1)) (wI L (B:=fun t=>κ.blt (KK κ b t) (KK κ a (k-1))) (kz.kd.trans hz) (pa _ (dS i5)) pb (by omega) (by omega) (fun t h1 h2=>by rw[if_pos rfl,← zd h1,← zd i5,Nat.zero_add]) (fun t u tu un q=>KeyOrd.klt_of_kle_of_klt (sb _ _ tu (by omega)) q) fun k' tk'=>?_)
      dsimp only
      have l6:=tk'.le
      have ym:∀ t,k'≤t→t<nb''-1→∀ j,j<k→κ.kle (KK κ a j) (KK κ b t):=fun t t1 t2 j j1=>by
       have q:=tk'.no t t1 t2
       exact KeyOrd.kle_trans (sa j (k-1) (by omega) i5) q
      have nm:∀ t,t<k'→κ.kle (KK κ b t) (KK κ a (k-1)):=fun t t1=>KeyOrd.kle_of_klt (tk'.yes t t1)
      by_cases hk':nb''-1-k'>0
      ·rw[if_pos hk']
       have m6:=MJ.manyB' m5 sb l6 ym
       have s6:=m6.sz
       by_cases c6:k'=1
       ·rw[if_pos (by simpa using c6)]
        exact d9 ⟨kz,.inl ⟨_,rfl,m6.fstB sa sb fst c6⟩⟩
       rw[if_neg (by simpa using c6)]
       by_cases c8:k'=0
       ·rw[if_pos (by simpa using c8)]
        exact d9 ⟨kz,.inl ⟨_,rfl,m6.doneB sa c8⟩⟩
       rw[if_neg (by simpa using c8)]
       have iu:k-1<a.size:=by omega
       refine cZ (m:=elem' a (k-1)) (zY (getElem?_pos a (k-1) iu) ?_)
       have m7:=MJ.pushA' m6 sa (by omega) iu nm
       have s7:=m7.sz
       by_cases c7:k-1=0
       ·rw[if_pos (by simpa using c7)]
        exact d9 ⟨kz,.inl ⟨_,rfl,m7.doneA sb c7⟩⟩
       rw[if_neg (by simpa using c7)]
       split
       ·exact d9 ⟨kz,.inr ⟨rfl,m7,by dsimp only;omega,by dsimp only;omega,by dsimp only;omega⟩⟩
       ·exact d9 ⟨kz,rfl,m7,by dsimp only;omega,by dsimp only;omega,by dsimp only;omega⟩
      ·rw[if_neg hk']
       have iu:k-1<a.size:=by omega
       refine cZ (m:=elem' a (k-1)) (zY (getElem?_pos a (k-1) iu) ?_)
       have m7:=MJ.pushA' m5 sa (by omega) iu (fun t t1=>nm t (by omega))
       have s7:=m7.sz
       by_cases c7:k-1=0
       ·rw[if_pos (by simpa using c7)]
        exact d9 ⟨kz,.inl ⟨_,rfl,m7.doneA sb c7⟩⟩
       rw[if_neg (by simpa using c7)]
       split
       ·exact d9 ⟨kz,.inr ⟨rfl,m7,by dsimp only;omega,by dsimp only;omega,by dsimp only;omega⟩⟩
       ·exact d9 ⟨kz,rfl,m7,by dsimp only;omega,by dsimp only;omega,by dsimp only;omega⟩
     ·rw[if_neg hk]
      refine cZ (m:=elem' b (nb''-1)) (zY (getElem?_pos b _ jb) ?_)
      have m5:=MJ.pushB' m3 sb (by omega) jb (fun t t1=>yn t (by omega))
      have s5:=m5.sz
      by_cases c5:nb''-1=1
      ·rw[if_pos (by simpa using c5)]
       exact d9 ⟨kz,.inl ⟨_,rfl,m5.fstB sa sb fst c5⟩⟩
      rw[if_neg (by simpa using c5)]
      have i5:na''-1<a.size:=by omega
      refine cZ (m:=elem' a (na''-1)) (zY (getElem?_pos a (na''-1) i5) ?_)
      refine cZ (m:=zAI true a[na''-1] b 0 (nb''-1) (nb''-1-1)) (wI L (B:=fun t=>κ.blt (KK κ b t) (KK κ a (na''-1))) (kz.kd.trans hz) (pa _ (dS i5)) pb (by omega) (by omega) (fun t h1 h2=>by rw[if_pos rfl,← zd h1,← zd i5,Nat.zero_add]) (fun t u tu un q=>KeyOrd.klt_of_kle_of_klt (sb _ _ tu (by omega)) q) fun k' tk'=>?_)
      dsimp only
      have l6:=tk'.le
      have ym:∀ t,k'≤t→t<nb''-1→∀ j,j<na''→κ.kle (KK κ a j) (KK κ b t):=fun t t1 t2 j j1=>by
       have q:=tk'.no t t1 t2
       exact KeyOrd.kle_trans (sa j (na''-1) (by omega) i5) q
      have nm:∀ t,t<k'→κ.kle (KK κ b t) (KK κ a (na''-1)):=fun t t1=>KeyOrd.kle_of_klt (tk'.yes t t1)
      by_cases hk':nb''-1-k'>0
      ·rw[if_pos hk']
       have m6:=MJ.manyB' m5 sb l6 ym
       have s6:=m6.sz
       by_cases c6:k'=1
       ·rw[if_pos (by simpa using c6)]
        exact d9 ⟨kz,.inl ⟨_,rfl,m6.fstB sa sb fst c6⟩⟩
       rw[if_neg (by simpa using c6)]
       by_cases c8:k'=0
       ·rw[if_pos (by simpa using c8)]
        exact d9 ⟨kz,.inl ⟨_,rfl,m6.doneB sa c8⟩⟩
       rw[if_neg (by simpa using c8)]
       have iu:na''-1<a.size:=by omega
       refine cZ (m:=elem' a (na''-1)) (zY (getElem?_pos a (na''-1) iu) ?_)
       have m7:=MJ.pushA' m6 sa (by omega) iu nm
       have s7:=m7.sz
       by_cases c7:na''-1=0
       ·rw[if_pos (by simpa using c7)]
        exact d9 ⟨kz,.inl ⟨_,rfl,m7.doneA sb c7⟩⟩
       rw[if_neg (by simpa using c7)]
       split
       ·exact d9 ⟨kz,.inr ⟨rfl,m7,by dsimp only;omega,by dsimp only;omega,by dsimp only;omega⟩⟩
       ·exact d9 ⟨kz,rfl,m7,by dsimp only;omega,by dsimp only;omega,by dsimp only;omega⟩
      ·rw[if_neg hk']
       have iu:na''-1<a.size:=by omega
       refine cZ (m:=elem' a (na''-1)) (zY (getElem?_pos a (na''-1) iu) ?_)
       have m7:=MJ.pushA' m5 sa (by omega) iu (fun t t1=>nm t (by omega))
       have s7:=m7.sz
       by_cases c7:na''-1=0
       ·rw[if_pos (by simpa using c7)]
        exact d9 ⟨kz,.inl ⟨_,rfl,m7.doneA sb c7⟩⟩
       rw[if_neg (by simpa using c7)]
       split
       ·exact d9 ⟨kz,.inr ⟨rfl,m7,by dsimp only;omega,by dsimp only;omega,by dsimp only;omega⟩⟩
       ·exact d9 ⟨kz,rfl,m7,by dsimp only;omega,by dsimp only;omega,by dsimp only;omega⟩
end
theorem zMi{σ:Type}{M:Model}{A:Around}{E:Value→Shared→Prop}{s:Shared}{Q:PUnit→σ→Prop}{st st':σ}(h:Q ⟨⟩ st'):wpS M A E s (set st':StateT σ Sem PUnit) Q st:=by
 unfold wpS
 rw[StateT.run_set]
 exact cT ⟨rfl,h⟩
section
variable {κ:KeyKind}
noncomputable def Seg(κ:KeyKind)(xs:Array Keyed)(lo hi:Nat):Prop:=∀ i j,lo≤i→i≤j→j<hi→κ.kle (KK κ xs i) (KK κ xs j)
noncomputable def zEX(xs:Array Keyed)(at':Nat)(l:List Keyed):Array Keyed:=l.zipIdx.foldl (fun a x=>match x with | (p,j)=>a.setIfInBounds (at'+j) p) xs
theorem zGl{at':Nat}:∀(l:List Keyed) (m:Nat) (xs:Array Keyed),at'+m+l.length≤xs.size→((l.zipIdx m).foldl (fun a x=>match x with | (p,j)=>a.setIfInBounds (at'+j) p) xs).toList=xs.toList.take (at'+m)++(l++xs.toList.drop (at'+m+l.length))
 | [],m,xs,h=>by simp
 | x::r,m,xs,h=>by
  rw[cR] at h
  rw[List.zipIdx_cons,List.foldl_cons]
  rw[zGl r (m+1) _ (by simp;omega)]
  simp only[Array.toList_setIfInBounds]
  have hl:at'+m<xs.toList.length:=by simp;omega
  rw[show at'+(m+1)=at'+m+1 by omega,List.take_set,List.take_add_one,fe hl,List.drop_set_of_lt (by omega),cR,show at'+m+1+r.length=at'+m+(r.length+1) by omega]
  rw[List.set_append_right _ _ (by simp;omega)]
  have:at'+m-(xs.toList.take (at'+m)).length=0:=by rw[dO];omega
  rw[this]
  simp
theorem zEY{xs:Array Keyed}{at':Nat}{l:List Keyed}(h:at'+l.length≤xs.size):(zEX xs at' l).toList=xs.toList.take at'++(l++xs.toList.drop (at'+l.length)):=by
 have:=zGl (at':=at') l 0 xs (by omega)
 rw[Nat.add_zero] at this
 exact this
theorem zJc{xs:Array Keyed}{at':Nat}{l:List Keyed}(h:at'+l.length≤xs.size)(k:Nat):(zEX xs at' l)[k]?=if at'≤k∧k<at'+l.length then l[k-at']? else xs[k]?:=by
 rw[← eR,zEY h]
 have hl:(xs.toList.take at').length=at':=by rw[dO,da];omega
 by_cases h1:k<at'
 ·rw[if_neg (by omega),el (by omega),List.getElem?_take,if_pos h1,eR]
 rw[dY (by omega),hl]
 by_cases h2:k<at'+l.length
 ·rw[if_pos ⟨by omega,h2⟩,el (by omega)]
 ·rw[if_neg (by omega),dY (by omega),List.getElem?_drop,show at'+l.length+(k-at'-l.length)=k by omega,eR]
theorem zDN{xs:Array Keyed}{u v t:Nat}(h:u+t<v)(hv:v≤xs.size):KK κ (xs.extract u v) t=KK κ xs (u+t):=by
 refine KK_congr ?_
 rw[Array.getElem?_extract_of_lt (by omega),getElem?_pos xs _ (by omega)]
theorem zMj{r:Array Keyed}(h:Srt κ r.toList):SortedToK κ r r.size:=fun i j ij jr=>by
 rcases eL i j with q | q
 ·have:=gG.mp h i j (by simp;omega) (by simpa using jr) q
  rw[zd (by omega),zd jr]
  simpa using this
 ·obtain rfl:i=j:=by omega
  exact KeyOrd.kle_refl _
theorem zIi{xs:Array Keyed}{u v:Nat}(h:Seg κ xs u v)(hv:v≤xs.size):SortedToK κ (xs.extract u v) (xs.extract u v).size:=fun i j ij hj=>by
 rw[gq] at hj
 rw[zDN (by omega) hv,zDN (by omega) hv]
 exact h (u+i) (u+j) (by omega) (by omega) (by omega)
theorem zQP{xs:Array Keyed}{u v c:Nat}(huv:u≤v)(hc:v+c≤xs.size):xs.toList=xs.toList.take u++(((xs.extract u v).toList++(xs.extract v (v+c)).toList)++xs.toList.drop (v+c)):=by
 rw[eU,eU,eF,eF,show v+c-v=c by omega]
 have e1:xs.toList.drop (v+c)=(xs.toList.drop v).drop c:=by rw[List.drop_drop]
 have e2:xs.toList.drop v=(xs.toList.drop u).drop (v-u):=by rw[List.drop_drop,show u+(v-u)=v by omega]
 rw[eA,e1,eE,e2,eE,eE]
variable {prog:Program} {w:World} {A:Around} {E:Value→Shared→Prop} {s:Shared} {kd:SortKind} {P:Keyed→Prop}
structure Mg (κ:KeyKind) (xs ys:Array Keyed) (sa hi:Nat):Prop where
 pm:ys.Perm xs
 fr:∀ k,k<sa∨hi≤k→ys[k]?=xs[k]?
 sg:Seg κ ys sa hi
variable (L:∀(z:SortSt) (x y:Keyed) (Q:Option Bool→SortSt→Prop),kindOf z=kd→P x→P y→Q (some (κ.blt (ky κ x) (ky κ y))) z→wpS (model prog w) A E s (lt' x y) Q z)
theorem merged{xs:Array Keyed}{sa sb nb k c:Nat}{r:Array Keyed}(h1:sa+k<sb)(h2:0<c)(h3:c≤nb)(h4:sb+nb≤xs.size)(ga:Seg κ xs sa sb)(gb:Seg κ xs sb (sb+nb))(lo:∀ t,t<k→κ.kle (KK κ xs (sa+t)) (KK κ xs sb))(hi:∀ t,c≤t→t<nb→κ.kle (KK κ xs (sb-1)) (KK κ xs (sb+t)))(mo:MO κ (xs.extract (sa+k) sb) (xs.extract sb (sb+c)) r):Mg κ xs (zEX xs (sa+k) r.toList) sa (sb+nb):=by
 have hsz:r.toList.length=sb-(sa+k)+c:=by
  have:=mo.pm.length_eq
  rw[du] at this
  simp only[da,gq] at this ⊢
  omega
 have hb:(sa+k)+r.toList.length≤xs.size:=by omega
 have hb2:(sa+k)+r.toList.length=sb+c:=by omega
 have get:=zJc hb
 have src:∀ t,t<r.size→∃ u,sa+k≤u∧u<sb+c∧KK κ r t=KK κ xs u:=fun t ht=>by
  have hm:r[t]∈(xs.extract (sa+k) sb).toList++(xs.extract sb (sb+c)).toList:=mo.pm.mem_iff.mp (by simp)
  rw[zd ht]
  rcases dH.mp hm with hm | hm
  ·obtain⟨j,hj,e⟩:=fV.mp hm
   rw[da,gq] at hj
   refine⟨sa+k+j,by omega,by omega,?_⟩
   rw[zd (by omega),← e]
   simp
  ·obtain⟨j,hj,e⟩:=fV.mp hm
   rw[da,gq] at hj
   refine⟨sb+j,by omega,by omega,?_⟩
   rw[zd (by omega),← e]
   simp
 have rs:=zMj mo.sr
 rw[da] at hsz
 have kin:∀ i,sa+k≤i→i<sb+c→KK κ (zEX xs (sa+k) r.toList) i=KK κ r (i-(sa+k)):=fun i i1 i2=>by
  refine KK_congr ?_
  rw[get,if_pos ⟨i1,by omega⟩,eR]
 have kout:∀ i,(i<sa+k∨sb+c≤i)→KK κ (zEX xs (sa+k) r.toList) i=KK κ xs i:=fun i i1=>by
  refine KK_congr ?_
  rw[get,if_neg (by omega)]
 refine⟨?_,fun i hi'=>by rw[get,if_neg (by omega)],fun i j i1 ij j2=>?_⟩
 ·rw[Array.perm_iff_toList_perm,zEY hb,hb2]
  conv=>rhs;rw[zQP (xs:=xs) (u:=sa+k) (v:=sb) (c:=c) (by omega) (by omega)]
  exact fK.append_left _ (fK.append_right _ mo.pm)
 ·by_cases p1:i<sa+k
  ·rw[kout i (.inl p1)]
   have il:=lo (i-sa) (by omega)
   rw[show sa+(i-sa)=i by omega] at il
   by_cases p2:j<sa+k
   ·rw[kout j (.inl p2)]
    exact ga i j i1 ij (by omega)
   by_cases p3:j<sb+c
   ·rw[kin j (by omega) p3]
    obtain⟨u,u1,u2,u3⟩:=src (j-(sa+k)) (by omega)
    rw[u3]
    by_cases p4:u<sb
    ·exact ga i u i1 (by omega) p4
    ·exact KeyOrd.kle_trans il (gb sb u (by omega) (by omega) (by omega))
   ·rw[kout j (.inr (by omega))]
    exact KeyOrd.kle_trans il (gb sb j (by omega) (by omega) j2)
  by_cases p2:i<sb+c
  ·rw[kin i (by omega) p2]
   by_cases p3:j<sb+c
   ·rw[kin j (by omega) p3]
    exact rs _ _ (by omega) (by omega)
   ·rw[kout j (.inr (by omega))]
    obtain⟨u,u1,u2,u3⟩:=src (i-(sa+k)) (by omega)
    rw[u3]
    by_cases p4:u<sb
    ·have:=hi (j-sb) (by omega) (by omega)
     rw[show sb+(j-sb)=j by omega] at this
     exact KeyOrd.kle_trans (ga u (sb-1) (by omega) (by omega) (by omega)) this
    ·exact gb u j (by omega) (by omega) j2
  ·rw[kout i (.inr (by omega)),kout j (.inr (by omega))]
   exact gb i j (by omega) ij j2
include L
theorem zHv{i:Nat}{z:SortSt}{Q:Bool→SortSt→Prop}{sa na pw sb nb pw2:Nat}(hz:kindOf z=kd)(hf:failedOf z=none)(pa:∀ p∈arrOf z,P p)(e1:(pendingOf z)[i]?=some (sa,na,pw))(e2:(pendingOf z)[i+1]?=some (sb,nb,pw2))(hab:sb=sa+na)(h1:1≤na)(h2:1≤nb)(hs:sb+nb≤(arrOf z).size)(ga:Seg κ (arrOf z) sa sb)(gb:Seg κ (arrOf z) sb (sb+nb))
  (h:∀ z',kindOf z'=kd→failedOf z'=none→pendingOf z'=((pendingOf z).setIfInBounds i (sa,na+nb,pw)).eraseIdxIfInBounds (i+1)→Mg κ (arrOf z) (arrOf z') sa (sb+nb)→Q true z'):wpS (model prog w) A E s (mergeAt' i) Q z:=by
 refine cZ (wpS_get ?_)
 rw[e1,e2]
 dsimp only
 refine cZ (zMi ?_)
 have jb:sb<(arrOf z).size:=by omega
 refine cZ (m:=elem' (arrOf z) sb) (zY (getElem?_pos _ sb jb) ?_)
 refine cZ (m:=zAI false (arrOf z)[sb] (arrOf z) sa na 0) (wI L (B:=fun t=>!κ.blt (KK κ (arrOf z) sb) (KK κ (arrOf z) (sa+t))) hz (pa _ (dS jb)) pa (by omega) (by omega) (fun t t1 t2=>by rw[if_neg (by simp),← zd t1,← zd jb]) (fun t u tu un q=>?_) fun k tk=>?_)
 ·simp only[fu] at q ⊢
  exact KeyOrd.kle_trans (ga _ _ (by omega) (by omega) (by omega)) q
 dsimp only
 have lo:∀ t,t<k→κ.kle (KK κ (arrOf z) (sa+t)) (KK κ (arrOf z) sb):=fun t t1=>by
  have q:=tk.yes t t1
  rw[fu] at q
  exact q
 have lk:=tk.le
 by_cases c1:na-k=0
 ·rw[if_pos (by simpa using c1)]
  refine d9 (h _ hz hf rfl ⟨Array.Perm.refl _,fun u0 u0=>rfl,fun i j i1 ij j2=>?_⟩)
  show κ.kle (KK κ (arrOf z) i) (KK κ (arrOf z) j)
  by_cases p1:i<sb
  ·by_cases p2:j<sb
   ·exact ga i j i1 ij p2
   ·have:=lo (i-sa) (by omega)
    rw[show sa+(i-sa)=i by omega] at this
    exact KeyOrd.kle_trans this (gb sb j (by omega) (by omega) j2)
  ·exact gb i j (by omega) ij j2
 rw[if_neg (by simpa using c1)]
 have ja:sa+k+(na-k)-1<(arrOf z).size:=by omega
 refine cZ (m:=elem' (arrOf z) (sa+k+(na-k)-1)) (zY (getElem?_pos (arrOf z) _ ja) ?_)
 have ej:sa+k+(na-k)-1=sb-1:=by omega
 refine cZ (m:=zAI true (arrOf z)[sa+k+(na-k)-1] (arrOf z) sb nb (nb-1)) (wI L (B:=fun t=>κ.blt (KK κ (arrOf z) (sb+t)) (KK κ (arrOf z) (sb-1))) hz (pa _ (dS ja)) pa (by omega) (by omega) (fun t t1 t2=>by rw[if_pos rfl,← zd t1,← zd ja,ej]) (fun t u tu un q=>KeyOrd.klt_of_kle_of_klt (gb _ _ (by omega) (by omega) (by omega)) q) fun c tc=>?_)
 dsimp only
 have lc:=tc.le
 have hi:∀ t,c≤t→t<nb→κ.kle (KK κ (arrOf z) (sb-1)) (KK κ (arrOf z) (sb+t)):=fun t t1 t2=>tc.no t t1 t2
 by_cases c2:c=0
 ·rw[if_pos (by simpa using c2)]
  refine d9 (h _ hz hf rfl ⟨Array.Perm.refl _,fun u0 u0=>rfl,fun i j i1 ij j2=>?_⟩)
  show κ.kle (KK κ (arrOf z) i) (KK κ (arrOf z) j)
  by_cases p1:i<sb
  ·by_cases p2:j<sb
   ·exact ga i j i1 ij p2
   ·have:=hi (j-sb) (by omega) (by omega)
    rw[show sb+(j-sb)=j by omega] at this
    exact KeyOrd.kle_trans (ga i (sb-1) i1 (by omega) (by omega)) this
  ·exact gb i j (by omega) ij j2
 rw[if_neg (by simpa using c2)]
 have px:∀ p∈(arrOf z).extract (sa+k) sb,P p:=fun p hp=>pa p (by
  rw[← ef] at hp ⊢
  rw[eU,eF] at hp
  exact List.mem_of_mem_drop (fm hp))
 have py:∀ p∈(arrOf z).extract sb (sb+c),P p:=fun p hp=>pa p (by
  rw[← ef] at hp ⊢
  rw[eU,eF] at hp
  exact List.mem_of_mem_drop (fm hp))
 have xs:((arrOf z).extract (sa+k) sb).size=sb-(sa+k):=by rw[gq];omega
 have ys:((arrOf z).extract sb (sb+c)).size=c:=by rw[gq];omega
 have ax:=zIi (κ:=κ) (xs:=arrOf z) (u:=sa+k) (v:=sb) (fun i j i1 ij j2=>ga i j (by omega) ij j2) (by omega)
 have ay:=zIi (κ:=κ) (xs:=arrOf z) (u:=sb) (v:=sb+c) (fun i j i1 ij j2=>gb i j (by omega) ij (by omega)) (by omega)
 have fs:∀ j,j<((arrOf z).extract (sa+k) sb).size→κ.kle (KK κ ((arrOf z).extract sb (sb+c)) 0) (KK κ ((arrOf z).extract (sa+k) sb) j):=fun j hj=>by
  rw[xs] at hj
  rw[zDN (by omega) (by omega),zDN (by omega) (by omega)]
  have q:=tk.no (k+j) (by omega) (by omega)
  rw[Bool.not_eq_false'] at q
  rw[Nat.add_zero,Nat.add_assoc]
  exact KeyOrd.kle_of_klt q
 have ls:∀ j,j<((arrOf z).extract sb (sb+c)).size→κ.kle (KK κ ((arrOf z).extract sb (sb+c)) j) (KK κ ((arrOf z).extract (sa+k) sb) (((arrOf z).extract (sa+k) sb).size-1)):=fun j hj=>by
  rw[ys] at hj
  rw[xs,zDN (by omega) (by omega),zDN (by omega) (by omega),show sa+k+(sb-(sa+k)-1)=sb-1 by omega]
  exact KeyOrd.kle_of_klt (tc.yes j hj)
 have fin:∀(r:Array Keyed) (z':SortSt),MO κ ((arrOf z).extract (sa+k) sb) ((arrOf z).extract sb (sb+c)) r→Kp (SortSt.mk' (kindOf z) (arrOf z) (((pendingOf z).setIfInBounds i (sa,na+nb,pw)).eraseIdxIfInBounds (i+1)) (gallopOf z) (failedOf z)) z'→Q (failedOf z').isNone (setArr z' (zEX (arrOf z') (sa+k) r.toList)):=fun r z' mo kp=>by
  rw[show(failedOf z').isNone=true by rw[kp.fl];show(failedOf z).isNone=true;rw[hf];rfl]
  refine h _ (kp.kd.trans hz) (kp.fl.trans hf) kp.pe ?_
  show Mg κ (arrOf z) (zEX (arrOf z') (sa+k) r.toList) sa (sb+nb)
  rw[kp.ar]
  exact merged (by omega) (by omega) lc hs ga gb lo hi mo
 by_cases c3:na-k≤c
 ·rw[if_pos c3]
  refine cZ (m:=zGi ((arrOf z).extract (sa+k) sb) ((arrOf z).extract sb (sb+c))) (zHt L hz px py (by omega) (by omega) ax ay fs ls fun r z' mo kp=>?_)
  exact cZ (gO (cZ (wpS_get (d9 (fin r z' mo kp)))))
 ·rw[if_neg c3]
  refine cZ (m:=zGj ((arrOf z).extract (sa+k) sb) ((arrOf z).extract sb (sb+c))) (zHu L hz px py (by omega) (by omega) ax ay fs ls fun r z' mo kp=>?_)
  exact cZ (gO (cZ (wpS_get (d9 (fin r z' mo kp)))))
end
structure Ahd (lo:Nat) (z z':SortSt):Prop where
 pm:(arrOf z').Perm (arrOf z)
 kd:kindOf z'=kindOf z
 fl:failedOf z'=failedOf z
 pe:pendingOf z'=pendingOf z
 fr:∀ k,k<lo→(arrOf z')[k]?=(arrOf z)[k]?
theorem Ahd.refl(lo:Nat)(z:SortSt):Ahd lo z z:=⟨Array.Perm.refl _,rfl,rfl,rfl,fun u0 u0=>rfl⟩
theorem Ahd.sz{lo:Nat}{z z':SortSt}(h:Ahd lo z z'):(arrOf z').size=(arrOf z).size:=h.pm.size_eq
theorem Ahd.all{lo:Nat}{z z':SortSt}{P:Keyed→Prop}(h:Ahd lo z z')(p:∀ x∈arrOf z,P x):∀ x∈arrOf z',P x:=fun x hx=>p x (h.pm.mem_iff.mp hx)
theorem Ahd.rev{lo i j:Nat}{z z':SortSt}(h:Ahd lo z z')(hi:lo≤i)(hj:j≤(arrOf z').size):Ahd lo z (setArr z' (mirror (arrOf z') i j ((j-i) / 2))):=by
 refine⟨(mirror_perm _ _ _ _).trans h.pm,h.kd,h.fl,h.pe,fun k hk=>?_⟩
 show(mirror (arrOf z') i j ((j-i) / 2))[k]?=_
 rw[getElem?_mirror_all hj,if_neg (by omega)]
 exact h.fr k hk
theorem Ahd.down{lo i j:Nat}{z z':SortSt}(h:Ahd lo z z')(hi:lo≤i)(hij:i≤j)(hj:j<(arrOf z').size):Ahd lo z (setArr z' (bubble (arrOf z') j (j-i))):=by
 refine⟨(bubble_perm _ _ _).trans h.pm,h.kd,h.fl,h.pe,fun k hk=>?_⟩
 show(bubble (arrOf z') j (j-i))[k]?=_
 rw[getElem?_bubble hj (j-i) (by omega),if_neg (by omega),if_neg (by omega)]
 exact h.fr k hk
section
variable {κ:KeyKind}
noncomputable def Dsc(κ:KeyKind)(xs:Array Keyed)(lo hi:Nat):Prop:=∀ i j,lo≤i→i≤j→j<hi→κ.kle (KK κ xs j) (KK κ xs i)
theorem Seg.more{xs:Array Keyed}{lo hi:Nat}(u:Seg κ xs lo hi)(h:lo<hi→κ.kle (KK κ xs (hi-1)) (KK κ xs hi)):Seg κ xs lo (hi+1):=fun i j i1 ij jm=>by
 rcases eL j hi with q | q
 ·exact u i j i1 ij q
 obtain rfl:j=hi:=by omega
 rcases eL i j with p | p
 ·exact KeyOrd.kle_trans (u i (j-1) i1 (by omega) (by omega)) (h (by omega))
 ·obtain rfl:i=j:=by omega
  exact KeyOrd.kle_refl _
theorem Dsc.more{xs:Array Keyed}{lo hi:Nat}(u:Dsc κ xs lo hi)(h:lo<hi→κ.kle (KK κ xs hi) (KK κ xs (hi-1))):Dsc κ xs lo (hi+1):=fun i j i1 ij jm=>by
 rcases eL j hi with q | q
 ·exact u i j i1 ij q
 obtain rfl:j=hi:=by omega
 rcases eL i j with p | p
 ·exact KeyOrd.kle_trans (h (by omega)) (u i (j-1) i1 (by omega) (by omega))
 ·obtain rfl:i=j:=by omega
  exact KeyOrd.kle_refl _
theorem Dsc.congr{xs ys:Array Keyed}{lo hi:Nat}(e:∀ i,KK κ ys i=KK κ xs i)(u:Dsc κ xs lo hi):Dsc κ ys lo hi:=fun i j i1 ij jm=>by rw[e,e];exact u i j i1 ij jm
theorem Dsc.turn{xs:Array Keyed}{lo hi:Nat}(u:Dsc κ xs lo hi)(h:hi≤xs.size):Seg κ (mirror xs lo hi ((hi-lo) / 2)) lo hi:=fun i j i1 ij jm=>by
 rw[KK_mirror h,KK_mirror h,if_pos ⟨i1,by omega⟩,if_pos ⟨by omega,jm⟩]
 exact u (lo+hi-1-j) (lo+hi-1-i) (by omega) (by omega) (by omega)
structure Fal (κ:KeyKind) (xs:Array Keyed) (lo m c:Nat):Prop where
 dn:Dsc κ xs lo (lo+m)
 le:c+1≤m
 eq:∀ i,lo+m-(c+1)≤i→i<lo+m→KK κ xs i=KK κ xs (lo+m-1)
theorem Fal.one{xs:Array Keyed}{lo m:Nat}(d:Dsc κ xs lo (lo+m))(h:1≤m):Fal κ xs lo m 0:=⟨d,h,fun i h1 h2=>by rw[show i=lo+m-1 by omega]⟩
variable {prog:Program} {w:World} {A:Around} {E:Value→Shared→Prop} {s:Shared} {kd:SortKind} {P:Keyed→Prop}
variable (L:∀(z:SortSt) (x y:Keyed) (Q:Option Bool→SortSt→Prop),kindOf z=kd→P x→P y→Q (some (κ.blt (ky κ x) (ky κ y))) z→wpS (model prog w) A E s (lt' x y) Q z)
include L
theorem wS{i j:Nat}{z:SortSt}{Q:Option Bool→SortSt→Prop}(hz:kindOf z=kd)(pa:∀ p∈arrOf z,P p)(hi:i<(arrOf z).size)(hj:j<(arrOf z).size)(h:Q (some (κ.blt (KK κ (arrOf z) i) (KK κ (arrOf z) j))) z):wpS (model prog w) A E s (ltAt' i j) Q z:=by
 refine cZ (wpS_get ?_)
 refine cZ (m:=elem' (arrOf z) i) (zY (getElem?_pos (arrOf z) i hi) ?_)
 refine cZ (m:=elem' (arrOf z) j) (zY (getElem?_pos (arrOf z) j hj) ?_)
 exact L _ _ _ _ hz (pa _ (dS hi)) (pa _ (dS hj)) (by rw[← zd hi,← zd hj];exact h)
theorem zGm{lo nrem:Nat}{z:SortSt}{Q:Option Nat→SortSt→Prop}(hz:kindOf z=kd)(pa:∀ p∈arrOf z,P p)(h1:1≤nrem)(hs:lo+nrem≤(arrOf z).size)
  (h:∀ n z',1≤n→n≤nrem→Ahd lo z z'→Seg κ (arrOf z') lo (lo+n)→Q (some n) z'):wpS (model prog w) A E s (countRun' lo nrem) Q z:=by
 refine cZ (fw (eh (β:=Option (Option Nat)×Nat) (I:=fun x c z'=>z'=z∧c=(none,x)∧Seg κ (arrOf z) lo (lo+x)) (Q:=fun c z'=>z'=z∧∃ n,c=(none,n)∧1≤n∧n≤nrem∧Seg κ (arrOf z) lo (lo+n)∧(n=nrem∨κ.klt (KK κ (arrOf z) (lo+n)) (KK κ (arrOf z) (lo+n-1)))) (fun x c z' x1 x2 ⟨e1,e2,u⟩=>?stp) (fun c z' ⟨e1,e2,u⟩=>?fin) ⟨rfl,rfl,fun i j i1 ij j2=>by obtain rfl:i=j:=(by omega);exact KeyOrd.kle_refl _⟩) fun c z' ⟨e1,n,e2,n1,n2,u,o⟩=>?pst)
 case fin =>
  rw[show max 1 nrem=nrem by omega] at e2 u
  exact⟨e1,nrem,e2,h1,cX _,u,.inl rfl⟩
 case stp =>
  subst e1 e2
  refine cZ (m:=ltAt' (lo+x) (lo+x-1)) (wS L hz pa (by omega) (by omega) ?_)
  dsimp only
  cases q:κ.blt (KK κ (arrOf z') (lo+x)) (KK κ (arrOf z') (lo+x-1)) with
  | true=>exact d9 ⟨rfl,x,rfl,x1,by omega,u,.inr q⟩
  | false=>exact d9 ⟨rfl,rfl,Seg.more u fun u0=>q⟩
 case pst =>
  subst e1 e2
  dsimp only
  by_cases e:n=nrem
  ·rw[if_pos (by simpa using e)]
   exact d9 (h n z' n1 n2 (.refl _ _) u)
  rw[if_neg (by simpa using e)]
  have lt:=o.resolve_left e
  by_cases g:n>1
  ·rw[if_pos g]
   refine cZ (m:=ltAt' lo (lo+n-1)) (wS L hz pa (by omega) (by omega) ?_)
   dsimp only
   cases q:κ.blt (KK κ (arrOf z') lo) (KK κ (arrOf z') (lo+n-1)) with
   | true=>exact d9 (h n z' n1 n2 (.refl _ _) u)
   | false =>
    have sz:lo+n≤(arrOf z').size:=by omega
    have al:∀ k,lo≤k→k<lo+n→KK κ (arrOf z') k=KK κ (arrOf z') (lo+n-1):=fun k k1 k2=>KeyOrd.kle_antisymm (u k (lo+n-1) k1 (by omega) (by omega)) (KeyOrd.kle_trans q (u lo k (cX _) k1 k2))
    have d0:Dsc κ (arrOf z') lo (lo+n+1):=Dsc.more (fun i j i1 ij jn=>by rw[al i i1 (by omega),al j (by omega) jn];exact KeyOrd.kle_refl _) fun u0=>KeyOrd.kle_of_klt lt
    rw[if_neg (by simp)]
    refine cZ (m:=reverseSlice' lo (lo+n)) (gK ?_)
    have a1:=(Ahd.refl lo z').rev (i:=lo) (j:=lo+n) (cX _) sz
    have d1:Dsc κ (arrOf (setArr z' (mirror (arrOf z') lo (lo+n) ((lo+n-lo) / 2)))) lo (lo+(n+1)):=Dsc.congr (KK_mirror_equal sz al) d0
    generalize setArr z' (mirror (arrOf z') lo (lo+n) ((lo+n-lo) / 2))=z1 at a1 d1 ⊢
    refine cZ (wpS_lift (fO ⟨rfl,?_⟩))
    refine cZ (fw (eh (β:=Option (Option Nat)×Nat×Nat) (I:=fun x c z2=>∃ q,c=(none,x,q)∧Ahd lo z' z2∧Fal κ (arrOf z2) lo x q) (Q:=fun c z2=>∃ m q,c=(none,m,q)∧n+1≤m∧m≤nrem∧Ahd lo z' z2∧Fal κ (arrOf z2) lo m q) (fun m c z2 m1 m2 ⟨t,e3,a2,f2⟩=>?sp2) (fun c z2 ⟨t,e3,a2,f2⟩=>⟨nrem,t,by rw[e3,show max (n+1) nrem=nrem by omega],by omega,cX _,a2,by rwa [show max (n+1) nrem=nrem by omega] at f2⟩) ⟨0,rfl,a1,Fal.one d1 (by omega)⟩) fun c z2 ⟨m,t,e3,m1,m2,a2,f2⟩=>?ps2)
    case sp2 =>
     subst e3
     have s2:=a2.sz
     have fl2:=f2.le
     refine cZ (m:=ltAt' (lo+m) (lo+m-1)) (wS L (a2.kd.trans hz) (a2.all pa) (by omega) (by omega) ?_)
     dsimp only
     cases q2:κ.blt (KK κ (arrOf z2) (lo+m)) (KK κ (arrOf z2) (lo+m-1)) with
     | true =>
      have d2:Dsc κ (arrOf z2) lo (lo+m+1):=Dsc.more f2.dn fun u0=>KeyOrd.kle_of_klt q2
      simp only[if_true]
      by_cases hc:t>0
      ·rw[if_pos hc]
       refine cZ (m:=reverseSlice' (lo+m-(t+1)) (lo+m)) (gK (d9 ⟨0,rfl,a2.rev (by omega) (by omega),Fal.one ?_ (by omega)⟩))
       exact Dsc.congr (KK_mirror_equal (by omega) f2.eq) d2
      ·rw[if_neg hc]
       exact d9 ⟨0,rfl,a2,Fal.one d2 (by omega)⟩
     | false =>
      simp only[cM,if_false]
      refine cZ (m:=ltAt' (lo+m-1) (lo+m)) (wS L (a2.kd.trans hz) (a2.all pa) (by omega) (by omega) ?_)
      dsimp only
      cases q3:κ.blt (KK κ (arrOf z2) (lo+m-1)) (KK κ (arrOf z2) (lo+m)) with
      | true=>exact d9 ⟨m,t,rfl,m1,by omega,a2,f2⟩
      | false =>
       have ek:KK κ (arrOf z2) (lo+m)=KK κ (arrOf z2) (lo+m-1):=KeyOrd.kle_antisymm q3 q2
       simp only[cM,if_false]
       refine d9 ⟨t+1,rfl,a2,Dsc.more f2.dn fun u0=>q3,by omega,fun i i1 i2=>?_⟩
       rw[show lo+(m+1)-1=lo+m by omega]
       rcases eL i (lo+m) with p | p
       ·rw[ek];exact f2.eq i (by omega) p
       ·rw[show i=lo+m by omega]
    case ps2 =>
     subst e3
     have s2:=a2.sz
     have fl2:=f2.le
     dsimp only
     by_cases hc:t>0
     ·rw[if_pos hc]
      refine cZ (m:=reverseSlice' (lo+m-(t+1)) (lo+m)) (gK ?_)
      have a4:=a2.rev (i:=lo+m-(t+1)) (j:=lo+m) (by omega) (by omega)
      have d4:Dsc κ (arrOf (setArr z2 (mirror (arrOf z2) (lo+m-(t+1)) (lo+m) ((lo+m-(lo+m-(t+1))) / 2)))) lo (lo+m):=Dsc.congr (KK_mirror_equal (by omega) f2.eq) f2.dn
      generalize setArr z2 (mirror (arrOf z2) (lo+m-(t+1)) (lo+m) ((lo+m-(lo+m-(t+1))) / 2))=z5 at a4 d4 ⊢
      have sw:=Ahd.sz a4
      refine cZ (m:=reverseSlice' lo (lo+m)) (gK ?_)
      have a3:=Ahd.rev (i:=lo) (j:=lo+m) a4 (cX _) (by omega)
      have u3:Seg κ (arrOf (setArr z5 (mirror (arrOf z5) lo (lo+m) ((lo+m-lo) / 2)))) lo (lo+m):=Dsc.turn d4 (by omega)
      generalize setArr z5 (mirror (arrOf z5) lo (lo+m) ((lo+m-lo) / 2))=z3 at a3 u3 ⊢
      have s3:=a3.sz
      refine cZ (fw (eh (β:=Option (Option Nat)×Nat) (I:=fun x c z4=>z4=z3∧c=(none,x)∧Seg κ (arrOf z3) lo (lo+x)) (Q:=fun c z4=>z4=z3∧∃ y,c=(none,y)∧m≤y∧y≤nrem∧Seg κ (arrOf z3) lo (lo+y)) (fun x c z4 x1 x2 ⟨y1,y2,y3⟩=>?_) (fun c z4 ⟨y1,y2,y3⟩=>⟨y1,nrem,by rw[y2,show max m nrem=nrem by omega],m2,cX _,by rwa [show max m nrem=nrem by omega] at y3⟩) ⟨rfl,rfl,u3⟩) fun c z4 ⟨y1,y,y2,y3,y4,y5⟩=>?_)
      ·subst y1 y2
       refine cZ (m:=ltAt' (lo+x) (lo+x-1)) (wS L (a3.kd.trans hz) (a3.all pa) (by omega) (by omega) ?_)
       dsimp only
       cases q2:κ.blt (KK κ (arrOf z4) (lo+x)) (KK κ (arrOf z4) (lo+x-1)) with
       | true=>exact d9 ⟨rfl,x,rfl,x1,by omega,y3⟩
       | false=>exact d9 ⟨rfl,rfl,Seg.more y3 fun u0=>q2⟩
      ·subst y1 y2
       exact d9 (h y z4 (by omega) y4 a3 y5)
     ·rw[if_neg hc]
      have sw:=Ahd.sz a2
      refine cZ (m:=reverseSlice' lo (lo+m)) (gK ?_)
      have a3:=Ahd.rev (i:=lo) (j:=lo+m) a2 (cX _) (by omega)
      have u3:Seg κ (arrOf (setArr z2 (mirror (arrOf z2) lo (lo+m) ((lo+m-lo) / 2)))) lo (lo+m):=Dsc.turn f2.dn (by omega)
      generalize setArr z2 (mirror (arrOf z2) lo (lo+m) ((lo+m-lo) / 2))=z3 at a3 u3 ⊢
      have s3:=a3.sz
      refine cZ (fw (eh (β:=Option (Option Nat)×Nat) (I:=fun x c z4=>z4=z3∧c=(none,x)∧Seg κ (arrOf z3) lo (lo+x)) (Q:=fun c z4=>z4=z3∧∃ y,c=(none,y)∧m≤y∧y≤nrem∧Seg κ (arrOf z3) lo (lo+y)) (fun x c z4 x1 x2 ⟨y1,y2,y3⟩=>?_) (fun c z4 ⟨y1,y2,y3⟩=>⟨y1,nrem,by rw[y2,show max m nrem=nrem by omega],m2,cX _,by rwa [show max m nrem=nrem by omega] at y3⟩) ⟨rfl,rfl,u3⟩) fun c z4 ⟨y1,y,y2,y3,y4,y5⟩=>?_)
      ·subst y1 y2
       refine cZ (m:=ltAt' (lo+x) (lo+x-1)) (wS L (a3.kd.trans hz) (a3.all pa) (by omega) (by omega) ?_)
       dsimp only
       cases q2:κ.blt (KK κ (arrOf z4) (lo+x)) (KK κ (arrOf z4) (lo+x-1)) with
       | true=>exact d9 ⟨rfl,x,rfl,x1,by omega,y3⟩
       | false=>exact d9 ⟨rfl,rfl,Seg.more y3 fun u0=>q2⟩
      ·subst y1 y2
       exact d9 (h y z4 (by omega) y4 a3 y5)
  ·rw[if_neg g]
   obtain rfl:n=1:=by omega
   have a1:=Ahd.refl lo z'
   have d1:Dsc κ (arrOf z') lo (lo+(1+1)):=Dsc.more (hi:=lo+1) (fun i j i1 ij j2=>by obtain rfl:i=j:=(by omega);exact KeyOrd.kle_refl _) fun u0=>KeyOrd.kle_of_klt lt
   refine cZ (wpS_lift (fO ⟨rfl,?_⟩))
   refine cZ (fw (eh (β:=Option (Option Nat)×Nat×Nat) (I:=fun x c z2=>∃ q,c=(none,x,q)∧Ahd lo z' z2∧Fal κ (arrOf z2) lo x q) (Q:=fun c z2=>∃ m q,c=(none,m,q)∧1+1≤m∧m≤nrem∧Ahd lo z' z2∧Fal κ (arrOf z2) lo m q) (fun m c z2 m1 m2 ⟨t,e3,a2,f2⟩=>?sp2) (fun c z2 ⟨t,e3,a2,f2⟩=>⟨nrem,t,by rw[e3,show max (1+1) nrem=nrem by omega],by omega,cX _,a2,by rwa [show max (1+1) nrem=nrem by omega] at f2⟩) ⟨0,rfl,a1,Fal.one d1 (by omega)⟩) fun c z2 ⟨m,t,e3,m1,m2,a2,f2⟩=>?ps2)
   case sp2 =>
    subst e3
    have s2:=a2.sz
    have fl2:=f2.le
    refine cZ (m:=ltAt' (lo+m) (lo+m-1)) (wS L (a2.kd.trans hz) (a2.all pa) (by omega) (by omega) ?_)
    dsimp only
    cases q2:κ.blt (KK κ (arrOf z2) (lo+m)) (KK κ (arrOf z2) (lo+m-1)) with
    | true =>
     have d2:Dsc κ (arrOf z2) lo (lo+m+1):=Dsc.more f2.dn fun u0=>KeyOrd.kle_of_klt q2
     simp only[if_true]
     by_cases hc:t>0
     ·rw[if_pos hc]
      refine cZ (m:=reverseSlice' (lo+m-(t+1)) (lo+m)) (gK (d9 ⟨0,rfl,a2.rev (by omega) (by omega),Fal.one ?_ (by omega)⟩))
      exact Dsc.congr (KK_mirror_equal (by omega) f2.eq) d2
     ·rw[if_neg hc]
      exact d9 ⟨0,rfl,a2,Fal.one d2 (by omega)⟩
    | false =>
     simp only[cM,if_false]
     refine cZ (m:=ltAt' (lo+m-1) (lo+m)) (wS L (a2.kd.trans hz) (a2.all pa) (by omega) (by omega) ?_)
     dsimp only
     cases q3:κ.blt (KK κ (arrOf z2) (lo+m-1)) (KK κ (arrOf z2) (lo+m)) with
     | true=>exact d9 ⟨m,t,rfl,m1,by omega,a2,f2⟩
     | false =>
      have ek:KK κ (arrOf z2) (lo+m)=KK κ (arrOf z2) (lo+m-1):=KeyOrd.kle_antisymm q3 q2
      simp only[cM,if_false]
      refine d9 ⟨t+1,rfl,a2,Dsc.more f2.dn fun u0=>q3,by omega,fun i i1 i2=>?_⟩
      rw[show lo+(m+1)-1=lo+m by omega]
      rcases eL i (lo+m) with p | p
      ·rw[ek];exact f2.eq i (by omega) p
      ·rw[show i=lo+m by omega]
   case ps2 =>
    subst e3
    have s2:=a2.sz
    have fl2:=f2.le
    dsimp only
    by_cases hc:t>0
    ·rw[if_pos hc]
     refine cZ (m:=reverseSlice' (lo+m-(t+1)) (lo+m)) (gK ?_)
     have a4:=a2.rev (i:=lo+m-(t+1)) (j:=lo+m) (by omega) (by omega)
     have d4:Dsc κ (arrOf (setArr z2 (mirror (arrOf z2) (lo+m-(t+1)) (lo+m) ((lo+m-(lo+m-(t+1))) / 2)))) lo (lo+m):=Dsc.congr (KK_mirror_equal (by omega) f2.eq) f2.dn
     generalize setArr z2 (mirror (arrOf z2) (lo+m-(t+1)) (lo+m) ((lo+m-(lo+m-(t+1))) / 2))=z5 at a4 d4 ⊢
     have sw:=Ahd.sz a4
     refine cZ (m:=reverseSlice' lo (lo+m)) (gK ?_)
     have a3:=Ahd.rev (i:=lo) (j:=lo+m) a4 (cX _) (by omega)
     have u3:Seg κ (arrOf (setArr z5 (mirror (arrOf z5) lo (lo+m) ((lo+m-lo) / 2)))) lo (lo+m):=Dsc.turn d4 (by omega)
     generalize setArr z5 (mirror (arrOf z5) lo (lo+m) ((lo+m-lo) / 2))=z3 at a3 u3 ⊢
     have s3:=a3.sz
     refine cZ (fw (eh (β:=Option (Option Nat)×Nat) (I:=fun x c z4=>z4=z3∧c=(none,x)∧Seg κ (arrOf z3) lo (lo+x)) (Q:=fun c z4=>z4=z3∧∃ y,c=(none,y)∧m≤y∧y≤nrem∧Seg κ (arrOf z3) lo (lo+y)) (fun x c z4 x1 x2 ⟨y1,y2,y3⟩=>?_) (fun c z4 ⟨y1,y2,y3⟩=>⟨y1,nrem,by rw[y2,show max m nrem=nrem by omega],m2,cX _,by rwa [show max m nrem=nrem by omega] at y3⟩) ⟨rfl,rfl,u3⟩) fun c z4 ⟨y1,y,y2,y3,y4,y5⟩=>?_)
     ·subst y1 y2
      refine cZ (m:=ltAt' (lo+x) (lo+x-1)) (wS L (a3.kd.trans hz) (a3.all pa) (by omega) (by omega) ?_)
      dsimp only
      cases q2:κ.blt (KK κ (arrOf z4) (lo+x)) (KK κ (arrOf z4) (lo+x-1)) with
      | true=>exact d9 ⟨rfl,x,rfl,x1,by omega,y3⟩
      | false=>exact d9 ⟨rfl,rfl,Seg.more y3 fun u0=>q2⟩
     ·subst y1 y2
      exact d9 (h y z4 (by omega) y4 a3 y5)
    ·rw[if_neg hc]
     have sw:=Ahd.sz a2
     refine cZ (m:=reverseSlice' lo (lo+m)) (gK ?_)
     have a3:=Ahd.rev (i:=lo) (j:=lo+m) a2 (cX _) (by omega)
     have u3:Seg κ (arrOf (setArr z2 (mirror (arrOf z2) lo (lo+m) ((lo+m-lo) / 2)))) lo (lo+m):=Dsc.turn f2.dn (by omega)
     generalize setArr z2 (mirror (arrOf z2) lo (lo+m) ((lo+m-lo) / 2))=z3 at a3 u3 ⊢
     have s3:=a3.sz
     refine cZ (fw (eh (β:=Option (Option Nat)×Nat) (I:=fun x c z4=>z4=z3∧c=(none,x)∧Seg κ (arrOf z3) lo (lo+x)) (Q:=fun c z4=>z4=z3∧∃ y,c=(none,y)∧m≤y∧y≤nrem∧Seg κ (arrOf z3) lo (lo+y)) (fun x c z4 x1 x2 ⟨y1,y2,y3⟩=>?_) (fun c z4 ⟨y1,y2,y3⟩=>⟨y1,nrem,by rw[y2,show max m nrem=nrem by omega],m2,cX _,by rwa [show max m nrem=nrem by omega] at y3⟩) ⟨rfl,rfl,u3⟩) fun c z4 ⟨y1,y,y2,y3,y4,y5⟩=>?_)
     ·subst y1 y2
      refine cZ (m:=ltAt' (lo+x) (lo+x-1)) (wS L (a3.kd.trans hz) (a3.all pa) (by omega) (by omega) ?_)
      dsimp only
      cases q2:κ.blt (KK κ (arrOf z4) (lo+x)) (KK κ (arrOf z4) (lo+x-1)) with
      | true=>exact d9 ⟨rfl,x,rfl,x1,by omega,y3⟩
      | false=>exact d9 ⟨rfl,rfl,Seg.more y3 fun u0=>q2⟩
     ·subst y1 y2
      exact d9 (h y z4 (by omega) y4 a3 y5)
theorem zHw{lo m ok:Nat}{z:SortSt}{Q:Bool→SortSt→Prop}(hz:kindOf z=kd)(pa:∀ p∈arrOf z,P p)(h1:1≤ok)(hok:ok≤m)(hs:lo+m≤(arrOf z).size)(u:Seg κ (arrOf z) lo (lo+ok))
  (h:∀ z',Ahd lo z z'→Seg κ (arrOf z') lo (lo+m)→Q true z'):wpS (model prog w) A E s (binarySort' lo m ok) Q z:=by
 refine cZ (fw (eh (β:=Option Bool×Unit) (I:=fun k c z'=>c=(none,())∧k≤m∧Ahd lo z z'∧Seg κ (arrOf z') lo (lo+k)) (Q:=fun c z'=>c=(none,())∧Ahd lo z z'∧Seg κ (arrOf z') lo (lo+m)) (fun k c z' k1 k2 ⟨e,km,a1,u'⟩=>?stp) (fun c z' ⟨e,km,a1,u'⟩=>?fin) ⟨rfl,by omega,.refl _ _,by rwa [show max ok 1=ok by omega]⟩) fun c z' ⟨e,a1,u'⟩=>?pst)
 case fin=>exact⟨e,a1,by rwa [show max (max ok 1) m=m by omega] at u'⟩
 case pst =>
  subst e
  exact d9 (h z' a1 u')
 case stp =>
  subst e
  have s1:=a1.sz
  have hk:lo+k<(arrOf z').size:=by omega
  refine cZ (fw (eh (β:=Option Bool×Nat×Nat) (I:=fun x c z''=>z''=z'∧∃ l r,c=(none,l,r)∧(l≤r∧r≤k∧r-l≤k-x)∧(∀ i,i<l→κ.kle (KK κ (arrOf z') (lo+i)) (KK κ (arrOf z') (lo+k)))∧∀ i,r≤i→i<k→κ.klt (KK κ (arrOf z') (lo+k)) (KK κ (arrOf z') (lo+i)))
   (Q:=fun c z''=>z''=z'∧∃ l,(∃ r,c=(none,l,r))∧l≤k∧(∀ i,i<l→κ.kle (KK κ (arrOf z') (lo+i)) (KK κ (arrOf z') (lo+k)))∧∀ i,l≤i→i<k→κ.klt (KK κ (arrOf z') (lo+k)) (KK κ (arrOf z') (lo+i))) (fun x c z'' x1 x2 ⟨e1,l,r,e2,⟨lr,rk,dx⟩,lw,hi⟩=>?is) (fun c z'' ⟨e1,l,r,e2,⟨lr,rk,dx⟩,lw,hi⟩=>?if_) ⟨rfl,0,k,rfl,⟨by omega,by omega,by omega⟩,fun i q=>by omega,fun i q1 q2=>by omega⟩) fun c z'' ⟨e1,l,⟨r,e2⟩,lk,lw,hi⟩=>?ip)
  case is =>
   subst e1 e2
   dsimp only
   by_cases g:l≥r
   ·rw[if_pos g]
    obtain rfl:l=r:=by omega
    exact d9 ⟨rfl,l,⟨_,rfl⟩,rk,lw,hi⟩
   ·rw[if_neg g]
    refine cZ (m:=ltAt' (lo+k) (lo+(l+r) / 2)) (wS L (a1.kd.trans hz) (a1.all pa) hk (by omega) ?_)
    dsimp only
    cases q:κ.blt (KK κ (arrOf z'') (lo+k)) (KK κ (arrOf z'') (lo+(l+r) / 2)) with
    | true=>exact d9 ⟨rfl,l,(l+r) / 2,rfl,⟨by omega,by omega,by omega⟩,lw,fun i i1 i2=>KeyOrd.klt_of_klt_of_kle q (u' _ _ (by omega) (by omega) (by omega))⟩
    | false=>exact d9 ⟨rfl,(l+r) / 2+1,r,rfl,⟨by omega,by omega,by omega⟩,fun i i1=>KeyOrd.kle_trans (u' (lo+i) (lo+(l+r) / 2) (by omega) (by omega) (by omega)) (show κ.kle _ _ from q),hi⟩
  case if_ =>
   subst e1 e2
   obtain rfl:l=r:=by omega
   exact⟨rfl,l,⟨_,rfl⟩,rk,lw,hi⟩
  case ip =>
   subst e1 e2
   refine cZ (m:=moveDown' (lo+k) (lo+l)) ?_
   rw[moveDown'_eq]
   refine gO (d9 ⟨rfl,by omega,a1.down (by omega) (by omega) hk,fun i j i1 ij jk=>?_⟩)
   show κ.kle (KK κ (bubble (arrOf z'') (lo+k) (lo+k-(lo+l))) i) (KK κ (bubble (arrOf z'') (lo+k) (lo+k-(lo+l))) j)
   rw[KK_bubble hk (by omega),KK_bubble hk (by omega),show lo+k-(lo+k-(lo+l))=lo+l by omega]
   have lw':∀ t,lo≤t→t<lo+l→κ.kle (KK κ (arrOf z'') t) (KK κ (arrOf z'') (lo+k)):=fun t t1 t2=>by
    have:=lw (t-lo) (by omega)
    rwa [show lo+(t-lo)=t by omega] at this
   have hi':∀ t,lo+l≤t→t<lo+k→κ.klt (KK κ (arrOf z'') (lo+k)) (KK κ (arrOf z'') t):=fun t t1 t2=>by
    have:=hi (t-lo) (by omega) (by omega)
    rwa [show lo+(t-lo)=t by omega] at this
   by_cases i2:i=lo+l
   ·rw[if_pos i2]
    by_cases j1:j=lo+l
    ·rw[if_pos j1];exact KeyOrd.kle_refl _
    ·rw[if_neg j1,if_pos ⟨by omega,by omega⟩]
     exact KeyOrd.kle_of_klt (hi' (j-1) (by omega) (by omega))
   ·rw[if_neg i2]
    by_cases i3:lo+l<i∧i≤lo+k
    ·rw[if_pos i3,if_neg (by omega),if_pos ⟨by omega,by omega⟩]
     exact u' (i-1) (j-1) (by omega) (by omega) (by omega)
    ·rw[if_neg i3]
     by_cases j1:j=lo+l
     ·rw[if_pos j1];exact lw' i i1 (by omega)
     ·rw[if_neg j1]
      by_cases j2:lo+l<j∧j≤lo+k
      ·rw[if_pos j2];exact u' i (j-1) i1 (by omega) (by omega)
      ·rw[if_neg j2];exact u' i j i1 ij (by omega)
end
section
variable {κ:KeyKind}
noncomputable def Runs(κ:KeyKind)(xs:Array Keyed):Nat→List (Nat×Nat×Nat)→Nat→Prop
 | lo,[],hi=>lo=hi
 | lo,t::r,hi=>t.1=lo∧1≤t.2.1∧Seg κ xs lo (lo+t.2.1)∧Runs κ xs (lo+t.2.1) r hi
theorem Runs.len{xs:Array Keyed}:∀ {p:List (Nat×Nat×Nat)} {lo hi:Nat},Runs κ xs lo p hi→p.length+lo≤hi
 | [],lo,hi,h=>by have:lo=hi:=h;simp;omega
 | t::r,lo,hi,⟨_,h1,_,h2⟩=>by have:=Runs.len h2;rw[cR];omega
theorem Runs.app{xs:Array Keyed}:∀ {p q:List (Nat×Nat×Nat)} {lo hi:Nat},Runs κ xs lo (p++q) hi↔∃ mid,Runs κ xs lo p mid∧Runs κ xs mid q hi
 | [],q,lo,hi=>⟨fun h=>⟨lo,rfl,h⟩,fun⟨mid,h1,h2⟩=>by have:lo=mid:=h1;subst this;exact h2⟩
 | t::r,q,lo,hi=>by
  constructor
  ·rintro⟨h1,h2,h3,h4⟩
   obtain⟨mid,h5,h6⟩:=Runs.app.mp h4
   exact⟨mid,⟨h1,h2,h3,h5⟩,h6⟩
  ·rintro⟨mid,⟨h1,h2,h3,h5⟩,h6⟩
   exact⟨h1,h2,h3,Runs.app.mpr ⟨mid,h5,h6⟩⟩
theorem Seg.congr{xs ys:Array Keyed}{lo hi:Nat}(e:∀ k,lo≤k→k<hi→ys[k]?=xs[k]?)(h:Seg κ xs lo hi):Seg κ ys lo hi:=fun i j i1 ij j2=>by
 rw[KK_congr (e i i1 (by omega)),KK_congr (e j (by omega) j2)]
 exact h i j i1 ij j2
theorem Runs.congr{xs ys:Array Keyed}:∀ {p:List (Nat×Nat×Nat)} {lo hi:Nat},(∀ k,lo≤k→k<hi→ys[k]?=xs[k]?)→Runs κ xs lo p hi→Runs κ ys lo p hi
 | [],lo,hi,_,h=>h
 | t::r,lo,hi,e,⟨h1,h2,h3,h4⟩=>by
  have:=h4.len
  exact⟨h1,h2,h3.congr fun k k1 k2=>e k k1 (by omega),Runs.congr (fun k k1 k2=>e k (by omega) k2) h4⟩
theorem Runs.power{xs:Array Keyed}{f:Nat×Nat×Nat→Nat×Nat×Nat}(hf:∀ t,(f t).1=t.1∧(f t).2.1=t.2.1):∀ {p:List (Nat×Nat×Nat)} {lo hi i:Nat},Runs κ xs lo p hi→Runs κ xs lo (p.modify i f) hi
 | [],lo,hi,i,h=>by simpa using h
 | t::r,lo,hi,0,⟨h1,h2,h3,h4⟩=>by
  rw[List.modify_zero_cons]
  obtain⟨f1,f2⟩:=hf t
  exact⟨by rw[f1];exact h1,by rw[f2];exact h2,by rw[f2];exact h3,by rw[f2];exact h4⟩
 | t::r,lo,hi,i+1,⟨h1,h2,h3,h4⟩=>by
  rw[List.modify_succ_cons]
  exact⟨h1,h2,h3,Runs.power hf h4⟩
structure RS (κ:KeyKind) (a0:Array Keyed) (kd:SortKind) (lo:Nat) (z:SortSt):Prop where
 pm:(arrOf z).Perm a0
 kd:kindOf z=kd
 fl:failedOf z=none
 rn:Runs κ (arrOf z) 0 (pendingOf z).toList lo
theorem RS.ahd{a0:Array Keyed}{kd:SortKind}{lo:Nat}{z z':SortSt}(r:RS κ a0 kd lo z)(a:Ahd lo z z'):RS κ a0 kd lo z':=⟨a.pm.trans r.pm,a.kd.trans r.kd,a.fl.trans r.fl,by rw[a.pe];exact r.rn.congr fun k u0 k2=>a.fr k k2⟩
theorem zJd{p:List (Nat×Nat×Nat)}{i:Nat}(h:i+1<p.length):∃ p1 x y p2,p=p1++x::y::p2∧p1.length=i:=by
 refine⟨p.take i,p[i],p[i+1],p.drop (i+2),?_,by rw[dO];omega⟩
 rw[List.getElem_cons_drop,List.getElem_cons_drop,eE]
theorem zIj{p:Array (Nat×Nat×Nat)}{p1 p2:List (Nat×Nat×Nat)}{x y v:Nat×Nat×Nat}{i:Nat}(e:p.toList=p1++x::y::p2)(hi:p1.length=i):((p.setIfInBounds i v).eraseIdxIfInBounds (i+1)).toList=p1++v::p2:=by
 subst hi
 have h2:p1.length+1<(p.setIfInBounds p1.length v).size:=by
  rw[Array.size_setIfInBounds,← da,e]
  simp
 rw[Array.eraseIdxIfInBounds,dif_pos h2,Array.toList_eraseIdx,Array.toList_setIfInBounds,e,List.set_append_right _ _ (cX _),Nat.sub_self,cN,List.eraseIdx_append_of_length_le (by omega)]
 rw[show p1.length+1-p1.length=1 by omega]
 rfl
variable {prog:Program} {w:World} {A:Around} {E:Value→Shared→Prop} {s:Shared} {kd:SortKind} {P:Keyed→Prop} {a0:Array Keyed}
variable (L:∀(z:SortSt) (x y:Keyed) (Q:Option Bool→SortSt→Prop),kindOf z=kd→P x→P y→Q (some (κ.blt (ky κ x) (ky κ y))) z→wpS (model prog w) A E s (lt' x y) Q z)
include L
theorem zBN{i lo:Nat}{z:SortSt}{Q:Bool→SortSt→Prop}(pa:∀ p∈a0,P p)(r:RS κ a0 kd lo z)(hlo:lo≤a0.size)(hi:i+1<(pendingOf z).size)
  (h:∀ z',RS κ a0 kd lo z'→(pendingOf z').size+1=(pendingOf z).size→(∀ k,lo≤k→(arrOf z')[k]?=(arrOf z)[k]?)→Q true z'):wpS (model prog w) A E s (mergeAt' i) Q z:=by
 obtain⟨p1,x,y,p2,e,hl⟩:=zJd (p:=(pendingOf z).toList) (i:=i) (by simpa using hi)
 have rn:=r.rn
 rw[e] at rn
 obtain⟨mid,r1,q1,q2,q3,q4,q5,q6,q7⟩:=Runs.app.mp rn
 obtain⟨sa,na,pw⟩:=x
 obtain⟨sb,nb,pw2⟩:=y
 dsimp only at q1 q2 q3 q4 q5 q6 q7
 subst q1 q4
 have l7:=q7.len
 have sz:=r.pm.size_eq
 have e1:(pendingOf z)[i]?=some (sa,na,pw):=by
  rw[← eR,e,dY (by omega),hl,Nat.sub_self]
  rfl
 have e2:(pendingOf z)[i+1]?=some (sa+na,nb,pw2):=by
  rw[← eR,e,dY (by omega),hl,show i+1-i=1 by omega]
  rfl
 refine zHv L r.kd r.fl (fun p hp=>pa p (r.pm.mem_iff.mp hp)) e1 e2 rfl q2 q5 (by omega) q3 q6 fun z' k1 k2 k3 mg=>h z' ⟨mg.pm.trans r.pm,k1,k2,?_⟩ ?_ fun k hk=>mg.fr k (.inr (by omega))
 ·rw[k3,zIj e hl]
  refine Runs.app.mpr ⟨sa,r1.congr fun k u0 k2=>mg.fr k (.inl k2),rfl,by show 1≤na+nb;omega,?_,?_⟩
  ·show Seg κ (arrOf z') sa (sa+(na+nb))
   rw[← Nat.add_assoc]
   exact mg.sg
  ·show Runs κ (arrOf z') (sa+(na+nb)) p2 lo
   rw[← Nat.add_assoc]
   exact q7.congr fun k k1 u0=>mg.fr k (.inr k1)
 ·have:=congrArg List.length (zIj (v:=(sa,na+nb,pw)) e hl)
  rw[← k3,da] at this
  rw[this,← da (xs:=pendingOf z),e]
  simp
  omega
end
section
variable {κ:KeyKind} {prog:Program} {w:World} {A:Around} {E:Value→Shared→Prop} {s:Shared} {kd:SortKind} {P:Keyed→Prop} {a0:Array Keyed}
theorem zMk{c:Prop}[Decidable c]{a b m:Nat}(ha:a+1<m)(hb:b+1<m):(if c then a else b)+1<m:=by
 split
 ·exact ha
 ·exact hb
theorem RS.push{lo n pw:Nat}{z:SortSt}(r:RS κ a0 kd lo z)(u:Seg κ (arrOf z) lo (lo+n))(hn:1≤n):RS κ a0 kd (lo+n) (setPending z ((pendingOf z).push (lo,n,pw))):=by
 refine⟨r.pm,r.kd,r.fl,?_⟩
 show Runs κ (arrOf z) 0 ((pendingOf z).push (lo,n,pw)).toList (lo+n)
 rw[dG]
 exact Runs.app.mpr ⟨lo,r.rn,rfl,hn,u,rfl⟩
theorem RS.repow{lo i:Nat}{z:SortSt}{f:Nat×Nat×Nat→Nat×Nat×Nat}(r:RS κ a0 kd lo z)(hf:∀ t,(f t).1=t.1∧(f t).2.1=t.2.1):RS κ a0 kd lo (setPending z ((pendingOf z).modify i f)):=by
 refine⟨r.pm,r.kd,r.fl,?_⟩
 show Runs κ (arrOf z) 0 ((pendingOf z).modify i f).toList lo
 rw[Array.toList_modify]
 exact r.rn.power hf
variable (L:∀(z:SortSt) (x y:Keyed) (Q:Option Bool→SortSt→Prop),kindOf z=kd→P x→P y→Q (some (κ.blt (ky κ x) (ky κ y))) z→wpS (model prog w) A E s (lt' x y) Q z)
include L
theorem zKw{z:SortSt}{Q:Unit→SortSt→Prop}(pa:∀ p∈a0,P p)(pm:(arrOf z).Perm a0)(hk:kindOf z=kd)(hf:failedOf z=none)(hp:pendingOf z=#[])(h1:1≤a0.size)
  (h:∀ z',(arrOf z').Perm a0→failedOf z'=none→SortedToK κ (arrOf z') a0.size→Q () z'):wpS (model prog w) A E s sortRuns' Q z:=by
 have sz:=pm.size_eq
 rw[sortRuns'_eq]
 refine cZ (wpS_get ?_)
 dsimp only
 rw[sz]
 generalize minRun' a0.size a0.size 0=mr
 refine cZ (fw (eh (I:=fun x c z'=>∃ lo,c=(none,lo)∧lo≤a0.size∧(x≤lo∨lo=a0.size)∧RS κ a0 kd lo z') (Q:=fun c z'=>c=(none,a0.size)∧RS κ a0 kd a0.size z') (fun x c z1 x1 x2 ⟨lo,e1,l1,l2,r1⟩=>?stp) (fun c z1 ⟨lo,e1,l1,l2,r1⟩=>?fin) ⟨0,rfl,by omega,.inl (cX _),pm,hk,hf,by rw[hp];rfl⟩) fun c z1 ⟨e1,r1⟩=>?pst)
 case fin =>
  obtain rfl:lo=a0.size:=by omega
  exact⟨e1,r1⟩
 case stp =>
  subst e1
  dsimp only
  by_cases g:lo≥a0.size
  ·rw[if_pos g]
   obtain rfl:lo=a0.size:=by omega
   exact d9 ⟨rfl,r1⟩
  rw[if_neg g]
  have s1:=r1.pm.size_eq
  refine cZ (zGm L r1.kd (fun p q=>pa p (r1.pm.mem_iff.mp q)) (by omega) (by omega) fun n z2 n1 n2 a2 u2=>?_)
  have r2:=r1.ahd a2
  have s2:=r2.pm.size_eq
  dsimp only
  by_cases gn:n<mr
  ·rw[if_pos gn]
   refine cZ (wpS_lift (fO ⟨rfl,?_⟩))
   have fn:n≤min (a0.size-lo) mr:=by omega
   have fs:lo+min (a0.size-lo) mr≤a0.size:=by omega
   generalize min (a0.size-lo) mr=fc at fn fs
   refine cZ (zHw L r2.kd (fun p q=>pa p (r2.pm.mem_iff.mp q)) n1 fn (by omega) u2 fun z3 a3 u3=>?_)
   have r3:=r2.ahd a3
   rw[if_neg (by simp)]
   refine cZ (wpS_get ?_)
   cases hb:(pendingOf z3).back? with
   | none=>exact cZ (gO (d9 ⟨lo+fc,rfl,by omega,by omega,r3.push u3 (by omega)⟩))
   | some t =>
    obtain⟨s1,n1,o1⟩:=t
    dsimp only
    refine cZ (fw (eh (I:=fun u0 c z'=>c=(none,())∧RS κ a0 kd lo z'∧Seg κ (arrOf z') lo (lo+fc)) (Q:=fun c z'=>c=(none,())∧RS κ a0 kd lo z'∧Seg κ (arrOf z') lo (lo+fc)) (fun x c z4 x1 x2 ⟨e4,r4,u4⟩=>?ms) (fun c z4 q=>q) ⟨rfl,r3,u3⟩) fun c z4 ⟨e4,r4,u4⟩=>?mp)
    case ms =>
     subst e4
     refine cZ (wpS_get ?_)
     by_cases g2:(pendingOf z4).size>1
     ·rw[if_pos g2]
      rw[getElem?_pos (pendingOf z4) ((pendingOf z4).size-2) (by omega)]
      dsimp only
      split
      ·exact d9 ⟨rfl,r4,u4⟩
      ·refine cZ (zBN L pa r4 (by omega) (by omega) fun z5 r5 u0 f5=>?_)
       rw[if_neg (by simp)]
       exact d9 ⟨rfl,r5,u4.congr fun k k1 u0=>f5 k k1⟩
     ·rw[if_neg g2]
      exact d9 ⟨rfl,r4,u4⟩
    case mp =>
     subst e4
     dsimp only
     refine cZ (gO (cZ (gO (d9 ⟨lo+fc,rfl,by omega,by omega,?_⟩))))
     refine RS.push (RS.repow r4 ?_) u4 (by omega)
     exact fun t=>⟨rfl,rfl⟩
  ·rw[if_neg gn]
   refine cZ (wpS_get ?_)
   cases hb:(pendingOf z2).back? with
   | none=>exact cZ (gO (d9 ⟨lo+n,rfl,by omega,by omega,r2.push u2 (by omega)⟩))
   | some t =>
    obtain⟨s1,n1,o1⟩:=t
    dsimp only
    refine cZ (fw (eh (I:=fun u0 c z'=>c=(none,())∧RS κ a0 kd lo z'∧Seg κ (arrOf z') lo (lo+n)) (Q:=fun c z'=>c=(none,())∧RS κ a0 kd lo z'∧Seg κ (arrOf z') lo (lo+n)) (fun x c z4 x1 x2 ⟨e4,r4,u4⟩=>?ms) (fun c z4 q=>q) ⟨rfl,r2,u2⟩) fun c z4 ⟨e4,r4,u4⟩=>?mp)
    case ms =>
     subst e4
     refine cZ (wpS_get ?_)
     by_cases g2:(pendingOf z4).size>1
     ·rw[if_pos g2]
      rw[getElem?_pos (pendingOf z4) ((pendingOf z4).size-2) (by omega)]
      dsimp only
      split
      ·exact d9 ⟨rfl,r4,u4⟩
      ·refine cZ (zBN L pa r4 (by omega) (by omega) fun z5 r5 u0 f5=>?_)
       rw[if_neg (by simp)]
       exact d9 ⟨rfl,r5,u4.congr fun k k1 u0=>f5 k k1⟩
     ·rw[if_neg g2]
      exact d9 ⟨rfl,r4,u4⟩
    case mp =>
     subst e4
     dsimp only
     refine cZ (gO (cZ (gO (d9 ⟨lo+n,rfl,by omega,by omega,?_⟩))))
     refine RS.push (RS.repow r4 ?_) u4 (by omega)
     exact fun t=>⟨rfl,rfl⟩
 case pst =>
  subst e1
  dsimp only
  have ln:=r1.rn.len
  rw[da] at ln
  refine cZ (fw (eh (I:=fun x c z'=>c=(none,())∧RS κ a0 kd a0.size z'∧((pendingOf z').size+x≤a0.size∨(pendingOf z').size≤1)) (Q:=fun c z'=>c=(none,())∧RS κ a0 kd a0.size z'∧(pendingOf z').size≤1) (fun x c z4 x1 x2 ⟨e4,r4,o4⟩=>?ls) (fun c z4 ⟨e4,r4,o4⟩=>⟨e4,r4,by omega⟩) ⟨rfl,r1,.inl (by omega)⟩) fun c z4 ⟨e4,r4,o4⟩=>?lp)
  case ls =>
   subst e4
   refine cZ (wpS_get ?_)
   by_cases g2:(pendingOf z4).size≤1
   ·rw[if_pos g2]
    exact d9 ⟨rfl,r4,g2⟩
   ·rw[if_neg g2]
    refine cZ (zBN L pa r4 (cX _) (zMk (by omega) (by omega)) fun z5 r5 q5 f5=>?_)
    rw[if_neg (by simp)]
    exact d9 ⟨rfl,r5,by omega⟩
  case lp =>
   subst e4
   refine d9 (h z4 r4.pm r4.fl ?_)
   have rn:=r4.rn
   have lp:(pendingOf z4).toList.length≤1:=by simpa using o4
   match hpp:(pendingOf z4).toList,lp with
   | [],_ =>
    rw[hpp] at rn
    have:0=a0.size:=rn
    omega
   | [t],_ =>
    rw[hpp] at rn
    obtain⟨t1,t2,t3,t4⟩:=rn
    have:0+t.2.1=a0.size:=t4
    rw[this] at t3
    exact fun i j ij ja=>t3 i j (fh _) ij ja
end
end HM
namespace HS
noncomputable def ltI:List Int→List Int→Bool
 | [],[]=>false
 | [],_::_=>true
 | _::_,[]=>false
 | a::r,b::t=>if a=b then ltI r t else decide (a<b)
theorem zIk:∀ a,ltI a a=false
 | []=>rfl
 | x::r=>by show(if x=x then ltI r r else _)=false;rw[if_pos rfl];exact zIk r
theorem zFh:∀ a b c,ltI a b=true→ltI b c=true→ltI a c=true
 | [],[],_,h,_=>by cases h
 | [],_::_,[],_,h=>by cases h
 | [],_::_,_::_,_,_=>rfl
 | _::_,[],_,h,_=>by cases h
 | _::_,_::_,[],_,h=>by cases h
 | x::a,y::b,z::c,h,h'=>by
  simp only[ltI] at h h' ⊢
  split at h<;>split at h'
  ·rename_i e1 e2;rw[if_pos (e1.trans e2)];exact zFh a b c h h'
  ·rename_i e1 e2;subst e1;rw[if_neg e2];exact h'
  ·rename_i e1 e2;subst e2;rw[if_neg e1];exact h
  ·simp only[decide_eq_true_eq] at h h'
   rw[if_neg (by omega)];simp;omega
theorem zIl:∀ a b c,ltI a c=true→ltI a b=true∨ltI b c=true
 | [],[],_,h=>.inr h
 | [],_::_,_,_=>.inl rfl
 | _::_,_,[],h=>by cases h
 | _::_,[],_::_,_=>.inr rfl
 | x::a,y::b,z::c,h=>by
  simp only[ltI] at h ⊢
  split at h
  ·rename_i e1;subst e1
   by_cases e2:x=y
   ·subst e2;rw[if_pos rfl,if_pos rfl];exact zIl a b c h
   ·rw[if_neg e2,if_neg (Ne.symm e2)];simp;omega
  ·rename_i e1
   simp only[decide_eq_true_eq] at h
   by_cases e2:x=y
   ·subst e2;right;rw[if_neg e1];simp;omega
   ·by_cases e3:y=z
    ·subst e3;left;rw[if_neg e2];simp;omega
    ·rw[if_neg e2,if_neg e3];simp;omega
theorem zIm:∀ a b,ltI a b=false→ltI b a=false→a=b
 | [],[],_,_=>rfl
 | [],_::_,h,_=>by cases h
 | _::_,[],_,h=>by cases h
 | x::a,y::b,h,h'=>by
  simp only[ltI] at h h'
  by_cases e:x=y
  ·subst e;rw[if_pos rfl] at h h';rw[zIm a b h h']
  ·rw[if_neg e] at h;rw[if_neg (Ne.symm e)] at h'
   simp only[decide_eq_false_iff_not] at h h';omega
noncomputable def tAt(h:Heap):Value→Option (List Int)
 | .ref a=>match h.get? a with
  | some o=>match o.data with
   | .seq its _=>some (its.toList.map numOf)
   | _=>none
  | none=>none
 | _=>none
noncomputable abbrev zAg(h:Heap):KeyKind where
 α:=List Int
 blt:=ltI
 irrefl:=zIk
 trans:=zFh
 negTrans:=zIl
 total:=zIm
 keyOf:=tAt h
 dflt:=[]
structure TI (h:Heap) (v:Value) (ns:List Int):Prop where
 ex:∃ a o its n,v=.ref a∧h.get? a=some o∧o.cls=.type "tuple"∧o.data=.seq its n∧IntsAre its.toList ns
 ne:ns≠[]
theorem TI.items{h:Heap}{v:Value}{ns:List Int}(t:TI h v ns):tAt h v=some ns:=by
 obtain⟨a,o,its,n,rfl,e,u0,d,i⟩:=t.ex
 unfold tAt
 simp only[e,d]
 rw[i.nums]
theorem zF0(b:Bool)(x y:Value):keyLt' (tuples' b) x y=(do
  let xs ← Builtin.List.listItems x;let ys ← Builtin.List.listItems y
  for ((p,q),i) in (xs.toList.zip ys.toList).zipIdx do
   if !(← eqBool p q) then return ← oneLt' (b&&i==0) p q
  return decide (xs.size<ys.size)):=rfl
section
variable {prog:Program} {w:World} {A:Around} {E:Value→Shared→Prop} {s:Shared}
theorem zHx{b:Bool}{i j:Int}{t u:Tok}{Q:Bool→Shared→Prop}(h:Q (decide (i<j)) s):wpAny (model prog w) A (oneLt' b (.int i t) (.int j u)) Q E s:=by
 cases b with
 | true=>exact oneLt_int h
 | false =>
  rw[oneLt'_eq]
  simp only[cM,if_false]
  refine cL (m:=richCompare .Lt (.int i t) (.int j u)) (wpAny_lt_int ?_)
  exact wpAny_truthy_bool h
noncomputable def zDh:List Int→List Int→Option Bool
 | a::r,b::t=>if a=b then zDh r t else some (decide (a<b))
 | _,_=>none
theorem zGn:∀ ns ms,ltI ns ms=(zDh ns ms).getD (decide (ns.length<ms.length))
 | [],[]=>rfl
 | [],_::_=>by simp[ltI,zDh]
 | _::_,[]=>by simp[ltI,zDh]
 | a::r,b::t=>by
  simp only[ltI,zDh]
  split
  ·rw[zGn r t];simp
  ·rfl
theorem zIn{b:Bool}{Q:Option Bool×Unit→Shared→Prop}:∀(ps qs:List Value) (ns ms:List Int) (k:Nat),IntsAre ps ns→IntsAre qs ms→Q (zDh ns ms,()) s →
  wpAny (model prog w) A (forIn ((ps.zip qs).zipIdx k) ((none,()):Option Bool×Unit) fun x r=>do
   let e ← eqBool x.1.1 x.1.2
   if (!e)=true then do
    let c ← oneLt' (b&&x.2==0) x.1.1 x.1.2
    pure (ForInStep.done (some c,()))
   else pure (ForInStep.yield (none,()))) Q E s
 | _,_,_,_,k,.nil,_,h=>by
  simp only[List.zip_nil_left,List.zipIdx_nil,List.forIn_nil]
  exact cT h
 | _,_,_,_,k,.cons a t i,.nil,h=>by
  simp only[List.zip_nil_right,List.zipIdx_nil,List.forIn_nil]
  exact cT h
 | _,_,_,_,k,.cons a t i,.cons c u j,h=>by
  simp only[gp,List.zipIdx_cons,List.forIn_cons]
  refine cL (cL (wpAny_eqBool_int ?_))
  simp only[zDh] at h
  by_cases e:a=c
  ·subst e
   rw[if_pos rfl] at h
   rw[if_neg (by simp)]
   refine cT ?_
   exact zIn _ _ _ _ (k+1) i j h
  ·rw[if_neg e] at h
   rw[if_pos (by simpa using e)]
   exact cL (zHx (cT (cT h)))
theorem zJe{b:Bool}{x y:Value}{ns ms:List Int}{Q:Bool→Shared→Prop}(hx:TI s.heap x ns)(hy:TI s.heap y ms)(h:Q (ltI ns ms) s):wpAny (model prog w) A (keyLt' (tuples' b) x y) Q E s:=by
 obtain⟨a,o,its,n,rfl,e,u0,d,i⟩:=hx.ex
 obtain⟨a',o',its',n',rfl,e',u0,d',i'⟩:=hy.ex
 rw[zF0]
 refine cL (listItems_at e d (cL (listItems_at e' d' (cL ?_))))
 refine zIn (Q:=_) its.toList its'.toList ns ms 0 i i' ?_
 rw[zGn] at h
 cases q:zDh ns ms with
 | some c =>
  rw[q] at h
  exact cT h
 | none =>
  rw[q] at h
  refine cT ?_
  have l1:=i.length
  have l2:=i'.length
  simp only[da] at l1 l2
  rw[l1,l2]
  exact h
theorem zJf{v:Value}{ns:List Int}{Q:Option Value→Shared→Prop}(hv:TI s.heap v ns)(h:∀ i t,Q (some (.int i t)) s):wpAny (model prog w) A (firstOfTuple' v) Q E s:=by
 obtain⟨a,o,its,n,rfl,e,c,d,i⟩:=hv.ex
 show wpAny _ _ (do
  if (← typeOf (.ref a)) != .type "tuple" then return none
  return (← Builtin.List.listItems (.ref a))[0]?) _ _ _
 refine cL (fZ (T:="tuple") ⟨o,e,c⟩ ?_)
 rw[if_neg (by decide)]
 refine cL (listItems_at e d (cT ?_))
 obtain⟨l⟩:=its
 cases i with
 | nil=>exact absurd rfl hv.ne
 | cons k t r=>exact h k t
theorem zEZ{Q:List (Option Value)→Shared→Prop}:∀(vs:List Value),(∀ v∈vs,∃ ns,TI s.heap v ns)→(∀ fs:List (Option Value),fs.length=vs.length→(∀ f∈fs,∃ i t,f=some (.int i t))→Q fs s)→wpAny (model prog w) A (vs.mapM firstOfTuple') Q E s
 | [],_,h=>by
  simp only[List.mapM_nil]
  exact cT (h [] rfl (by simp))
 | v::r,hv,h=>by
  simp only[List.mapM_cons]
  obtain⟨ns,t⟩:=hv v (by simp)
  refine cL (zJf t fun i t'=>cL (zEZ r (fun u hu=>hv u (by simp[hu])) fun fs hl hf=>cT (h _ (by simp[hl]) fun f hm=>?_)))
  rcases dC.mp hm with e | e
  ·exact⟨i,t',e⟩
  ·exact hf f e
theorem zBX:∀ {vs:List Value},(∀ v∈vs,∃ i t,v=.int i t)→vs.mapM typeOf=pure (vs.map fun u0=>Value.type "int")
 | [],_=>by simp
 | v::r,h=>by
  obtain⟨i,t,rfl⟩:=h v (by simp)
  rw[List.mapM_cons,zBX fun u hu=>h u (by simp[hu])]
  show(pure (Value.type "int")>>=fun b=>pure _>>=fun bs=>pure (b::bs))=_
  simp
theorem zAh:∀(fs:List (Option Value)),(∀ f∈fs,∃ i t,f=some (.int i t))→(∀ v∈fs.filterMap id,∃ i t,v=Value.int i t)∧(fs.filterMap id).length=fs.length
 | [],_=>⟨by simp,rfl⟩
 | f::r,h=>by
  obtain⟨i,t,rfl⟩:=h f (by simp)
  obtain⟨h1,h2⟩:=zAh r fun g hg=>h g (by simp[hg])
  simp only[ft,id]
  exact⟨fun v hv=>by
   rcases dC.mp hv with e | e
   ·exact⟨i,t,e⟩
   ·exact h1 v e,by simp[h2]⟩
theorem zGo{vs:List Value}{Q:SortKind→Shared→Prop}(h2:1≤vs.length)(hv:∀ v∈vs,∃ ns,TI s.heap v ns)(h:Q (tuples' true) s):wpAny (model prog w) A (keyKind' vs.toArray) Q E s:=by
 rw[keyKind'_eq]
 rw[List.mapM_toArray]
 refine cL ?_
 rw[map_eq_pure_bind]
 refine cL (zEZ vs hv fun fs hl hf=>cT ?_)
 rw[if_pos (by
  simp only[List.all_toArray,List.all_eq_true]
  intro f hm
  obtain⟨i,t,rfl⟩:=hf f hm
  rfl)]
 refine cL (fO (cL ?_))
 obtain⟨q1,q2⟩:=zAh fs hf
 rw[oneTypeOnly'_eq]
 have e0:fs.toArray.filterMap id=(fs.filterMap id).toArray:=by simp
 rw[e0,List.mapM_toArray,zBX q1]
 simp only[map_pure,pure_bind]
 cases q:fs.filterMap id with
 | nil=>rw[q] at q2;simp at q2;omega
 | cons u r =>
  have hall:((dh (fun u0=>Value.type "int") (u::r)).toArray.all fun x=>x==Value.type "int")=true:=by
   simp only[List.all_toArray,List.all_map,List.all_eq_true]
   intro u0 u0;rfl
  have h0:(dh (fun u0=>Value.type "int") (u::r)).toArray[0]?=some (Value.type "int"):=by simp
  rw[h0]
  simp only[hall,if_true]
  refine cT (cT ?_)
  exact h
theorem zB3{a:Addr}{vs:List Value}{n:Nat}{P:Fin→Shared→Prop}(ho:s.heap.get? a=some (seqObj "list" vs.toArray n))(hv:∀ v∈vs,(∃ ns,TI s.heap v ns)∧v≠.ref a)(h64:vs.length<10000)
  (h:∀ out:Array Value,out.toList.Perm vs→(∀ i j,i≤j→j<out.size→ltI ((tAt s.heap (out.getD j .none)).getD []) ((tAt s.heap (out.getD i .none)).getD [])=false)→P (.done (.ret .none)) { s with heap:=sortedHeap s.heap a vs out }) :
  wpAny (model prog w) A (Builtin.«list.sort» ⟨[.ref a],[]⟩) P E s:=by
 rw[list_sort_plain]
 have ha:a<s.heap.objs.size:=db ho
 refine cL (listItems_at ho rfl (cL (listUpdate_at ho rfl ?_)))
 obtain⟨e1,ho1⟩:∃ e1,(s.heap.update a (Obj.mapSeq fun u0=>#[])).get? a=some (seqObj "list" #[] e1):=⟨_,get?_update_seq ho (fun u0=>#[])⟩
 refine cL (seqEpoch_at ho1 rfl (cL (wpAny_newTuple (cL (wpAny_newList (eu ?_))))))
 have up:∀ c o,c≠a→s.heap.get? c=some o→(((s.heap.update a (Obj.mapSeq fun u0=>#[])).push (seqObj "tuple" vs.toArray 0)).push (seqObj "list" #[] 0)).get? c=some o:=fun c o hc e=>cQ _ (cQ _ (by rw[gM _ _ _ _ hc];exact e))
 have ho6:(((s.heap.update a (Obj.mapSeq fun u0=>#[])).push (seqObj "tuple" vs.toArray 0)).push (seqObj "list" #[] 0)).get? a=some (seqObj "list" #[] e1):=cQ _ (cQ _ ho1)
 show wpAny (model prog w) A _ P E { s with heap:=(((s.heap.update a (Obj.mapSeq fun u0=>#[])).push (seqObj "tuple" vs.toArray 0)).push (seqObj "list" #[] 0)) }
 generalize hg:((s.heap.update a (Obj.mapSeq fun u0=>#[])).push (seqObj "tuple" vs.toArray 0)).push (seqObj "list" #[] 0)=g at up ho6 ⊢
 have hv':∀ v∈vs,∃ ns,TI g v ns∧tAt s.heap v=some ns:=fun v hm=>by
  obtain⟨⟨ns,t⟩,na⟩:=hv v hm
  have t':=t
  obtain⟨⟨b,o,its,k,rfl,q1,q2,q3,q4⟩,ne⟩:=t
  exact⟨ns,⟨⟨b,o,its,k,rfl,up b o (fun z=>na (by rw[z])) q1,q2,q3,q4⟩,ne⟩,t'.items⟩
 dsimp only
 have fin:∀ z:SortSt,(arrOf z).Perm (pairsOf vs)→SortedToK (zAg g) (arrOf z) (pairsOf vs).size→P (.done (.ret .none)) { s with heap:=g.update a (Obj.mapSeq fun u0=>(arrOf z).map (·.2)) }:=by
  intro z pm st
  have pl:(arrOf z).toList.Perm (vs.zip vs):=by rw[← pairsOf_toList];exact Array.perm_iff_toList_perm.mp pm
  have mem:∀ p∈(arrOf z).toList,p.1=p.2∧p.1∈vs:=fun p hp=>mem_zip_self (pl.mem_iff.mp hp)
  have:=h ((arrOf z).map (·.2)) (by
   have q:=pl.map (·.2)
   rw[Array.toList_map]
   refine q.trans (.of_eq ?_)
   rw[List.map_snd_zip (cX _)]) fun i j ij hj=>by
    have hj':j<(arrOf z).size:=by simpa using hj
    have hi':i<(arrOf z).size:=by omega
    have q:=st i j ij (by rw[← pm.size_eq];exact hj')
    have gk:∀ k,(hk:k<(arrOf z).size)→KK (zAg g) (arrOf z) k=(tAt s.heap (((arrOf z).map (·.2)).getD k .none)).getD []:=fun k hk=>by
     obtain⟨m1,m2⟩:=mem _ (show(arrOf z)[k]∈(arrOf z).toList by simp)
     obtain⟨ns,t1,t2⟩:=hv' _ m2
     have e1:KK (zAg g) (arrOf z) k=ns:=by
      unfold KK
      rw[getElem?_pos _ k hk]
      show(tAt g (arrOf z)[k].1).getD []=ns
      rw[t1.items];rfl
     have e2:((arrOf z).map (·.2)).getD k .none=(arrOf z)[k].1:=by
      rw[m1];simp[gh,hk]
     rw[e1,e2,t2];rfl
    rw[← gk i hi',← gk j hj']
    exact q
  unfold sortedHeap at this
  rw[hg] at this
  exact this
 have hsz:vs.toArray.size=vs.length:=by simp
 by_cases h2:vs.toArray.size<2
 ·rw[if_pos h2,if_pos h2]
  refine cL (cT ?_)
  rw[StateT.run_pure]
  refine cL (cT (cL (seqEpoch_at ho6 rfl (cL (listUpdate_at ho6 rfl ?_ (hsz2:=by rw[Array.size_map];show(pairsOf vs).size≤_;rw[pairsOf_size,sizeLine_eq];omega))))))
  simp only[bne_self_eq_false,cM,if_false]
  refine cT (fin (SortSt.mk' general' (vs.toArray.zip vs.toArray) #[] 7 none) (Array.Perm.refl _) fun i j hij hj=>?_)
  obtain rfl:i=j:=by rw[pairsOf_size] at hj;omega
  exact KeyOrd.kle_refl _
 ·rw[if_neg h2,if_neg h2]
  refine cL (zGo (s:={ s with heap:=g }) (by omega) (fun v hm=>by obtain⟨ns,t,u0⟩:=hv' v hm;exact⟨ns,t⟩) ?_)
  have L:∀(z:SortSt) (x y:Keyed) (Q:Option Bool→SortSt→Prop),kindOf z=tuples' true→x∈pairsOf vs→y∈pairsOf vs→Q (some ((zAg g).blt (HM.ky (zAg g) x) (HM.ky (zAg g) y))) z→wpS (model prog w) A E { s with heap:=g } (lt' x y) Q z:=by
   intro z x y Q b hi hj q
   have key:∀ p∈pairsOf vs,∃ ns,TI g p.1 ns∧HM.ky (zAg g) p=ns:=fun p hk=>by
    have hm:p∈vs.zip vs:=by rw[← pairsOf_toList];simpa using hk
    obtain⟨m1,m2⟩:=mem_zip_self hm
    obtain⟨ns,t,u0⟩:=hv' _ m2
    refine⟨ns,t,?_⟩
    unfold HM.ky
    show(tAt g p.1).getD []=ns
    rw[t.items];rfl
   obtain⟨ns,x2,x3⟩:=key x hi
   obtain⟨ms,y2,y3⟩:=key y hj
   rw[x3,y3] at q
   rw[lt'_eq]
   refine cZ (wpS_get ?_)
   rw[b]
   exact cZ (wpS_lift (g7 (zJe (s:={ s with heap:=g }) x2 y2 ⟨rfl,d9 q⟩)))
  refine cL (eN (HM.zKw (a0:=pairsOf vs) L (z:=SortSt.mk' (tuples' true) (vs.toArray.zip vs.toArray) #[] 7 none) (Q:=fun u0 z'=>(arrOf z').Perm (pairsOf vs)∧failedOf z'=none∧SortedToK (zAg g) (arrOf z') (pairsOf vs).size)
   (fun p hp=>hp) (Array.Perm.refl _) rfl rfl rfl (by rw[pairsOf_size];omega) fun z' a1 a2 a3=>⟨a1,a2,a3⟩) ?_ fun u0 u0 e=>e)
  rintro⟨⟨⟩,z'⟩ s' ⟨e',pm,hf,st⟩
  subst e'
  dsimp only
  refine cL (seqEpoch_at ho6 rfl (cL (listUpdate_at ho6 rfl ?_ (hsz2:=by refine eD (Nat.le_of_eq ((Array.size_map ..).trans (pm.size_eq.trans (pairsOf_size _)))) ?_;rw[sizeLine_eq];omega))))
  rw[hf]
  simp only[bne_self_eq_false,cM,if_false]
  exact cT (fin z' pm st)
end
end HS
namespace L3
open L2 HS
section
variable {X:Cx} {e:Expr} {pos p:Pos} {tl:TL2}
noncomputable def tI(ns:List Int):D:=.tup (ns.map D.int)
end
end L3
namespace HT
section
variable {prog:Program} {w:World} {A:Around} {E:Value→Shared→Prop} {s:Shared}
end
end HT
namespace L3
open L2
section
variable {X:Cx} {a b c e o:Expr} {es:List Expr} {pos p:Pos} {ta tb te:zm}
theorem zJg:yy X (.type "int") (fun xs H Q=>∃ b,xs=[.bl b]∧Q (.int (if b then 1 else 0)) H):=by
 intro pins s σ H xs us Q I r h
 obtain⟨b,rfl,q⟩:=h
 obtain⟨u,rfl,rx⟩:=vals1 r
 obtain rfl:u=Value.bool b:=rx
 exact call_int_bool ⟨.int _,H,I.tok _,⟨_,rfl⟩,q⟩
noncomputable def zBk:Sp2:=fun ds G R=>match ds with | [.bl b]=>R (.int (if b then 1 else 0)) G | _=>False
theorem zKx{K:PySem.W.Frag}:zHY K (fun xs H Q=>∃ b,xs=[.bl b]∧Q (.int (if b then 1 else 0)) H) zBk:=by
 intro ds G R vs H Q h r d k
 unfold zBk at h
 split at h
 ·rename_i b
  obtain⟨v,rfl,d2⟩:=zCk d
  unfold zO at d2
  subst d2
  exact⟨b,rfl,k _ G h _ H (.refl H) r (by unfold zO;rfl)⟩
 ·exact h.elim
theorem zKy{t:wH}(hg:Gl X "int")(hm:X.mg "int"=none)(ha:A2 X [e] t)(he:starEach [e] X.env=(false,eval e X.env)::starEach [] X.env:=by rfl)(hpl:(backTo pos (starEach [] X.env)).any (·.1)=false:=by rfl) :
  E2 X (.Call (.Name "int" p) [e] [] pos) (zL zBk t):=zGX zJg zKx hg hm (by decide +kernel) ha (by decide) (by decide) he hpl
end
section
variable {X:Cx} {a b c e o we:Expr} {es:List Expr} {pos p:Pos} {ta tb te tw:zm}
end
end L3
namespace HI
noncomputable def yh(xs:Array Nat):Prop:=xs.toList.Pairwise (·<·)
theorem yh.lt{xs:Array Nat}(h:yh xs){i k:Nat}(ik:i<k)(hk:k<xs.size):xs[i]'(Nat.lt_trans ik hk)<xs[k]:=by
 have:=gG.mp h i k (by simpa using Nat.lt_trans ik hk) (by simpa using hk) ik
 simpa using this
theorem zKz{xs:Array Nat}{j:Nat}(hr:yh xs):∀(fuel lo hi:Nat),hi≤xs.size→lo≤hi→hi-lo≤fuel→(∀ i,(q:i<xs.size)→i<lo→xs[i]<j)→(∀ i,(q:i<xs.size)→hi≤i→j≤xs[i]) →
  (∀ i,(q:i<xs.size)→i<de.go xs j fuel lo hi→xs[i]<j)∧∀ i,(q:i<xs.size)→de.go xs j fuel lo hi≤i→j≤xs[i]
 | 0,lo,hi,h1,h2,h3,a,b=>by
  unfold de.go
  obtain rfl:lo=hi:=by omega
  exact⟨fun i q e=>a i q e,fun i q e=>b i q e⟩
 | fuel+1,lo,hi,h1,h2,h3,a,b=>by
  unfold de.go
  by_cases c:lo<hi
  ·rw[if_pos c]
   dsimp only
   have hm:(lo+hi) / 2<xs.size:=by omega
   have eg:xs.getD ((lo+hi) / 2) j=xs[(lo+hi) / 2]:=by simp[gh,hm]
   rw[eg]
   by_cases d:xs[(lo+hi) / 2]<j
   ·rw[if_pos d]
    refine zKz hr fuel ((lo+hi) / 2+1) hi h1 (by omega) (by omega) (fun i q e=>?_) b
    rcases eL i ((lo+hi) / 2) with z | z
    ·exact Nat.lt_trans (hr.lt z hm) d
    ·obtain rfl:i=(lo+hi) / 2:=by omega
     exact d
   ·rw[if_neg d]
    refine zKz hr fuel lo ((lo+hi) / 2) (by omega) (by omega) (by omega) a (fun i q e=>?_)
    rcases eL ((lo+hi) / 2) i with z | z
    ·exact eD (Nat.not_lt.mp d) (gQ (hr.lt z q))
    ·obtain rfl:i=(lo+hi) / 2:=by omega
     exact Nat.not_lt.mp d
  ·rw[if_neg c]
   obtain rfl:lo=hi:=by omega
   exact⟨fun i q e=>a i q e,fun i q e=>b i q e⟩
theorem zC0{xs:Array Nat}{j:Nat}(hr:yh xs):(∀ i,(q:i<xs.size)→i<de xs j→xs[i]<j)∧∀ i,(q:i<xs.size)→de xs j≤i→j≤xs[i]:=by
 unfold de
 exact zKz hr xs.size 0 xs.size (cX _) (fh _) (by omega) (fun i q e=>absurd e (Nat.not_lt_zero _)) (fun i q e=>absurd q (Nat.not_lt.mpr e))
theorem zD3{xs:Array Nat}{j:Nat}(hr:yh xs)(hn:xs[de xs j]?≠some j):yh (dR xs (de xs j) j):=by
 obtain⟨b1,b2⟩:=zC0 (j:=j) hr
 generalize de xs j=p at *
 unfold yh
 rw[SetTable.toList_insertAt]
 have hd:∀ a∈xs.toList.drop p,j<a:=fun a ha=>by
  obtain⟨i,hi,rfl⟩:=fV.mp ha
  rw[eT,da] at hi
  have hpi:p+i<xs.size:=by omega
  rw[List.getElem_drop,Array.getElem_toList]
  have h1:=b2 (p+i) hpi (by omega)
  rcases gm h1 with e | e
  ·exfalso
   cases i with
   | zero =>
    apply hn
    rw[getElem?_pos xs p (by omega)]
    congr 1
    simpa using e.symm
   | succ i =>
    have hp:p<xs.size:=by omega
    have:=b2 p hp (cX _)
    have l:=hr.lt (i:=p) (k:=p+(i+1)) (by omega) hpi
    omega
  ·exact e
 have ht:∀ a∈xs.toList.take p,a<j:=fun a ha=>by
  obtain⟨i,hi,rfl⟩:=fV.mp ha
  rw[dO,da] at hi
  rw[List.getElem_take,Array.getElem_toList]
  exact b1 i (by omega) (by omega)
 refine List.pairwise_append.mpr ⟨hr.sublist (List.take_sublist _ _),List.pairwise_cons.mpr ⟨hd,hr.sublist (List.drop_sublist _ _)⟩,fun a ha b hb=>?_⟩
 rcases dC.mp hb with e | e
 ·rw[e];exact ht a ha
 ·exact Nat.lt_trans (ht a ha) (hd b e)
theorem zGp{t:SetTable}{j:Nat}(h:t.slot j=.empty∨t.slot j=.dummy):t.place[de t.place j]?≠some j:=fun e=>by
 unfold SetTable.slot at h
 simp only[e,beq_self_eq_true,if_true] at h
 rcases h with h | h<;>cases h
theorem wn{β:Type}(f:Nat→Option β):∀ l:List Nat,((l.filterMap fun j=>(f j).map (j,·)).map (·.1)).Sublist l
 | []=>.slnil
 | a::r=>by
  rw[ft]
  cases f a with
  | none=>exact .cons _ (wn f r)
  | some b=>exact .cons₂ _ (wn f r)
section
variable {prog:Program} {w:World} {A:Around} {E:Value→Shared→Prop} {s:Shared}
end
section
variable {prog:Program} {w:World} {A:Around} {R:Result→Shared→Prop} {I:Addr} {fp wr:List Addr} {G:Array GenState→Array GenState→Prop} {n:Nat} {P:Nat→Value→Prop} {St:Nat→Shared→Prop}
end
noncomputable abbrev wZ(w:World):Bool:=!(w.params.followText "set-order")
noncomputable abbrev zAD(w:World):Obj:={ cls:=.type "set",dict:=none,data:=.set #[] 0 (.fresh 0 0 (wZ w)) }
section
variable {prog:Program} {w:World} {A:Around} {E:Value→Shared→Prop} {s:Shared}
theorem zA0(v:Value){Q1:Value→Shared→Prop}(h:Q1 (.ref s.heap.objs.size) { s with heap:=s.heap.push (zAD w) }) :
  codeAny (model prog w) A (.call (.builtin "set.__new__") ⟨[.type "set",v],[]⟩) (wants Q1 E) s:=by
 refine codeAny_of_tree ?_
 show wpAny _ A.in1 (do checkBuiltinCall "set.__new__" ⟨[.type "set",v],[]⟩;again (.builtin "set.__new__" ⟨[.type "set",v],[]⟩)) _ _ s
 refine cL (eQ (F.newCall_set_1 v) (cT ⟨plainId_quiet F.plain_set_new _,dZ F.entry_set_new ?_⟩))
 rw[Around.under_plainId F.plain_set_new _]
 unfold Builtin.«set.__new__» Builtin.Frozenset.newClass
 have hsub:=sub_set_self
 obtain⟨hp,g,d,tk,os⟩:=s
 dsimp only
 wp_walk
 refine wpAny_askSetting (cT ?_)
 dsimp only
 simp only[newObj]
 exact cL (wpAny_alloc (cT (cT h)))
end
theorem wT:Slot "set_iterator" "__next__" "set_iterator.__next__" :=
 .of (owner:="set_iterator") (n:="__next__") (by rw[typeLookup_type,builtinLookup_eq_fast];kernel_rfl) (by decide +kernel) (by decide +kernel) (by decide +kernel) (by first | exact .inl (by decide +kernel) | exact .inr (by decide +kernel)) (by rw[isSubtype_type];kernel_rfl)
theorem zFi:entryFor table "set_iterator.__next__"=some Builtin.«set_iterator.__next__»:=entryFor_of_tree (by kernel_rfl)
theorem zGq(v:Value):argsOk "set_iterator.__next__" ⟨[v],[]⟩:=by unfold argsOk;kernel_rfl
theorem zC1:entryFor table "set.__iter__"=some Builtin.«frozenset.__iter__»:=entryFor_alias (id':="frozenset.__iter__") (by kernel_rfl) rfl (by decide +kernel) (by kernel_rfl)
theorem zIo{α:Type}:∀(l:List α) (i:Nat) (h:i<l.length),([l[i]]++l.eraseIdx i).Perm l
 | a::r,0,_=>.refl _
 | a::r,i+1,h=>by
  have hi:i<r.length:=by simpa using h
  have q:=zIo r i hi
  show([r[i]]++(a::r.eraseIdx i)).Perm (a::r)
  exact(fK.swap a r[i] _).trans (q.cons a)
theorem zIp{α:Type}(f:Nat→Nat):∀(n k:Nat) (l:List α) (out:Array α),l.length=n→(pickOrder.go f n k l out).toList.Perm (out.toList++l)
 | 0,k,l,out,h=>by
  have:l=[]:=g9.mp h
  subst this
  unfold pickOrder.go
  simp
 | n+1,k,l,out,h=>by
  unfold pickOrder.go
  have hi:f k%l.length<l.length:=Nat.mod_lt _ (by omega)
  rw[fe hi]
  dsimp only
  refine(zIp f n (k+1) _ _ (by rw[List.length_eraseIdx_of_lt hi];omega)).trans ?_
  rw[dG,eA]
  refine fK.append_left _ ?_
  exact zIo l _ hi
theorem zA1{α:Type}(f:Nat→Nat)(xs:Array α):(pickOrder f xs).toList.Perm xs.toList:=by
 unfold pickOrder
 simpa using zIp f xs.size 0 xs.toList #[] (by simp)
section
variable {prog:Program} {w:World} {A:Around} {E:Value→Shared→Prop} {s:Shared}
theorem zBl{Q:Bool→Shared→Prop}(h:Q (w.params.followText "set-order") s):wpAny (model prog w) A setsByText Q E s:=by
 unfold setsByText
 exact cL (wpAny_askSetting (cT h))
noncomputable abbrev zAE(f:Value)(i:Int)(a:Addr)(n:Nat)(ep:Nat):Obj:={ cls:=.type "set_iterator",dict:=none,data:=.fields #[f,rawInt i,.ref a,rawInt n,rawInt ep],slots:=#[] }
structure Sx (h:Heap) (a:Addr) (es:Array (Int×Value)) (ep:Nat) (t:SetTable):Prop where
 ex:∃ o,h.get? a=some o∧o.ExactSet∧o.data=.set es ep t
theorem Sx.keep{h h':Heap}{a:Addr}{es:Array (Int×Value)}{ep:Nat}{t:SetTable}(x:Sx h a es ep t)(k:∀ o,h.get? a=some o→h'.get? a=some o):Sx h' a es ep t:=let ⟨o,e,r⟩:=x.ex;⟨o,k o e,r⟩
noncomputable def Tells(prog:Program)(w:World)(a:Addr)(es:Array (Int×Value))(ep:Nat)(t:SetTable)(sl:Nat→Nat)(xs:List Value):Prop :=
 ∀(A:Around) (E:Value→Shared→Prop) (s:Shared) (i:Nat) (Q:Option (Value×Nat)→Shared→Prop),i≤xs.length→Sx s.heap a es ep t→Q ((xs[i]?).map fun v=>(v,sl (i+1))) s→wpAny (model prog w) A (setNext a (sl i) i ep) Q E s
theorem zBO{a:Addr}{es:Array (Int×Value)}{ep:Nat}{t:SetTable}(hf:t.fits es.size=true)(hb:w.params.followText "set-order"=true):Tells prog w a es ep t (fun u0=>0) ((pickOrder (w.params.setOrder a ep) es).toList.map (·.2)):=by
 intro A E s i Q hi hx h
 obtain⟨o,ho,u0,hd⟩:=hx.ex
 unfold setNext
 refine cL (fq ho hd hf ?_)
 dsimp only
 refine cL (zBl ?_)
 rw[hb]
 simp only[↓reduceIte,bne_self_eq_false,cM]
 refine cL ?_
 unfold setWalk
 refine cL (fq ho hd hf ?_)
 dsimp only
 refine cL (zBl ?_)
 rw[hb]
 simp only[↓reduceIte]
 refine cL (wpAny_askSetting (cT (cT ?_)))
 rw[dJ,Option.map_map,eR] at h
 exact h
theorem below_at{xs:Array Nat}(hr:yh xs){i:Nat}(hi:i≤xs.size):(i<xs.size→de xs (if i=0 then 0 else xs.getD (i-1) 0+1)=i)∧(i=xs.size→xs.size≤de xs (if i=0 then 0 else xs.getD (i-1) 0+1)):=by
 generalize hj:(if i=0 then 0 else xs.getD (i-1) 0+1)=j
 obtain⟨b1,b2⟩:=zC0 (j:=j) hr
 generalize de xs j=p at b1 b2
 have lo:i≤p:=by
  rcases eL p i with q | q
  ·exfalso
   have h1:=b2 p (by omega) (cX _)
   rw[if_neg (by omega)] at hj
   have h0:i-1<xs.size:=by omega
   have e:xs.getD (i-1) 0=xs[i-1]:=by simp[gh,h0]
   rw[e] at hj
   rcases eL p (i-1) with z | z
   ·have:=hr.lt z h0;omega
   ·have e2:p=i-1:=by omega
    subst e2;omega
  ·exact q
 refine⟨fun h=>?_,fun h=>by omega⟩
 rcases eL i p with q | q
 ·exfalso
  have h1:=b1 i h q
  by_cases z:i=0
  ·rw[if_pos z] at hj;omega
  ·rw[if_neg z] at hj
   have h0:i-1<xs.size:=by omega
   have e:xs.getD (i-1) 0=xs[i-1]:=by simp[gh,h0]
   have:=hr.lt (i:=i-1) (k:=i) (by omega) h
   omega
 ·omega
theorem zAi{a:Addr}{es:Array (Int×Value)}{ep:Nat}{t:SetTable}(hf:t.fits es.size=true)(hr:yh t.place)(hb:w.params.followText "set-order"=false)(hl:t.led=true)(hp:(!t.plain&&decide (es.size>1))=false) :
  Tells prog w a es ep t (fun i=>if i=0 then 0 else t.place.getD (i-1) 0+1) (es.toList.map (·.2)):=by
 intro A E s i Q hi hx h
 obtain⟨o,ho,u0,hd⟩:=hx.ex
 have hs:t.place.size=es.size:=by
  simp only[SetTable.fits,fF,beq_iff_eq] at hf
  exact hf.1
 unfold setNext
 refine cL (fq ho hd hf ?_)
 dsimp only
 refine cL (zBl ?_)
 rw[hb]
 simp only[cM,↓reduceIte]
 refine fJ (fun q=>absurd (show(!t.plain&&decide (es.size>1))=true from q) (by rw[hp];decide)) (fun u0=>?_)
 refine cL (fJ (fun q=>absurd q (by rw[hl];simp)) (fun u0=>cT (cT ?_)))
 rw[d7,da] at hi
 obtain⟨b1,b2⟩:=below_at hr (i:=i) (by omega)
 rw[dJ,Option.map_map,eR] at h
 rcases eL i es.size with q | q
 ·rw[b1 (by omega),getElem?_pos es i q,getElem?_pos t.place i (by omega)]
  rw[getElem?_pos es i q] at h
  have e:t.place.getD (i+1-1) 0=t.place[i]'(by omega):=by simp[gh,hs,q]
  have h':Q (some (es[i].2,if i+1=0 then 0 else t.place.getD (i+1-1) 0+1)) s:=h
  rw[if_neg (by omega),e] at h'
  exact h'
 ·have hn:es[de t.place (if i=0 then 0 else t.place.getD (i-1) 0+1)]?=none:=by
   rw[Array.getElem?_eq_none_iff]
   have:=b2 (by omega)
   omega
  have hn2:es[i]?=none:=by rw[Array.getElem?_eq_none_iff];exact q
  rw[hn]
  rw[hn2] at h
  exact h
theorem zC2{a it:Addr}{es:Array (Int×Value)}{ep:Nat}{t:SetTable}{sl:Nat→Nat}{xs:List Value}(T:Tells prog w a es ep t sl xs)(hf:t.fits es.size=true)(hx:xs.length=es.size){i:Nat}(hi:i<es.size)(hit:s.heap.get? it=some (zAE (rawInt (sl i)) i a es.size ep))(hS:Sx s.heap a es ep t)(hne:a≠it){Q:Option Value→Shared→Prop}
  (hQ:∀ h' v,xs[i]?=some v→h'.get? it=some (zAE (rawInt (sl (i+1))) ((i+1:Nat):Int) a es.size ep)→(∀ b o,b≠it→s.heap.get? b=some o→h'.get? b=some o)→Q (some v) { s with heap:=h' }):wpAny (model prog w) A (pyNext (.ref it)) Q E s:=by
 have hT:s.TypeIs (.ref it) "set_iterator":=⟨_,hit,rfl⟩
 obtain⟨o,ho,u0,hd⟩:=hS.ex
 unfold pyNext
 refine cL (g7 (wpAny_callSpecial?_slot (name:=Str.ofString "__next__") hT wT (eY wT hT zFi ?_ (zGq _))))
 unfold Builtin.«set_iterator.__next__»
 refine cL (m:=slotArgs "__next__" 0 _) (cT ?_)
 refine cL (wpAny_fieldsOf hit rfl ?_)
 simp only[rawInt]
 refine cL (wpAny_setEntries_of ho hd hf ?_)
 simp only[bne_self_eq_false,cM,↓reduceIte]
 simp only[Int.toNat_natCast]
 refine cL (T _ _ _ i _ (by omega) hS ?_)
 rw[fe (show i<xs.length by omega)]
 refine cL (wpAny_setField_rec hit (by simp) fun h1 e1 s1=>cL (wpAny_setField_rec e1 (by simp) fun h2 e2 s2=>cT ⟨_,rfl,cT (hQ h2 xs[i] (fe _) ?_ fun b o hb e=>s2.extBut _ _ hb (s1.extBut _ _ hb e))⟩))
 exact e2
theorem zMl{B:Around}{z:Shared}{Q:Fin→Shared→Prop}{E':Value→Shared→Prop}(hh:B.handled=none)(h:∀ h' e,(∀ b o,z.heap.get? b=some o→h'.get? b=some o)→(∃ o,h'.get? e=some o∧o.cls=.type "StopIteration")→E' (.ref e) { z with heap:=h' }) :
  wpAny (model prog w) B (do raiseNew (← newExc (.type "StopIteration") [])) Q E' z:=by
 refine cL ?_
 simp only[newExc,newTuple]
 refine cL (dN (cL (m:=firstArgMember _ _) (eQ (a:=Value.none) (by first | rfl | (simp only[firstArgMember];rfl)) (dN ?_ (by size_fits)))) (by size_fits))
 simp only[raiseNew]
 refine cL (wpAny_handled ?_)
 rw[hh]
 exact cL (cT (wpAny_throw (h _ _ (fun b o e=>cQ _ (cQ _ e)) ⟨_,dc _ rfl,rfl⟩)))
theorem zD4{a it:Addr}{es:Array (Int×Value)}{ep:Nat}{t:SetTable}{sl:Nat→Nat}{xs:List Value}(hh:A.handled=none)(T:Tells prog w a es ep t sl xs)(hf:t.fits es.size=true)(hx:xs.length=es.size)(hit:s.heap.get? it=some (zAE (rawInt (sl es.size)) es.size a es.size ep))(hS:Sx s.heap a es ep t){Q:Option Value→Shared→Prop}
  (hQ:∀ h',(∀ b o,b≠it→s.heap.get? b=some o→h'.get? b=some o)→Q none { s with heap:=h' }):wpAny (model prog w) A (pyNext (.ref it)) Q E s:=by
 have hT:s.TypeIs (.ref it) "set_iterator":=⟨_,hit,rfl⟩
 obtain⟨o,ho,u0,hd⟩:=hS.ex
 unfold pyNext
 refine cL (g7 (wpAny_callSpecial?_slot (name:=Str.ofString "__next__") hT wT (eY wT hT zFi ?_ (zGq _))))
 unfold Builtin.«set_iterator.__next__»
 refine cL (m:=slotArgs "__next__" 0 _) (cT ?_)
 refine cL (wpAny_fieldsOf hit rfl ?_)
 simp only[rawInt]
 refine cL (wpAny_setEntries_of ho hd hf ?_)
 simp only[bne_self_eq_false,cM,↓reduceIte]
 simp only[Int.toNat_natCast]
 refine cL (T _ _ _ es.size _ (by omega) hS ?_)
 rw[List.getElem?_eq_none (show xs.length≤es.size by omega)]
 refine cL (wpAny_setField_rec hit (by simp) fun h1 e1 s1=>?_)
 refine zMl (by simpa using hh) fun h' e kp he=>?_
 obtain⟨oe,q1,q2⟩:=he
 refine cL (wpAny_isInstance (T:="StopIteration") (b:=true) ⟨oe,q1,q2⟩ isSubtype_stop (cT (hQ _ fun b o hb e=>kp _ _ (s1.extBut _ _ hb e))))
end
theorem zGr:Slot "set_iterator" "__iter__" "set_iterator.__iter__" :=
 .of (owner:="set_iterator") (n:="__iter__") (by rw[typeLookup_type,builtinLookup_eq_fast];kernel_rfl) (by decide +kernel) (by decide +kernel) (by decide +kernel) (by first | exact .inl (by decide +kernel) | exact .inr (by decide +kernel)) (by rw[isSubtype_type];kernel_rfl)
theorem zJh:entryFor table "set_iterator.__iter__"=some Builtin.«dict_keyiterator.__iter__» :=
 entryFor_alias (id':="dict_keyiterator.__iter__") (by kernel_rfl) (by first | rfl | decide +kernel | (unfold String.splitOn;simp +decide [String.splitOnAux])) (by decide +kernel) (by kernel_rfl)
theorem zK0(v:Value):argsOk "set_iterator.__iter__" ⟨[v],[]⟩:=by unfold argsOk;kernel_rfl
section
variable {prog:Program} {w:World} {A:Around} {E:Value→Shared→Prop} {s:Shared}
theorem zC3{it:Addr}{f:Value}{i:Int}{a:Addr}{n ep:Nat}{Q:Value→Shared→Prop}(h:s.heap.get? it=some (zAE f i a n ep))(q:Q (.ref it) s):wpAny (model prog w) A (pyIter (.ref it)) Q E s:=by
 have hT:s.TypeIs (.ref it) "set_iterator":=⟨_,h,rfl⟩
 refine wpAny_pyIter_slot hT zGr (eY zGr hT zJh ?_ (zK0 _))
 show wpAny _ _ (ret (.ref it)) _ _ s
 exact cT ⟨_,rfl,"set_iterator",_,hT,wT.lookup,q⟩
theorem zA2{a:Addr}{o:Obj}{Q:Bool→Shared→Prop}(ho:s.heap.get? a=some o)(hc:o.cls=.type "set")(h:Q false s):wpAny (model prog w) A (Builtin.List.listLengthHint (.ref a)) Q E s:=by
 unfold Builtin.List.listLengthHint
 refine cL (gu ⟨o,ho,hc⟩ F.slot_set_len.lookup ?_)
 generalize hid:("set.__len__":String)=id0
 wp_delta
 rw[show splitId id0=some ("set","__len__") from by subst hid;decide +kernel]
 subst hid
 refine cL (wpAny_isInstance (T:="set") (b:=true) ⟨o,ho,hc⟩ (by rw[isSubtype_type];kernel_rfl) ?_)
 refine fJ (fun hab=>absurd hab (by decide)) (fun u0=>?_)
 refine fJ (fun u0=>?_) (fun hab=>absurd (by decide +kernel) hab)
 exact cL (fZ (T:="set") ⟨o,ho,hc⟩ (cT h))
end
end HI
namespace L2
open HI
variable {X:Cx} {e:Expr} {t:TA} {p p2 pos pos2:Pos}
end L2
namespace L3
open L2
section
variable {X:Cx} {e:Expr} {p p2 pos pos2:Pos}
end
end L3
namespace HT2
open PySem
noncomputable abbrev Probe:=SetTable.Probe
noncomputable def adv(mask:Nat)(p:Probe):Probe :=
 if p.more>0 then { p with j:=p.j+1,more:=p.more-1 } else
 { p with j:=(eC mask p.i p.perturb).1,more:=dQ mask (eC mask p.i p.perturb).1-(eC mask p.i p.perturb).1,i:=(eC mask p.i p.perturb).1,perturb:=(eC mask p.i p.perturb).2 }
noncomputable def ze(mask:Nat)(h:Int):Nat→Probe
 | 0=>{ j:=dE h%(mask+1),more:=dQ mask (dE h%(mask+1))-dE h%(mask+1),i:=dE h%(mask+1),perturb:=dE h,dummy:=none }
 | n+1=>adv mask (ze mask h n)
noncomputable def lp(mask:Nat)(h:Int):Nat→Nat×Nat
 | 0=>(dE h%(mask+1),dE h)
 | n+1=>eC mask (lp mask h n).1 (lp mask h n).2
section
variable {mask:Nat} {h:Int}
noncomputable def fM(M x:Nat):Nat:=(x*5+1)%M
noncomputable def itr(M:Nat):Nat→Nat→Nat
 | 0,x=>x
 | m+1,x=>fM M (itr M m x)
end
open HI (yh)
open HI (yh)
end HT2
namespace HT2
open PySem PySem.Spec
open HI (yh)
section
variable {prog:Program} {w:World} {P:Addr→Prop} {A:Around} {E:Value→Shared→Prop} {s:Shared}
noncomputable abbrev hT(prog:Program)(w:World)(ns:List Int):Int:=tupleKeyHash (intKind prog w) ns
noncomputable def sf(es:Array (Int×Value))(i:Nat):Int:=(es[i]?.map (·.1)).getD 0
end
open HI (yh)
section
variable {t:SetTable} {es:Array (Int×Value)} {j:Nat} {h:Int} {x:Value}
end
section
variable {t:SetTable} {es:Array (Int×Value)} {i j:Nat}
end
open HI (yh)
section
variable {mask:Nat} {h:Int}
end
open HI (yh)
noncomputable def zK2:Value→Int
 | .int k _=>k
 | _=>0
noncomputable def kyT(h:Heap)(e:Int×Value):List Int:=match e.2 with
 | .ref c=>(match h.get? c with | some o=>(match o.data with | .seq its _=>its.toList.map zK2 | _=>[]) | none=>[])
 | _=>[]
section
variable {prog:Program} {w:World} {P:Addr→Prop} {A:Around} {E:Value→Shared→Prop} {s:Shared}
end
open HI (yh)
section
variable {prog:Program} {w:World} {P:Addr→Prop} {A:Around} {E:Value→Shared→Prop} {s:Shared}
end
end HT2
namespace HT2
open HI (yh zAD wZ zA0)
section
variable {prog:Program} {w:World} {P:Addr→Prop} {A:Around} {R:Result→Shared→Prop} {h0:Heap} {S I:Addr} {fp wr:List Addr} {n:Nat} {its:Array Value} {val:Nat→List Int} {St:Nat→Heap→Prop} {g:Array GenState} {d:Drawn} {os:OsState}
end
end HT2
namespace HT2
open PySem PySem.Spec
open HI (yh)
section
variable {prog:Program} {w:World} {P:Addr→Prop} {A:Around} {E:Value→Shared→Prop} {s:Shared}
end
open HI (yh zAD wZ)
section
variable {prog:Program} {w:World} {P:Addr→Prop} {A:Around} {E:Value→Shared→Prop} {s:Shared}
end
end HT2
namespace HT2
open HI (yh zAD wZ zBl zA1)
section
variable {prog:Program} {w:World} {P:Addr→Prop} {A:Around} {E:Value→Shared→Prop} {s:Shared}
end
open HI (yh zAD wZ zA0)
section
variable {prog:Program} {w:World} {P:Addr→Prop} {A:Around} {E:Value→Shared→Prop} {s:Shared}
end
open HI (yh Sx Tells zAE zC2 zD4 zC3 zBl wT zC1 zBO zAi zA1 zA2)
section
variable {prog:Program} {w:World} {P:Addr→Prop} {A:Around} {E:Value→Shared→Prop} {s:Shared}
end
open HI (zA2)
open HS (TI tAt ltI zB3)
section
variable {prog:Program} {w:World} {P:Addr→Prop} {A:Around} {E:Value→Shared→Prop} {s:Shared}
end
end HT2
namespace L2
end L2
namespace L3
open L2 HS
section
variable {X:Cx} {pins:List (Addr×Obj)} {σ:L2.St} {H:Hp} {s:Shared}
end
end L3
namespace L3
open L2
section
variable {X:Cx} {elt iter:Expr} {pos:Pos} {te:zm} {ifs:List Expr} {sc:Scope} {N0:List Str} {wi:TI2} {tc:TT2}
end
end L3
namespace HZ
section
variable {prog:Program} {w:World} {A:Around} {E:Value→Shared→Prop} {s:Shared} {e it l:Addr} {xs:Array Value} (Z:Zs prog w it l xs)
end
end HZ
namespace L2
open HZ
end L2
namespace L3
open L2
end L3
namespace HZ
end HZ
namespace L2
open HZ
end L2
namespace L3
open L2
end L3
namespace HI
section
variable {prog:Program} {w:World} {A:Around} {E:Value→Shared→Prop} {s:Shared}
end
end HI
namespace L2
open HI
variable {X:Cx} {e:Expr} {t:TA} {p p2 pos pos2:Pos}
end L2
namespace L3
open L2
section
variable {X:Cx} {e:Expr} {p p2 pos pos2:Pos}
end
end L3
namespace L2
section
variable {X:Cx} {pos:Pos}
theorem zJi(hc:X.calm=true):yy X (.builtin "sum") (fun xs H Q=>∃(l:Addr) (ns:List Int),xs=[.ref l]∧SqL X.K H l (ns.map V.int)∧ns.length≤100∧(∀ a∈ns,0≤a∧a≤1000000)∧Q (.int ns.sum) H):=by
 intro pins s σ H xs us Q I r h
 obtain⟨l,ns,rfl,hs,hp,hb,q⟩:=h
 obtain⟨u,rfl,ru⟩:=vals1 r
 cases (show u=Value.ref l from ru)
 obtain⟨its,rv,pl,hz⟩:=I.list hs
 have hi:IntsAre its ns:=intsAre_of rv
 have ha:AllInts its.toArray:=hi.allInts
 have hn:numsOf its.toArray.toList=ns:=by rw[show its.toArray.toList=its from rfl,hi.numsOf]
 have hl:=pl.isList
 have hl2:its.length=ns.length:=hi.length
 have hz2:its.toArray.size=ns.length:=by simp;omega
 generalize its.toArray=arr at ha hn hl hz2
 obtain⟨zs,rfl⟩:=ha.items
 rw[nums_intItems] at hn
 have hsz:zs.size=ns.length:=by simpa[intItems] using hz2
 have sm:∀(l:List Int),(∀ a∈l,0≤a∧a≤1000000)→0≤l.sum∧l.sum≤1000000*l.length:=fun l=>by
  induction l with
  | nil=>intro u0;simp
  | cons a r ih =>
   intro h
   have h1:=h a dt
   have h2:=ih fun x hx=>h x (dw _ hx)
   rw[List.sum_cons,cR]
   omega
 refine sum_intList (I.ok.hd hc) hl (fun j hj=>?_) fun h' tk t' hk=>?_
 ·have hm:numAt zs j∈ns:=by rw[← hn,numAt_eq];exact getD_mem (by rw[d7,da];omega)
  have h1:=hb _ hm
  rw[preSum_eq]
  have h2:=sm ((zs.toList.map (·.1)).take (j+1)) fun a ha=>hb a (by rw[← hn];exact fm ha)
  have h3:((zs.toList.map (·.1)).take (j+1)).length≤100:=by
   have:(zs.toList.map (·.1)).length=zs.size:=by simp
   rw[dO,this];omega
  unfold InLong
  exact⟨by constructor<;>omega,by constructor<;>omega⟩
 ·refine⟨.int _,H,I.kept (t':=tk) hk,⟨_,rfl⟩,?_⟩
  rw[preSum_eq,fL (by simp),hn]
  exact q
end
end L2
namespace L3
open L2
section
variable {X:Cx} {e o:Expr} {te to:zm} {t:wH} {tl:TL2} {pos p apos cpos:Pos}
noncomputable def zNa:Sp2:=fun ds G R=>∃ ns:List Int,ds=ns.map D.int∧ns.length≤100∧(∀ a∈ns,0≤a∧a≤1000000)∧R (.int ns.sum) G
theorem zMm(hc:X.calm=true)(hg:Gl X "sum")(hm:X.mg "sum"=none)(ha:F2 X e tl)(he:starEach [e] X.env=(false,eval e X.env)::starEach [] X.env:=by rfl)(hpl:(backTo pos (starEach [] X.env)).any (·.1)=false:=by rfl) :
  E2 X (.Call (.Name "sum" p) [e] [] pos) (yU zNa tl):=zGZ (zJi hc) (by
   rintro ds G R l xs H Q ⟨ns,rfl,hp,hb,h⟩ r e d k
   have:=d.ints_inv
   subst this
   exact⟨l,ns,rfl,.of e,hp,hb,k _ G h _ H (.refl H) r (by unfold zO;rfl)⟩) hg hm (by decide +kernel) ha (by decide) (by decide) he hpl
theorem zQR{st:Stmt}:P2 X st (fun u0 u0 u0=>False):=by
 rintro pins s σ H E I ⟨σ',G,D2,r,q,k⟩
 exact q.elim
end
end L3
namespace K
open L2 L3
theorem zK5{σ:S2}{G:Gp}{t u:zm}{l:Addr}{ds:List D}{k:Int}{d:D}(h:yA t σ G (.adr l))(h':yA u σ G (.int k))(hl:Ls G l ds)(e:atI ds k=some d):yA (zW wD t u) σ G d:=wu h h' fun G2 e2 R q=>⟨ds,d,e2.ls hl,e,q⟩
theorem zOt{σ:S2}{G:Gp}{i:Nat}{tl:TL2}{u:yg}{E:zy}{ds:List D}(h:PuL tl σ G ds)(h':∀ l,G.m l=none→u E (σ.set i (some (.adr l))) (zQ G l ds)):zX (zCE i tl) u E σ G:=h G (.refl G) _ h'
theorem zMn{σ:S2}{G:Gp}{tc:TT2}{u:yg}{E:zy}{b:Bool}{te:zm}(h:PuT tc σ G b)(hy:b=true→yC te E σ G)(hn:b=false→u E σ G):zX (xIf tc (yC te) yN) u E σ G:=by
 cases b with
 | false=>exact zJW h (hn rfl)
 | true=>exact h G (.refl G) _ (by rw[if_pos rfl];exact hy rfl)
theorem zC6{σ:S2}{G:Gp}{tl:TL2}{R:Q2}(h:tl σ G fun ds G1=>∀ l,G1.m l=none→R (.adr l) (zQ G1 l ds)):zl tl σ G R:=h
theorem zPp{σ:S2}{G:Gp}{f:D→D→Gp→Q2→Prop}{ta tb:zm}{R:Q2}(h:ta σ G fun x G1=>tb σ G1 fun y G2=>f x y G2 R):zW f ta tb σ G R:=h
section
variable {n:Nat} {q:Nat×Nat→Bool}
end
noncomputable def trn{α:Type}(l:List α)(b:Nat):List α:=l.drop b++l.take b
noncomputable def zAk(l:List Int):Nat→List Int
 | 0=>l
 | b+1=>zFA (zFA (zAk l b) (trn l b)) (trn l.reverse b)
noncomputable def zAu(l:List Int):List Int:=zAk l l.length
theorem zGt{x y:List Int}(h:x.length=y.length):(zFA x y).length=x.length:=by
 unfold zFA
 split<;>omega
theorem zIq{α:Type}(l:List α)(b:Nat):(trn l b).length=l.length:=by unfold trn;simp;omega
theorem zDj(l:List Int):∀ b,(zAk l b).length=l.length
 | 0=>rfl
 | b+1=>by
  unfold zAk
  have e1:=zDj l b
  have e2:(zFA (zAk l b) (trn l b)).length=l.length:=by rw[zGt (by rw[e1,zIq]),e1]
  rw[zGt (by rw[e2,zIq,List.length_reverse]),e2]
theorem zMo{α β:Type}(f:α→β)(l:List α)(b:Nat):(trn l b).map f=trn (l.map f) b:=by unfold trn;simp
theorem zK7{l:List D}{k:Nat}(h:k≤l.length):L3.cutD l none (some (k:Int))=l.take k:=by
 unfold L3.cutD
 rw[HT.zGP,HT.zDu]
 simp[h]
theorem zK8{l:List D}{k:Nat}(h:k≤l.length):L3.cutD l (some (k:Int)) none=l.drop k:=by
 unfold L3.cutD
 rw[HT.zGP,HT.zDu,Nat.min_eq_left h]
 rw[fL (by simp)]
theorem zNb{σ:S2}{G:Gp}{t u:zm}{xs:List D}{k:Nat}(h:yA t σ G (.tup xs))(h1:yA u σ G (nD k))(hk:k≤xs.length):yA (wP t yr (wO u)) σ G (.tup (xs.take k)):=fun G2 e R q=>h G2 e _ (h1 G2 e _ (by show R (.tup (L3.cutD xs none (some (k:Int)))) G2;rw[zK7 hk];exact q))
theorem zIr{σ:S2}{G:Gp}{t u:zm}{xs:List D}{k:Nat}(h:yA t σ G (.tup xs))(h1:yA u σ G (nD k))(hk:k≤xs.length):yA (wP t (wO u) yr) σ G (.tup (xs.drop k)):=fun G2 e R q=>h G2 e _ (h1 G2 e _ (by show R (.tup (L3.cutD xs (some (k:Int)) none)) G2;rw[zK8 hk];exact q))
theorem zOv{σ:S2}{G:Gp}{t u:zm}{xs:List D}{k:Nat}(h:yA t σ G (.tup xs))(h1:yA u σ G (nD k))(hk:k≤xs.length)(hl:xs.length≤1000000):yA (zW yq (wP t (wO u) yr) (wP t yr (wO u))) σ G (.tup (trn xs k)) :=
 zEU (zIr h h1 hk) (zNb h h1 hk) (by simp;omega)
noncomputable def yD:Sp2:=fun ds G R=>∃(xs:List D) (k:Nat),ds=[.tup xs,nD k]∧k≤xs.length∧xs.length≤1000∧R (.tup (trn xs k)) G
noncomputable def zAa:yg:=(yC (zW yq (wP (zD 0) (wO (zD 1)) yr) (wP (zD 0) yr (wO (zD 1)))))
theorem zEm(ds:List D)(G:Gp)(R:Q2)(h:yD ds G R):ds.length=2∧zAa (zf R) (zS ["ring","by"] ds) G:=by
 obtain⟨xs,k,rfl,hk,hl,h⟩:=h
 exact⟨rfl,zES (zOv (zF rfl) (zF rfl) hk (by omega)) ⟨G,.refl _,h⟩⟩
noncomputable def wL:Sp2:=fun ds G R=>∃ xs:List D,ds=[.tup xs]∧xs.length≤1000∧R (.tup xs.reverse) G
noncomputable def zCZ:yg:=(yC (zL zHp (zA (zD 0) zI)))
theorem zH5(ds:List D)(G:Gp)(R:Q2)(h:wL ds G R):ds.length=1∧zCZ (zf R) (zS ["ring"] ds) G:=by
 obtain⟨xs,rfl,hl,h⟩:=h
 exact⟨rfl,zES (d:=.tup xs.reverse) (wE (zH (zF (d:=.tup xs) rfl) zU) fun u0 u0 u0 q=>⟨by omega,q⟩) ⟨G,.refl _,h⟩⟩
noncomputable def wy:Sp2:=fun ds G R=>∃ l:List Int,ds=[tupI l]∧l.length≤1000∧R (tupI (zAu l)) G
noncomputable def zD5:yg:=(zX (zp (zL wL (zA (zD 0) zI)) (gN 1)) (zX (zp (zD 0) (gN 2)) (zX (wv (iR1 (zA (zL yK (zA (zD 0) zI)) zI)) (gN 3) (zp (zL zHr (zA (zD 2) (zA (zL yD (zA (zD 0) (zA (zD 3) zI))) (zA (zL yD (zA (zD 1) (zA (zD 3) zI))) zI)))) (gN 2))) (yC (zD 2)))))
theorem zFk{σ:S2}{G:Gp}{t u:zm}{l:List Int}{k:Nat}(h:yA t σ G (tupI l))(h1:yA u σ G (nD k))(hk:k≤l.length)(hl:l.length≤1000):yA (zL yD (zA t (zA u zI))) σ G (tupI (trn l k)) :=
 wE (zH h (zH h1 zU)) fun u0 u0 u0 q=>⟨l.map D.int,k,rfl,by simpa using hk,by simpa using hl,by rw[← zMo];exact q⟩
theorem zGu{σ:S2}{G:Gp}{t:zm}{l:List Int}(h:yA t σ G (tupI l))(hl:l.length≤1000):yA (zL wL (zA t zI)) σ G (tupI l.reverse) :=
 wE (zH h zU) fun u0 u0 u0 q=>⟨l.map D.int,rfl,by simpa using hl,by rw[← List.map_reverse];exact q⟩
theorem zMp{σ:S2}{G:Gp}{t u v:zm}{x y z:List Int}(h:yA t σ G (tupI x))(h1:yA u σ G (tupI y))(h2:yA v σ G (tupI z)):yA (zL zHr (zA t (zA u (zA v zI)))) σ G (tupI (zFA (zFA x y) z)) :=
 wE (zH h (zH h1 (zH h2 zU))) fun u0 u0 u0 q=>⟨x,y,z,rfl,by rw[zKt];exact q⟩
theorem zMq{σ:S2}{G:Gp}{t:zm}{l:List Int}(h:yA t σ G (tupI l)):yA (zL yK (zA t zI)) σ G (nD l.length):=by
 have:=zOk (ds:=l.map D.int) h
 rwa [d7] at this
theorem zMr(ds:List D)(G:Gp)(R:Q2)(h:wy ds G R):ds.length=1∧zD5 (zf R) (zS ["ring","back","best","by"] ds) G:=by
 obtain⟨l,rfl,hl,h⟩:=h
 refine⟨rfl,?_⟩
 unfold zD5
 refine zCs (zGu (l:=l) (zF rfl) hl) ?_
 refine zCs (d:=tupI l) (zF rfl) ?_
 refine zKh (n:=l.length) (zH (zMq (zF rfl)) zU) hl ?_
 refine⟨fun i σ' G'=>(∃ o,σ'=[some (tupI l),some (tupI l.reverse),some (tupI (zAk l i)),o])∧G'=G,⟨⟨none,rfl⟩,rfl⟩,fun u0 u0 u0 u0 u0=>trivial,?_,?_⟩
 ·rintro i x σ' G' hi ⟨⟨o,rfl⟩,rfl⟩
  obtain⟨rfl,hi⟩:=zHl hi
  show zp _ _ _ [some (tupI l),some (tupI l.reverse),some (tupI (zAk l i)),some (nD i)] G'
  refine zMp (zF rfl) (zFk (l:=l) (k:=i) (zF rfl) (zF rfl) (by omega) hl) (zFk (l:=l.reverse) (k:=i) (zF rfl) (zF rfl) (by rw[List.length_reverse];omega) (by rw[List.length_reverse];exact hl)) G' (.refl _) _ ?_
  exact .of ⟨⟨some (nD i),rfl⟩,rfl⟩
 ·rintro σ' G' ⟨⟨o,rfl⟩,rfl⟩
  rw[d7,dP]
  show yC (zD 2) (zf R) [some (tupI l),some (tupI l.reverse),some (tupI (zAk l l.length)),o] G'
  exact zES (zF rfl) ⟨G',.refl _,h⟩
theorem zK9{sp:Sp2}(hs:sp=wy){σ:S2}{G:Gp}{t:zm}{l:List Int}(h:yA t σ G (tupI l))(hl:l.length≤1000):yA (zL sp (zA t zI)) σ G (tupI (zAu l)):=by
 subst hs
 exact wE (zH h zU) fun u0 u0 u0 q=>⟨l,rfl,hl,q⟩
noncomputable abbrev uD(l:List Nat):D:=.tup (l.map nD)
theorem zPq{σ:S2}{G:Gp}{te:zm}{g:TG2}{E:zy}{d:D}(h:yA te σ G d)(h':g d σ G fun σ' G'=>E.nx σ' G'):zp te g E σ G:=h G (.refl G) _ h'
theorem zOw{σ:S2}{G:Gp}{te:zm}{g:TG2}{E:zy}(h:te σ G fun d G1=>g d σ G1 fun σ' G'=>E.nx σ' G'):zp te g E σ G:=h
theorem zEn{G G':Gp}(h:L3.Sub G G'){a:Addr}(n:G'.m a=none):G.m a=none:=by
 cases q:G.m a with
 | none=>rfl
 | some u=>rw[h.m a u q] at n;cases n
end K
namespace K
open L3
theorem zH6{σ:S2}{G:Gp}{te:zm}{E:zy}(h:te σ G fun u0 G1=>E.nx σ G1):wY te E σ G:=h
end K
namespace K
open L2 L3
end K
namespace L3
open L2
section
variable {X:Cx} {a b e:Expr} {ta tb te:zm} {t:wH} {p pos:Pos}
theorem zLA{v:V}{u:Value}(h:RelV v u):(u==Value.none)=decide (v=V.non):=by
 cases v with
 | non=>cases h;rfl
 | bl b=>cases h;rfl
 | int i=>obtain⟨u0,rfl⟩:=h;rfl
 | str i=>obtain⟨u0,rfl⟩:=h;rfl
 | byt i=>obtain⟨u0,rfl⟩:=h;rfl
 | flt i=>obtain⟨u0,rfl⟩:=h;rfl
 | ref i=>cases h;rfl
 | ty i=>cases h;rfl
theorem zJj:OpR X (compareOp .IsNot) (fun x y H Q=>y=.non∧Q (.bl (!decide (x=.non))) H):=by
 intro pins s σ H x y v u Q I rx ry h
 obtain⟨rfl,q⟩:=h
 cases ry
 refine isnot_none_gen ?_
 rw[zLA rx]
 exact⟨.bl _,H,I,rfl,q⟩
noncomputable def zLB:D→Bool
 | .non=>true
 | _=>false
theorem zMs{K:PySem.W.Frag}{H:Hp}{d:D}{v:V}(h:zO K H d v):decide (v=V.non)=zLB d:=by
 cases d with
 | non=>unfold zO at h;subst h;rfl
 | tup xs=>unfold zO at h;obtain⟨a,us,rfl,u0⟩:=h;rfl
 | dic a=>unfold zO at h;obtain⟨rfl,u0⟩:=h;rfl
 | _=>unfold zO at h;subst h;rfl
noncomputable def zMt(ng:Bool):D→D→Gp→Q2→Prop:=fun x y G R=>match y with | .non=>R (.bl (if ng then !zLB x else zLB x)) G | _=>False
theorem zMu{K:PySem.W.Frag}{ng:Bool}:Fit K (fun x y H Q=>y=V.non∧Q (.bl (if ng then !decide (x=V.non) else decide (x=V.non))) H) (zMt ng):=by
 intro dx dy G R x y H Q h r d1 d2 k
 unfold zMt at h
 split at h
 ·unfold zO at d2
  refine⟨d2,k _ G h _ H (.refl H) r ?_⟩
  rw[zMs d1]
  unfold zO;rfl
 ·exact h.elim
theorem zLC(ha:E2 X a ta)(hb:E2 X b tb):T2 X (.Compare a [.IsNot] [b] pos) (xB (zW (zMt true) ta tb)):=zDb zJj (zMu (ng:=true)) ha hb (zCN _)
end
end L3
namespace L3
open L2 HS
end L3
namespace L3
open L2
section
variable {X:Cx} {e:Expr} {p pos:Pos}
end
section
variable {X:Cx} {a b:Expr} {ta tb:zm} {pos:Pos}
theorem zNc(ha:E2 X a ta)(hb:E2 X b tb):E2 X (.BinOp a .LShift b pos) (zW (yj zDo fun i j=>.int (i*2 ^ j.toNat)) ta tb):=zGU zOA (zCg fun u0 u0=>⟨rfl,rfl⟩) ha hb
theorem zNZ(ha:E2 X a ta)(hb:E2 X b tb):E2 X (.BinOp a .BitXor b pos) (zW (fII fun i j=>.int (Builtin.bitXor i j)) ta tb):=zGU zOB (zDF fun u0 u0=>⟨rfl,rfl⟩) ha hb
end
theorem zGv(a b:Nat):(a ^^^ b)+2*(a &&& b)=a+b:=by
 induction a using Nat.strongRecOn generalizing b with
 | _ a ih =>
  by_cases h:a=0
  ·subst h;simp
  ·have h0:=ih (a / 2) (by omega) (b / 2)
   rw[← Nat.xor_div_two,← Nat.and_div_two] at h0
   have h1:=@Nat.xor_mod_two_eq_one a b
   have h2:=@Nat.and_mod_two_eq_one a b
   have h3:(a ^^^ b)%2+2*((a &&& b)%2)=a%2+b%2:=by
    clear h0 ih h
    rcases gE a with x | x<;>rcases gE b with y | y<;>rcases gE (a &&& b) with z | z<;>rcases gE (a ^^^ b) with w | w<;>rw[x,y,z,w]<;>rw[x,y,z] at h2<;>rw[x,y,w] at h1<;>simp at h1 h2 ⊢
   generalize a ^^^ b=u at h0 h3 ⊢
   generalize a &&& b=v at h0 h3 ⊢
   omega
theorem zH7(a b:Nat):Builtin.bitXor (a:Int) (b:Int)=((a ^^^ b:Nat):Int):=by
 have e:Builtin.bitAnd (a:Int) (b:Int)=((a &&& b:Nat):Int):=by
  unfold Builtin.bitAnd
  have h1:decide ((0:Int)≤(a:Int))=true:=decide_eq_true (by omega)
  have h2:decide ((0:Int)≤(b:Int))=true:=decide_eq_true (by omega)
  rw[h1,h2]
  rfl
 have h:=zGv a b
 rw[PyProof.Rows.bitXor_and,e]
 omega
end L3
namespace K
theorem xc(x a:Nat):x ^^^ a ^^^ a=x:=by rw[Nat.xor_assoc,Nat.xor_self,Nat.xor_zero]
noncomputable def red(free:List Nat)(x:Nat):Nat:=free.foldl (fun x b=>min x (x ^^^ b)) x
noncomputable def zPs(free:List Nat)(row:Nat):List Nat:=if red free row≠0 then free++[red free row] else free
end K
namespace K
open L2 L3
noncomputable def zCa(l:List Nat):Nat:=(l.map fun o=>2 ^ o).sum
noncomputable def oth(n:Nat)(ps:List Nat):List Nat:=(cY n).filter fun x=>!decide (x∈ps)
theorem zH8{n:Nat}{ps:List Nat}{x:Nat}(h:x∈oth n ps):x<n:=dL.mp (fj.mp h).1
noncomputable def mask(q:Nat×Nat→Bool)(i:Nat)(os:List Nat):Nat:=zCa (os.filter (adj q i))
theorem zLE(l:List Nat):(l.map fun(x:Nat)=>(x:Int)).sum=((l.sum:Nat):Int):=by
 induction l with
 | nil=>rfl
 | cons a r ih=>rw[eZ,List.sum_cons,ih,List.sum_cons];omega
noncomputable def rk(n:Nat)(q:Nat×Nat→Bool)(ps:List Nat):List Nat:=(ps.map fun i=>mask q i (oth n ps)).foldl zPs []
theorem zMv{σ:S2}{G:Gp}{t u:zm}{a b:Nat}(h:yA t σ G (nD a))(h':yA u σ G (nD b)):yA (zW (fII fun i j=>.int (Builtin.bitXor i j)) t u) σ G (nD (a ^^^ b)):=by
 have:=zFa (g:=fun i j=>.int (Builtin.bitXor i j)) h h'
 rw[zH7] at this
 exact this
end K
namespace K
open L2 L3 HS
end K
namespace L2
section
variable {X:Cx} {z:Str} {tg elt iter:Expr} {ifs:List Expr} {sc:Scope} {pos:Pos} {N0 own:List Str} {wi:TI} {g:TG} {tc:TT} {te:TE}
end
end L2
namespace L3
open L2
section
variable {X:Cx} {elt iter:Expr} {pos:Pos} {te:zm} {ifs:List Expr} {sc:Scope} {N0:List Str} {wi:TI2} {tc:TT2}
end
end L3
namespace K
open L2 L3
theorem zPt{G0:Gp}{A l:Addr}{x y:List D}(h:A≠l):zQ (zQ G0 A x) l y=zQ (zQ G0 l y) A x:=by
 unfold zQ
 dsimp only
 congr 1
 funext z
 by_cases hz:z=l
 ·subst hz
  simp only[if_true,if_neg (Ne.symm h)]
 ·by_cases hzA:z=A
  ·subst hzA
   simp only[if_true,if_neg h]
  ·simp only[if_neg hz,if_neg hzA]
theorem Dr.swap{G0 G3:Gp}{A l:Addr}{x:List D}(h:A≠l)(d:Dr l (zQ G0 A x) G3)(st:zAt G0 l):∃ G1,Dr l G0 G1∧G3=zQ G1 A x:=by
 obtain⟨s',b',rfl,ok⟩:=d
 exact⟨zQ G0 l [.int s',.bl b'],⟨s',b',rfl,ok⟩,zPt h⟩
end K
namespace HZ
end HZ
namespace L2
open HZ
end L2
namespace L3
open L2
end L3
namespace K
open L2 L3 HS
theorem zIs{σ:S2}{G:Gp}{t:zm}{a:Addr}{xs:List D}(h:yA t σ G (.adr a))(hl:Ls G a xs):yA (zL yK (zA t zI)) σ G (nD xs.length):=wE (zH h zU) fun u0 e u0 q=>⟨xs,e.ls hl,q⟩
noncomputable def uI(p:List Nat):List Int:=p.map fun(k:Nat)=>(k:Int)
theorem zIt(n:Nat):zw 1 n=(cY n).map fun k=>nD (k+1):=by
 unfold zw
 refine g8 fun k u0=>?_
 show D.int _=D.int _
 congr 1
 omega
theorem zIu{n i:Nat}{x:D}(h:((cY n).map fun k=>nD (k+1))[i]?=some x):x=nD (i+1)∧i<n:=by
 rw[dJ] at h
 by_cases hi:i<n
 ·rw[List.getElem?_range hi] at h
  cases h
  exact⟨rfl,hi⟩
 ·rw[List.getElem?_eq_none (by rw[dP];omega)] at h
  cases h
end K
namespace K
open L3
noncomputable def mkW(r:List Nat)(a j:Nat):Nat:=((r.drop a).take j).foldl (fun m x=>m ^^^ 2 ^ x) 0
theorem zGx{r:List Nat}{a j:Nat}(h:a+j<r.length):mkW r a (j+1)=mkW r a j ^^^ 2 ^ (r.getD (a+j) 0):=by
 unfold mkW
 have e:(r.drop a)[j]?=some (r.getD (a+j) 0):=by
  rw[List.getElem?_drop]
  simp[fU,h]
 rw[yt e,List.foldl_append];rfl
theorem zMx{r:List Nat}{a j:Nat}(h:r.length≤a+j):mkW r a (j+1)=mkW r a j:=by
 unfold mkW
 rw[fL (by rw[eT];omega),fL (by rw[eT];omega)]
noncomputable def zFC(r:List Nat)(p a b:Nat):List Nat:=r.take a++[p]++(r.drop a).take (b-a)++[p]++r.drop b
noncomputable def zEo(r:List Nat)(p W a j:Nat):List (List Nat):=((cY j).filter fun d=>decide (mkW r a d=W)).map fun d=>zFC r p a (a+d)
noncomputable def zAl(r:List Nat)(p W:Nat):Nat→List (List Nat)
 | 0=>[]
 | i+1=>zAl r p W i++zEo r p W (i+1) (r.length-i)
noncomputable def wch(r:List Nat)(p W:Nat):List (List Nat):=zAl r p W r.length
theorem zB4{r:List Nat}{p W a j:Nat}:zEo r p W a (j+1)=zEo r p W a j++(if mkW r a j=W then [zFC r p a (a+j)] else []):=by
 unfold zEo
 rw[gR,List.filter_append,fX]
 by_cases h:mkW r a j=W<;>simp[h]
theorem zGy{f:Nat→Bool}:∀ j,(∀ d,d+1<j→¬ (f d=true∧f (d+1)=true))→((cY j).filter f).length≤(j+1) / 2
 | 0,_=>by simp
 | 1,_=>by
  have:=fT f (cY 1)
  simpa using this
 | j+2,h=>by
  have ih:=zGy j fun d hd=>h d (by omega)
  rw[gR,gR,List.filter_append,List.filter_append,du,du]
  have:=h j (by omega)
  cases h1:f j<;>cases h2:f (j+1)<;>simp_all<;>omega
theorem zEp{r:List Nat}{p W a j:Nat}(hj:a+j≤r.length+1):(zEo r p W a j).length≤(j+1) / 2:=by
 unfold zEo
 rw[d7]
 refine zGy j fun d hd=>?_
 rintro⟨h1,h2⟩
 have h1:=of_decide_eq_true h1
 have h2:=of_decide_eq_true h2
 rw[zGx (by omega),h1] at h2
 have h3:=congrArg (fun z=>z ^^^ W) h2
 simp only[Nat.xor_self] at h3
 rw[Nat.xor_comm W,Nat.xor_assoc,Nat.xor_self,Nat.xor_zero] at h3
 have:0<2 ^ (r.getD (a+d) 0):=Nat.pow_pos (by omega)
 omega
noncomputable def zLF(L:Nat):Nat→Nat
 | 0=>0
 | i+1=>zLF L i+(L-i+1) / 2
theorem zFl{r:List Nat}{p W:Nat}:∀ i,i≤r.length→(zAl r p W i).length≤zLF r.length i
 | 0,_=>cX _
 | i+1,h=>by
  have:=zFl i (by omega) (r:=r) (p:=p) (W:=W)
  have h2:=zEp (r:=r) (p:=p) (W:=W) (a:=i+1) (j:=r.length-i) (by omega)
  show(zAl r p W i++zEo r p W (i+1) (r.length-i)).length≤zLF r.length i+(r.length-i+1) / 2
  rw[du]
  omega
theorem zMy{r:List Nat}{p a b:Nat}(h:a≤b)(hb:b≤r.length):(zFC r p a b).length=r.length+2∧∀ x∈zFC r p a b,x=p∨x∈r:=by
 unfold zFC
 constructor
 ·simp only[du,dO,eT,cR,cU]
  omega
 ·intro x hx
  simp only[dH,dC,gI,or_false] at hx
  rcases hx with (((hx | hx) | hx) | hx) | hx
  ·exact .inr (fm hx)
  ·exact .inl hx
  ·exact .inr (List.mem_of_mem_drop (fm hx))
  ·exact .inl hx
  ·exact .inr (List.mem_of_mem_drop hx)
theorem zDV{r:List Nat}{p W:Nat}{x:List Nat}:∀ i,i≤r.length→x∈zAl r p W i→x.length=r.length+2∧∀ y∈x,y=p∨y∈r
 | 0,_,h=>by cases h
 | i+1,hi,h=>by
  rcases dH.mp (show x∈zAl r p W i++zEo r p W (i+1) (r.length-i) from h) with h | h
  ·exact zDV i (by omega) h
  ·obtain⟨d,hd,rfl⟩:=dI.mp h
   have hd:=dL.mp (fj.mp hd).1
   exact zMy (by omega) (by omega)
noncomputable def nrQ(q:Nat×Nat→Bool)(p:Nat):List Nat:=(cY p).filter (adj q p)
noncomputable def rgs(q:Nat×Nat→Bool):Nat→List (List Nat)
 | 0=>[[0,0]]
 | i+1=>(rgs q i).flatMap fun r=>wch r (i+1) (zCa (nrQ q (i+1)))
theorem zDW(q:Nat×Nat→Bool):∀ i,∀ r∈rgs q i,r.length=2*(i+1)∧∀ y∈r,y≤i
 | 0,r,h=>by
  rw[rgs,dq] at h
  subst h
  exact⟨rfl,fun y hy=>by simp at hy;omega⟩
 | i+1,r,h=>by
  obtain⟨s,hs,h⟩:=List.mem_flatMap.mp (show r∈(rgs q i).flatMap _ from h)
  obtain⟨h1,h2⟩:=zDW q i s hs
  obtain⟨h3,h4⟩:=zDV s.length (cX _) h
  refine⟨by omega,fun y hy=>?_⟩
  rcases h4 y hy with rfl | z
  ·exact cX _
  ·have:=h2 y z;omega
theorem zEq{α β:Type}{f:α→List β}{c:Nat}:∀ l:List α,(∀ x∈l,(f x).length≤c)→(l.flatMap f).length≤l.length*c
 | [],_=>by simp
 | a::l,h=>by
  have h1:=h a (dt ..)
  have h2:=zEq l fun x hx=>h x (dw _ hx)
  rw[List.flatMap_cons,du,cR,Nat.add_mul]
  omega
noncomputable def zPu:Nat→Nat
 | 0=>1
 | i+1=>zPu i*zLF (2*(i+1)) (2*(i+1))
theorem zF9(q:Nat×Nat→Bool):∀ i,(rgs q i).length≤zPu i
 | 0=>cX _
 | i+1=>by
  have h1:=zEq (f:=fun r=>wch r (i+1) (zCa (nrQ q (i+1)))) (c:=zLF (2*(i+1)) (2*(i+1))) (rgs q i) fun r hr=>by
   have:=zFl (r:=r) (p:=i+1) (W:=zCa (nrQ q (i+1))) r.length (cX _)
   rw[(zDW q i r hr).1] at this
   show(zAl r _ _ r.length).length≤_
   rw[(zDW q i r hr).1]
   exact this
  exact eD h1 (Nat.mul_le_mul_right _ (zF9 q i))
theorem zJk(q:Nat×Nat→Bool){i:Nat}(h:i≤4):(rgs q i).length≤2880:=by
 refine eD (zF9 q i) ?_
 match i,h with
 | 0,_=>decide
 | 1,_=>decide
 | 2,_=>decide
 | 3,_=>decide
 | 4,_=>decide
end K
namespace L3
open L2
section
variable {X:Cx} {pins:List (Addr×Obj)} {σ1:L2.St} {H:Hp} {s:Shared} {A:Around}
end
section
variable {X:Cx} {a b:Expr} {pos p:Pos} {ta tb te:zm}
end
end L3
namespace K
open L2 L3
noncomputable def WkT(t:TT2)(σ:S2)(G:Gp)(b:Bool):Prop:=∀ G2,Ext G G2→∀ R:Bool→Gp→Prop,(∀ G3,Ext G2 G3→R b G3)→t σ G2 R
noncomputable def WkE(t:zm)(σ:S2)(G:Gp)(d:D):Prop:=∀ G2,Ext G G2→∀ R:D→Gp→Prop,(∀ G3,Ext G2 G3→R d G3)→t σ G2 R
theorem zLG{σ:S2}{G:Gp}{wi:TI2}{bd:D→Option (List D)}{tc:TT2}{te:zm}{ds:List D}(p:D→Bool)(f:D→D)(us:D→List D)(hw:PuI wi σ G ds)
  (hx:∀ x∈ds,bd x=some (us x)∧WkT tc (σ++(us x).map some) G (p x)∧(p x=true→WkE te (σ++(us x).map some) G (f x))):PuL (yT wi bd tc te) σ G ((ds.filter p).map f):=by
 intro G2 e R q
 refine hw G2 e _ fun gd G3 e3 hgd A nA=>?_
 refine⟨fun i acc G'=>G'=zQ G3 A acc∧acc=((ds.take i).filter p).map f,⟨rfl,by simp⟩,?_,?_,?_⟩
 ·rintro i acc G' hi ⟨rfl,rfl⟩
  refine⟨hgd _ (.new nA),zG,?_⟩
  rw[d7]
  exact eD (fT _ _) (by rw[dO];omega)
 ·rintro i x acc G' hi ⟨rfl,rfl⟩
  obtain⟨hb,ht,he⟩:=hx x (dM hi)
  rw[hb]
  dsimp only
  have ex:Ext G (zQ G3 A (((ds.take i).filter p).map f)):=(e.trans e3).trans (.new nA)
  refine ht _ ex _ fun G5 e5=>?_
  cases hp:p x with
  | false =>
   rw[if_neg (by simp)]
   exact⟨_,e5.sub,rfl,by rw[yt hi];simp[hp]⟩
  | true =>
   rw[if_pos rfl]
   refine he hp _ (ex.trans e5) _ fun G6 e6=>?_
   have e56:=e5.trans e6
   refine⟨e56.sub.m _ _ zG,zQ G3 A (((ds.take i).filter p).map f++[f x]),⟨fun a o ha=>?_,fun a o ha=>e56.sub.ro a o ha⟩,rfl,by rw[yt hi];simp[hp]⟩
   by_cases hz:a=A
   ·subst hz
    rw[zG] at ha ⊢
    exact ha
   ·rw[zb hz] at ha ⊢
    exact e56.sub.m a o (by rw[zb hz];exact ha)
 ·rintro acc G' ⟨rfl,rfl⟩
  exact⟨G2,e3.own nA,e3.sub.trans (.new nA),by rw[fP];exact q⟩
end K
namespace K
open L2 L3 HS
theorem wf{σ:S2}{G:Gp}{sp:List D→Gp→(List D→Gp→Prop)→Prop}{t:wH}{R:List D→Gp→Prop}(h:t σ G fun ds G1=>sp ds G1 R):yB sp t σ G R:=h
theorem zB5{wi:TI2}{g:TG2}{tb u:yg}{E:zy}{σ:S2}{G:Gp}(h:wv wi g tb { E with nx:=u E } σ G):zX (wv wi g tb) u E σ G:=h
theorem zIv{σ:S2}{G:Gp}{to:zm}{t:wH}{R:Q2}{l:Addr}{xs:List D}(ho:yA to σ G (.adr l))(h:G.m l=some xs)(ht:t σ G fun ds G2=>match ds with | [d]=>∃ ys,G2.m l=some ys∧ys.length≤1000000∧R .non (zQ G2 l (ys++[d])) | _=>False):zHd to t σ G R:=by
 refine ho G (.refl G) _ ?_
 show match G.m l with | some _=>_ | none=>_
 rw[h]
 have:∀(ds:List D) (G2:Gp),(match ds with | [d]=>∃ ys,G2.m l=some ys∧ys.length≤1000000∧R .non (zQ G2 l (ys++[d])) | _=>False)=(match ds with | [d]=>(match G2.m l with | some xs=>xs.length≤1000000∧R .non (zQ G2 l (xs++[d])) | none=>False) | _=>False):=fun ds G2=>by
  split
  ·rename_i d
   cases q:G2.m l with
   | none=>simp
   | some ys=>simp
  ·rfl
 simp only[this] at ht
 exact ht
end K
namespace HT3
open PySem
noncomputable abbrev Probe:=SetTable.Probe
noncomputable def adv(mask:Nat)(p:Probe):Probe :=
 if p.more>0 then { p with j:=p.j+1,more:=p.more-1 } else
 { p with j:=(eC mask p.i p.perturb).1,more:=dQ mask (eC mask p.i p.perturb).1-(eC mask p.i p.perturb).1,i:=(eC mask p.i p.perturb).1,perturb:=(eC mask p.i p.perturb).2 }
theorem zAY(t:SetTable)(p:Probe):t.advance p=adv t.mask p:=by
 unfold SetTable.advance adv
 split<;>rfl
theorem zDO(mask:Nat)(p:Probe)(d:Option Nat):adv mask { p with dummy:=d }={ adv mask p with dummy:=d }:=by
 unfold adv
 split<;>rfl
noncomputable def ze(mask:Nat)(h:Int):Nat→Probe
 | 0=>{ j:=dE h%(mask+1),more:=dQ mask (dE h%(mask+1))-dE h%(mask+1),i:=dE h%(mask+1),perturb:=dE h,dummy:=none }
 | n+1=>adv mask (ze mask h n)
noncomputable def lp(mask:Nat)(h:Int):Nat→Nat×Nat
 | 0=>(dE h%(mask+1),dE h)
 | n+1=>eC mask (lp mask h n).1 (lp mask h n).2
theorem zHy(mask i:Nat):dQ mask i-i≤9:=by
 unfold dQ
 split<;>omega
section
variable {mask:Nat} {h:Int}
theorem zAJ{n i r q:Nat}(e:ze mask h n=⟨i,r,i,q,none⟩):∀ m,m≤r→ze mask h (n+m)=⟨i+m,r-m,i,q,none⟩
 | 0,_=>by simpa using e
 | m+1,hm=>by
  have:=zAJ e m (by omega)
  show adv mask (ze mask h (n+m))=_
  rw[this]
  unfold adv
  rw[if_pos (show r-m>0 by omega)]
  simp only[SetTable.Probe.mk.injEq,and_true]
  omega
theorem zDP:∀ k,∃ n,n≤10*k∧ze mask h n=⟨(lp mask h k).1,dQ mask (lp mask h k).1-(lp mask h k).1,(lp mask h k).1,(lp mask h k).2,none⟩
 | 0=>⟨0,cX _,rfl⟩
 | k+1=>by
  obtain⟨n,hn,e⟩:=zDP k
  have hr:=zHy mask (lp mask h k).1
  have:=zAJ e _ (cX _)
  refine⟨n+(dQ mask (lp mask h k).1-(lp mask h k).1)+1,by omega,?_⟩
  show adv mask (ze mask h _)=_
  rw[this]
  unfold adv
  rw[if_neg (by simp)]
  rfl
theorem zEa:∀ k,(lp mask h k).2=dE h / 32 ^ k
 | 0=>by simp[lp]
 | k+1=>by
  show(eC mask (lp mask h k).1 (lp mask h k).2).2=_
  unfold eC
  simp only
  rw[zEa k,Nat.div_div_eq_div_mul,fS]
theorem zF1:dE h<2 ^ 64:=by
 unfold dE
 have h1:=Int.emod_lt_of_pos h (show(0:Int)<2 ^ 64 by decide)
 have h2:=gU h (show(2 ^ 64:Int)≠0 by decide)
 omega
theorem zOp{k:Nat}(hk:13≤k):(lp mask h k).2=0:=by
 rw[zEa]
 apply Nat.div_eq_of_lt
 have h1:=zF1 (h:=h)
 have h2:32 ^ 13≤32 ^ k:=Nat.pow_le_pow_right (by omega) hk
 have h3:(2:Nat) ^ 64≤32 ^ 13:=by decide
 omega
noncomputable def fM(M x:Nat):Nat:=(x*5+1)%M
noncomputable def itr(M:Nat):Nat→Nat→Nat
 | 0,x=>x
 | m+1,x=>fM M (itr M m x)
theorem yi(M:Nat)(a:Nat):∀ b x,itr M (a+b) x=itr M a (itr M b x):=by
 induction a with
 | zero=>intro b x;simp[itr]
 | succ a ih=>intro b x;rw[Nat.add_right_comm];show fM M _=fM M _;rw[ih]
theorem zBm:∀ m,(lp mask h (13+m)).1=itr (mask+1) m (lp mask h 13).1
 | 0=>rfl
 | m+1=>by
  show(eC mask (lp mask h (13+m)).1 (lp mask h (13+m)).2).1=fM _ _
  unfold eC fM
  simp only
  rw[zOp (by omega),zBm m]
theorem zGs(k:Nat):(lp mask h k).1<mask+1:=by
 cases k with
 | zero=>exact Nat.mod_lt _ (by omega)
 | succ k=>exact Nat.mod_lt _ (by omega)
end
noncomputable def Cyc(M:Nat):Prop:=∀ i,i<M→∀ j,j<M→∃ m,m<M∧itr M m i=j
noncomputable def sm:Nat→Nat
 | 0=>0
 | m+1=>sm m*5+1
theorem zEr{M:Nat}(hM:0<M):∀ m,itr M m 0=sm m%M
 | 0=>by simp[itr,sm]
 | m+1=>by
  show(itr M m 0*5+1)%M=(sm m*5+1)%M
  rw[zEr hM m,Nat.add_mod,Nat.mod_mul_mod,← Nat.add_mod]
theorem zLH:∀ m,4*sm m+1=5 ^ m
 | 0=>rfl
 | m+1=>by
  have:=zLH m
  show 4*(sm m*5+1)+1=5 ^ (m+1)
  rw[fS];omega
theorem zH9(a:Nat):∀ b,sm (a+b)=5 ^ b*sm a+sm b
 | 0=>by simp[sm]
 | b+1=>by
  show sm (a+b)*5+1=5 ^ (b+1)*sm a+(sm b*5+1)
  rw[zH9 a b,fS,Nat.add_mul,Nat.mul_right_comm]
  omega
theorem zLI:∀ m,sm m%2=m%2
 | 0=>rfl
 | m+1=>by
  have:=zLI m
  show(sm m*5+1)%2=(m+1)%2
  omega
theorem zLJ(e:Nat):sm (e+e)=2*((2*sm e+1)*sm e):=by
 rw[zH9,← zLH e,← Nat.mul_assoc,Nat.mul_add,Nat.mul_one,← Nat.mul_assoc,Nat.add_mul,Nat.add_mul]
 simp only[Nat.mul_assoc]
 omega
theorem zLK:∀ k d,2 ^ k ∣ sm d→2 ^ k ∣ d
 | 0,d,_=>by simp
 | k+1,d,h=>by
  have h2:2 ∣ sm d:=Nat.dvd_trans ⟨2 ^ k,by rw[fS,Nat.mul_comm]⟩ h
  have hp:=zLI d
  obtain⟨e,rfl⟩:∃ e,d=e+e:=⟨d / 2,by omega⟩
  rw[zLJ,fS,Nat.mul_comm (2 ^ k)] at h
  have h:=Nat.dvd_of_mul_dvd_mul_left (by omega) h
  have hc:Nat.Coprime (2 ^ k) (2*sm e+1):=Nat.Coprime.pow_left k (by
   show Nat.gcd 2 (2*sm e+1)=1
   rw[Nat.gcd_rec,show(2*sm e+1)%2=1 by omega];rfl)
  obtain⟨c,hc⟩:=zLK k e (hc.dvd_of_dvd_mul_left h)
  exact⟨c,by rw[fS,Nat.mul_right_comm,← hc];omega⟩
theorem zLL:∀ k,2 ^ k ∣ sm (2 ^ k)
 | 0=>by simp
 | k+1=>by
  rw[show(2:Nat) ^ (k+1)=2 ^ k+2 ^ k by rw[fS];omega,zLJ]
  obtain⟨c,hc⟩:=zLL k
  generalize sm (2 ^ k)=x at hc
  rw[hc]
  exact⟨(2*(2 ^ k*c)+1)*c,by rw[Nat.mul_left_comm _ (2 ^ k) c,← Nat.two_mul,Nat.mul_assoc 2 (2 ^ k)]⟩
theorem zLM{k a b:Nat}(hab:a≤b)(hb:b-a<2 ^ k)(e:sm a%2 ^ k=sm b%2 ^ k):a=b:=by
 have e2:sm b=5 ^ a*sm (b-a)+sm a:=by
  have:=zH9 (b-a) a
  rw[show b-a+a=b by omega] at this
  exact this
 have hd:2 ^ k ∣ 5 ^ a*sm (b-a):=by
  have:2 ^ k ∣ sm b-sm a:=Nat.dvd_of_mod_eq_zero (Nat.sub_mod_eq_zero_of_mod_eq e.symm)
  rw[e2,Nat.add_sub_cancel] at this
  exact this
 have hc:Nat.Coprime (2 ^ k) (5 ^ a):=Nat.Coprime.pow k a (by decide)
 have h3:=zLK k (b-a) (hc.dvd_of_dvd_mul_left hd)
 rcases Nat.eq_zero_or_pos (b-a) with z | z
 ·omega
 ·have:=Nat.le_of_dvd z h3
  omega
theorem zIw(k:Nat):Cyc (2 ^ k):=by
 have hM:0<2 ^ k:=Nat.pow_pos (by omega)
 have inj:∀ a b,a≤b→b<2 ^ k→sm a%2 ^ k=sm b%2 ^ k→a=b:=fun a b hab hb e=>zLM hab (by omega) e
 have at0:∀ j,j<2 ^ k→∃ m,m<2 ^ k∧itr (2 ^ k) m 0=j:=fun j hj=>by
  have nd:((cY (2 ^ k)).map fun m=>sm m%2 ^ k).Nodup:=by
   refine List.pairwise_map.mpr (fH.imp_of_mem (fun {a b} ha hb (ne:a≠b) e=>ne ?_) gJ)
   have ha:=dL.mp ha
   have hb:=dL.mp hb
   rcases Nat.le_total a b with z | z
   ·exact inj a b z hb e
   ·exact(inj b a z ha e.symm).symm
  by_cases q:j∈(cY (2 ^ k)).map fun m=>sm m%2 ^ k
  ·obtain⟨m,hm,e⟩:=dI.mp q
   exact⟨m,dL.mp hm,by rw[zEr hM];exact e⟩
  ·exfalso
   have sub:((cY (2 ^ k)).map fun m=>sm m%2 ^ k) ⊆ (cY (2 ^ k)).filter (fun x=>decide (x≠j)):=fun x hx=>by
    obtain⟨m,u0,rfl⟩:=dI.mp hx
    exact fj.mpr ⟨dL.mpr (Nat.mod_lt _ hM),decide_eq_true fun z=>q (by rw[← z];exact hx)⟩
   have h1:=nd.length_le_of_subset sub
   have h2:((cY (2 ^ k)).filter (fun x=>decide (x≠j))).length<(cY (2 ^ k)).length:=List.length_filter_lt_length_iff_exists.mpr ⟨j,dL.mpr hj,by simp⟩
   rw[d7] at h1
   omega
 have hz:itr (2 ^ k) (2 ^ k) 0=0:=by
  rw[zEr hM]
  exact Nat.mod_eq_zero_of_dvd (zLL k)
 intro i hi j hj
 obtain⟨a,ha,rfl⟩:=at0 i hi
 obtain⟨b,hb,rfl⟩:=at0 j hj
 generalize 2 ^ k=M at *
 rcases eL b a with hab | hab
 ·refine⟨M+b-a,by omega,?_⟩
  rw[← yi,show M+b-a+a=b+M by omega,yi,hz]
 ·refine⟨b-a,by omega,?_⟩
  rw[← yi,show b-a+a=b by omega]
theorem zIx{k i m m':Nat}(hi:i<2 ^ k)(h:m≤m')(hd:m'-m<2 ^ k)(e:itr (2 ^ k) m i=itr (2 ^ k) m' i):m=m':=by
 have hM:0<2 ^ k:=Nat.pow_pos (by omega)
 obtain⟨a,u0,rfl⟩:=zIw k 0 hM i hi
 rw[← yi,← yi,zEr hM,zEr hM] at e
 have:=zLM (a:=m+a) (b:=m'+a) (by omega) (by omega) e
 omega
noncomputable def Msk(mask:Nat):Prop:=∃ k,3≤k∧mask+1=2 ^ k
theorem Msk.cyc{mask:Nat}(h:Msk mask):Cyc (mask+1):=by
 obtain⟨k,u0,e⟩:=h
 rw[e]
 exact zIw k
theorem Msk.ge{mask:Nat}(h:Msk mask):7≤mask:=by
 obtain⟨k,hk,e⟩:=h
 have:2 ^ 3≤2 ^ k:=Nat.pow_le_pow_right (by omega) hk
 omega
theorem Msk.odd{mask:Nat}(h:Msk mask):(mask%2==0)=false:=by
 obtain⟨k,hk,e⟩:=h
 obtain⟨c,rfl⟩:∃ c,k=c+1:=⟨k-1,by omega⟩
 rw[fS] at e
 have:mask%2=1:=by omega
 rw[this];rfl
theorem zGz(n:Nat):∀(fuel a:Nat),n<2 ^ a*2 ^ fuel→∃ b,a≤b∧eJ.go n fuel (2 ^ a)=2 ^ b∧n<2 ^ b∧(b=a∨2 ^ b≤2*n)
 | 0,a,h=>⟨a,cX _,rfl,by simpa using h,.inl rfl⟩
 | fuel+1,a,h=>by
  unfold eJ.go
  by_cases q:2 ^ a≤n
  ·rw[if_pos q]
   obtain⟨b,h1,h2,h3,h4⟩:=zGz n fuel (a+1) (by rw[fS,Nat.mul_assoc,← Nat.pow_succ'];exact h)
   refine⟨b,by omega,by rw[← fS];exact h2,h3,.inr ?_⟩
   rcases h4 with rfl | h4
   ·rw[fS];omega
   ·exact h4
  ·rw[if_neg q]
   exact⟨a,cX _,rfl,by omega,.inl rfl⟩
theorem zLN{n:Nat}(h:n≤1000000):∃ b,3≤b∧eJ n=2 ^ b∧n<2 ^ b∧(2 ^ b=8∨2 ^ b≤2*n):=by
 obtain⟨b,h1,h2,h3,h4⟩:=zGz n 64 3 (Nat.lt_of_le_of_lt h (by decide))
 refine⟨b,h1,h2,h3,?_⟩
 rcases h4 with rfl | h4
 ·exact .inl rfl
 ·exact .inr h4
theorem heads{mask:Nat}{h:Int}(hm:Cyc (mask+1)){j:Nat}(hj:j≤mask):∃ k,k≤13+mask∧(lp mask h k).1=j:=by
 obtain⟨m,h1,h2⟩:=hm (lp mask h 13).1 (zGs 13) j (by omega)
 exact⟨13+m,by omega,by rw[zBm];exact h2⟩
open HI (yh)
noncomputable def Ent(t:SetTable)(es:Array (Int×Value))(j:Nat)(h:Int)(x:Value):Prop:=∃ i:Nat,t.place[i]?=some j∧es[i]?=some (h,x)
noncomputable def wd(t:SetTable)(j:Nat):Prop:=t.slot j≠.empty
theorem zBn{xs:Array Nat}(hr:yh xs){i j:Nat}(e:xs[i]?=some j):de xs j=i:=by
 obtain⟨b1,b2⟩:=HI.zC0 (j:=j) hr
 obtain⟨hi,e⟩:=fN.mp e
 rcases Nat.lt_trichotomy (de xs j) i with z | z | z
 ·have h1:=b2 (de xs j) (by omega) (cX _)
  have h2:=hr.lt z hi
  omega
 ·exact z
 ·have:=b1 i hi z
  omega
theorem zA3{t:SetTable}(hr:yh t.place){i j:Nat}(e:t.place[i]?=some j):t.slot j=.live i:=by
 unfold SetTable.slot
 simp only
 rw[zBn hr e,e]
 simp
theorem zF2{t:SetTable}{i j:Nat}(e:t.slot j=.live i):t.place[i]?=some j:=by
 unfold SetTable.slot at e
 simp only at e
 split at e
 ·rename_i q
  cases e
  simpa using q
 ·split at e<;>cases e
theorem zBP{xs:Array Nat}(hr:yh xs){j:Nat}:fE xs j=true↔j∈xs:=by
 unfold fE
 constructor
 ·intro q
  have q:xs[de xs j]?=some j:=by simpa using q
  exact Array.mem_of_getElem? q
 ·intro q
  obtain⟨i,hi,e⟩:=Array.getElem_of_mem q
  have e':xs[i]?=some j:=by simp[hi,e]
  rw[zBn hr e',e']
  simp
theorem yO{t:SetTable}(hr:yh t.place)(hd:yh t.dummies){j:Nat}:wd t j↔j∈t.place∨j∈t.dummies:=by
 unfold wd
 constructor
 ·intro q
  unfold SetTable.slot at q
  simp only at q
  split at q
  ·rename_i z
   exact .inl (Array.mem_of_getElem? (by simpa using z))
  ·split at q
   ·rename_i z
    exact .inr ((zBP hd).mp z)
   ·exact(q rfl).elim
 ·rintro(q | q) z
  ·obtain⟨i,hi,e⟩:=Array.getElem_of_mem q
   rw[zA3 hr (i:=i) (by simp[hi,e])] at z
   cases z
  ·unfold SetTable.slot at z
   simp only at z
   split at z
   ·cases z
   ·rw[if_pos ((zBP hd).mpr q)] at z
    cases z
structure Tab (t:SetTable) (es:Array (Int×Value)):Prop where
 msk:Msk t.mask
 size:t.place.size=es.size
 ris:yh t.place
 risD:yh t.dummies
 le:∀ j∈t.place,j≤t.mask
 leD:∀ j∈t.dummies,j≤t.mask
 room:t.fill≤t.mask
 way:∀ j h x,Ent t es j h x→∃ n,(ze t.mask h n).j=j∧∀ m,m<n→wd t (ze t.mask h m).j
 dis:∀ j∈t.dummies,j∉t.place
theorem zAj{P:Nat→Prop}[DecidablePred P]{M:Nat}{l:List Nat}(h:∀ j,j<M→P j→j∈l)(hl:l.length<M):∃ j,j<M∧¬ P j:=by
 by_cases q:∃ j,j<M∧¬ P j
 ·exact q
 ·have hs:cY M ⊆ l:=fun j hj=>by
   have hj:=dL.mp hj
   by_cases z:P j
   ·exact h j hj z
   ·exact(q ⟨j,hj,z⟩).elim
  have:=List.Nodup.length_le_of_subset gJ hs
  simp at this
  omega
theorem Tab.free{t:SetTable}{es:Array (Int×Value)}(T:Tab t es):∃ j,j≤t.mask∧t.slot j=.empty:=by
 have:=zAj (P:=fun j=>t.slot j≠.empty) (M:=t.mask+1) (l:=t.place.toList++t.dummies.toList) (fun j u0 q=>by
  rcases(yO T.ris T.risD).mp q with z | z
  ·exact eO _ (by simpa using z)
  ·exact dF _ (by simpa using z)) (by
  have:=T.room
  unfold SetTable.fill at this
  simp
  omega)
 obtain⟨j,h1,h2⟩:=this
 exact⟨j,by omega,Decidable.not_not.mp h2⟩
theorem zLO{p:Nat→Prop}:∀ n,p n→∃ m,m≤n∧p m∧∀ k,k<m→¬ p k:=by
 intro n
 induction n using Nat.strongRecOn with
 | ind n ih =>
  intro hn
  by_cases q:∃ m,m<n∧p m
  ·obtain⟨m,hm,hp⟩:=q
   obtain⟨k,h1,h2⟩:=ih m hm hp
   exact⟨k,by omega,h2⟩
  ·exact⟨n,cX _,hn,fun k hk z=>q ⟨k,hk,z⟩⟩
theorem Tab.stop{t:SetTable}{es:Array (Int×Value)}(T:Tab t es)(h:Int):∃ N,N≤10*(13+t.fill)∧t.slot (ze t.mask h N).j=.empty∧∀ m,m<N→wd t (ze t.mask h m).j:=by
 obtain⟨j,hj,he⟩:=T.free
 obtain⟨kk,k3,ek⟩:=id T.msk
 obtain⟨m0,h1,h2⟩:=T.msk.cyc (lp t.mask h 13).1 (zGs 13) j (by omega)
 obtain⟨m,hm0,hm,hmin⟩:=zLO (p:=fun m=>t.slot (lp t.mask h (13+m)).1=.empty) m0 (by
  show t.slot (lp t.mask h (13+m0)).1=.empty
  rw[zBm,h2];exact he)
 have hfill:m≤t.fill:=by
  have nd:((cY m).map fun x=>(lp t.mask h (13+x)).1).Nodup:=by
   refine List.pairwise_map.mpr (fH.imp_of_mem (fun {a b} ha hb (ne:a≠b) e=>ne ?_) gJ)
   have ha:=dL.mp ha
   have hb:=dL.mp hb
   rw[zBm,zBm] at e
   have hl:=zGs (mask:=t.mask) (h:=h) 13
   rw[ek] at e hl
   rcases Nat.le_total a b with z | z
   ·exact zIx hl z (by omega) e
   ·exact(zIx hl z (by omega) e.symm).symm
  have sub:((cY m).map fun x=>(lp t.mask h (13+x)).1) ⊆ t.place.toList++t.dummies.toList:=fun x hx=>by
   obtain⟨y,hy,rfl⟩:=dI.mp hx
   rcases(yO T.ris T.risD).mp (hmin y (dL.mp hy)) with z | z
   ·exact eO _ (by simpa using z)
   ·exact dF _ (by simpa using z)
  have:=nd.length_le_of_subset sub
  unfold SetTable.fill
  simpa using this
 obtain⟨n,h3,h4⟩:=zDP (mask:=t.mask) (h:=h) (13+m)
 have hn:n≤10*(13+t.fill):=by omega
 have e:t.slot (ze t.mask h n).j=.empty:=by rw[h4];exact hm
 have:∀ n,t.slot (ze t.mask h n).j=.empty→∃ N,N≤n∧t.slot (ze t.mask h N).j=.empty∧∀ m,m<N→wd t (ze t.mask h m).j:=by
  intro n
  induction n using Nat.strongRecOn with
  | ind n ih =>
   intro q
   by_cases z:∃ m,m<n∧t.slot (ze t.mask h m).j=.empty
   ·obtain⟨m,hm,q'⟩:=z
    obtain⟨N,h1,h2⟩:=ih m hm q'
    exact⟨N,by omega,h2⟩
   ·exact⟨n,cX _,q,fun m hm q'=>z ⟨m,hm,q'⟩⟩
 obtain⟨N,h1,h2,h3⟩:=this n e
 exact⟨N,by omega,h2,h3⟩
open HI (yh)
noncomputable abbrev At(mask:Nat)(h:Int)(n:Nat)(d:Option Nat):Probe:={ ze mask h n with dummy:=d }
theorem At.adv{mask:Nat}{h:Int}{n:Nat}{d:Option Nat}:adv mask (At mask h n d)=At mask h (n+1) d:=zDO mask (ze mask h n) d
noncomputable def zA4(t:SetTable)(h:Int)(N:Nat)(d:Option Nat):Prop:=∀ j,d=some j→t.slot j=.dummy∧∃ m,m<N∧(ze t.mask h m).j=j
theorem zEb{t:SetTable}{f:Nat→Int}{h:Int}{n fuel:Nat}{d:Option Nat}(hs:t.slot (ze t.mask h n).j=.empty):fA.go t f h (fuel+1) (At t.mask h n d)=some (.empty (ze t.mask h n).j d):=by
 rw[fA.go]
 simp only[hs]
theorem zEc{t:SetTable}{f:Nat→Int}{h:Int}{n fuel:Nat}{d:Option Nat}(hs:t.slot (ze t.mask h n).j=.dummy):fA.go t f h (fuel+1) (At t.mask h n d)=fA.go t f h fuel (At t.mask h (n+1) (some (ze t.mask h n).j)):=by
 rw[fA.go]
 simp only[hs]
 rw[zAY]
 exact congrArg _ (At.adv (n:=n) (d:=some (ze t.mask h n).j))
theorem zF3{t:SetTable}{f:Nat→Int}{h:Int}{n fuel i:Nat}{d:Option Nat}(hs:t.slot (ze t.mask h n).j=.live i):fA.go t f h (fuel+1) (At t.mask h n d)=if f i=h then some (.candidate (ze t.mask h n).j i (At t.mask h (n+1) d)) else fA.go t f h fuel (At t.mask h (n+1) d):=by
 rw[fA.go]
 simp only[hs]
 have e:t.advance (At t.mask h n d)=At t.mask h (n+1) d:=by rw[zAY];exact At.adv
 rw[e]
 by_cases hh:f i=h
 ·rw[if_pos hh,if_pos (by simpa using hh)]
 ·rw[if_neg hh,if_neg (by simpa using hh)]
theorem zDR{t:SetTable}{f:Nat→Int}{h:Int}{N:Nat}(hN:t.slot (ze t.mask h N).j=.empty)(hF:∀ m,m<N→wd t (ze t.mask h m).j) :
  ∀(k n fuel:Nat) (d:Option Nat),N-n=k→n≤N→k<fuel→zA4 t h N d →
   (∃ d',zA4 t h N d'∧fA.go t f h fuel (At t.mask h n d)=some (.empty (ze t.mask h N).j d')∧∀ m,n≤m→m<N→∀ i,t.slot (ze t.mask h m).j=.live i→f i≠h) ∨
   (∃ m i d',n≤m∧m<N∧zA4 t h N d'∧t.slot (ze t.mask h m).j=.live i∧f i=h∧fA.go t f h fuel (At t.mask h n d)=some (.candidate (ze t.mask h m).j i (At t.mask h (m+1) d'))∧∀ m',n≤m'→m'<m→∀ i',t.slot (ze t.mask h m').j=.live i'→f i'≠h):=by
 intro k
 induction k with
 | zero =>
  intro n fuel d hk hn hf hd
  obtain rfl:n=N:=by omega
  obtain⟨fuel,rfl⟩:∃ g,fuel=g+1:=⟨fuel-1,by omega⟩
  exact .inl ⟨d,hd,zEb hN,fun m h1 h2=>by omega⟩
 | succ k ih =>
  intro n fuel d hk hn hf hd
  have lt:n<N:=by omega
  obtain⟨fuel,rfl⟩:∃ g,fuel=g+1:=⟨fuel-1,by omega⟩
  have fl:=hF n lt
  cases hs:t.slot (ze t.mask h n).j with
  | empty=>exact(fl hs).elim
  | dummy =>
   rw[zEc hs]
   have hd':zA4 t h N (some (ze t.mask h n).j):=fun j e=>by cases e;exact⟨hs,n,lt,rfl⟩
   rcases ih (n+1) fuel (some (ze t.mask h n).j) (by omega) (by omega) (by omega) hd' with ⟨d',a1,a2,a3⟩ | ⟨m,i,d',a1,a2,a3,a4,a5,a6,a7⟩
   ·refine .inl ⟨d',a1,a2,fun m h1 h2 i q=>?_⟩
    rcases gm h1 with z | z
    ·subst z;rw[hs] at q;cases q
    ·exact a3 m (by omega) h2 i q
   ·refine .inr ⟨m,i,d',by omega,a2,a3,a4,a5,a6,fun m' h1 h2 i' q=>?_⟩
    rcases gm h1 with z | z
    ·subst z;rw[hs] at q;cases q
    ·exact a7 m' (by omega) h2 i' q
  | live i0 =>
   rw[zF3 hs]
   by_cases hh:f i0=h
   ·exact .inr ⟨n,i0,d,cX _,lt,hd,hs,hh,if_pos hh,fun m' h1 h2=>by omega⟩
   ·rw[if_neg hh]
    rcases ih (n+1) fuel d (by omega) (by omega) (by omega) hd with ⟨d',a1,a2,a3⟩ | ⟨m,i,d',a1,a2,a3,a4,a5,a6,a7⟩
    ·refine .inl ⟨d',a1,a2,fun m h1 h2 i q=>?_⟩
     rcases gm h1 with z | z
     ·subst z;rw[hs] at q;cases q;exact hh
     ·exact a3 m (by omega) h2 i q
    ·refine .inr ⟨m,i,d',by omega,a2,a3,a4,a5,a6,fun m' h1 h2 i' q=>?_⟩
     rcases gm h1 with z | z
     ·subst z;rw[hs] at q;cases q;exact hh
     ·exact a7 m' (by omega) h2 i' q
end HT3
namespace HT3
open PySem PySem.Spec
open HI (yh)
section
variable {prog:Program} {w:World} {P:Addr→Prop} {A:Around} {E:Value→Shared→Prop} {s:Shared}
noncomputable abbrev TK(prog:Program)(w:World)(P:Addr→Prop)(h:Heap)(ns:List Int)(b:Addr):Prop:=IsTupleKey (intKind prog w) h ns b∧P b
noncomputable abbrev hT(prog:Program)(w:World)(ns:List Int):Int:=tupleKeyHash (intKind prog w) ns
theorem zBo{ns:List Int}{vs:List Value}(h:ItemsAre (intKind prog w) ns vs):∀ v∈vs,∃ k t,v=.int k t:=by
 induction h with
 | nil=>intro v hv;cases hv
 | cons h1 _ ih =>
  intro v hv
  rcases dC.mp hv with rfl | hv
  ·obtain⟨t,rfl⟩:=Value.isInt_shape h1;exact⟨_,_,rfl⟩
  ·exact ih v hv
theorem zEd{ns:List Int}{b:Addr}{Q:Bool→Shared→Prop}(hb:TK prog w P s.heap ns b)(h:Q false s):wpAny (model prog w) A (ofAClassStatement 8 (.ref b)) Q E s:=by
 obtain⟨o,its,n,ho,hc,hd,hi⟩:=hb.1
 unfold ofAClassStatement
 refine cL (fZ hb.1.typeIs ?_)
 simp only[beq_self_eq_true,↓reduceIte,pure_bind,Bool.not_true,cM]
 refine cL (gg ho hd ?_)
 simp only
 refine cL ?_
 rw[← Array.forIn_toList]
 refine wpAny_forIn_list _ (fun rest r s'=>r.1=none∧s'=s∧∀ v∈rest,∃ k t,v=Value.int k t) _ ?_ ?_ _ _ ⟨rfl,rfl,zBo hi⟩
 ·rintro v rest r s' ⟨hr,rfl,hall⟩
  obtain⟨k,t,rfl⟩:=hall v dt
  unfold ofAClassStatement
  refine cL (cT ?_)
  simp only[cM,if_false]
  exact cT ⟨rfl,rfl,fun u hu'=>hall u (dw _ hu')⟩
 ·rintro⟨r1,r2⟩ s' ⟨hr,rfl,u0⟩
  simp only at hr
  subst hr
  exact cT h
theorem zEe{ns:List Int}{b:Addr}{Q:Bool→Shared→Prop}(hb:TK prog w P s.heap ns b)(h:Q true s):wpAny (model prog w) A (hashByValue 8 (.ref b)) Q E s:=by
 obtain⟨o,its,n,ho,hc,hd,hi⟩:=hb.1
 unfold hashByValue
 refine cL (gu hb.1.typeIs F.slot_tuple_hash.lookup ?_)
 simp only
 refine cL (gg ho hd ?_)
 simp only[Option.getD_some]
 refine cL ?_
 rw[← Array.forIn_toList]
 refine wpAny_forIn_list _ (fun rest r s'=>r.1=none∧s'=s∧∀ v∈rest,∃ k t,v=Value.int k t) _ ?_ ?_ _ _ ⟨rfl,rfl,zBo hi⟩
 ·rintro v rest r s' ⟨hr,rfl,hall⟩
  obtain⟨k,t,rfl⟩:=hall v dt
  unfold hashByValue
  refine cL (cT ?_)
  simp only[Bool.not_true,cM,if_false]
  exact cT ⟨rfl,rfl,fun u hu'=>hall u (dw _ hu')⟩
 ·rintro⟨r1,r2⟩ s' ⟨hr,rfl,u0⟩
  simp only at hr
  subst hr
  exact cT h
theorem zF4{ns:List Int}{b:Addr}{l:List Value}{Q:Bool→Shared→Prop}(hb:TK prog w P s.heap ns b)(hl:∀ v∈l,∃ c ms,v=.ref c∧TK prog w P s.heap ms c)(h:Q false s):wpAny (model prog w) A (searchCouldBeSeen (.ref b) l) Q E s:=by
 unfold searchCouldBeSeen
 refine cL ?_
 refine wpAny_forIn_list _ (fun rest r s'=>r.1=none∧s'=s∧∀ v∈rest,∃ c ms,v=Value.ref c∧TK prog w P s.heap ms c) _ ?_ ?_ _ _ ⟨rfl,rfl,hl⟩
 ·rintro v rest r s' ⟨hr,rfl,hall⟩
  obtain⟨c,ms,rfl,hc⟩:=hall v dt
  have go:∀ u∈rest,∃ c ms,u=Value.ref c∧TK prog w P s'.heap ms c:=fun u hu'=>hall u (dw _ hu')
  dsimp only
  by_cases e:(b==c)=true
  ·rw[if_pos (by simp[e])]
   exact cT ⟨rfl,rfl,go⟩
  ·rw[if_neg (by simp[e,carriedByValue])]
   refine cL ((tupleKind (intKind prog w)).quiet (k:=ns) hb.1 ?_)
   simp only[Bool.not_true,cM,if_false]
   refine cL ((tupleKind (intKind prog w)).quiet (k:=ms) hc.1 ?_)
   simp only[Bool.not_true,cM,if_false]
   refine cL (zEd hb ?_)
   simp only[cM,if_false]
   refine cL (zEd hc ?_)
   simp only[cM,if_false]
   exact cT ⟨rfl,rfl,go⟩
 ·rintro⟨r1,r2⟩ s' ⟨hr,rfl,u0⟩
  simp only at hr
  subst hr
  exact cT h
noncomputable def OkT(prog:Program)(w:World)(P:Addr→Prop)(h:Heap)(es:Array (Int×Value)):Prop:=∀(i:Nat) (e:Int×Value),es[i]?=some e→∃ c ms,e=(hT prog w ms,.ref c)∧TK prog w P h ms c
noncomputable def sf(es:Array (Int×Value))(i:Nat):Int:=(es[i]?.map (·.1)).getD 0
theorem zHz{b:Addr}{ns:List Int}{t:SetTable}{l:List Value}{K1 K2:Sem SetFound}{Q:SetFound→Shared→Prop}(hb:TK prog w P s.heap ns b)(hl:∀ v∈l,∃ c ms,v=.ref c∧TK prog w P s.heap ms c)(h:wpAny (model prog w) A K2 Q E s) :
  wpAny (model prog w) A (if (!t.led)=true then searchCouldBeSeen (.ref b) l>>=fun c=>if c=true then K1 else K2 else K2) Q E s:=by
 split
 ·refine cL (zF4 hb hl ?_)
  rw[if_neg (by simp)]
  exact h
 ·exact h
theorem zOs{a b:Addr}{ns:List Int}{o:Obj}{es:Array (Int×Value)}{ep:Nat}{t:SetTable}{adding:Bool}{Q:SetFound→Shared→Prop}(hA:A.units<cLine)(ho:s.heap.get? a=some o)(hd:o.data=.set es ep t)(T:Tab t es)(ok:OkT prog w P s.heap es)(hb:TK prog w P s.heap ns b)
  {N:Nat} (hNle:N≤10*(13+t.mask)) (hN:t.slot (ze t.mask (hT prog w ns) N).j=.empty) (hF:∀ m,m<N→wd t (ze t.mask (hT prog w ns) m).j)
  (q1:∀(i:Nat) c,es[i]?=some (hT prog w ns,.ref c)→TK prog w P s.heap ns c→Q (.there (if adding then none else some i)) s)
  (q2:(∀(i:Nat) e c ms,es[i]?=some e→e.2=.ref c→TK prog w P s.heap ms c→ms≠ns)→∀ d,zA4 t (hT prog w ns) N d→Q (.free (d.getD (ze t.mask (hT prog w ns) N).j) d.isSome) s) :
  ∀(k n fuel:Nat) (d:Option Nat) (stand:Option SetTable.Probe),N-n=k→n≤N→k<fuel→zA4 t (hT prog w ns) N d→stand.getD (t.probeStart (hT prog w ns))=At t.mask (hT prog w ns) n d →
   (∀ m,m<n→∀(i:Nat),t.slot (ze t.mask (hT prog w ns) m).j=.live i→∀ e c ms,es[i]?=some e→e.2=.ref c→TK prog w P s.heap ms c→ms≠ns)→wpAny (model prog w) A (setSearchFrom a (.ref b) (hT prog w ns) adding fuel stand) Q E s:=by
 have hft:t.fits es.size=true:=by
  unfold SetTable.fits
  simp[T.size,T.room]
 have hgw:t.gaveWay=false:=T.msk.odd
 intro k
 induction k using Nat.strongRecOn with
 | ind k ih =>
  intro n fuel d stand hk hn hf hdm hst hno
  obtain⟨fuel,rfl⟩:∃ g,fuel=g+1:=⟨fuel-1,by omega⟩
  unfold setSearchFrom
  refine cL (fq ho hd hft ?_)
  dsimp only
  rw[hgw]
  simp only[cM,↓reduceIte]
  rw[hst]
  have met:=zDR (t:=t) (f:=sf es) (h:=hT prog w ns) hN hF (N-n) n (10*gF t.mask) d rfl hn (by
   unfold gF
   omega) hdm
  generalize hp:fA t _ _ _=r
  rcases met with ⟨d',a1,a2,a3⟩ | ⟨m,i,d',a1,a2,a3,a4,a5,a6,a7⟩
  ·have hr:r=some (.empty (ze t.mask (hT prog w ns) N).j d'):=hp.symm.trans a2
   subst hr
   dsimp only
   have none:∀(i:Nat) e c ms,es[i]?=some e→e.2=.ref c→TK prog w P s.heap ms c→ms≠ns:=by
    intro i e c ms e1 e2 e3 e4
    subst e4
    obtain⟨c',ms',z1,z2⟩:=ok i e e1
    have:c'=c:=by rw[z1] at e2;cases e2;rfl
    subst this
    have:=z2.1.inj e3.1
    subst this
    have hi:i<t.place.size:=by rw[T.size];exact(fN.mp e1).1
    have pl:t.place[i]?=some t.place[i]:=by simp[hi]
    obtain⟨n',w1,w2⟩:=T.way t.place[i] (hT prog w ms') (.ref c') ⟨i,pl,by rw[e1,z1]⟩
    have sl:=zA3 T.ris pl
    have lt:n'<N:=by
     rcases Nat.lt_trichotomy n' N with z | z | z
     ·exact z
     ·subst z;rw[w1,sl] at hN;cases hN
     ·exact(w2 N z hN).elim
    rw[← w1] at sl
    rcases eL n' n with z | z
    ·exact hno n' z i sl e c' ms' e1 e2 e3 rfl
    ·refine a3 n' z lt i sl ?_
     unfold sf
     rw[e1,z1]
     rfl
   cases d' with
   | none=>exact cT (q2 none Option.none a1)
   | some dj =>
    dsimp only
    have hdj:=(a1 dj rfl).1
    rw[if_neg (by simp[hdj])]
    exact cT (q2 none (some dj) a1)
  ·have hr:r=some (.candidate (ze t.mask (hT prog w ns) m).j i (At t.mask (hT prog w ns) (m+1) d')):=hp.symm.trans a6
   subst hr
   dsimp only
   have pl:=zF2 a4
   have hi:i<es.size:=by rw[← T.size];exact(fN.mp pl).1
   obtain⟨c,ms,z1,z2⟩:=ok i es[i] (by simp[hi])
   have ei:es[i]?=some (hT prog w ms,.ref c):=by simp[hi,z1]
   have hseen:∀ v∈(Array.filter (fun x=>x.1==hT prog w ns) es).toList.map (fun x=>x.2),∃ c ms,v=.ref c∧TK prog w P s.heap ms c:=fun v hv=>by
    obtain⟨e,he,rfl⟩:=dI.mp hv
    rw[Array.toList_filter] at he
    obtain⟨i',hi',e'⟩:=List.getElem_of_mem (fj.mp he).1
    obtain⟨c',ms',y1,y2⟩:=ok i' e (by rw[← e'];simpa using hi')
    exact⟨c',ms',by rw[y1],y2⟩
   refine zHz hb hseen ?_
   simp only[ei]
   refine cL (eu ((tupleKind (intKind prog w)).eqBool (x:=ms) (y:=ns) hA z2.1 hb.1 ?_))
   refine cL (fq ho hd hft ?_)
   dsimp only
   have sm:t.sameMemory t.moves t.mask=some true:=by
    unfold SetTable.sameMemory
    simp
   by_cases e:ms=ns
   ·subst e
    cases adding with
    | true =>
     rw[if_pos (by simp)]
     exact cT (q1 i c ei z2)
    | false =>
     rw[if_neg (by simp),sm]
     simp only[↓reduceIte,a4,ei]
     refine cL (wpAny_isSame_ref_self ?_)
     simp only[↓reduceIte,pure_bind,decide_true]
     exact cT (q1 i c ei z2)
   ·rw[if_neg (by simp[e]),sm]
    simp only[↓reduceIte,a4,ei]
    refine cL (wpAny_isSame_ref_self ?_)
    simp only[↓reduceIte,pure_bind,decide_eq_true_eq,e]
    refine ih (N-(m+1)) (by omega) (m+1) fuel d' _ rfl (by omega) (by omega) a3 rfl ?_
    intro m' hm' i' sl' e' c' ms' f1 f2 f3 f4
    subst f4
    rcases eL m' n with z | z
    ·exact hno m' z i' sl' e' c' ms' f1 f2 f3 rfl
    ·rcases gm (Nat.le_of_lt_succ hm') with y | y
     ·subst y
      rw[a4] at sl'
      cases sl'
      rw[ei] at f1
      cases f1
      cases f2
      exact e (z2.1.inj f3.1)
     ·obtain⟨c2,ms2,y1,y2⟩:=ok i' e' f1
      have:c2=c':=by rw[y1] at f2;cases f2;rfl
      subst this
      have:=y2.1.inj f3.1
      subst this
      refine a7 m' z y i' sl' ?_
      unfold sf
      rw[f1,y1]
      rfl
end
open HI (yh)
theorem zAZ(mask:Nat)(h:Int):∀ n,(ze mask h n).j+(ze mask h n).more≤mask∧(ze mask h n).i≤mask
 | 0=>by
  have hi:dE h%(mask+1)≤mask:=by have:=Nat.mod_lt (dE h) (show 0<mask+1 by omega);omega
  show dE h%(mask+1)+(dQ mask (dE h%(mask+1))-dE h%(mask+1))≤mask∧dE h%(mask+1)≤mask
  generalize dE h%(mask+1)=i at *
  unfold dQ
  split<;>omega
 | n+1=>by
  have ih:=zAZ mask h n
  show(adv mask (ze mask h n)).j+(adv mask (ze mask h n)).more≤mask∧(adv mask (ze mask h n)).i≤mask
  unfold adv
  split
  ·simp only
   omega
  ·simp only
   have hi:(eC mask (ze mask h n).i (ze mask h n).perturb).1≤mask:=by
    unfold eC
    simp only
    have:=Nat.mod_lt ((ze mask h n).i*5+1+(ze mask h n).perturb / 32) (show 0<mask+1 by omega)
    omega
   generalize (eC mask (ze mask h n).i (ze mask h n).perturb).1=i at *
   unfold dQ
   split<;>omega
theorem zAK{t:SetTable}{es:Array (Int×Value)}{j:Nat}{h:Int}{x:Value}:Ent t es j h x↔(j,(h,x))∈t.place.toList.zip es.toList:=by
 unfold Ent
 rw[List.mem_iff_getElem?]
 constructor
 ·rintro⟨i,e1,e2⟩
  exact⟨i,by rw[List.getElem?_zip_eq_some];simpa using⟨e1,e2⟩⟩
 ·rintro⟨i,e⟩
  rw[List.getElem?_zip_eq_some] at e
  exact⟨i,by simpa using e.1,by simpa using e.2⟩
theorem zF5{α β:Type}{l:List α}{l':List β}(hl:l.length=l'.length)(p:Nat)(a:α)(b:β)(z:α×β):z∈(l.take p++a::l.drop p).zip (l'.take p++b::l'.drop p)↔z=(a,b)∨z∈l.zip l':=by
 rw[List.zip_append (by simp[hl])]
 have e:l.zip l'=(l.take p).zip (l'.take p)++(l.drop p).zip (l'.drop p):=by
  rw[← List.zip_append (by simp[hl]),eE,eE]
 rw[e]
 simp only[gp,dH,dC]
 constructor
 ·rintro(h | h | h)
  ·exact .inr (.inl h)
  ·exact .inl h
  ·exact .inr (.inr h)
 ·rintro(h | h | h)
  ·exact .inr (.inl h)
  ·exact .inl h
  ·exact .inr (.inr h)
theorem zK{α:Type}(xs:Array α)(p:Nat):(dD xs p).toList=xs.toList.take p++xs.toList.drop (p+1):=by
 simp[dD,List.extract_eq_take_drop,fL]
theorem zBQ{α:Type}(l:List α)(p:Nat):(l.take p++l.drop (p+1)).Sublist l:=by
 conv=>rhs;rw[← eE p l]
 exact(List.Sublist.refl _).append (by rw[← List.drop_drop];exact List.drop_sublist 1 _)
theorem zEf{α:Type}{l:List α}{p:Nat}{x y:α}(hp:l[p]?=some x)(hy:y∈l)(hne:y≠x):y∈l.take p++l.drop (p+1):=by
 rw[← eE p l] at hy
 rcases dH.mp hy with h | h
 ·exact eO _ h
 ·obtain⟨hlt,e⟩:=d8.mp hp
  rw[List.drop_eq_getElem_cons hlt,e] at h
  rcases dC.mp h with h | h
  ·exact(hne h).elim
  ·exact dF _ h
theorem zF6{α:Type}{l:List α}{p:Nat}{x:α}(hp:l[p]?=some x):l.Perm (x::(l.take p++l.drop (p+1))):=by
 obtain⟨hlt,e⟩:=d8.mp hp
 conv=>lhs;rw[← eE p l,List.drop_eq_getElem_cons hlt,e]
 exact List.perm_middle
theorem zEg{xs:Array Nat}(hr:yh xs){p j:Nat}(hp:xs.toList[p]?=some j):j∉xs.toList.take p++xs.toList.drop (p+1):=by
 have nd:xs.toList.Nodup:=fH.imp (fun h=>dB h) hr
 exact(fi.mp ((zF6 hp).nodup_iff.mp nd)).1
theorem zA5{xs:Array Nat}(hr:yh xs)(p:Nat):yh (dD xs p):=by
 unfold yh
 rw[zK]
 exact fH.sublist (zBQ _ _) hr
section
variable {t:SetTable} {es:Array (Int×Value)} {j:Nat} {h:Int} {x:Value}
theorem zBR(hs:t.slot j=.dummy):fE t.dummies j=true:=by
 unfold SetTable.slot at hs
 simp only at hs
 split at hs
 ·cases hs
 ·split at hs
  ·rename_i q;exact q
  ·cases hs
theorem zF7(T:Tab t es){j':Nat}{h':Int}{x':Value}:Ent (t.put j).1 (dR es (t.put j).2 (h,x)) j' h' x'↔(j'=j∧h'=h∧x'=x)∨Ent t es j' h' x':=by
 rw[zAK,zAK]
 show(j',(h',x'))∈(dR t.place (de t.place j) j).toList.zip (dR es (de t.place j) (h,x)).toList↔_
 rw[SetTable.toList_insertAt,SetTable.toList_insertAt,zF5 (by simpa using T.size)]
 simp
theorem zBp(T:Tab t es)(hnl:t.slot j=.empty∨t.slot j=.dummy)(rD:yh (t.put j).1.dummies)(rP:yh (t.put j).1.place){i:Nat}(hf:wd t i):wd (t.put j).1 i:=by
 rw[yO rP rD]
 have pm:∀ y,y∈(t.put j).1.place↔y=j∨y∈t.place:=fun y=>by
  show y∈dR t.place (de t.place j) j↔_
  rw[← ef,(eW _ _ _).mem_iff]
  simp[or_comm]
 rcases(yO T.ris T.risD).mp hf with q | q
 ·exact .inl ((pm i).mpr (.inr q))
 ·by_cases e:i=j
  ·exact .inl ((pm i).mpr (.inl e))
  ·refine .inr ?_
   show i∈(if fE t.dummies j then dD t.dummies (de t.dummies j) else t.dummies)
   split
   ·rename_i hh
    rw[← ef,zK]
    have hp:t.dummies.toList[de t.dummies j]?=some j:=by
     unfold fE at hh
     simpa using hh
    exact zEf hp (by simpa using q) e
   ·exact q
theorem Tab.put(T:Tab t es){n:Nat}(hj:(ze t.mask h n).j=j)(hw:∀ m,m<n→wd t (ze t.mask h m).j)(hnl:t.slot j=.empty∨t.slot j=.dummy)(rm:t.fill+1≤t.mask) :
  Tab (t.put j).1 (dR es (t.put j).2 (h,x))∧(t.put j).1.fill≤t.fill+1∧(t.slot j=.dummy→(t.put j).1.fill=t.fill):=by
 have hnl':t.place[de t.place j]?≠some j:=HI.zGp hnl
 have rP:yh (t.put j).1.place:=HI.zD3 T.ris hnl'
 have rD:yh (t.put j).1.dummies:=by
  show yh (if fE t.dummies j then dD t.dummies (de t.dummies j) else t.dummies)
  split
  ·exact zA5 T.risD _
  ·exact T.risD
 have jm:j≤t.mask:=by have:=(zAZ t.mask h n).1;omega
 have pz:(t.put j).1.place.size=t.place.size+1:=by
  have:=(eW t.place (de t.place j) j).length_eq
  show(dR t.place (de t.place j) j).size=_
  simpa using this
 have dz:(t.put j).1.dummies.size≤t.dummies.size∧(t.slot j=.dummy→(t.put j).1.dummies.size+1=t.dummies.size):=by
  show(if fE t.dummies j then dD t.dummies (de t.dummies j) else t.dummies).size≤_∧(_→(if fE t.dummies j then dD t.dummies (de t.dummies j) else t.dummies).size+1=_)
  split
  ·rename_i hh
   have hp:t.dummies.toList[de t.dummies j]?=some j:=by
    unfold fE at hh
    simpa using hh
   have hlt:=(d8.mp hp).1
   have e:(dD t.dummies (de t.dummies j)).size=t.dummies.size-1:=by
    rw[← da,zK,du,dO,eT]
    simp only[da] at *
    omega
   simp only[da] at hlt
   omega
  ·rename_i hh
   exact⟨cX _,fun q=>(hh (zBR q)).elim⟩
 have fz:(t.put j).1.fill=(t.put j).1.place.size+(t.put j).1.dummies.size:=rfl
 have fz0:t.fill=t.place.size+t.dummies.size:=rfl
 refine⟨⟨T.msk,?_,rP,rD,fun y hy=>?_,fun y hy=>?_,?_,fun j' h' x' he=>?_,fun y hy hy'=>?_⟩,by omega,fun q=>by have:=dz.2 q;omega⟩
 ·rw[pz,T.size]
  have:=(eW es (t.put j).2 (h,x)).length_eq
  simp at this
  omega
 ·have:y∈dR t.place (de t.place j) j:=hy
  rw[← ef,(eW _ _ _).mem_iff] at this
  rcases(by simpa using this:y∈t.place∨y=j) with q | q
  ·exact T.le y q
  ·rw[q];exact jm
 ·have:y∈(if fE t.dummies j then dD t.dummies (de t.dummies j) else t.dummies):=hy
  refine T.leD y ?_
  split at this
  ·rw[← ef,zK] at this
   simpa using(zBQ _ _).subset this
  ·exact this
 ·show(t.put j).1.fill≤t.mask
  omega
 ·rcases(zF7 T).mp he with ⟨rfl,rfl,rfl⟩ | q
  ·exact⟨n,hj,fun m hm=>zBp T hnl rD rP (hw m hm)⟩
  ·obtain⟨n',w1,w2⟩:=T.way j' h' x' q
   exact⟨n',w1,fun m hm=>zBp T hnl rD rP (w2 m hm)⟩
 ·have hz:y∈(if fE t.dummies j then dD t.dummies (de t.dummies j) else t.dummies):=hy
  have hz':y∈dR t.place (de t.place j) j:=hy'
  clear hy hy'
  rw[← ef,(eW _ _ _).mem_iff] at hz'
  have hz':y∈t.place∨y=j:=by simpa using hz'
  by_cases hh:fE t.dummies j=true
  ·rw[if_pos hh] at hz
   have hp:t.dummies.toList[de t.dummies j]?=some j:=by
    unfold fE at hh
    simpa using hh
   rw[← ef,zK] at hz
   rcases hz' with q | q
   ·exact T.dis y (by simpa using(zBQ _ _).subset hz) q
   ·rw[q] at hz
    exact zEg T.risD hp hz
  ·rw[if_neg hh] at hz
   rcases hz' with q | q
   ·exact T.dis y hz q
   ·rw[q] at hz
    exact hh ((zBP T.risD).mpr hz)
end
section
variable {t:SetTable} {es:Array (Int×Value)} {i j:Nat}
theorem zH0{α β:Type}{l:List α}{l':List β}(hl:l.length=l'.length)(p:Nat){z:α×β}(h:z∈(l.take p++l.drop (p+1)).zip (l'.take p++l'.drop (p+1))):z∈l.zip l':=by
 rw[List.zip_append (by simp[hl])] at h
 have e:l.zip l'=(l.take p).zip (l'.take p)++(l.drop p).zip (l'.drop p):=by
  rw[← List.zip_append (by simp[hl]),eE,eE]
 rw[e]
 rcases dH.mp h with q | q
 ·exact eO _ q
 ·refine dF _ ?_
  rw[← List.drop_drop,← List.drop_drop] at q
  generalize l.drop p=a at q ⊢
  generalize l'.drop p=b at q ⊢
  cases a with
  | nil=>simp at q
  | cons a0 a1 =>
   cases b with
   | nil=>simp at q
   | cons b0 b1 =>
    have q:z∈a1.zip b1:=by simpa using q
    show z∈(a0,b0)::a1.zip b1
    exact dw _ q
theorem Tab.drop(T:Tab t es)(hi:t.place[i]?=some j):Tab (t.drop i) (dD es i)∧(t.drop i).fill=t.fill:=by
 have ed:t.drop i={ t with place:=dD t.place i,dummies:=dR t.dummies (de t.dummies j) j }:=by
  unfold SetTable.drop
  rw[hi]
 have hp:t.place.toList[i]?=some j:=by simpa using hi
 have jp:j∈t.place:=Array.mem_of_getElem? hi
 have jd:j∉t.dummies:=fun q=>T.dis j q jp
 have hlt:i<t.place.size:=(fN.mp hi).1
 have rP:yh (dD t.place i):=zA5 T.ris i
 have rD:yh (dR t.dummies (de t.dummies j) j):=HI.zD3 T.risD fun q=>jd (Array.mem_of_getElem? q)
 have pz:(dD t.place i).size=t.place.size-1:=by
  rw[← da,zK,du,dO,eT]
  simp only[da]
  omega
 have ez:(dD es i).size=es.size-1:=by
  have:=T.size
  rw[← da,zK,du,dO,eT]
  simp only[da]
  omega
 have dz:(dR t.dummies (de t.dummies j) j).size=t.dummies.size+1:=by
  have:=(eW t.dummies (de t.dummies j) j).length_eq
  simpa using this
 have dm:∀ y,y∈dR t.dummies (de t.dummies j) j↔y∈t.dummies∨y=j:=fun y=>by
  rw[← ef,(eW _ _ _).mem_iff]
  simp
 rw[ed]
 have fl:∀ y,wd t y→wd { t with place:=dD t.place i,dummies:=dR t.dummies (de t.dummies j) j } y:=fun y q=>by
  rw[yO rP rD]
  rcases(yO T.ris T.risD).mp q with z | z
  ·by_cases e:y=j
   ·exact .inr ((dm y).mpr (.inr e))
   ·left
    show y∈dD t.place i
    rw[← ef,zK]
    exact zEf hp (by simpa using z) e
  ·exact .inr ((dm y).mpr (.inl z))
 have sb:∀ y,y∈dD t.place i→y∈t.place:=fun y hy=>by
  rw[← ef,zK] at hy
  simpa using(zBQ _ _).subset hy
 have fz:SetTable.fill { t with place:=dD t.place i,dummies:=dR t.dummies (de t.dummies j) j }=t.fill:=by
  show(dD t.place i).size+(dR t.dummies (de t.dummies j) j).size=t.place.size+t.dummies.size
  omega
 refine⟨⟨T.msk,?_,rP,rD,fun y hy=>T.le y (sb y hy),fun y hy=>?_,?_,fun j' h' x' he=>?_,fun y hy hy'=>?_⟩,fz⟩
 ·show(dD t.place i).size=_
  rw[pz,ez,T.size]
 ·rcases(dm y).mp hy with q | q
  ·exact T.leD y q
  ·rw[q];exact T.le j jp
 ·rw[fz];exact T.room
 ·rw[zAK] at he
  have he:(j',(h',x'))∈(dD t.place i).toList.zip (dD es i).toList:=he
  rw[zK,zK] at he
  obtain⟨n',w1,w2⟩:=T.way j' h' x' (zAK.mpr (zH0 (by simpa using T.size) i he))
  exact⟨n',w1,fun m hm=>fl _ (w2 m hm)⟩
 ·rcases(dm y).mp hy with q | q
  ·exact T.dis y q (sb y hy')
  ·subst q
   have hy':y∈dD t.place i:=hy'
   rw[← ef,zK] at hy'
   exact zEg T.ris hp hy'
end
open HI (yh)
noncomputable def hd(mask:Nat)(h:Int):Nat→Nat
 | 0=>0
 | k+1=>hd mask h k+(dQ mask (lp mask h k).1-(lp mask h k).1)+1
section
variable {mask:Nat} {h:Int}
theorem zEh:∀ k,ze mask h (hd mask h k)=⟨(lp mask h k).1,dQ mask (lp mask h k).1-(lp mask h k).1,(lp mask h k).1,(lp mask h k).2,none⟩
 | 0=>rfl
 | k+1=>by
  have:=zAJ (zEh k) _ (cX _)
  show adv mask (ze mask h (hd mask h k+(dQ mask (lp mask h k).1-(lp mask h k).1)))=_
  rw[this]
  unfold adv
  rw[if_neg (by simp)]
  rfl
theorem zCW{k m:Nat}(hm:m≤dQ mask (lp mask h k).1-(lp mask h k).1):(ze mask h (hd mask h k+m)).j=(lp mask h k).1+m:=by rw[zAJ (zEh k) m hm]
theorem zH1(mask i:Nat):i≤dQ mask i:=by
 unfold dQ
 split<;>omega
noncomputable def Tk(owner:Array (Option Nat))(j:Nat):Prop:=(owner.getD j (some 0)).isSome=true
theorem zEi{owner:Array (Option Nat)}{R:Nat}(hR:¬ Tk owner (lp mask h R).1):∀(fuel r:Nat),r≤R→R-r<fuel→(∀ m,m<hd mask h r→Tk owner (ze mask h m).j) →
  ∃ j n,fW.free mask owner fuel (lp mask h r).1 (lp mask h r).2=some j∧(ze mask h n).j=j∧¬ Tk owner j∧∀ m,m<n→Tk owner (ze mask h m).j:=by
 intro fuel
 induction fuel with
 | zero=>intro r u0 h;omega
 | succ fuel ih =>
  intro r hr hf hb
  unfold fW.free
  have hge:=zH1 mask (lp mask h r).1
  cases hfd:(cY (dQ mask (lp mask h r).1+1-(lp mask h r).1)).find? fun k=>(owner.getD ((lp mask h r).1+k) (some 0)).isNone with
  | some k0 =>
   obtain⟨f1,f2,f3⟩:=List.find?_range_eq_some.mp hfd
   have f2:=dL.mp f2
   refine⟨(lp mask h r).1+k0,hd mask h r+k0,by simp only[hfd],?_,?_,?_⟩
   ·exact zCW (by omega)
   ·unfold Tk
    rw[Option.isNone_iff_eq_none] at f1
    rw[f1];simp
   ·intro m hm
    rcases eL m (hd mask h r) with z | z
    ·exact hb m z
    ·obtain⟨d,rfl⟩:∃ d,m=hd mask h r+d:=⟨m-hd mask h r,by omega⟩
     rw[zCW (by omega)]
     have:=f3 d (by omega)
     unfold Tk
     cases q:owner.getD ((lp mask h r).1+d) (some 0) with
     | none=>rw[q] at this;simp at this
     | some _=>rfl
  | none =>
   rw[List.find?_range_eq_none] at hfd
   have all:∀ d,d≤dQ mask (lp mask h r).1-(lp mask h r).1→Tk owner ((lp mask h r).1+d):=fun d hd'=>by
    have:=hfd d (by omega)
    unfold Tk
    cases q:owner.getD ((lp mask h r).1+d) (some 0) with
    | none=>rw[q] at this;simp at this
    | some _=>rfl
   have hne:r≠R:=fun e=>by
    subst e
    exact hR (by simpa using all 0 (fh _))
   simp only
   refine ih (r+1) (by omega) (by omega) fun m hm=>?_
   have hm:m<hd mask h r+(dQ mask (lp mask h r).1-(lp mask h r).1)+1:=hm
   rcases eL m (hd mask h r) with z | z
   ·exact hb m z
   ·obtain⟨d,rfl⟩:∃ d,m=hd mask h r+d:=⟨m-hd mask h r,by omega⟩
    rw[zCW (by omega)]
    exact all d (by omega)
end
theorem wU{β:Type}{f g:Nat→Option β}:∀ {l:List Nat},(∀ i∈l,g i=f i)→l.filterMap g=l.filterMap f
 | [],_=>rfl
 | a::l,h=>by
  have ea:=h a dt
  have ih:=wU fun i hi=>h i (dw _ hi)
  cases q:f a with
  | none=>rw[fY (ea.trans q),fY q,ih]
  | some c=>rw[fg (ea.trans q),fg q,ih]
theorem zEj{β:Type}{f:Nat→Option β}:∀ {l:List Nat},(∀ i∈l,(f i).isSome=true)→(l.filterMap f).length=l.length
 | [],_=>rfl
 | a::l,h=>by
  have ih:=zEj fun i hi=>h i (dw _ hi)
  have ea:=h a dt
  cases q:f a with
  | none=>rw[q] at ea;cases ea
  | some c=>rw[fg q,cR,cR,ih]
theorem zEk{β:Type}{f g:Nat→Option β}{j:Nat}{b:β}(hf:f j=none)(hg:g j=some b):∀ {l:List Nat},l.Nodup→j∈l→(∀ i∈l,i≠j→g i=f i)→(l.filterMap g).Perm (b::l.filterMap f)
 | [],_,hj,_=>by cases hj
 | a::l,nd,hj,ho=>by
  obtain⟨n1,n2⟩:=fi.mp nd
  by_cases e:a=j
  ·subst e
   have:l.filterMap g=l.filterMap f:=by
    apply wU
    intro i hi
    exact ho i (dw _ hi) fun e=>n1 (e▸hi)
   rw[fg hg,fY hf,this]
  ·have hj':j∈l:=by
    rcases dC.mp hj with q | q
    ·exact(e q.symm).elim
    ·exact q
   have ih:=zEk hf hg n2 hj' fun i hi hne=>ho i (dw _ hi) hne
   have ea:=ho a dt e
   cases q:f a with
   | none=>rw[fY (ea.trans q),fY q];exact ih
   | some c =>
    rw[fg (ea.trans q),fg q]
    exact(fK.cons c ih).trans (fK.swap _ _ _)
structure zBS (mask:Nat) (hs:List Int) (owner:Array (Option Nat)) (k:Nat):Prop where
 size:owner.size=mask+1
 way:∀(j k':Nat),owner.getD j none=some k'→∃ h n,hs[k']?=some h∧(ze mask h n).j=j∧∀ m,m<n→(owner.getD (ze mask h m).j none).isSome=true
 perm:((cY (mask+1)).filterMap fun j=>owner.getD j none).Perm (cY k)
theorem zBS.gap{mask:Nat}{hs:List Int}{owner:Array (Option Nat)}{k:Nat}(I:zBS mask hs owner k)(hk:k≤mask):∃ j,j≤mask∧owner.getD j none=none:=by
 by_cases q:∃ j,j≤mask∧owner.getD j none=none
 ·exact q
 ·have:=zEj (f:=fun j=>owner.getD j none) (l:=cY (mask+1)) fun i hi=>by
   have hi:=dL.mp hi
   cases z:owner.getD i none with
   | none=>exact(q ⟨i,by omega,z⟩).elim
   | some _=>rfl
  rw[I.perm.length_eq,dP,dP] at this
  omega
theorem zCX{mask:Nat}{hs:List Int}{owner:Array (Option Nat)}{k:Nat}(I:zBS mask hs owner k){j:Nat}(hj:j≤mask):Tk owner j↔(owner.getD j none).isSome=true:=by
 have:j<owner.size:=by rw[I.size];omega
 unfold Tk
 simp[gh,this]
theorem zBS.step{mask:Nat}{hs:List Int}{owner:Array (Option Nat)}{k:Nat}{h:Int}(hm:Msk mask)(I:zBS mask hs owner k)(hk:k≤mask)(e:hs[k]?=some h) :
  ∃ j,fW.free mask owner (gF mask) (dE h%(mask+1)) (dE h)=some j∧zBS mask hs (owner.setIfInBounds j (some k)) (k+1):=by
 obtain⟨j0,h1,h2⟩:=I.gap hk
 obtain⟨R,r1,r2⟩:=heads (h:=h) hm.cyc h1
 obtain⟨j,n,f1,f2,f3,f4⟩:=zEi (mask:=mask) (h:=h) (owner:=owner) (R:=R) (by rw[r2,zCX I h1,h2];simp) (gF mask) 0 (fh _) (by unfold gF;omega) (fun m hm=>absurd hm (Nat.not_lt_zero _))
 have hj:j≤mask:=by have:=(zAZ mask h n).1;omega
 have hjs:j<owner.size:=by rw[I.size];omega
 rw[zCX I hj] at f3
 have fn:owner.getD j none=none:=by
  cases q:owner.getD j none with
  | none=>rfl
  | some _=>rw[q] at f3;exact(f3 rfl).elim
 have gs:∀ i,(owner.setIfInBounds j (some k)).getD i none=if i=j then some k else owner.getD i none:=fun i=>by
  by_cases e:i=j
  ·subst e;rw[if_pos rfl];simp[gh,hjs]
  ·rw[if_neg e]
   rw[Array.getD_eq_getD_getElem?,Array.getD_eq_getD_getElem?,Array.getElem?_setIfInBounds_ne (Ne.symm e)]
 have mono:∀ i,(owner.getD i none).isSome=true→((owner.setIfInBounds j (some k)).getD i none).isSome=true:=fun i q=>by
  rw[gs]
  split
  ·rfl
  ·exact q
 refine⟨j,f1,⟨by rw[Array.size_setIfInBounds];exact I.size,fun j' k' q=>?_,?_⟩⟩
 ·rw[gs] at q
  split at q
  ·rename_i e'
   cases q
   refine⟨h,n,e,f2.trans e'.symm,fun m hm'=>mono _ ?_⟩
   rw[← zCX I (by have:=(zAZ mask h m).1;omega)]
   exact f4 m hm'
  ·obtain⟨h',n',w1,w2,w3⟩:=I.way j' k' q
   exact⟨h',n',w1,w2,fun m hm'=>mono _ (w3 m hm')⟩
 ·rw[show cY (k+1)=cY k++[k] from gR]
  refine(zEk (f:=fun i=>owner.getD i none) (g:=fun i=>(owner.setIfInBounds j (some k)).getD i none) (j:=j) (b:=k) fn ((gs j).trans (if_pos rfl)) gJ (dL.mpr (by omega)) fun i u0 hne=>(gs i).trans (if_neg hne)).trans ?_
  refine(fK.cons k I.perm).trans ?_
  exact(List.perm_append_singleton k _).symm
theorem zEl{mask:Nat}(hm:Msk mask){hs:List Int}(hn:hs.length≤mask):∀(l done:List Int) (owner:Array (Option Nat)),hs=done++l→zBS mask hs owner done.length →
  ∃ owner',(l.foldl (fun(acc:Option (Array (Option Nat)×Nat)) h=>do
   let (owner,k) ← acc
   let j ← fW.free mask owner (gF mask) (dE h%(mask+1)) (dE h)
   pure (owner.setIfInBounds j (some k),k+1)) (some (owner,done.length))).map (·.1)=some owner'∧zBS mask hs owner' hs.length
 | [],done,owner,e,I=>⟨owner,rfl,by rw[e,fk] at *;exact I⟩
 | h::l,done,owner,e,I=>by
  have hk:done.length≤mask:=by rw[e] at hn;simp at hn;omega
  obtain⟨j,f1,I'⟩:=I.step hm hk (h:=h) (by rw[e];simp)
  obtain⟨owner',g1,g2⟩:=zEl hm hn l (done++[h]) (owner.setIfInBounds j (some done.length)) (by rw[e];simp) (by simpa using I')
  refine⟨owner',?_,g2⟩
  rw[← g1]
  rw[List.foldl_cons]
  congr 2
  show(do
   let j ← fW.free mask owner (gF mask) (dE h%(mask+1)) (dE h)
   pure (owner.setIfInBounds j (some done.length),done.length+1))=_
  rw[f1]
  simp
theorem zH2{mask:Nat}(hm:Msk mask){hashes:Array Int}(hn:hashes.size≤mask):∃ owner,fW mask hashes=some owner∧zBS mask hashes.toList owner hashes.size:=by
 have g0:∀ j,(Array.replicate (mask+1) (none:Option Nat)).getD j none=none:=fun j=>by
  simp only[gh]
  split
  ·simp
  ·rfl
 obtain⟨owner,h1,h2⟩:=zEl hm (hs:=hashes.toList) (by simpa using hn) hashes.toList [] (Array.replicate (mask+1) none) rfl ⟨by simp,fun j k' q=>(by rw[g0] at q;cases q),by
  have:((cY (mask+1)).filterMap fun j=>(Array.replicate (mask+1) (none:Option Nat)).getD j none)=[]:=by
   rw[wU (f:=fun u0=>none) fun i u0=>g0 i]
   simp
  rw[this]
  exact .refl _⟩
 refine⟨owner,?_,by simpa using h2⟩
 unfold fW
 rw[← Array.foldl_toList]
 exact h1
theorem zF8{mask finger moves:Nat}{led plain:Bool}{es:Array (Int×Value)}(hm:Msk mask)(hn:es.size≤mask) :
  ∃ t order,SetTable.laid mask finger moves led plain (es.map (·.1))=some (t,order)∧Tab t (order.filterMap (es[·]?))∧(order.filterMap (es[·]?)).toList.Perm es.toList∧t.mask=mask∧t.led=led∧t.plain=plain∧t.dummies=#[]∧t.place.size=es.size:=by
 obtain⟨owner,h1,I⟩:=zH2 hm (hashes:=es.map (·.1)) (by simpa using hn)
 rw[Array.size_map] at I
 have lk:∀ l:List Nat,(l.filterMap fun j=>(owner.getD j none).map (j,·)).map (·.2)=l.filterMap fun j=>owner.getD j none:=fun l=>by
  rw[List.map_filterMap]
  apply wU
  intro i u0
  cases owner.getD i none<;>rfl
 have lm:∀(l:List Nat) (p:Nat×Nat),p∈(l.filterMap fun j=>(owner.getD j none).map (j,·))↔p.1∈l∧owner.getD p.1 none=some p.2:=fun l p=>by
  rw[List.mem_filterMap]
  constructor
  ·rintro⟨j,hj,e⟩
   cases q:owner.getD j none with
   | none=>rw[q] at e;cases e
   | some k=>rw[q] at e;cases e;exact⟨hj,q⟩
  ·rintro⟨a,b⟩
   exact⟨p.1,a,by rw[b];rfl⟩
 have pm:=I.perm
 have kn:∀ k∈((cY (mask+1)).filterMap fun j=>(owner.getD j none).map (j,·)).map (·.2),k<es.size:=fun k hk=>by
  rw[lk] at hk
  exact dL.mp (pm.mem_iff.mp hk)
 have es':(((cY (mask+1)).filterMap fun j=>(owner.getD j none).map (j,·)).map (·.2)).filterMap (es[·]?)=(((cY (mask+1)).filterMap fun j=>(owner.getD j none).map (j,·)).map (·.2)).map fun k=>es.getD k (0,.none):=by
  have:∀ l:List Nat,(∀ k∈l,k<es.size)→l.filterMap (es[·]?)=l.map fun k=>es.getD k (0,.none):=by
   intro l
   induction l with
   | nil=>intro u0;rfl
   | cons a l ih =>
    intro hl
    have ha:=hl a dt
    rw[fg (b:=es.getD a (0,.none)) (by simp[gh,ha]),eZ,ih fun k hk=>hl k (dw _ hk)]
  exact this _ kn
 have hlen:((cY (mask+1)).filterMap fun j=>(owner.getD j none).map (j,·)).length=es.size:=by
  have:=congrArg List.length (lk (cY (mask+1)))
  rw[d7,pm.length_eq,dP] at this
  exact this
 generalize hL:(cY (mask+1)).filterMap (fun j=>(owner.getD j none).map (j,·))=L at *
 refine⟨{ mask,place:=(L.map (·.1)).toArray,dummies:=#[],finger,led,moves,plain },(L.map (·.2)).toArray,?_,?_⟩
 ·unfold SetTable.laid
  rw[h1]
  show some _=_
  rw[hL]
 ·have eo:((L.map (·.2)).toArray.filterMap (es[·]?)).toList=L.map fun p=>es.getD p.2 (0,.none):=by
   rw[Array.toList_filterMap]
   show(L.map (·.2)).filterMap (es[·]?)=_
   rw[es',fb]
   rfl
  have rs:yh (L.map (·.1)).toArray:=by
   unfold yh
   have:=HI.wn (fun j=>owner.getD j none) (cY (mask+1))
   rw[hL] at this
   exact fH.sublist this List.pairwise_lt_range
  have ls:∀ p,p∈L→p.1≤mask∧owner.getD p.1 none=some p.2:=fun p hp=>by
   have:=(lm (cY (mask+1)) p).mp (by rw[hL];exact hp)
   exact⟨by have:=dL.mp this.1;omega,this.2⟩
  have rd:yh (#[]:Array Nat):=fH.nil
  refine⟨⟨hm,?_,rs,rd,fun j hj=>?_,fun j hj=>by simp at hj,?_,fun j h x he=>?_,fun j hj=>by simp at hj⟩,?_,rfl,rfl,rfl,rfl,?_⟩
  ·have:=congrArg List.length eo
   rw[da,d7] at this
   show(L.map (·.1)).toArray.size=_
   rw[this]
   simp
  ·have:j∈L.map (·.1):=by simpa using hj
   obtain⟨p,hp,rfl⟩:=dI.mp this
   exact(ls p hp).1
  ·show(L.map (·.1)).toArray.size+0≤mask
   simp
   omega
  ·obtain⟨i,e1,e2⟩:=he
   have e1':(L.map (·.1))[i]?=some j:=by simpa using e1
   have e2':(L.map fun p=>es.getD p.2 (0,.none))[i]?=some (h,x):=by rw[← eo];simpa using e2
   rw[dJ] at e1' e2'
   cases q:L[i]? with
   | none=>rw[q] at e1';cases e1'
   | some p =>
    rw[q] at e1' e2'
    have e1'':p.1=j:=by simpa using e1'
    have e2'':es.getD p.2 (0,.none)=(h,x):=by simpa using e2'
    obtain⟨u0,l2⟩:=ls p (dM q)
    obtain⟨h',n,w1,w2,w3⟩:=I.way p.1 p.2 l2
    have hk:p.2<es.size:=kn p.2 (dI.mpr ⟨p,dM q,rfl⟩)
    have:h'=h:=by
     have w1':(es.map (·.1)).toList[p.2]?=some h':=w1
     simp[hk] at w1'
     have:es[p.2]=(h,x):=by simpa[gh,hk] using e2''
     rw[this] at w1'
     exact w1'.symm
    subst this
    refine⟨n,w2.trans e1'',fun m hm'=>?_⟩
    rw[yO rs rd]
    left
    have:=w3 m hm'
    have lt:=(zAZ mask h' m).1
    cases z:owner.getD (ze mask h' m).j none with
    | none=>rw[z] at this;cases this
    | some k2 =>
     have:((ze mask h' m).j,k2)∈L:=by
      rw[← hL]
      exact(lm _ _).mpr ⟨dL.mpr (by simp only;omega),z⟩
     show(ze mask h' m).j∈(L.map (·.1)).toArray
     simp only[List.mem_toArray]
     exact dI.mpr ⟨_,this,rfl⟩
  ·rw[eo]
   have e3:es.toList=(cY es.size).map fun k=>es.getD k (0,.none):=by
    apply List.ext_getElem
    ·simp
    ·intro i h1 h2
     have:i<es.size:=by simpa using h1
     simp[gh,this]
   rw[e3]
   have e4:(L.map fun p=>es.getD p.2 (0,.none))=(L.map (·.2)).map fun k=>es.getD k (0,.none):=by rw[fb];rfl
   rw[e4]
   refine fK.map _ ?_
   have:=lk (cY (mask+1))
   rw[hL] at this
   rw[this]
   exact pm
  ·show(L.map (·.1)).toArray.size=_
   simp[hlen]
open HI (yh)
noncomputable def zK2:Value→Int
 | .int k _=>k
 | _=>0
noncomputable def kyT(h:Heap)(e:Int×Value):List Int:=match e.2 with
 | .ref c=>(match h.get? c with | some o=>(match o.data with | .seq its _=>its.toList.map zK2 | _=>[]) | none=>[])
 | _=>[]
section
variable {prog:Program} {w:World} {P:Addr→Prop} {A:Around} {E:Value→Shared→Prop} {s:Shared}
theorem zDS{ns:List Int}{vs:List Value}(h:ItemsAre (intKind prog w) ns vs):vs.map zK2=ns:=by
 induction h with
 | nil=>rfl
 | cons h1 _ ih =>
  obtain⟨t,rfl⟩:=Value.isInt_shape h1
  rw[eZ,ih]
  rfl
theorem zAH{h:Heap}{ns:List Int}{c:Addr}(x:TK prog w P h ns c)(n:Int):kyT h (n,.ref c)=ns:=by
 obtain⟨⟨o,its,m,ho,hc,hd,hi⟩,u0⟩:=x
 unfold kyT
 simp only[ho,hd]
 exact zDS hi
theorem OkT.mem{h:Heap}{es:Array (Int×Value)}(x:OkT prog w P h es):∀ e∈es.toList,∃ c,e=(hT prog w (kyT h e),.ref c)∧TK prog w P h (kyT h e) c:=fun e he=>by
 obtain⟨i,hi,rfl⟩:=List.getElem_of_mem he
 obtain⟨c,ms,e1,e2⟩:=x i es.toList[i] (by simpa using hi)
 have:kyT h es.toList[i]=ms:=by rw[e1];exact zAH e2 _
 rw[this]
 exact⟨c,e1,e2⟩
theorem OkT.of{h:Heap}{es:Array (Int×Value)}(x:∀ e∈es.toList,∃ c ms,e=(hT prog w ms,.ref c)∧TK prog w P h ms c):OkT prog w P h es:=fun i e he=>x e (by
 have:=dM (l:=es.toList) (i:=i) (a:=e) (by simpa using he)
 exact this)
theorem OkT.perm{h:Heap}{es es':Array (Int×Value)}(x:OkT prog w P h es)(p:es'.toList.Perm es.toList):OkT prog w P h es':=.of fun e he=>by
 obtain⟨c,e1,e2⟩:=x.mem e (p.mem_iff.mp he)
 exact⟨c,_,e1,e2⟩
theorem TK.keep{h h':Heap}{ns:List Int}{c:Addr}(x:TK prog w P h ns c)(k:∀ o,h.get? c=some o→h'.get? c=some o):TK prog w P h' ns c:=let ⟨⟨o,i,n,e,r⟩,q⟩:=x;⟨⟨o,i,n,k o e,r⟩,q⟩
theorem OkT.keep{h h':Heap}{es:Array (Int×Value)}(x:OkT prog w P h es)(k:∀ c o its n,h.get? c=some o→o.data=.seq its n→h'.get? c=some o):OkT prog w P h' es∧es.toList.map (kyT h')=es.toList.map (kyT h):=by
 have tk:∀ {ns c},TK prog w P h ns c→TK prog w P h' ns c:=fun {ns c} q=>let ⟨⟨o,i,n,e,c1,d,r⟩,q⟩:=q;⟨⟨o,i,n,k _ o i n e d,c1,d,r⟩,q⟩
 refine⟨fun i e he=>?_,g8 fun e he=>?_⟩
 ·obtain⟨c,ms,e1,e2⟩:=x i e he
  exact⟨c,ms,e1,tk e2⟩
 ·obtain⟨c,e1,e2⟩:=x.mem e he
  have h1:=zAH (tk e2) (hT prog w (kyT h e))
  rw[← e1] at h1
  exact h1
noncomputable def ST(prog:Program)(w:World)(P:Addr→Prop)(h:Heap)(a:Addr)(kys:List (List Int)):Prop:=∃ o es ep t,h.get? a=some o∧o.ExactSet∧o.data=.set es ep t∧Tab t es∧OkT prog w P h es∧t.plain=true∧t.led=HI.wZ w∧t.fill*5<t.mask*3∧kys.Perm (es.toList.map (kyT h))∧kys.Nodup∧t.dummies.size=0
theorem ST.keep{h h':Heap}{a:Addr}{kys:List (List Int)}(x:ST prog w P h a kys)(k:∀ b o,h.get? b=some o→h'.get? b=some o):ST prog w P h' a kys:=by
 obtain⟨o,es,ep,t,h1,h2,h3,h4,h5,h6,h7,h8,h9,h10⟩:=x
 obtain⟨k1,k2⟩:=h5.keep fun c o u0 u0 e u0=>k c o e
 exact⟨o,es,ep,t,k _ _ h1,h2,h3,h4,k1,h6,h7,h8,by rw[k2];exact h9,h10⟩
theorem size_of(n:Nat)(h:n≤40000):Msk (eJ (n*4)-1)∧n*5<(eJ (n*4)-1)*3∧eJ (n*4)≤600000:=by
 obtain⟨b,h1,h2,h3,h4⟩:=zLN (n:=n*4) (by omega)
 rw[h2]
 exact⟨⟨b,h1,by omega⟩,by omega,by omega⟩
end
open HI (yh)
section
variable {prog:Program} {w:World} {P:Addr→Prop} {A:Around} {E:Value→Shared→Prop} {s:Shared}
theorem fits_of{t:SetTable}{es:Array (Int×Value)}(T:Tab t es):t.fits es.size=true:=by
 unfold SetTable.fits
 simp[T.size,T.room]
theorem zC5{h:Heap}{a:Addr}{o:Obj}{es:Array (Int×Value)}{ep:Nat}{t:SetTable}{es':Array (Int×Value)}{t':SetTable}(ho:h.get? a=some o)(hd:o.data=.set es ep t) :
  (h.update a (Obj.putSet es' t')).get? a=some { o with data:=.set es' (ep+1) t' }:=by
 rw[← putSet_of es' t' hd]
 exact et _ ho (by rw[putSet_of es' t' hd];rfl)
theorem zK3{a:Addr}{o:Obj}{es:Array (Int×Value)}{ep:Nat}{t:SetTable}{n:Nat}{Q:Unit→Shared→Prop}(ho:s.heap.get? a=some o)(hd:o.data=.set es ep t)(T:Tab t es)(hm:Msk (eJ n-1))(hn:es.size≤eJ n-1)(hz:eJ n≤600000)
  (h:∀ es' t',Tab t' es'→es'.toList.Perm es.toList→t'.plain=t.plain→t'.led=t.led→t'.mask=eJ n-1→t'.fill=es.size→Q () { s with heap:=s.heap.update a (Obj.putSet es' t') }) :
  wpAny (model prog w) A (setRelay a n) Q E s:=by
 obtain⟨t',order,h1,h2,h3,h4,h5,h6,h7,h8⟩:=zF8 (mask:=eJ n-1) (finger:=t.finger) (moves:=t.movedTo (eJ n-1)) (led:=t.led) (plain:=t.plain) hm hn
 unfold setRelay
 refine cL (fq ho hd (fits_of T) ?_)
 dsimp only
 rw[if_neg (by rw[sizeLine_eq];omega)]
 have hr:t.relaid (es.map (·.1)) n=some (t',order):=h1
 have sz:(order.filterMap (es[·]?)).size=es.size:=by
  have:=h3.length_eq
  rw[da,da] at this
  exact this
 refine cL (eQ (a:=(order.filterMap (es[·]?),t')) ?_ ?_)
 ·rw[hr]
  show(if ((order.filterMap (es[·]?)).size != es.size)=true then _ else _)=_
  rw[if_neg (by rw[sz];simp)]
 ·dsimp only
  refine wpAny_storeSet_of ho hd (h _ t' h2 h3 h6 h5 h4 ?_) ?_
  ·show t'.place.size+t'.dummies.size=_
   rw[h7,h8];rfl
  ·rw[sz,sizeLine_eq];omega
theorem zH3{a b:Addr}{ns:List Int}{kys:List (List Int)}{Q:Bool→Shared→Prop}(hA:A.units<cLine)(hS:ST prog w P s.heap a kys)(hb:TK prog w P s.heap ns b)(room:kys.length≤9000)
  (h:∀ h' kys' r,g6 a s.heap h'→ST prog w P h' a kys'→kys'.Perm (if ns∈kys then kys else kys++[ns])→Q r { s with heap:=h' }):wpAny (model prog w) A (setAddHashed a (.ref b) (hT prog w ns)) Q E s:=by
 obtain⟨o,es,ep,t,h1,h2,h3,h4,h5,h6,h7,h8,h9,h10,h11⟩:=id hS
 have esz:es.size=kys.length:=by have:=h9.length_eq;simp at this;omega
 have hky:∀(i:Nat) e c ms,es[i]?=some e→e.2=.ref c→TK prog w P s.heap ms c→ms∈kys:=fun i e c ms e1 e2 e3=>by
  rw[h9.mem_iff]
  refine dI.mpr ⟨e,dM (l:=es.toList) (i:=i) (by simpa using e1),?_⟩
  obtain⟨e0,ev⟩:=e
  simp only at e2
  subst e2
  exact zAH e3 _
 unfold setAddHashed
 refine eu ?_
 unfold setAddHashedIn
 refine cL (fq h1 h3 (fits_of h4) ?_)
 dsimp only
 rw[if_neg (by simp[byScan,Value.scannable])]
 obtain⟨N,n1,n2,n3⟩:=h4.stop (hT prog w ns)
 refine cL ?_
 unfold setSearch
 refine zOs (Q:=_) hA h1 h3 h4 h5 hb (by have:=h4.room;omega) n2 n3 (adding:=true) (fun i c e1 e2=>?_) (fun hno d hd=>?_) (N-0) 0 100000 none none rfl (fh _) ?_ (fun j q=>by cases q) rfl (fun m hm=>absurd hm (Nat.not_lt_zero _))
 ·have hin:ns∈kys:=hky i _ c ns e1 rfl e2
  simp only[↓reduceIte]
  refine cT ?_
  exact h s.heap kys false ⟨rfl,fun u0 u0=>rfl⟩ hS (by rw[if_pos hin])
 ·have hnk:ns∉kys:=fun q=>by
   rw[h9.mem_iff] at q
   obtain⟨e,he,hk⟩:=dI.mp q
   obtain⟨c,e1,e2⟩:=h5.mem e he
   obtain⟨i,hi,e3⟩:=List.getElem_of_mem he
   rw[hk] at e2
   exact hno i e c ns (by rw[← e3];simpa using hi) (by rw[e1]) e2 rfl
  dsimp only
  refine cL (fq h1 h3 (fits_of h4) ?_)
  dsimp only
  have mge:7≤t.mask:=h4.msk.ge
  -- the place
  have hp:∃ n j,d.getD (ze t.mask (hT prog w ns) N).j=j∧(ze t.mask (hT prog w ns) n).j=j∧(∀ m,m<n→wd t (ze t.mask (hT prog w ns) m).j)∧(t.slot j=.empty∨t.slot j=.dummy)∧(d.isSome=true→t.slot j=.dummy):=by
   cases d with
   | none=>exact⟨N,_,rfl,rfl,n3,.inl n2,fun q=>by cases q⟩
   | some j =>
    obtain⟨d1,m,d2,d3⟩:=hd j rfl
    exact⟨m,j,rfl,d3,fun m' hm'=>n3 m' (by omega),.inr d1,fun u0=>d1⟩
  obtain⟨n,j,j1,j2,j3,j4,j5⟩:=hp
  rw[j1]
  obtain⟨T',f1,f2⟩:=h4.put (x:=.ref b) j2 j3 j4 (by omega)
  have pl:(t.put j).1.plain=true:=h6
  have ld:(t.put j).1.led=HI.wZ w:=h7
  have mk:(t.put j).1.mask=t.mask:=rfl
  generalize hes':dR es (t.put j).2 (hT prog w ns,.ref b)=es' at T'
  have pm:es'.toList.Perm (es.toList++[(hT prog w ns,.ref b)]):=by
   rw[← hes']
   have:=eW es (t.put j).2 (hT prog w ns,.ref b)
   simpa using this
  have sz':es'.size=es.size+1:=by have:=pm.length_eq;simp at this;omega
  rw[pl]
  simp only[↓reduceIte]
  refine cL (zEe hb ?_)
  simp only[↓reduceIte]
  refine cL (wpAny_storeSet_of h1 h3 ?_ (by rw[sizeLine_eq];omega))
  -- behind the store
  have ok1:OkT prog w P s.heap es':=.of fun e he=>by
   rcases dH.mp (pm.mem_iff.mp he) with q | q
   ·obtain⟨c,e1,e2⟩:=h5.mem e q;exact⟨c,_,e1,e2⟩
   ·rw[dq] at q;exact⟨b,ns,q,hb⟩
  have kp1:kys++[ns]=kys++[ns]:=rfl
  have pk:(kys++[ns]).Perm (es'.toList.map (kyT s.heap)):=by
   refine fK.trans ?_ (pm.map _).symm
   rw[fX]
   refine h9.append ?_
   rw[List.map_singleton,zAH hb]
  have nd1:(kys++[ns]).Nodup:=List.nodup_append.mpr ⟨h10,by simp,fun x hx y hy e=>by rw[dq] at hy;exact hnk (by rw[← hy,← e];exact hx)⟩
  have fin:∀(es2:Array (Int×Value)) (t2:SetTable) (ep2:Nat) (h':Heap),g6 a s.heap h'→h'.get? a=some { o with data:=.set es2 ep2 t2 }→Tab t2 es2→es2.toList.Perm es'.toList→t2.plain=true→t2.led=HI.wZ w→t2.fill*5<t2.mask*3→t2.dummies.size=0→Q true { s with heap:=h' }:=fun es2 t2 ep2 h' sb g T2 p2 pl2 ld2 fl2 dm2=>by
   have kk:∀ c o' its n,s.heap.get? c=some o'→o'.data=.seq its n→h'.get? c=some o':=fun c o' its n e1 e2=>by
    rw[sb.2 c (fun q=>by subst q;rw[h1] at e1;cases e1;rw[h3] at e2;cases e2)];exact e1
   obtain⟨k1,k2⟩:=(ok1.perm p2).keep kk
   refine h h' (kys++[ns]) true sb ⟨_,es2,ep2,t2,g,h2,rfl,T2,k1,pl2,ld2,fl2,?_,nd1,dm2⟩ (by rw[if_neg hnk])
   rw[k2]
   exact pk.trans (p2.map _).symm
  have g1:=zC5 (es':=es') (t':=(t.put j).1) h1 h3
  have s1:g6 a s.heap (s.heap.update a (Obj.putSet es' (t.put j).1)):=g6.update ..
  by_cases hrl:(!d.isSome&&(t.put j).1.tooFull)=true
  ·rw[if_pos hrl]
   have so:=size_of (es.size+1) (by omega)
   have gw:SetTable.grown (es.size+1)=(es.size+1)*4:=by unfold SetTable.grown;rw[if_neg (by omega)]
   rw[gw]
   refine cL (zK3 (s:={ s with heap:=s.heap.update a (Obj.putSet es' (t.put j).1) }) g1 rfl T' so.1 (by rw[sz'];omega) so.2.2 fun es2 t2 T2 p2 pl2 ld2 mk2 fl2=>?_)
   refine cT (fin es2 t2 _ _ (s1.trans (g6.update ..)) (zC5 (o:={ o with data:=.set es' (ep+1) (t.put j).1 }) g1 rfl) T2 p2 (pl2.trans pl) (ld2.trans ld) ?_ ?_)
   ·rw[fl2,mk2,sz']
    exact so.2.1
   ·have a:=T2.size
    have b:=p2.length_eq
    rw[da,da] at b
    unfold SetTable.fill at fl2
    omega
  ·rw[if_neg hrl]
   refine cT (fin es' (t.put j).1 _ _ s1 g1 T' (.refl _) pl ld ?_ ?_)
   rotate_left
   ·have a:=T'.size
    have c:=h4.size
    unfold SetTable.fill at f1
    omega
   cases hd':d.isSome with
   | true =>
    rw[f2 (j5 hd'),mk]
    exact h8
   | false =>
    rw[hd'] at hrl
    have:(t.put j).1.tooFull=false:=by simpa using hrl
    unfold SetTable.tooFull at this
    simpa using this
 ·have a:=h4.size
  unfold SetTable.fill at n1
  omega
end
end HT3
namespace HT3
open HI (yh zAD wZ zA0)
noncomputable def Kp(h0 h:Heap):Prop:=∀ b o,h0.get? b=some o→h.get? b=some o
section
variable {prog:Program} {w:World} {P:Addr→Prop} {A:Around} {R:Result→Shared→Prop} {h0:Heap} {S I:Addr} {fp wr:List Addr} {n:Nat} {its:Array Value} {val:Nat→List Int} {St:Nat→Heap→Prop} {g:Array GenState} {d:Drawn} {os:OsState}
theorem zDT(W:Walks prog w A.in1 I fp wr n (fun i v=>its[i]?=some v) St)(hA:A.in1.units<cLine)(hSf:S∉fp)(hS:h0.get? S=none)(hwr:∀ b∈wr,h0.get? b=none)(hwd:∀ i h,St i h→∀ b∈wr,∀ o,h.get? b=some o→∀ its n,o.data≠.seq its n)(hb:n≤9000)
  (ht:∀ i v,its[i]?=some v→∃ c,v=.ref c∧TK prog w P h0 (val i) c) :
  ∀(k i:Nat) (h:Heap) (tk:Nat) (kys:List (List Int)),n-i=k→i≤n→Kp h0 h→St i h→ST prog w P h S kys→kys.length≤i→(∀ x,x∈kys↔∃ m,m<i∧val m=x) →
   (∀ h' tk' kys',Kp h0 h'→ST prog w P h' S kys'→kys'.length≤n→(∀ x,x∈kys'↔∃ m,m<n∧val m=x)→R (.ok (.ret .none)) ⟨h',g,d,tk',os⟩) →
   codeAny (model prog w) A (.builtin "set.update.loop" ⟨[.ref S,.ref I],[]⟩) R ⟨h,g,d,tk,os⟩:=by
 have hSw:S∉wr:=fun q=>hSf (W.sub _ q)
 have kpw:∀ {h h':Heap},Kp h0 h→(∀ b o,b∉wr→h.get? b=some o→h'.get? b=some o)→Kp h0 h':=fun {h h'} kp e b o q=>e b o (fun z=>by rw[hwr b z] at q;cases q) (kp b o q)
 have stw:∀ {h h':Heap} {kys},ST prog w P h S kys→(∀ b o,b∉wr→h.get? b=some o→h'.get? b=some o)→(∀ b o,b∈wr→h.get? b=some o→∀ its n,o.data≠.seq its n)→ST prog w P h' S kys:=fun {h h' kys} x e e2=>by
  obtain⟨o,es,ep,t,h1,h2,h3,h4,h5,h6,h7,h8,h9,h10⟩:=x
  obtain⟨k1,k2⟩:=h5.keep fun c o its n q1 q2=>e c o (fun z=>e2 c o z q1 its n q2) q1
  exact⟨o,es,ep,t,e _ _ hSw h1,h2,h3,h4,k1,h6,h7,h8,by rw[k2];exact h9,h10⟩
 intro k
 induction k with
 | zero =>
  intro i h tk kys hk hi kp st hst hl mem hR
  obtain rfl:i=n:=by omega
  refine dZ F.entry_set_update_loop ?_
  rw[Around.under_plainId F.plain_set_update_loop _]
  show wpAny _ A.in1 (pyNext (.ref I)>>=_) _ _ _
  refine cL (W.done _ _ _ st fun h' tk' e=>cT (hR h' tk' kys (kpw kp e) (stw hst e fun b o z q=>hwd _ _ st b z o q) hl mem))
 | succ k ih =>
  intro i h tk kys hk hi kp st hst hl mem hR
  have lt:i<n:=by omega
  refine dZ F.entry_set_update_loop ?_
  rw[Around.under_plainId F.plain_set_update_loop _]
  show wpAny _ A.in1 (pyNext (.ref I)>>=_) _ _ _
  refine cL (W.item i _ _ _ lt st fun v h1 tk1 hP st1 e1=>?_)
  obtain⟨c,rfl,hc⟩:=ht i v hP
  have kp1:Kp h0 h1:=kpw kp e1
  have hst1:=stw hst e1 fun b o z q=>hwd _ _ st b z o q
  have hc1:TK prog w P h1 (val i) c:=hc.keep fun o q=>kp1 c o q
  show wpAny _ A.in1 (holding [Value.ref c] (setAdd S (.ref c))>>=_) _ _ _
  refine cL (eu ?_)
  unfold setAdd
  refine eu (cL ((tupleKind (intKind prog w)).pyHash (k:=val i) hA hc1.1 ?_))
  refine zH3 (s:=⟨h1,g,d,tk1+((val i).length+1),os⟩) hA hst1 hc1 (by omega) fun h2 kys2 r sb st2 pm=>?_
  have len2:kys2.length≤i+1:=by
   rw[pm.length_eq]
   split
   ·omega
   ·rw[du];simp;omega
  have mem2:∀ x,x∈kys2↔∃ m,m<i+1∧val m=x:=fun x=>by
   rw[pm.mem_iff]
   constructor
   ·intro q
    split at q
    ·obtain⟨m,h1,h2⟩:=(mem x).mp q
     exact⟨m,by omega,h2⟩
    ·rcases dH.mp q with q | q
     ·obtain⟨m,h1,h2⟩:=(mem x).mp q
      exact⟨m,by omega,h2⟩
     ·rw[dq] at q
      exact⟨i,by omega,q.symm⟩
   ·rintro⟨m,h1,h2⟩
    rcases eL m i with z | z
    ·have:=(mem x).mpr ⟨m,z,h2⟩
     split
     ·exact this
     ·exact eO _ this
    ·obtain rfl:m=i:=by omega
     split
     ·rename_i q;rw[← h2];exact q
     ·rw[← h2];simp
  have kp2:Kp h0 h2:=fun b o q=>by
   rw[sb.2 b (fun z=>by subst z;rw[hS] at q;cases q)]
   exact kp1 b o q
  refine cT ⟨plainId_quiet F.plain_set_update_loop _,ih (i+1) h2 _ kys2 (by omega) lt kp2 (W.frame _ _ _ st1 fun b hb' o e=>?_) st2 len2 mem2 hR⟩
  rw[sb.2 b (fun q:b=S=>hSf (by rw[← q];exact hb'))];exact e
end
open HI (yh zAD wZ zA0)
section
variable {prog:Program} {w:World} {P:Addr→Prop} {A:Around} {E:Value→Shared→Prop} {s:Shared}
theorem zH4{h:Heap}:ST prog w P (h.push (zAD w)) h.objs.size []:=by
 refine⟨zAD w,#[],0,.fresh 0 0 (wZ w),dc _ rfl,⟨rfl,rfl,rfl⟩,rfl,⟨⟨3,cX _,rfl⟩,rfl,fH.nil,fH.nil,fun j hj=>(by simp[SetTable.fresh] at hj),fun j hj=>(by simp[SetTable.fresh] at hj),fh _,fun j h x he=>?_,fun j hj=>(by simp[SetTable.fresh] at hj)⟩,fun i e he=>by simp at he,rfl,rfl,(by show 0*5<7*3;decide),.refl _,List.nodup_nil,rfl⟩
 obtain⟨i,e,u0⟩:=he
 simp[SetTable.fresh] at e
theorem zFj{l:Addr}{its:Array Value}{val:Nat→List Int}{Q:Value→Shared→Prop}(hh:A.handled=none)(hA:A.in1.in1.in1.units<cLine)(hl:s.heap.IsList l its)(ht:∀ i v,its[i]?=some v→∃ c,v=.ref c∧TK prog w P s.heap (val i) c)(hb:its.size≤9000)
  (h:∀(h':Heap) (tk:Nat) (kys:List (List Int)),ST prog w P h' s.heap.objs.size kys→kys.length≤its.size→(∀ x,x∈kys↔∃ m,m<its.size∧val m=x)→Kp s.heap h'→Q (.ref s.heap.objs.size) { s with heap:=h',toks:=tk }) :
  wpAny (model prog w) A (call (.type "set") [.ref l]) Q E s:=by
 obtain⟨c,tl,hmro⟩:=F.called_set.mro
 have hmade:=F.called_set.made
 have hsub:=F.called_set.sub
 refine wpAny_call (codeAny_of_tree (show wpAny _ _ (callAny (.type "set") _) _ _ _ from cT ⟨Code.quiet_builtin _ (by decide +kernel),dZ F.entry_type_call ?_⟩))
 rw[Around.under_plain (weight_type_call_type "set" [.ref l] []) rfl]
 have h1:=F.called_set.notType
 have h2:=F.called_set.canCreate
 have hct:=F.typeCall_set_1 (.ref l)
 (repeat (any_goals (first | assumption | wp_step)))
 refine eV (zA0 (.ref l) (E:=E) (Q1:=fun obj z=>obj=.ref s.heap.objs.size∧z={ s with heap:=s.heap.push (zAD w) }) ⟨rfl,rfl⟩) fun r z hr=>?_
 cases r with
 | error e=>exact hr
 | ok fl =>
  cases fl with
  | ret obj =>
   obtain⟨rfl,rfl⟩:=hr
   have hT:Shared.TypeIs { s with heap:=s.heap.push (zAD w) } (.ref s.heap.objs.size) "set":=⟨_,dc _ rfl,rfl⟩
   have hli:=F.called_set.init.lookup
   have hbi:=F.called_set.init.bind (.ref s.heap.objs.size)
   (repeat (any_goals (first | assumption | wp_step)))
   refine eV (codeAny_call_builtin (R:=wants (fun r z2=>r=.none∧∃ h' tk kys,z2={ s with heap:=h',toks:=tk }∧ST prog w P h' s.heap.objs.size kys∧kys.length≤its.size∧(∀ x,x∈kys↔∃ m,m<its.size∧val m=x)∧Kp s.heap h') E) F.called_set.init.plain F.entry_set_init (check_set_init_1 hT ?_)) fun r2 z2 hr2=>?_
   ·obtain⟨ol,hol,hcl,nl,hdl⟩:=hl
    obtain⟨ocls,odict,odata,oslots⟩:=ol
    simp only at hcl hdl
    subst hcl;subst hdl
    have hol':(s.heap.push (zAD w)).get? l=some { cls:=.type "list",dict:=odict,data:=.seq its nl,slots:=oslots }:=cQ _ hol
    have hsls:isSubtype (.type "list") (.type "set")=pure false:=by rw[isSubtype_type];kernel_rfl
    have hslf:isSubtype (.type "list") (.type "frozenset")=pure false:=by rw[isSubtype_type];kernel_rfl
    have hne:(Value.type "list"==Value.type "dict")=false:=by decide
    have hl1:(s.heap.push (zAD w)).IsList l its:=⟨_,hol',rfl,nl,rfl⟩
    unfold Builtin.«set.__init__» noKeywords Builtin.Frozenset.updateFrom
    generalize hPI:pyIter=PI
    wp_walk
    subst hPI
    refine wpAny_pyIter_list hl1 (cL (wpAny_runValue ?_))
    have lS:l<s.heap.objs.size:=db hol
    have hh3:A.in1.in1.in1.handled=none:=by simp[hh]
    have neI:l≠(s.heap.push (zAD w)).objs.size:=by rw[fB];exact dB (Nat.lt_succ_of_lt lS)
    have hSf:s.heap.objs.size∉[(s.heap.push (zAD w)).objs.size,l]:=by
     rw[fB];simp only[dC,dq,gI,or_false,not_or]
     exact⟨dB (gH _),Nat.ne_of_gt lS⟩
    have st0:ST prog w P ((s.heap.push (zAD w)).push { cls:=.type "list_iterator",data:=.fields #[.ref l,.int 0 0] }) s.heap.objs.size []:=zH4.keep fun b o e=>cQ _ e
    refine zDT (h0:=s.heap) (Walks.list hh3 _ l neI its) hA hSf (Heap.get?_none_of_le (cX _)) (fun b hb'=>by
     rw[dq] at hb'
     rw[hb',fB]
     exact Heap.get?_none_of_le (Nat.le_succ _)) (fun i h st b hb' o e its n q=>by
     rw[dq] at hb'
     subst hb'
     obtain⟨o2,e2,c2,d2⟩:=st.1
     rw[e2] at e
     cases e
     rw[d2] at q
     cases q) hb ht (its.size-0) 0 _ _ [] (by omega) (fh _) (fun b o e=>cQ _ (cQ _ e)) ⟨⟨_,dc _ rfl,rfl,rfl⟩,hl1.push _⟩ st0 (cX _) (fun x=>⟨fun q=>(by simp at q),fun⟨m,q,_⟩=>absurd q (Nat.not_lt_zero _)⟩) ?_
    intro h' tk' kys' kp st len mem
    show wpAny _ _ _ _ _ _
    refine cT ?_
    show wpAny _ _ (ret Value.none) _ _ _
    exact cT ⟨rfl,h',tk',kys',rfl,st,len,mem,kp⟩
   ·cases r2 with
    | error e=>exact hr2
    | ok fl2 =>
     cases fl2 with
     | ret r =>
      obtain⟨rfl,h',tk,kys,rfl,st,len,mem,kp⟩:=hr2
      (repeat (any_goals (first | assumption | wp_step)))
      exact h _ _ kys st len mem kp
     | _=>exact hr2.elim
  | _=>exact hr.elim
end
open HI (yh Sx Tells zAE zC2 zD4 zC3 zBl wT zC1 zBO zAi zA1 zA2)
section
variable {prog:Program} {w:World} {P:Addr→Prop} {A:Around} {E:Value→Shared→Prop} {s:Shared}
theorem zK4{a it:Addr}{es:Array (Int×Value)}{ep:Nat}{t:SetTable}{sl:Nat→Nat}{xs:List Value}(hh:A.handled=none)(T:Tells prog w a es ep t sl xs)(hf:t.fits es.size=true)(hx:xs.length=es.size)(hne:a≠it) :
  Walks prog w A it [it,a] [it] es.size (fun i v=>xs[i]?=some v) (fun i h=>h.get? it=some (zAE (rawInt (sl i)) i a es.size ep)∧Sx h a es ep t) where
 sub:=fun b hb=>by simp at hb ⊢;exact .inl hb
 frame:=fun i h h' st k=>⟨k it (by simp) _ st.1,st.2.keep fun o e=>k a (by simp) o e⟩
 item:=fun i s Q E hi st hQ=>zC2 T hf hx hi st.1 st.2 hne fun h' v hxv e kp=>hQ _ h' s.toks hxv ⟨e,st.2.keep fun o q=>kp a o hne q⟩ fun b o hb q=>kp b o (by simpa using hb) q
 done:=fun s Q E st hQ=>zD4 hh T hf hx st.1 st.2 fun h' kp=>hQ h' s.toks fun b o hb q=>kp b o (by simpa using hb) q
 self:=fun i s Q E st hQ=>zC3 st.1 hQ
noncomputable def Mem(prog:Program)(w:World)(P:Addr→Prop)(h:Heap)(xs:List Value)(kys:List (List Int)):Prop:=(∀ v∈xs,∃ c ns,v=.ref c∧TK prog w P h ns c)∧(xs.map fun v=>kyT h (0,v)).Perm kys
theorem zDU{a:Addr}{kys:List (List Int)}{Q:Value→Shared→Prop}(hS:ST prog w P s.heap a kys)
  (h:∀(h1:Heap) (it:Addr) (fp:List Addr) (St:Nat→Heap→Prop) (xs:List Value),(∀ b o,s.heap.get? b=some o→h1.get? b=some o)→(∀ b∈fp,b=a∨s.heap.objs.size≤b)→s.heap.objs.size≤it →
   (∀ B:Around,B.handled=none→Walks prog w B it fp [it] xs.length (fun i v=>xs[i]?=some v) St)→St 0 h1→Mem prog w P s.heap xs kys→xs.length=kys.length→Q (.ref it) { s with heap:=h1 }):wpAny (model prog w) A (pyIter (.ref a)) Q E s:=by
 obtain⟨o,es,ep,t,ho,hex,hd,T0,ok,pl,hl,fl,pk,nd⟩:=hS
 have hf:=fits_of T0
 have hr:=T0.ris
 have hT:s.TypeIs (.ref a) "set":=⟨o,ho,hex.1⟩
 have la:a<s.heap.objs.size:=db ho
 refine wpAny_pyIter_slot hT F.slot_set_iter (eY F.slot_set_iter hT zC1 ?_ (F.args_set_iter_1 _))
 unfold Builtin.«frozenset.__iter__» Builtin.Frozenset.slot0
 refine cL (m:=do Builtin.Frozenset.addrOf (← slotArgs "__iter__" 0 _).1) (show wpAny _ _ (pure a) _ _ _ from cT ?_)
 unfold Builtin.Frozenset.sizeOf
 refine cL (cL (wpAny_setEntries_of ho hd hf (cT ?_)))
 unfold setDrawn
 refine cL (cL (fq ho hd hf (cL (zBl (cT ?_)))))
 dsimp only
 have fin:∀(sl:Nat→Nat) (xs:List Value),sl 0=0→Tells prog w a es ep t sl xs→xs.Perm (es.toList.map (·.2))→wpAny (model prog w) A.in1 (do let e ← setEpoch a;let r ← newFields "set_iterator" [rawInt 0,rawInt 0,.ref a,rawInt es.size,rawInt e];ret r) (fun fin s'=>∃ v,fin=.done (.ret v)∧∃ T' r,s'.TypeIs v T'∧typeLookup (.type T') "__next__"=pure (some r)∧Q v s') E s:=fun sl xs h0 T pm=>by
  have hx:xs.length=es.size:=by rw[pm.length_eq];simp
  refine cL (wpAny_setEpoch_of ho hd hf (cL (dN (cT ⟨_,rfl,"set_iterator",_,⟨_,dc _ rfl,rfl⟩,wT.lookup,?_⟩))))
  refine h (s.heap.push (zAE (rawInt 0) 0 a es.size ep)) s.heap.objs.size [s.heap.objs.size,a] (fun i h=>h.get? s.heap.objs.size=some (zAE (rawInt (sl i)) i a es.size ep)∧Sx h a es ep t) xs (fun b o e=>cQ _ e) (fun b hb=>?_) (cX _) (fun B hB=>by rw[hx];exact zK4 hB T hf hx (dB la)) ⟨?_,⟨o,cQ _ ho,hex,hd⟩⟩ ⟨fun v hv=>?_,?_⟩ ?_
  ·simp only[dC,gI,or_false] at hb
   rcases hb with e | e
   ·exact .inr (Nat.le_of_eq e.symm)
   ·exact .inl e
  ·rw[h0];exact dc _ rfl
  ·obtain⟨e,he,rfl⟩:=dI.mp (pm.mem_iff.mp hv)
   obtain⟨c,e1,e2⟩:=ok.mem e he
   exact⟨c,_,by rw[e1],e2⟩
  ·refine(pm.map _).trans ?_
   rw[fb]
   exact pk.symm
  ·rw[hx]
   have:=pk.length_eq
   simp at this
   omega
 cases bt:w.params.followText "set-order" with
 | true =>
  rw[if_neg (by simp)]
  exact fin (fun u0=>0) _ rfl (zBO hf bt) ((zA1 (w.params.setOrder a ep) es).map _)
 | false =>
  have hl':t.led=true:=by rw[hl];unfold HI.wZ;rw[bt];rfl
  have hp:(!t.plain&&decide (es.size>1))=false:=by rw[pl];rfl
  refine fJ (fun q=>absurd q (show ¬ (!false&&(!t.plain&&decide (es.size>1)))=true by rw[hp];simp)) (fun u0=>?_)
  exact fin _ _ rfl (zAi hf hr bt hl' hp) (.refl _)
end
open HI (zA2)
open HS (TI tAt ltI zB3)
section
variable {prog:Program} {w:World} {P:Addr→Prop} {A:Around} {E:Value→Shared→Prop} {s:Shared}
theorem zCY{ns:List Int}{vs:List Value}(h:ItemsAre (intKind prog w) ns vs):IntsAre vs ns:=by
 induction h with
 | nil=>exact .nil
 | cons h1 _ ih =>
  obtain⟨t,rfl⟩:=Value.isInt_shape h1
  exact .cons _ _ ih
theorem zBq{R:Result→Shared→Prop}{a:Addr}{kys:List (List Int)}(hh:A.handled=none)(hS:ST prog w P s.heap a kys)(hlen:kys.length≤10000)(L:Addr)(res:Value)(c0:Nat)(hL:s.heap.get? L=some { cls:=.type "list",data:=.seq #[] c0 })
  (hR:∀ h' tk acc c,(∀ b o,b≠L→s.heap.get? b=some o→h'.get? b=some o)→h'.get? L=some { cls:=.type "list",dict:=none,data:=.seq acc c,slots:=#[] }→Mem prog w P s.heap acc.toList kys→acc.size=kys.length→R (.ok (.ret res)) { s with heap:=h',toks:=tk }) :
  wpAny (model prog w) A.in1 (Builtin.List.listExtendWith (.ref L) (.ref a) res)
   (fun fin s'=>match fin with | .done f=>R (.ok f) s' | .again c'=>c'.quiet=true∧codeAny (model prog w) A c' R s') (fun e s'=>R (.error e) s') s:=by
 obtain⟨o,es,ep,t,ho,hex,hrest⟩:=id hS
 have La:L≠a:=fun e=>by rw[e,ho] at hL;cases hL;have:=hex.1;simp at this
 have lL:L<s.heap.objs.size:=db hL
 unfold Builtin.List.listExtendWith
 refine cL (fZ (T:="set") ⟨o,ho,hex.1⟩ ?_)
 have h1:Builtin.List.listSameRef (.ref L) (.ref a)=false:=by simp[Builtin.List.listSameRef,La]
 have h2:(Value.type "set"==Value.type "list")=false:=by decide
 have h3:(Value.type "set"==Value.type "tuple")=false:=by decide
 simp only[h1,h2,h3,Bool.or_false,cM,if_false]
 refine cL (zDU hS fun g it fp St xs kp hfp hit W st me xl=>?_)
 have hSf:L∉fp:=fun q=>by
  rcases hfp L q with e | e
  ·exact La e
  ·exact absurd lL (Nat.not_lt.mpr e)
 have W1:=(W A.in1 (by simpa using hh)).toS
 refine cL (eu (zA2 (s:={ s with heap:=g }) (kp a o ho) hex.1 ?_))
 have hL1:=kp L _ hL
 refine fJ (fun u0=>?_) (fun q=>absurd (by decide +kernel) q)
 refine cL (fO (cL ?_))
 show wpAny _ _ (updateSeq L (·.push .none)>>=fun u0=>updateSeq L (·.pop)) _ _ _
 refine cL (fC hL1 rfl ?_)
 have hL2:=et (Obj.mapSeq (·.push Value.none)) hL1 rfl
 refine fC (hz:=by seq_fits) hL2 rfl ?_
 have hL3:=et (Obj.mapSeq (·.pop)) hL2 rfl
 refine cT ⟨plainId_quiet F.plain_extend_loop _,?_⟩
 have old:∀ b ob,b≠L→g.get? b=some ob→((g.update L (Obj.mapSeq (·.push Value.none))).update L (Obj.mapSeq (·.pop))).get? b=some ob:=fun b ob hb e=>by
  rw[gM _ _ _ _ hb,gM _ _ _ _ hb];exact e
 refine codeAny_extend_loopS W1 (by rw[sizeLine_eq];omega) L hSf res xs.length 0 _ #[] _ rfl (fh _) ?_ hL3 (ItemsOf.nil _) fun s' acc c hm hL' hacc=>?_
 ·exact(W A.in1 (by simpa using hh)).frame 0 _ _ st fun b hb ob e=>old b ob (fun z=>hSf (by rw[← z];exact hb)) e
 ·have ea:acc.toList=xs:=by
   refine List.ext_getElem (by simp[hacc.1]) fun i h1 h2=>?_
   have hi:i<acc.size:=by simpa using h1
   have:xs[i]?=some acc[i]:=hacc.2 i acc[i] (getElem?_pos acc i hi)
   rw[fe h2] at this
   have:=Option.some.inj this
   rw[this]
   simp
  rw[Moved.eq_with hm]
  refine hR s'.heap s'.toks acc c (fun b ob hb e=>hm.heap b ob (fun hmem=>?_) (old b ob hb (kp b ob e))) hL' (by rw[ea];exact me) (by rw[hacc.1];exact xl)
  rcases dC.mp hmem with e' | hmem
  ·exact hb e'
  ·exact absurd (db e) (by rw[dq.mp hmem];exact Nat.not_lt.mpr hit)
theorem zBT{a:Addr}{kys:List (List Int)}{Q:List Value→Shared→Prop}(hh:A.handled=none)(hS:ST prog w P s.heap a kys)(hlen:kys.length≤10000)
  (hQ:∀ h' tk vs,(∀ b o,s.heap.get? b=some o→h'.get? b=some o)→s.heap.objs.size≤h'.objs.size→Mem prog w P s.heap vs kys→vs.length=kys.length→Q vs { s with heap:=h',toks:=tk }):wpAny (model prog w) A (collect (.ref a)) Q E s:=by
 unfold collect
 refine cL (wpAny_runValue (dZ PySem.F.entry_proto_collect ?_))
 rw[Around.under_plainId PySem.F.plain_proto_collect _]
 show wpAny _ A.in1 (newList []>>=fun l=>again (.builtin "list.__iadd__" ⟨[l,.ref a],[]⟩)) _ _ s
 refine cL (dN (cT ⟨plainId_quiet PySem.F.plain_list_iadd _,dZ PySem.F.entry_list_iadd ?_⟩))
 rw[Around.under_plainId PySem.F.plain_list_iadd _]
 show wpAny _ A.in1 (Builtin.List.listExtendWith (.ref s.heap.objs.size) (.ref a) (.ref s.heap.objs.size)) _ _ _
 have hL:(s.heap.push { cls:=.type "list",data:=.seq ([]:List Value).toArray }).get? s.heap.objs.size=some { cls:=.type "list",data:=.seq #[] 0 }:=dc _ rfl
 have memb:∀ {vs:List Value},Mem prog w P (s.heap.push { cls:=.type "list",data:=.seq ([]:List Value).toArray }) vs kys→Mem prog w P s.heap vs kys:=fun {vs} m=>by
  have back:∀ {ns c},TK prog w P (s.heap.push { cls:=.type "list",data:=.seq ([]:List Value).toArray }) ns c→TK prog w P s.heap ns c:=fun {ns c} q=>by
   obtain⟨⟨ob,its,n,e,hc,r⟩,qp⟩:=q
   refine⟨⟨ob,its,n,?_,hc,r⟩,qp⟩
   by_cases z:c=s.heap.objs.size
   ·rw[z,dc _ rfl] at e
    cases e
    simp at hc
   ·rw[Heap.get?_push_ne _ _ _ z] at e
    exact e
  refine⟨fun v hv=>?_,?_⟩
  ·obtain⟨c,ns,rfl,q⟩:=m.1 v hv
   exact⟨c,ns,rfl,back q⟩
  ·refine fK.trans (.of_eq (g8 fun v hv=>?_)) m.2
   obtain⟨c,ns,rfl,q⟩:=m.1 v hv
   rw[zAH (back q),zAH q]
 let Pst:Result→Shared→Prop:=fun res s'=>∃(h':Heap) (tk:Nat) (acc:Array Value) (c:Nat),res=.ok (.ret (.ref s.heap.objs.size))∧s'={ s with heap:=h',toks:=tk }∧(∀ b o,s.heap.get? b=some o→h'.get? b=some o)∧h'.get? s.heap.objs.size=some { cls:=.type "list",dict:=none,data:=.seq acc c,slots:=#[] }∧Mem prog w P s.heap acc.toList kys∧acc.size=kys.length
 refine eN (zBq (A:=A) (R:=Pst) (s:={ s with heap:=s.heap.push { cls:=.type "list",data:=.seq ([]:List Value).toArray } }) hh (hS.keep fun b o e=>cQ _ e) hlen s.heap.objs.size (.ref s.heap.objs.size) 0 hL fun h' tk acc c kp q1 q2 q3=>?_) (fun fin s' h=>?_) (fun e s' h=>?_)
 ·exact⟨h',tk,acc,c,rfl,rfl,fun b o e=>kp b o (dB (db e)) (cQ _ e),q1,memb q2,q3⟩
 ·have fin':∀ {r' s''},Pst r' s''→wpAny (model prog w) A (match Value.ref s.heap.objs.size with
     | Value.ref a=>do
      match (← load a).data with
       | Data.seq xs _=>pure xs.toList
       | _=>unsupported "internal:collect"
     | _=>unsupported "internal:collect") Q E s'':=by
   rintro r' s'' ⟨h',tk,acc,c,rfl,rfl,kp,q1,q2,q3⟩
   show wpAny _ A (load s.heap.objs.size>>=_) _ _ _
   exact cL (wpAny_load q1 (cT (hQ h' tk _ kp (gQ (db q1)) q2 (by simpa using q3))))
  cases fin with
  | done f =>
   have hf:=h
   obtain⟨h',tk,acc,c,e,u0⟩:=h
   cases e
   exact fin' hf
  | again c'=>exact⟨h.1,eV h.2 fun r s'' hr=>by
    have hf:=hr
    obtain⟨h',tk,acc,c,e,u0⟩:=hr
    subst e
    exact fin' hf⟩
 ·obtain⟨u0,u0,u0,u0,e,u0⟩:=h
  cases e
theorem zDi{a:Addr}{kys:List (List Int)}{Q:Value→Shared→Prop}(hh:A.handled=none)(hS:ST prog w P s.heap a kys)(h64:kys.length<9000)(hne:∀ ns∈kys,ns≠[])
  (h:∀ h' tk l (out:List Value) e,(∀ b o,s.heap.get? b=some o→h'.get? b=some o)→s.heap.objs.size≤l→h'.get? l=some (seqObj "list" out.toArray e)→Mem prog w P s.heap out kys→(out.map fun v=>kyT s.heap (0,v)).Pairwise (fun a b=>ltI b a=false)→Q (.ref l) { s with heap:=h',toks:=tk }) :
  wpAny (model prog w) A (call (.builtin "sorted") [.ref a]) Q E s:=by
 refine Calls.call_function_entry kind_sorted plain_sorted entry_sorted (args_sorted1 _) ?_
 unfold Builtin.«sorted»
 refine cL (m:=checkCount "sorted" 1 1 _) (cT (cL (zBT (by simpa using hh) hS (by omega) fun g tk vs kp lg me vl=>cL (wpAny_newList ?_ (by rw[sizeLine_eq];omega)))))
 have hoL:(g.push (seqObj "list" vs.toArray 0)).get? g.objs.size=some (seqObj "list" vs.toArray 0):=dc _ rfl
 have up:∀ b o,s.heap.get? b=some o→(g.push (seqObj "list" vs.toArray 0)).get? b=some o:=fun b o e=>cQ _ (kp b o e)
 show wpAny _ _ _ _ _ { s with heap:=g.push (seqObj "list" vs.toArray 0),toks:=tk }
 have ti:∀ v∈vs,TI (g.push (seqObj "list" vs.toArray 0)) v (kyT s.heap (0,v))∧v≠.ref g.objs.size:=fun v hv=>by
  obtain⟨c,ns,rfl,q⟩:=me.1 v hv
  have ek:=zAH q 0
  rw[ek]
  obtain⟨⟨o,its,n,e,hc,hd,hi⟩,u0⟩:=q
  refine⟨⟨⟨c,o,its,n,rfl,up c o e,hc,hd,zCY hi⟩,hne ns (me.2.mem_iff.mp (dI.mpr ⟨_,hv,ek⟩))⟩,fun z=>?_⟩
  cases z
  exact absurd (db (kp _ _ e)) (eG _)
 refine cL (eu (eY slot_list_sort ⟨_,hoL,rfl⟩ entry_list_sort (zB3 (s:={ s with heap:=g.push (seqObj "list" vs.toArray 0),toks:=tk }) hoL (fun v hv=>⟨⟨_,(ti v hv).1⟩,(ti v hv).2⟩) (by omega) fun out a2 a3=>⟨_,rfl,cT ⟨_,rfl,?_⟩⟩) (args_list_sort _)))
 have at1:((g.push (seqObj "list" vs.toArray 0)).update g.objs.size (Obj.mapSeq fun u0=>#[])).get? g.objs.size=some (seqObj "list" #[] _):=get?_update_seq hoL (fun u0=>#[])
 have at2:((((g.push (seqObj "list" vs.toArray 0)).update g.objs.size (Obj.mapSeq fun u0=>#[])).push (seqObj "tuple" vs.toArray 0)).push (seqObj "list" #[] 0)).get? g.objs.size=some (seqObj "list" #[] _):=cQ _ (cQ _ at1)
 have at3:=get?_update_seq at2 (fun u0=>out)
 refine h _ tk g.objs.size out.toList _ (fun b o e=>?_) lg at3 ⟨fun v hv=>me.1 v (a2.mem_iff.mp hv),(a2.map _).trans me.2⟩ ?_
 ·have hb:b≠g.objs.size:=dB (db (kp b o e))
  unfold sortedHeap
  rw[gM _ _ _ _ hb]
  exact cQ _ (cQ _ (by rw[gM _ _ _ _ hb];exact cQ _ (kp b o e)))
 ·rw[gG]
  intro i j hi hj ij
  have hj':j<out.size:=by simpa using hj
  have hi':i<out.size:=by omega
  have q:=a3 i j (gQ ij) hj'
  have gt:∀ k,(hk:k<out.size)→(tAt (g.push (seqObj "list" vs.toArray 0)) (out.getD k .none)).getD []=kyT s.heap (0,out[k]):=fun k hk=>by
   have e:out.getD k .none=out[k]:=by simp[gh,hk]
   rw[e,(ti out[k] (a2.mem_iff.mp (by simp))).1.items]
   rfl
  rw[gt i hi',gt j hj'] at q
  simpa using q
end
end HT3
namespace L3
open L2 HT3 HS
theorem zJl{prog:Program}{w:World}{ns:List Int}{vs:List Value}(h:IntsAre vs ns):ItemsAre (intKind prog w) ns vs:=by
 induction h with
 | nil=>exact .nil
 | cons n t _ ih=>exact .cons (intKind_is _ _ _ _) ih
section
variable {X:Cx} {pins:List (Addr×Obj)} {σ:L2.St} {H:Hp} {s:Shared}
noncomputable def PdU(K:PySem.W.Frag)(H:Hp)(c:Addr):Prop:=∃ ms,zO K H (tI ms) (.ref c)
theorem zLP(I:zP X pins σ H s){ns:List Int}{c:Addr}(d:zO X.K H (tI ns) (.ref c)):TK X.prog X.w (PdU X.K H) s.heap ns c:=by
 refine⟨?_,ns,d⟩
 unfold tI zO at d
 obtain⟨a,zs,e,hs,hd⟩:=d
 cases e
 have hz:=hd.ints_inv
 subst hz
 obtain⟨its,rv,⟨o,h1,h2,n,h3⟩,u0⟩:=I.tuple hs
 exact⟨o,its.toArray,n,h1,h2,h3,zJl (by simpa using intsAre_of rv)⟩
theorem zMz(I:zP X pins σ H s){nss:List (List Int)}{ys:List V}{its:List Value}(d:Dens X.K H (nss.map tI) ys)(rv:zT ys its):∀ i v,its.toArray[i]?=some v→∃ c,v=.ref c∧TK X.prog X.w (PdU X.K H) s.heap (nss.getD i []) c:=fun i v hv=>by
 have hv:its[i]?=some v:=by simpa using hv
 have hi:=(d8.mp hv).1
 have l1:=rv.length
 have l2:=d.length
 rw[d7] at l2
 have hn:i<nss.length:=by omega
 obtain⟨y,e1,e2⟩:=d.get (i:=i) (d:=tI nss[i]) (by rw[dJ];simp[hn])
 obtain⟨u,e3,e4⟩:=rv.get e1
 rw[hv] at e3
 cases e3
 have e5:=e2
 unfold tI zO at e5
 obtain⟨a,zs,rfl,u0,u0⟩:=e5
 cases (show v=Value.ref a from e4)
 have eg:nss.getD i []=nss[i]:=by simp[fU,hn]
 rw[eg]
 exact⟨a,rfl,zLP I e2⟩
theorem zNd{h:Heap}(I:zP X pins σ H s):∀ {out:List Value},(∀ v∈out,∃ c ns,v=.ref c∧TK X.prog X.w (PdU X.K H) s.heap ns c)→∃ ys:List V,zT ys out∧Dens X.K H ((out.map fun v=>kyT s.heap (0,v)).map tI) ys
 | [],_=>⟨[],.nil,.nil⟩
 | v::out,hh=>by
  obtain⟨ys,r,d⟩:=zNd (h:=h) I (out:=out) fun v hv=>hh v (dw _ hv)
  obtain⟨c,ns,rfl,tk⟩:=hh v dt
  obtain⟨ms,dm⟩:=tk.2
  have:=(zLP I dm).1.inj tk.1
  subst this
  refine⟨.ref c::ys,.cons rfl r,?_⟩
  simp only[eZ]
  rw[zAH tk 0]
  exact .cons dm d
end
noncomputable def zQT(K:PySem.W.Frag)(t:TA):TE:=fun σ H Q=>t σ H fun vs H1=>∃(p:Addr) (ys:List V) (nl:List (List Int)),vs=[.ref p]∧SqL K H1 p ys∧Dens K H1 (nl.map tI) ys∧nl.length≤8000∧(∀ x∈nl,x≠[]) ∧
 ∀(l:Addr) (ys':List V) (nss':List (List Int)),H1 l=none→nss'.Nodup→(∀ x,x∈nss'↔x∈nl)→nss'.Pairwise (fun a b=>ltI b a=false)→Dens K H1 (nss'.map tI) ys'→Q (.ref l) (wC H1 l (.lst ys'))
theorem zG0{X:Cx}{e:Expr}{t:TA}{p p1 pos pos1:Pos}{k:Nat}(hr:zx k X.A)(hc:X.calm=true)(hg:Gl X "sorted")(hm:X.mg "sorted"=none)(hg2:Gl X "set")(hm2:X.mg "set"=none)(ha:PA X [e] t)
  (he:starEach [.Call (.Name "set" p1) [e] [] pos1] X.env=(false,eval (.Call (.Name "set" p1) [e] [] pos1) X.env)::starEach [] X.env) (hpl:(backTo pos (starEach [] X.env)).any (·.1)=false)
  (he1:starEach [e] X.env=(false,eval e X.env)::starEach [] X.env) (hpl1:(backTo pos1 (starEach [] X.env)).any (·.1)=false) :
  PE X (.Call (.Name "sorted" p) [.Call (.Name "set" p1) [e] [] pos1] [] pos) (zQT X.K t):=by
 intro pins s σ H Q I h
 have hu:=hr.units
 have uA:∀ n,n≤50→X.A.units+n<cLine:=fun n hn=>by omega
 refine eI (zAp I hg hm boot_sorted (PyProof.Rows.callWith_builtin1 ?_ he hpl))
 rw[he]
 refine Calls.spliced_cons (eI (zAp I hg2 hm2 boot_set (PyProof.Rows.callWith_type1 (wB (ha pos1 pins s σ H _ I h) fun us s1 ⟨vs,H1,I1,r1,q1⟩=>?_) he1 hpl1)))
 obtain⟨p0,ys,nl,rfl,hp,dl,n1,une,fin⟩:=q1
 obtain⟨u,rfl,rx⟩:=vals1 r1
 cases rx
 obtain⟨its,rv,pt,u0⟩:=I1.list hp
 have l1:=rv.length
 have l2:=dl.length
 rw[d7] at l2
 refine zFj (P:=PdU X.K H1) (val:=fun i=>nl.getD i []) (I1.ok.hd hc) (by show X.A.units+3<cLine;exact uA 3 (by omega)) pt.isList (zMz I1 dl rv) (by rw[dg];omega) fun h1 tk1 kl stl len1 meml kp1=>?_
 refine Calls.spliced_nil ?_
 have I2:zP X pins σ H1 { s1 with heap:=h1,toks:=tk1 }:=I1.kept (t':=tk1) kp1
 have ml:∀ x,x∈kl↔x∈nl:=fun x=>by
  rw[meml x]
  constructor
  ·rintro⟨m,hm',rfl⟩
   rw[dg] at hm'
   have:m<nl.length:=by omega
   simp[fU,this]
  ·intro hx
   obtain⟨m,hm',rfl⟩:=List.getElem_of_mem hx
   exact⟨m,by rw[dg];omega,by simp[fU,hm']⟩
 refine zDi (s:={ s1 with heap:=h1,toks:=tk1 }) (P:=PdU X.K H1) (I1.ok.hd hc) stl (by rw[dg] at len1;omega) (fun ns hns=>une ns ((ml ns).mp hns)) fun h4 tk4 l out ee kp4 hl4 hget me so=>?_
 have sz:s1.heap.objs.size≤h1.objs.size:=by
  have g1:s1.heap.objs.size<h1.objs.size:=by obtain⟨o,u0,u0,u0,ho,u0⟩:=stl;exact db ho
  omega
 have sl:s1.heap.objs.size≤l:=eD sz hl4
 obtain⟨ys',rv',d'⟩:=zNd (h:=h4) I2 me.1
 have hn:H1 l=none:=I1.hok.fresh sl
 have nd:kl.Nodup:=let ⟨_,_,_,_,_,_,_,_,_,_,_,_,_,q⟩:=stl;q.1
 have ol:out.length=kl.length:=by have:=me.2.length_eq;simpa using this
 refine⟨.ref l,_,I2.laid (t':=tk4) (o:=.lst ys') kp4 hl4 ⟨by have:=rv'.length;rw[dg] at len1;rw[sizeLine_eq];omega,out,ee,rv',by rw[hget]⟩,rfl,fin l ys' _ hn (me.2.nodup_iff.mpr nd) (fun x=>(me.2.mem_iff).trans (ml x)) so d'⟩
noncomputable def zOx(t:TL2):TL2:=fun σ G R=>t σ G fun ds G1=>∃ nl:List (List Int),ds=nl.map tI∧nl.length≤8000∧(∀ x∈nl,x≠[])∧∀ nss':List (List Int),nss'.Nodup→(∀ x,x∈nss'↔x∈nl)→nss'.Pairwise (fun a b=>ltI b a=false)→R (nss'.map tI) G1
theorem zIA{X:Cx}{e:Expr}{t:TL2}{p p1 pos pos1:Pos}{k:Nat}(hr:zx k X.A)(hc:X.calm=true)(hg:Gl X "sorted")(hm:X.mg "sorted"=none)(hg2:Gl X "set")(hm2:X.mg "set"=none)(ha:F2 X e t)
  (he:starEach [.Call (.Name "set" p1) [e] [] pos1] X.env=(false,eval (.Call (.Name "set" p1) [e] [] pos1) X.env)::starEach [] X.env:=by rfl) (hpl:(backTo pos (starEach [] X.env)).any (·.1)=false:=by rfl)
  (he1:starEach [e] X.env=(false,eval e X.env)::starEach [] X.env:=by rfl) (hpl1:(backTo pos1 (starEach [] X.env)).any (·.1)=false:=by rfl) :
  F2 X (.Call (.Name "sorted" p) [.Call (.Name "set" p1) [e] [] pos1] [] pos) (zOx t):=by
 refine PE.mono (zG0 hr hc hg hm hg2 hm2 (yS ha zAA he1) he hpl he1 hpl1) ?_
 rintro σ1 H Q ⟨σ,G,R,rl,q,k'⟩
 refine⟨σ,G,_,rl,q,fun ds G1 q1 l xs H1 g1 r1 n e1 d1=>?_⟩
 obtain⟨nl,rfl,b1,b2,q1⟩:=q1
 exact⟨l,xs,nl,rfl,.of e1,d1,b1,b2,fun l' ys' nss' n' c1 c2 c3 c4=>k' _ G1 (q1 nss' c1 c2 c3) l' _ _ (g1.trans (.fresh n')) (r1.fresh n') (r1.free n') zc (c4.grow (.fresh n'))⟩
end L3
namespace K
open L2 L3 HS
noncomputable def yJ:Sp2:=fun ds G R=>∃ a b:Nat,ds=[nD a,nD b]∧a≤b∧R .non G
noncomputable def wo:yg:=(xIf (xB (zW (fII fun i j=>.bl (decide (j<i))) (zD 0) (zD 1))) (fun u0 u0 u0=>False) yN)
theorem zFD(ds:List D)(G:Gp)(R:Q2)(h:yJ ds G R):ds.length=2∧wo (zf R) (zS ["many","most"] ds) G:=by
 obtain⟨a,b,rfl,hab,h⟩:=h
 refine⟨rfl,?_⟩
 unfold wo
 have:=zFa (g:=fun i j=>.bl (decide (j<i))) (zF (σ:=[some (nD a),some (nD b)]) (G:=G) (i:=0) (d:=nD a) rfl) (zF (i:=1) (d:=nD b) rfl)
 rw[decide_eq_false (show ¬ ((b:Int)<(a:Int)) by omega)] at this
 exact zKn (σ:=[some (nD a),some (nD b)]) (zCl this) (FgR.of h)
theorem zM0{l:List D}{a b:Nat}(h:a≤b)(hb:b≤l.length):L3.cutD l (some (a:Int)) (some (b:Int))=(l.drop a).take (b-a):=by
 unfold L3.cutD
 rw[HT.zDu,HT.zDu,Nat.min_eq_left hb,Nat.min_eq_left (by omega)]
theorem zM1{σ:S2}{G:Gp}{u v:zm}{r:List Nat}{p a b:Nat}(h0:look σ 0=some (uD r))(h1:look σ 1=some (nD p))(hu:yA u σ G (nD a))(hv:yA v σ G (nD b))(hab:a≤b)(hb:b≤r.length)(hl:r.length≤1000) :
  yA (zW yq (zW yq (zW yq (zW yq (wP (zD 0) yr (wO u)) (yl (zA (zD 1) zI))) (wP (zD 0) (wO u) (wO v))) (yl (zA (zD 1) zI))) (wP (zD 0) (wO v) yr)) σ G (uD (zFC r p a b)):=by
 have lm:(r.map nD).length=r.length:=d7 _
 have s1:=zNb (xs:=r.map nD) (zF (σ:=σ) (G:=G) h0) hu (by omega)
 have s2:=zKq (xs:=r.map nD) (zF (σ:=σ) (G:=G) h0) hu hv
 rw[zM0 hab (by omega)] at s2
 have s3:=zIr (xs:=r.map nD) (zF (σ:=σ) (G:=G) h0) hv (by omega)
 have s4:yA (yl (zA (zD 1) zI)) σ G (.tup [nD p]):=zBE (zH (zF h1) zU) (by simp)
 have e:uD (zFC r p a b)=.tup (((((r.map nD).take a++[nD p])++((r.map nD).drop a).take (b-a))++[nD p])++(r.map nD).drop b):=by
  show D.tup ((zFC r p a b).map nD)=_
  unfold zFC
  simp only[fX,List.map_take,List.map_drop,eZ,List.map_nil]
 rw[e]
 refine zEU (zEU (zEU (zEU s1 s4 ?_) s2 ?_) s4 ?_) s3 ?_ <;>
 ·simp only[du,dO,eT,cR,cU,d7]
  omega
theorem zM2(a n:Nat):zw (a:Int) n=(cY n).map fun k=>nD (a+k):=by
 unfold zw
 refine g8 fun k u0=>?_
 show D.int _=D.int _
 congr 1
theorem zM3{a n i:Nat}{x:D}(h:((cY n).map fun k=>nD (a+k))[i]?=some x):x=nD (a+i)∧i<n:=by
 rw[dJ] at h
 by_cases hi:i<n
 ·rw[List.getElem?_range hi] at h
  cases h
  exact⟨rfl,hi⟩
 ·rw[List.getElem?_eq_none (by rw[dP];omega)] at h
  cases h
theorem zM4{σ:S2}{G:Gp}{tc:TT2}{t u v:yg}{E:zy}{b:Bool}(h:PuT tc σ G b)(hy:b=true→t { E with nx:=v E } σ G)(hn:b=false→u { E with nx:=v E } σ G):zX (xIf tc t u) v E σ G:=h G (.refl G) _ (by
 cases b
 ·rw[if_neg (by simp)];exact hn rfl
 ·rw[if_pos rfl];exact hy rfl)
theorem ifB{σ:S2}{G:Gp}{tc:TT2}{t u:yg}{E:zy}{b:Bool}(h:PuT tc σ G b)(hy:b=true→t E σ G)(hn:b=false→u E σ G):xIf tc t u E σ G:=h G (.refl G) _ (by
 cases b
 ·rw[if_neg (by simp)];exact hn rfl
 ·rw[if_pos rfl];exact hy rfl)
theorem zG1{σ:S2}{G:Gp}{r:List Nat}(h0:look σ 0=some (uD r)):yA (zW yq (zL yK (zA (zD 0) zI)) (xC (.int 1))) σ G (nD (r.length+1)):=zKj (zIe (zF h0)) yp
noncomputable def zu:List D→Gp→(List D→Gp→Prop)→Prop:=fun ds G R=>∃(r cs:List Nat) (p:Nat) (l:Addr),ds=[uD r,nD p,.adr l]∧Ls G l (cs.map nD)∧r.length≤20∧(∀ x∈r,x≤9)∧(∀ x∈cs,x≤9)∧cs.length≤9∧R ((wch r p (zCa cs)).map uD) G
theorem zBY:∀ ds G R R',(∀ ls G',R ls G'→R' ls G')→zu ds G R→zu ds G R':=by
 rintro ds G R R' h ⟨r,cs,p,l,e,h1,h2,h3,h4,h5,q⟩
 exact⟨r,cs,p,l,e,h1,h2,h3,h4,h5,h _ _ q⟩
noncomputable def zAL:yg:=(zX (zp (yU zNa (yT (iV (zD 2)) bd1 zCi (zW (yj zDo fun i j=>.int (i*2 ^ j.toNat)) (xC (.int 1)) (zD 8)))) (gN 3)) (zX (zp (zl (wA zI)) (gN 4)) (zX (wv (iR2 (zA (xC (.int 1)) (zA (zW yq (zL yK (zA (zD 0) zI)) (xC (.int 1))) zI))) (gN 5) (zX (zp (xC (.int 0)) (gN 6)) (wv (iR2 (zA (zD 5) (zA (zW yq (zL yK (zA (zD 0) zI)) (xC (.int 1))) zI))) (gN 7) (zX (xIf (xB (zW (fEq false) (zD 6) (zD 3))) (wY (zHd (zD 4) (zA (zW yq (zW yq (zW yq (zW yq (wP (zD 0) yr (wO (zD 5))) (yl (zA (zD 1) zI))) (wP (zD 0) (wO (zD 5)) (wO (zD 7)))) (yl (zA (zD 1) zI))) (wP (zD 0) (wO (zD 7)) yr)) zI))) yN) (xIf (xB (zW (fII fun i j=>.bl (decide (i<j))) (zD 7) (zL yK (zA (zD 0) zI)))) (zp (zW (fII fun i j=>.int (Builtin.bitXor i j)) (zD 6) (zW (yj zDo fun i j=>.int (i*2 ^ j.toNat)) (xC (.int 1)) (zW wD (zD 0) (zD 7)))) (gN 6)) yN))))) (yC (zD 4)))))
theorem zCb{r:List Nat}{p W:Nat}(h:r.length≤20):∀ i,i≤r.length→(zAl r p W i).length≤21*i
 | 0,_=>cX _
 | i+1,hi=>by
  have h1:=zCb h i (by omega) (p:=p) (W:=W)
  have h2:=zEp (r:=r) (p:=p) (W:=W) (a:=i+1) (j:=r.length-i) (by omega)
  show(zAl r p W i++zEo r p W (i+1) (r.length-i)).length≤_
  rw[du]
  omega
theorem zGA(ds:List D)(G:Gp)(R:Q2)(h:spL zu ds G R):ds.length=3∧zAL (zf R) (zS ["ring","place","crossed","wanted","found","first","inside","second"] ds) G:=by
 obtain⟨r,cs,p,l,rfl,hl,hr,hrx,hcx,hcl,h⟩:=h
 refine⟨rfl,?_⟩
 unfold zAL
 rw[show zS ["ring","place","crossed","wanted","found","first","inside","second"] [uD r,nD p,.adr l]=[some (uD r),some (nD p),some (.adr l),none,none,none,none,none] from rfl]
 -- wanted
 have c:=zHf (σ:=[some (uD r),some (nD p),some (.adr l),none,none,none,none,none]) (G:=G) (bd:=bd1) (te:=(zW (yj zDo fun i j=>.int (i*2 ^ j.toNat)) (xC (.int 1)) (zD 8))) (fun d=>match d with | .int v=>nD (2 ^ v.toNat) | _=>.non) (fun d=>[d]) (zBw (zF (i:=2) (d:=.adr l) rfl) hl) fun x hx=>by
  obtain⟨k,hk,rfl⟩:=dI.mp hx
  refine⟨rfl,wu (x:=.int 1) (y:=nD k) yp (zF rfl) fun u0 u0 u0 q'=>⟨⟨by omega,by have:=hcx k hk;omega,by decide⟩,?_⟩⟩
  dsimp only
  have:(1:Int)*2 ^ ((k:Int)).toNat=((2 ^ k:Nat):Int):=by simp
  rw[this]
  exact q'
 have e:dh (fun d=>match d with | .int v=>nD (2 ^ v.toNat) | _=>.non) (cs.map nD)=((cs.map fun o=>2 ^ o).map fun(x:Nat)=>(x:Int)).map D.int:=by
  rw[fb,fb,fb];rfl
 rw[e] at c
 refine zCs (d:=nD (zCa cs)) (fun G2 e2 R' q'=>c G2 e2 _ ⟨_,rfl,by simp only[d7];omega,fun a ha=>by
   obtain⟨b,hb,rfl⟩:=dI.mp ha
   obtain⟨o,ho',rfl⟩:=dI.mp hb
   have:=hcx o ho'
   have h2:2 ^ o≤2 ^ 9:=Nat.pow_le_pow_right (by omega) (by omega)
   generalize 2 ^ o=z at h2 ⊢
   omega,by rw[zLE];exact q'⟩) ?_
 simp only[gN,cO,cN]
 generalize zCa cs=W at h
 clear c e
 refine ww (zFe (ds:=[]) (fun G2 e R q=>zET (wx ⟨by rw[sizeLine_eq];simp,q⟩)) fun f hf=>?_)
 simp only[gN,cO,cN]
 refine zB5 (zHm (i:=1) (j:=((r.length+1:Nat):Int)) (zH yp (zH (zG1 rfl) zU)) (by omega) ?_)
 rw[show(((r.length+1:Nat):Int)-1).toNat=r.length by omega,zIt]
 refine zDz (fun i G'=>G'.m f=some ((zAl r p W i).map uD)∧L3.Sub G G') ⟨zG,.new hf⟩ (fun u0 u0 u0=>trivial) ?_ ?_
 ·rintro i x hx G1 ⟨gf,sb⟩
  obtain⟨rfl,hi⟩:=zIu hx
  simp only[gN,cO,cN]
  refine zCs (d:=nD 0) yp ?_
  simp only[gN,cO,cN]
  refine zHm (i:=((i+1:Nat):Int)) (j:=((r.length+1:Nat):Int)) (zH (zF rfl) (zH (zG1 rfl) zU)) (by omega) ?_
  rw[show(((r.length+1:Nat):Int)-((i+1:Nat):Int)).toNat=r.length-i by omega,zM2]
  have wl:=zCb (p:=p) (W:=W) hr i (by omega)
  refine⟨fun j σ' G'=>σ'=[some (uD r),some (nD p),some (.adr l),some (nD W),some (.adr f),some (nD (i+1)),some (nD (mkW r (i+1) j)),none]∧G'.m f=some ((zAl r p W i++zEo r p W (i+1) j).map uD)∧L3.Sub G G',⟨rfl,?_,sb⟩,fun u0 u0 u0 u0 u0=>trivial,?_,?_⟩
  ·show G1.m f=some ((zAl r p W i++[]).map uD)
   rw[fk];exact gf
  ·rintro j x σ' G2 hx ⟨rfl,gf2,sb2⟩
   obtain⟨rfl,hj⟩:=zM3 hx
   simp only[gN,cO,cN]
   have wr:=zEp (r:=r) (p:=p) (W:=W) (a:=i+1) (j:=j) (by omega)
   have t1:PuT (xB (zW (fEq false) (zD 6) (zD 3))) [some (uD r),some (nD p),some (.adr l),some (nD W),some (.adr f),some (nD (i+1)),some (nD (mkW r (i+1) j)),some (nD (i+1+j))] G2 (decide (mkW r (i+1) j=W)):=zCl (zNY (x:=nD (mkW r (i+1) j)) (y:=nD W) (zF rfl) (zF rfl) rfl rfl (by rw[if_neg (by simp),zKp]))
   have tail:∀(E:zy) (G3:Gp),G3.m f=some ((zAl r p W i++zEo r p W (i+1) (j+1)).map uD)→L3.Sub G G3→(∀ o7,E.nx [some (uD r),some (nD p),some (.adr l),some (nD W),some (.adr f),some (nD (i+1)),some (nD (mkW r (i+1) (j+1))),o7] G3) →
     (xIf (xB (zW (fII fun i j=>.bl (decide (i<j))) (zD 7) (zL yK (zA (zD 0) zI)))) (zp (zW (fII fun i j=>.int (Builtin.bitXor i j)) (zD 6) (zW (yj zDo fun i j=>.int (i*2 ^ j.toNat)) (xC (.int 1)) (zW wD (zD 0) (zD 7)))) (gN 6)) yN) E [some (uD r),some (nD p),some (.adr l),some (nD W),some (.adr f),some (nD (i+1)),some (nD (mkW r (i+1) j)),some (nD (i+1+j))] G3:=fun E G3 g3 s3 fin=>by
    have t2:PuT (xB (zW (fII fun i j=>.bl (decide (i<j))) (zD 7) (zL yK (zA (zD 0) zI)))) [some (uD r),some (nD p),some (.adr l),some (nD W),some (.adr f),some (nD (i+1)),some (nD (mkW r (i+1) j)),some (nD (i+1+j))] G3 (decide (i+1+j<r.length)):=by
     have:=zFa (g:=fun i j=>.bl (decide (i<j))) (zF (σ:=[some (uD r),some (nD p),some (.adr l),some (nD W),some (.adr f),some (nD (i+1)),some (nD (mkW r (i+1) j)),some (nD (i+1+j))]) (G:=G3) (i:=7) (d:=nD (i+1+j)) rfl) (zIe (ps:=r) (zF (i:=0) rfl))
     have e:decide ((((i+1+j:Nat)):Int)<(r.length:Int))=decide (i+1+j<r.length):=by rw[eM];simp only[decide_eq_true_eq];omega
     rw[← e];exact zCl this
    refine ifB t2 (fun hb=>?_) fun hb=>?_
    ·have hlt:=of_decide_eq_true hb
     have hx9:r.getD (i+1+j) 0≤9:=by
      have:r.getD (i+1+j) 0=r[i+1+j]:=by simp[fU,hlt]
      rw[this]
      exact hrx _ (fQ _)
     refine zPq (d:=nD (mkW r (i+1) j ^^^ 2 ^ (r.getD (i+1+j) 0))) (zMv (zF rfl) (wu (x:=.int 1) (y:=nD (r.getD (i+1+j) 0)) yp (zOj (ps:=r) (zF rfl) (zF rfl) hlt) fun u0 u0 u0 q'=>⟨⟨by omega,by omega,by decide⟩,?_⟩)) ?_
     ·dsimp only
      have:(1:Int)*2 ^ (((r.getD (i+1+j) 0:Nat):Int)).toNat=((2 ^ (r.getD (i+1+j) 0):Nat):Int):=by simp
      rw[this]
      exact q'
     ·simp only[gN,cO,cN]
      rw[← zGx hlt]
      exact fin _
    ·have hge:=of_decide_eq_false hb
     have:=fin (some (nD (i+1+j)))
     rw[zMx (by omega)] at this
     exact this
   refine zM4 t1 (fun hb=>?_) fun hb=>?_
   ·have hW:=of_decide_eq_true hb
    refine zH6 (zIv (l:=f) (zF rfl) gf2 (yL (d:=uD (zFC r p (i+1) (i+1+j))) (zM1 rfl rfl (zF rfl) (zF rfl) (by omega) (by omega) (by omega)) (wx ⟨_,gf2,by rw[d7,du];omega,?_⟩)))
    refine tail _ _ ?_ (sb2.put hf) fun o7=>?_
    ·rw[zG,zB4,if_pos hW,← eA]
     simp only[fX,eZ,List.map_nil]
    ·refine⟨_,_,.keep (.keep (.keep (.keep (.keep (.keep (.keep (.skip .nil))))))),.refl _,rfl,?_,sb2.put hf⟩
     rw[zG,zB4,if_pos hW,← eA]
     simp only[fX,eZ,List.map_nil]
   ·have hW:=of_decide_eq_false hb
    refine tail _ _ ?_ sb2 fun o7=>?_
    ·rw[zB4,if_neg hW,fk];exact gf2
    ·refine⟨_,_,.keep (.keep (.keep (.keep (.keep (.keep (.keep (.skip .nil))))))),.refl _,rfl,?_,sb2⟩
     rw[zB4,if_neg hW,fk];exact gf2
  ·rintro σ' G2 ⟨rfl,gf2,sb2⟩
   rw[d7,dP] at gf2
   exact⟨.keep (.keep (.keep (.keep (.keep (.skip (.skip (.skip .nil))))))),G2,.refl _,gf2,sb2⟩
 ·rintro G1 ⟨gf,sb⟩
  rw[d7,dP] at gf
  show FgR R (.adr f) G1
  refine⟨zQ G f ((wch r p W).map uD),⟨fun a o e=>?_,fun a o e=>sb.ro a o e⟩,h f hf⟩
  by_cases ha:a=f
  ·subst ha;rw[zG] at e;cases e;exact gf
  ·rw[zb ha] at e;exact sb.m a o e
theorem zJm{σ:S2}{G:Gp}{t:zm}{d:D}{ds:List D}(h:yA t σ G d)(hs:zGY G d ds):PuI (iV t) σ G ds:=by
 cases d with
 | tup xs =>
  have e:xs=ds:=hs
  subst e
  exact zFb h
 | adr l=>exact zBw h hs
 | _=>exact hs.elim
noncomputable def zZ:List D→Gp→(List D→Gp→Prop)→Prop:=fun ds G R=>∃(n:Nat) (q:Nat×Nat→Bool) (i:Nat) (os:List Nat) (d:D),ds=[zn n q,nD i,d]∧zGY G d (os.map nD)∧i<n∧(∀ x∈os,x<n)∧R ((os.filter (adj q i)).map nD) G
theorem zAF:∀ ds G R R',(∀ ls G',R ls G'→R' ls G')→zZ ds G R→zZ ds G R':=by
 rintro ds G R R' h ⟨n,q,i,os,d,e,hs,h1,h2,q'⟩
 exact⟨n,q,i,os,d,e,hs,h1,h2,h _ _ q'⟩
noncomputable def zAM:yg:=(yC (zl (yT (iV (zD 2)) bd1 (xB (zL zBy (zA (zD 0) (zA (zD 1) (zA (zD 3) zI))))) (zD 3))))
theorem zGB(ds:List D)(G:Gp)(R:Q2)(h:spL zZ ds G R):ds.length=3∧zAM (zf R) (zS ["web","place","others"] ds) G:=by
 obtain⟨n,q,i,os,d,rfl,hs,hi,ho,h⟩:=h
 refine⟨rfl,?_⟩
 unfold zAM yC zl
 have c:=zCn (σ:=zS ["web","place","others"] [zn n q,nD i,d]) (G:=G) (bd:=bd1) (tc:=(xB (zL zBy (zA (zD 0) (zA (zD 1) (zA (zD 3) zI)))))) (te:=zD 3) (fun d=>match d with | .int v=>adj q i v.toNat | _=>false) (fun d=>d) (fun d=>[d]) (zJm (zF (i:=2) (d:=d) rfl) hs) fun x hx=>by
  obtain⟨k,hk,rfl⟩:=dI.mp hx
  exact⟨rfl,zCl (wE (zH (zF (d:=zn n q) rfl) (zH (zF (d:=nD i) rfl) (zH (zF (d:=nD k) rfl) zU))) fun u0 u0 u0 q'=>⟨n,q,i,k,rfl,hi,ho k hk,q'⟩),fun u0=>zF rfl⟩
 have e:dh (fun d=>d) (List.filter (fun d=>match d with | .int v=>adj q i v.toNat | _=>false) (os.map nD))=(os.filter (adj q i)).map nD:=by
  rw[List.map_id',List.filter_map];rfl
 rw[e] at c
 exact c G (.refl G) _ fun l hl=>FgR.of (h l hl)
theorem zG2{r:List Nat}{p W:Nat}(h:r.length≤20):(wch r p W).length≤420:=by
 have:=zCb (p:=p) (W:=W) h r.length (cX _)
 show(zAl r p W r.length).length≤420
 omega
noncomputable def zh:List D→Gp→(List D→Gp→Prop)→Prop:=fun ds G R=>∃(rs:List (List Nat)) (cs:List Nat) (p:Nat) (lr lc:Addr),ds=[.adr lr,nD p,.adr lc]∧Ls G lr (rs.map uD)∧Ls G lc (cs.map nD)∧(∀ r∈rs,r.length≤20∧∀ x∈r,x≤9)∧(∀ x∈cs,x≤9)∧cs.length≤9∧rs.length≤1000∧R ((rs.flatMap fun r=>wch r p (zCa cs)).map uD) G
theorem zCB:∀ ds G R R',(∀ ls G',R ls G'→R' ls G')→zh ds G R→zh ds G R':=by
 rintro ds G R R' h ⟨rs,cs,p,lr,lc,e,h1,h2,h3,h4,h5,h6,q⟩
 exact⟨rs,cs,p,lr,lc,e,h1,h2,h3,h4,h5,h6,h _ _ q⟩
noncomputable def yu:yg:=(zX (zp (zl (wA zI)) (gN 3)) (zX (wv (iV (zD 0)) (gN 4) (wY (zKS (zD 3) (yB zu (zA (zD 4) (zA (zD 1) (zA (zD 2) zI))))))) (yC (zD 3))))
theorem zJn{rs:List (List Nat)}{g:List Nat→List (List Nat)}{k:Nat}{r:List Nat}(h:rs[k]?=some r):((rs.take (k+1)).flatMap g).map uD=((rs.take k).flatMap g).map uD++(g r).map uD:=by
 rw[yt h,List.flatMap_append,fX]
 congr 1
 simp
theorem zDX(ds:List D)(G:Gp)(R:Q2)(h:spL zh ds G R):ds.length=3∧yu (zf R) (zS ["rings","place","crossed","longer","ring"] ds) G:=by
 obtain⟨rs,cs,p,lr,lc,rfl,hlr,hlc,hrs,hcx,hcl,hrl,h⟩:=h
 refine⟨rfl,?_⟩
 unfold yu
 rw[show zS ["rings","place","crossed","longer","ring"] [.adr lr,nD p,.adr lc]=[some (.adr lr),some (nD p),some (.adr lc),none,none] from rfl]
 refine ww (zFe (ds:=[]) (fun G2 e R q=>zET (wx ⟨by rw[sizeLine_eq];simp,q⟩)) fun f hf=>?_)
 simp only[gN,cO,cN]
 refine zB5 (zDK (show iV _ _ _ _ from(zF (i:=0) (d:=.adr lr) rfl) _ (.refl _) _ ⟨rs.map uD,hlr.sub (.new hf),?_⟩))
 refine zDz (fun k G'=>G'.m f=some (((rs.take k).flatMap fun r=>wch r p (zCa cs)).map uD)∧L3.Sub G G') ⟨zG,.new hf⟩ (fun k G' ⟨_,sb⟩=>hlr.sub sb) ?_ ?_
 ·rintro k x hx G1 ⟨gf,sb⟩
  obtain⟨r,hr,rfl⟩:=zDt hx
  obtain⟨r1,r2⟩:=hrs r (dM hr)
  simp only[gN,cO,cN]
  have b1:=zG2 (p:=p) (W:=zCa cs) r1
  have b2:=zEq (f:=fun r=>wch r p (zCa cs)) (c:=420) (rs.take k) fun r hr=>zG2 (hrs r (fm hr)).1
  have b3:(rs.take k).length≤1000:=by rw[dO];omega
  refine zH6 (zId (i:=3) (l:=f) (zs:=(wch r p (zCa cs)).map uD) rfl gf (fun Q q'=>wf (yL (zF rfl) (yL (zF rfl) (yL (zF rfl) (wx ⟨r,cs,p,lc,rfl,hlc.sub sb,r1,r2,hcx,hcl,q'⟩))))) (by rw[d7,d7];omega) ?_)
  refine⟨.keep (.keep (.keep (.keep (.skip .nil)))),_,.refl _,?_,sb.put hf⟩
  rw[zG,zJn hr]
 ·rintro G1 ⟨gf,sb⟩
  rw[d7,fP] at gf
  show FgR R (.adr f) G1
  refine⟨zQ G f ((rs.flatMap fun r=>wch r p (zCa cs)).map uD),⟨fun a o e=>?_,fun a o e=>sb.ro a o e⟩,h f hf⟩
  by_cases ha:a=f
  ·subst ha;rw[zG] at e;cases e;exact gf
  ·rw[zb ha] at e;exact sb.m a o e
noncomputable def zFE(n:Nat)(q:Nat×Nat→Bool):List (List Int):=(rgs q (n-1)).map fun r=>zAu (uI r)
noncomputable def yv:List D→Gp→(List D→Gp→Prop)→Prop:=fun ds G R=>∃(n:Nat) (q:Nat×Nat→Bool),ds=[zn n q]∧1≤n∧n≤5∧∀ m:List (List Int),m.Nodup→(∀ x,x∈m↔x∈zFE n q)→m.Pairwise (fun a b=>ltI b a=false)→R (m.map tI) G
theorem zLQ{n:Nat}{q:Nat×Nat→Bool}(h:n≤5):(zFE n q).length≤2880:=by
 unfold zFE
 rw[d7]
 exact zJk q (by omega)
theorem zM5{n:Nat}{q:Nat×Nat→Bool}:∀ x∈zFE n q,x≠[]:=fun x hx z=>by
 obtain⟨r,hr,rfl⟩:=dI.mp hx
 have h1:=zDj (uI r) (uI r).length
 have h2:=(zDW q (n-1) r hr).1
 have h3:(zAu (uI r)).length=0:=by rw[z];rfl
 have h4:(zAu (uI r)).length=(uI r).length:=h1
 have h5:(uI r).length=r.length:=d7 _
 omega
theorem zM6(r:List Nat):uD r=tupI (uI r):=by
 show D.tup (r.map nD)=D.tup ((uI r).map D.int)
 unfold uI
 rw[fb];rfl
theorem zM7{σ:S2}{G:Gp}{n k:Nat}{q:Nat×Nat→Bool}{l:Addr}{sp:Sp2}(hs:sp=wy)(h1:look σ 1=some (.adr l))(hk:∀ d:D,look (σ++[some d]) k=some d)(hl:Ls G l ((rgs q (n-1)).map uD))(h5:n≤5):PuL (yT (iV (zD 1)) bd1 zCi (zL sp (zA (zD k) zI))) σ G ((zFE n q).map tI):=by
 have m:=zHf (σ:=σ) (G:=G) (bd:=bd1) (te:=zL sp (zA (zD k) zI)) (fun d=>match d with | .tup xs=>tupI (zAu (xs.map fun d=>match d with | .int v=>v | _=>0)) | _=>.non) (fun d=>[d]) (zBw (zF h1) hl) fun x hx=>by
  obtain⟨r,hr,rfl⟩:=dI.mp hx
  refine⟨rfl,?_⟩
  have e:dh (fun d=>match d with | D.int v=>v | _=>0) (r.map nD)=uI r:=by
   rw[fb];rfl
  show yA _ _ _ (tupI (zAu (dh (fun d=>match d with | D.int v=>v | _=>0) (r.map nD))))
  rw[e]
  have h2:=(zDW q (n-1) r hr).1
  have h3:(uI r).length=r.length:=d7 _
  refine zK9 hs ?_ (by omega)
  rw[← zM6]
  exact zF (hk (uD r))
 have e:dh (fun d=>match d with | .tup xs=>tupI (zAu (xs.map fun d=>match d with | .int v=>v | _=>0)) | _=>.non) ((rgs q (n-1)).map uD)=(zFE n q).map tI:=by
  unfold zFE
  rw[fb,fb]
  refine g8 fun r u0=>?_
  show tupI (zAu (dh (fun d=>match d with | D.int v=>v | _=>0) (r.map nD)))=tI (zAu (uI r))
  rw[fb];rfl
 rw[e] at m
 exact m
theorem zLR{σ:S2}{G G':Gp}{n:Nat}{q:Nat×Nat→Bool}{R:Q2}{tl:TL2}(c:PuL tl σ G' ((zFE n q).map tI))(h5:n≤5)(sb:L3.Sub G G')
  (h:∀ m:List (List Int),m.Nodup→(∀ x,x∈m↔x∈zFE n q)→m.Pairwise (fun a b=>ltI b a=false)→∀ l,G.m l=none→R (.adr l) (zQ G l (m.map tI))):yC (zl (zOx tl)) (zf R) σ G':=by
 refine c G' (.refl _) _ ⟨zFE n q,rfl,by have:=zLQ (q:=q) h5;omega,zM5,fun m a1 a2 a3 l hl=>?_⟩
 refine⟨zQ G l (m.map tI),⟨fun a o e=>?_,fun a o e=>sb.ro a o e⟩,h m a1 a2 a3 l (zEn sb hl)⟩
 by_cases ha:a=l
 ·subst ha;rw[zG] at e;cases e;exact zG
 ·rw[zb ha] at e;rw[zb ha];exact sb.m a o e
theorem zOy{q:Nat×Nat→Bool}{i:Nat}(h:i≤4):∀ r∈rgs q i,r.length≤20∧∀ x∈r,x≤9:=fun r hr=>by
 obtain⟨h1,h2⟩:=zDW q i r hr
 exact⟨by omega,fun x hx=>by have:=h2 x hx;omega⟩
theorem zLS(q:Nat×Nat→Bool){i:Nat}(h:i≤3):(rgs q i).length≤1000:=by
 refine eD (zF9 q i) ?_
 match i,h with
 | 0,_=>decide
 | 1,_=>decide
 | 2,_=>decide
 | 3,_=>decide
theorem zOz{q:Nat×Nat→Bool}{p:Nat}:∀ x∈nrQ q p,x<p:=fun x hx=>dL.mp (fj.mp hx).1
theorem zM8{q:Nat×Nat→Bool}{p:Nat}:(nrQ q p).length≤p:=by
 have:=fT (adj q p) (cY p)
 rw[dP] at this
 exact this
noncomputable def zAm:yg:=(zX (wY (zL yJ (zA (zW wD (zD 0) (xC (.int 0))) (zA (xC (.int 5)) zI)))) (zX (zp (zl (wA (zA (yl (zA (xC (.int 0)) (zA (xC (.int 0)) zI))) zI))) (gN 1)) (zX (wv (iR2 (zA (xC (.int 1)) (zA (zW wD (zD 0) (xC (.int 0))) zI))) (gN 2) (zp (zl (yB zh (zA (zD 1) (zA (zD 2) (zA (zl (yB zZ (zA (zD 0) (zA (zD 2) (zA (zKW (zA (zD 2) zI)) zI))))) zI))))) (gN 1))) (yC (zl (zOx (yT (iV (zD 1)) bd1 zCi (zL wy (zA (zD 3) zI)))))))))
theorem zG3(ds:List D)(G:Gp)(R:Q2)(h:spL yv ds G R):ds.length=1∧zAm (zf R) (zS ["web","rings","place"] ds) G:=by
 obtain⟨n,q,rfl,h1,h5,h⟩:=h
 refine⟨rfl,?_⟩
 unfold zAm
 rw[show zS ["web","rings","place"] [zn n q]=[some (zn n q),none,none] from rfl]
 refine(show zX (wY _) _ _ _ _ from zBK (ds:=[nD n,nD 5]) (zH (zDf (q:=q) (zF rfl)) (zH yp zU)) ⟨n,5,rfl,h5,?_⟩)
 refine ww (zFe (ds:=[uD [0,0]]) (fun G2 e R q=>zET (zH (zBE (zH yp (zH yp zU)) (by simp)) zU G2 e _ ⟨by rw[sizeLine_eq];simp,q⟩)) fun f hf=>?_)
 simp only[gN,cO,cN]
 refine zB5 (zHm (i:=1) (j:=n) (zH yp (zH (zDf (q:=q) (zF rfl)) zU)) (by omega) ?_)
 rw[show((n:Int)-1).toNat=n-1 by omega,zIt]
 refine⟨fun i σ' G'=>∃ l,σ'=[some (zn n q),some (.adr l),none]∧G.m l=none∧G'.m l=some ((rgs q i).map uD)∧L3.Sub G G',⟨f,rfl,hf,zG,.new hf⟩,fun u0 u0 u0 u0 u0=>trivial,?_,?_⟩
 ·rintro i x σ' G' hx ⟨l,rfl,hl,hg,sb⟩
  obtain⟨rfl,hi⟩:=zIu hx
  simp only[gN,cO,cN]
  refine zOw (zC6 (wf (yL (d:=.adr l) (zF rfl) (yL (d:=nD (i+1)) (zF rfl) (zBL (zC6 (wf (yL (d:=zn n q) (zF rfl) (yL (d:=nD (i+1)) (zF rfl) (yL (d:=uD (cY (i+1))) (zMa (zF rfl) (by omega)) (wx ⟨n,q,i+1,cY (i+1),uD (cY (i+1)),rfl,rfl,by omega,?_,fun lc hlc=>?_⟩)))))))))))
  ·intro x hx
   have:=dL.mp hx
   omega
  have nl:l≠lc:=fun z=>by rw[z] at hg;rw[hg] at hlc;cases hlc
  have sb2:L3.Sub G (zQ G' lc ((nrQ q (i+1)).map nD)):=sb.trans (.new hlc)
  refine wx ⟨rgs q i,nrQ q (i+1),i+1,l,lc,rfl,.inl (by rw[zb nl];exact hg),.own,zOy (by omega),fun x hx=>gQ (dk (zOz x hx) (by omega)),eD zM8 (by omega),zLS q (by omega),fun l' hl'=>?_⟩
  simp only[gN,cO,cN]
  exact⟨[some (zn n q),some (.adr l'),none],_,.keep (.keep (.skip .nil)),.refl _,l',rfl,zEn sb2 hl',zG,sb2.put (zEn sb2 hl')⟩
 ·rintro σ' G' ⟨l,rfl,hl,hg,sb⟩
  rw[d7,dP] at hg
  exact zLR (zM7 (k:=3) (σ:=[some (zn n q),some (.adr l),none]) rfl rfl (fun u0=>rfl) (.inl hg) h5) h5 sb h
end K
namespace HX
open HT
section
variable {prog:Program} {w:World} {A:Around} {R:Result→Shared→Prop} {I:Addr} {fp wr:List Addr} {n:Nat} {P:Nat→Value→Prop} {St:Nat→Heap→Prop}
structure zM9 (prog:Program) (w:World) (A:Around) (P:Nat→Value→Prop) (bt:Nat→Nat→Bool) (wr:List Addr) (S:Addr) (Kp:Heap→Prop):Prop where
 cmp:∀ i j vi vj (s:Shared) (Q:Value→Shared→Prop) (E:Value→Shared→Prop),Kp s.heap→P i vi→P j vj→Q (.bool (bt i j)) s→wpAny (model prog w) A (richCompare .Gt vi vj) Q E s
 keep:∀ h h':Heap,Kp h→(∀ b o,b∉wr→b≠S→h.get? b=some o→h'.get? b=some o)→Kp h'
theorem zLT(W:Walks prog w A.in1 I fp wr n P St)(bt:Nat→Nat→Bool){Kp:Heap→Prop}(S:Addr)(C  :zM9 prog w A.in1 P bt wr S Kp)(hSf:S∉fp) :
  ∀(k j:Nat) (s:Shared) (vb:Value) (c:Nat),n-(j+1)=k→j+1≤n→St (j+1) s.heap→Kp s.heap→P (argBest bt j) vb →
  s.heap.get? S=some { cls:=.type "list",dict:=none,data:=.seq #[vb,vb] c,slots:=#[] } →
  (∀ v h' tk,P (argBest bt (n-1)) v→(∀ b o,b∉wr→b≠S→s.heap.get? b=some o→h'.get? b=some o)→R (.ok (.ret v)) { s with heap:=h',toks:=tk }) →
  codeAny (model prog w) A (.builtin "max.loop" ⟨[.ref I,.none,.ref S],[]⟩) R s:=by
 have nw:S∉wr:=fun h=>hSf (W.sub _ h)
 have nm:(toString "max"++toString ".loop":String)="max.loop":=by decide
 intro k
 induction k with
 | zero =>
  intro j s vb c hk hj st kp pb hS fin
  have hin:j+1=n:=by omega
  refine dZ PySem.F.entry_max_loop ?_
  rw[Around.under_plainId PySem.F.plain_max_loop _]
  show wpAny _ A.in1 (seqItems? (.ref S)>>=_) _ _ s
  refine cL (gg hS rfl ?_)
  show wpAny _ A.in1 (tryCatch (pyNext (.ref I)) _>>=_) _ _ s
  refine cL (gc (W.done s _ _ (hin▸st) fun h' tk hk'=>?_))
  have hS':=hk' S _ nw hS
  show wpAny _ A.in1 (updateSeq S (fun u0=>#[])>>=_) _ _ _
  refine cL ?_
  refine fC hS' rfl (cL (wpAny_letGo (cT ?_)))
  exact fin vb _ tk (by rw[← hin];exact pb) fun b o h1 h2 e=>(dA _ _ (Ne.symm h2)).trans (hk' b o h1 e)
 | succ k ih =>
  intro j s vb c hk hj st kp pb hS fin
  have lt:j+1<n:=by omega
  refine dZ PySem.F.entry_max_loop ?_
  rw[Around.under_plainId PySem.F.plain_max_loop _]
  show wpAny _ A.in1 (seqItems? (.ref S)>>=_) _ _ s
  refine cL (gg hS rfl ?_)
  show wpAny _ A.in1 (tryCatch (pyNext (.ref I)) _>>=_) _ _ s
  refine cL (gc (W.item (j+1) s _ _ lt st fun v h' tk pv st' hk'=>?_))
  have hS':=hk' S _ nw hS
  have kp':Kp h':=C.keep _ _ kp fun b o h1 u0 e=>hk' b o h1 e
  show wpAny _ A.in1 (tryCatch (holding [v,v] (richCompare .Gt v vb>>=_)) _>>=_) _ _ _
  refine cL (gc (eu (cL (C.cmp (j+1) (argBest bt j) v vb _ _ _ kp' pv pb ?_))))
  refine cL (eu (wpAny_truthy_bool ?_))
  refine cL (wpAny_letGo (cT ?_))
  cases hb:bt (j+1) (argBest bt j) with
  | true =>
   simp only[if_true]
   refine cL ?_
   refine fC hS' rfl (cL (wpAny_letGo ?_))
   rw[nm]
   refine cT ⟨plainId_quiet PySem.F.plain_max_loop _,ih (j+1) _ v _ (by omega) lt (W.frame _ _ _ st' fun b hbf o e=>?_) (C.keep _ _ kp' fun b o u0 h2 e=>(dA _ _ (Ne.symm h2)).trans e) (by simp only[argBest,hb,if_true];exact pv) (et _ hS' rfl)
    fun v' h'' tk'' pv' hk''=>?_⟩
   ·exact(dA _ _ (fun h:S=b=>hSf (by rw[h];exact hbf))).trans e
   ·exact fin v' h'' tk'' pv' fun b o h1 h2 e=>hk'' b o h1 h2 ((dA _ _ (Ne.symm h2)).trans (hk' b o h1 e))
  | false =>
   simp only[cM,if_false]
   refine cL (wpAny_letGo ?_)
   rw[nm]
   refine cT ⟨plainId_quiet PySem.F.plain_max_loop _,ih (j+1) _ vb c (by omega) lt st' kp' (by simp only[argBest,hb,cM,if_false];exact pb) hS' fun v' h'' tk'' pv' hk''=>?_⟩
   exact fin v' h'' tk'' pv' fun b o h1 h2 e=>hk'' b o h1 h2 (hk' b o h1 e)
theorem zJo(W:Walks prog w A.in1 I fp wr n P St)(bt:Nat→Nat→Bool){Kp:Heap→Prop}(S:Addr)(C  :zM9 prog w A.in1 P bt wr S Kp)(hSf:S∉fp)(hn:0<n){s:Shared}{c:Nat}(st:St 0 s.heap)(kp:Kp s.heap)
  (hS:s.heap.get? S=some { cls:=.type "list",dict:=none,data:=.seq #[] c,slots:=#[] })
  (fin:∀ v h' tk,P (argBest bt (n-1)) v→(∀ b o,b∉wr→b≠S→s.heap.get? b=some o→h'.get? b=some o)→R (.ok (.ret v)) { s with heap:=h',toks:=tk }) :
  codeAny (model prog w) A (.builtin "max.loop" ⟨[.ref I,.none,.ref S],[]⟩) R s:=by
 have nw:S∉wr:=fun h=>hSf (W.sub _ h)
 have nm:(toString "max"++toString ".loop":String)="max.loop":=by decide
 refine dZ PySem.F.entry_max_loop ?_
 rw[Around.under_plainId PySem.F.plain_max_loop _]
 show wpAny _ A.in1 (seqItems? (.ref S)>>=_) _ _ s
 refine cL (gg hS rfl ?_)
 show wpAny _ A.in1 (tryCatch (pyNext (.ref I)) _>>=_) _ _ s
 refine cL (gc (W.item 0 s _ _ hn st fun v h' tk pv st' hk'=>?_))
 have hS':=hk' S _ nw hS
 show wpAny _ A.in1 (updateSeq S (fun u0=>#[v,v])>>=_) _ _ _
 refine cL ?_
 refine fC hS' rfl ?_
 rw[nm]
 refine cT ⟨plainId_quiet PySem.F.plain_max_loop _,zLT W bt S C hSf _ 0 _ v _ rfl hn (W.frame _ _ _ st' fun b hbf o e=>?_) (C.keep _ _ kp fun b o h1 h2 e=>(dA _ _ (Ne.symm h2)).trans (hk' b o h1 e)) pv (et _ hS' rfl) fun v' h'' tk'' pv' hk''=>?_⟩
 ·exact(dA _ _ (fun h:S=b=>hSf (by rw[h];exact hbf))).trans e
 ·exact fin v' h'' tk'' pv' fun b o h1 h2 e=>hk'' b o h1 h2 ((dA _ _ (Ne.symm h2)).trans (hk' b o h1 e))
end
section
variable {prog:Program} {w:World} {A:Around} {E:Value→Shared→Prop} {s:Shared}
noncomputable def gtT(nss:List (List Int))(i j:Nat):Bool:=lexLt (nss.getD j []) (nss.getD i [])
theorem zJp{as:List Addr}{nss:List (List Int)}{wr:List Addr}{S:Addr}(hu:A.units<cLine)(h1:∀ a∈as,a∉wr)(h2:S∉as) :
  zM9 prog w A (fun i v=>(as.map Value.ref)[i]?=some v) (gtT nss) wr S (fun h=>zAB h as nss) where
 cmp:=fun i j vi vj s Q E kp pi pj q=>by
  have gi:∀ {i:Nat} {v:Value},(as.map Value.ref)[i]?=some v→∃ a,as[i]?=some a∧v=Value.ref a:=fun {i v} e=>by
   rw[dJ] at e
   cases q:as[i]? with
   | none=>rw[q] at e;cases e
   | some a=>rw[q] at e;cases e;exact⟨a,rfl,rfl⟩
  obtain⟨a,ea,rfl⟩:=gi pi
  obtain⟨b,eb,rfl⟩:=gi pj
  have li:i<nss.length:=by rw[← kp.1];exact(d8.mp ea).1
  have lj:j<nss.length:=by rw[← kp.1];exact(d8.mp eb).1
  obtain⟨its,t1,i1⟩:=kp.2 i a nss[i] ea (by simp)
  obtain⟨its2,t2,i2⟩:=kp.2 j b nss[j] eb (by simp)
  have e:gtT nss i j=lexLt nss[j] nss[i]:=by simp[gtT,fU,li,lj]
  rw[e] at q
  exact zHs t1 t2 i1 i2 hu q
 keep:=fun h h' kp k=>kp.keep fun a ha o e=>k a o (h1 a ha) (fun z=>h2 (z▸ha)) e
noncomputable def zPv(prog:Program)(w:World)(A:Around)(Q:Value→Shared→Prop)(it:Value)(s₂:Shared):Prop:=∃ I fp wr n P St bt Kp,it=.ref I∧Walks prog w A.in1 I fp wr n P St∧St 0 s₂.heap∧(∀ b∈fp,b<s₂.heap.objs.size)∧0<n∧zM9 prog w A.in1 P bt wr s₂.heap.objs.size Kp∧Kp s₂.heap ∧
 ∀ v h' tk,P (argBest bt (n-1)) v→(∀ b o,b∉wr→s₂.heap.get? b=some o→h'.get? b=some o)→Q v { s₂ with heap:=h',toks:=tk }
theorem zLU{Q:Value→Shared→Prop}{it:Value}{s₂:Shared}(h₂:zPv prog w A Q it s₂):wpAny (model prog w) A.in1 (newList []>>=fun best=>again (.builtin "max.loop" ⟨[it,.none,best],[]⟩)) (fun fin s'=>match fin with | .done f=>wants Q E (.ok f) s' | .again c'=>c'.quiet=true∧codeAny (model prog w) A c' (wants Q E) s') (fun e s'=>wants Q E (.error e) s') s₂:=by
 obtain⟨I,fp,wr,n,P,St,bt,Kp,rfl,W,hst,hfp,hn,C,kp,hQ⟩:=h₂
 refine cL (dN ?_)
 have hSf:s₂.heap.objs.size∉fp:=fun hm=>eG _ (hfp _ hm)
 refine cT ⟨plainId_quiet PySem.F.plain_max_loop _,zJo W bt s₂.heap.objs.size C hSf hn (W.frame _ _ _ hst fun b u0 o e=>cQ _ e) (C.keep _ _ kp fun b o u0 u0 e=>cQ _ e) (dc _ rfl) fun v h' tk hP hk=>?_⟩
 exact hQ v h' tk hP fun b o hbw e=>hk b o hbw (dB (db e)) (cQ _ e)
theorem zJq{x:Value}{Q:Value→Shared→Prop}(h:wpAny (model prog w) A.in1 (pyIter x) (zPv prog w A Q) E s) :
  wpAny (model prog w) A (call (.builtin "max") [x]) Q E s:=by
 have nm:(toString "max"++toString ".loop":String)="max.loop":=by decide
 refine call_function_tree PySem.F.kind_max PySem.F.plain_max PySem.F.entry_max (PySem.F.args_max1 _) ?_
 show wpAny _ A.in1 (Builtin.Builtins.bindParams "max" ["key","default"] 0 ⟨[],[]⟩>>=_) _ _ s
 refine cL (eQ (show Builtin.Builtins.bindParams "max" ["key","default"] 0 ⟨[],[]⟩=pure [none,none] from rfl) ?_)
 refine cL (cT ?_)
 refine cL (eN h (fun it s₂ h₂=>?_) fun u0 u0 e=>e)
 have:=zLU (E:=E) h₂
 rw[nm]
 exact this
theorem max_list{l:Addr}{as:List Addr}{nss:List (List Int)}{Q:Value→Shared→Prop}(hh:A.handled=none)(hu:A.in1.units<cLine)(hl:s.heap.IsList l (as.map Value.ref).toArray)(hne:0<as.length)(ht:zAB s.heap as nss)
  (h:∀ h' tk v,(as.map Value.ref)[argBest (gtT nss) (as.length-1)]?=some v→(∀ d o,s.heap.get? d=some o→h'.get? d=some o)→Q v { s with heap:=h',toks:=tk }) :
  wpAny (model prog w) A (call (.builtin "max") [.ref l]) Q E s:=by
 refine zJq (wpAny_pyIter_list hl ?_)
 have la:∀ x∈as,x<s.heap.objs.size:=ht.lt
 have ll:l<s.heap.objs.size:=by obtain⟨o,e,u0⟩:=hl;exact db e
 refine⟨_,[_,l],[_],_,_,_,gtT nss,fun h=>zAB h as nss,rfl,Walks.list (A:=A.in1) hh _ l (dB ll) (as.map Value.ref).toArray,
  ⟨⟨_,dc _ rfl,rfl,rfl⟩,hl.push _⟩,fun d hd=>?_,by simpa using hne,?_,ht.keep fun x hx o e=>cQ _ e,fun v h' tk hP hk=>?_⟩
 ·show d<(s.heap.push _).objs.size
  rw[fB]
  rcases dC.mp hd with rfl | hd
  ·exact gH _
  ·rcases dC.mp hd with rfl | hd
   ·exact Nat.lt_succ_of_lt ll
   ·cases hd
 ·have:=zJp (prog:=prog) (w:=w) (A:=A.in1) (as:=as) (nss:=nss) (wr:=[s.heap.objs.size]) (S:=s.heap.objs.size+1) hu (fun x hx z=>by
   have h1:=la x hx
   rw[dq] at z
   rw[z] at h1
   exact absurd h1 (eG _)) (fun z=>absurd (la _ z) (Nat.not_lt.mpr (Nat.le_succ _)))
  refine⟨fun i j vi vj s Q E kp pi pj q=>this.cmp i j vi vj s Q E kp (by simpa using pi) (by simpa using pj) q,fun h h' kp k=>this.keep h h' kp fun b o h1 h2 e=>k b o h1 ?_ e⟩
  show b≠(s.heap.push _).objs.size
  rw[fB];exact h2
 ·have hold:∀ d o,s.heap.get? d=some o→h'.get? d=some o:=fun d o e=>by
   refine hk d o (fun hm=>?_) (cQ _ e)
   rcases dC.mp hm with e1 | hm
   ·have:=db e;rw[e1] at this;exact eG _ this
   ·cases hm
  exact h h' tk v (by simpa using hP) hold
end
end HX
namespace L3
open L2
section
variable {X:Cx} {a b c e o:Expr} {es:List Expr} {pos p:Pos} {ta tb te:zm} {tl:TL2}
theorem zJr(hc:X.calm=true)(hu:X.A.units+10<cLine):yy X (.builtin "max") (fun xs H Q=>∃ l as nss,xs=[.ref l]∧SqL X.K H l (as.map V.ref)∧0<as.length∧zCw X.K H as nss∧∀ d,as[argBest (HX.gtT nss) (as.length-1)]?=some d→Q (.ref d) H):=by
 intro pins s σ H xs us Q I r h
 obtain⟨l,as,nss,rfl,hs,hp,ht,q⟩:=h
 obtain⟨u,rfl,rx⟩:=vals1 r
 cases rx
 obtain⟨its,rv,pl,hzz⟩:=I.list hs
 have:its=as.map Value.ref:=by
  clear hs pl hzz hp ht q
  induction as generalizing its with
  | nil=>cases rv;rfl
  | cons a as ih =>
   rw[eZ] at rv
   cases rv with
   | cons r1 r2=>cases r1;rw[ih _ r2];rfl
 subst this
 refine HX.max_list (I.ok.hd hc) (by show X.A.in1.units<cLine;simp[Around.in1] at *;omega) pl.isList hp (ht.at I) fun h' tk v hv kp=>?_
 rw[dJ] at hv
 cases q':as[argBest (HX.gtT nss) (as.length-1)]? with
 | none=>rw[q'] at hv;cases hv
 | some d =>
  rw[q'] at hv
  cases hv
  exact⟨.ref d,H,I.kept (t':=tk) kp,rfl,q d q'⟩
noncomputable def zC7(nss:List (List Int)):List Int:=nss.getD (argBest (HX.gtT nss) (nss.length-1)) []
noncomputable def zLV:Sp2:=fun ds G R=>∃ nss:List (List Int),ds=nss.map tupI∧0<nss.length∧R (tupI (zC7 nss)) G
theorem zCw.pickG{K:PySem.W.Frag}{H:Hp}{as:List Addr}{nss:List (List Int)}(h:zCw K H as nss)(hp:0<nss.length){d:Addr}(hd:as[argBest (HX.gtT nss) (as.length-1)]?=some d):zO K H (tupI (zC7 nss)) (.ref d):=by
 rw[h.1] at hd
 have hl:argBest (HX.gtT nss) (nss.length-1)<nss.length:=by have:=zBM (HX.gtT nss) (nss.length-1);omega
 refine zDg (h.2 _ d _ hd ?_)
 unfold zC7
 simp[fU,hl]
theorem zO0{k:Nat}(hr:zx k X.A)(hc:X.calm=true)(hg:Gl X "max")(hm:X.mg "max"=none)(ha:F2 X e tl)(he:starEach [e] X.env=(false,eval e X.env)::starEach [] X.env:=by rfl)(hpl:(backTo pos (starEach [] X.env)).any (·.1)=false:=by rfl) :
  E2 X (.Call (.Name "max" p) [e] [] pos) (yU zLV tl):=zGZ (zJr hc (by have:=hr.units;omega)) (by
   rintro ds G R l xs H Q ⟨nss,rfl,hp,h⟩ r e d k
   obtain⟨as,rfl,ha⟩:=zDM d
   exact⟨l,as,nss,rfl,.of e,by rw[ha.1];exact hp,ha,fun d hd=>k _ G h _ H (.refl H) r (ha.pickG hp hd)⟩) hg hm (by decide +kernel) ha (by decide) (by decide) he hpl
end
end L3
namespace K
open L2 L3 HS
theorem zNA{σ:S2}{G:Gp}{t u:zm}{x y:D}(h:WkE t σ G x)(h':yA u σ G y):WkE (yl (zA t (zA u zI))) σ G (.tup [x,y]):=fun G2 e R q=>h G2 e _ fun G3 e3=>h' G3 (e.trans e3) _ ⟨by rw[sizeLine_eq];simp,q G3 e3⟩
theorem zG4{nss:List (List Int)}(h:0<nss.length):zC7 nss∈nss:=by
 unfold zC7
 have hl:argBest (HX.gtT nss) (nss.length-1)<nss.length:=by have:=zBM (HX.gtT nss) (nss.length-1);omega
 simp[fU,hl]
noncomputable def zv:List D→Gp→(List D→Gp→Prop)→Prop:=fun ds G R=>∃(n:Nat) (q:Nat×Nat→Bool),ds=[zn n q]∧1≤n∧n≤9∧∀ os:List Nat,os.Nodup→os.length=n→(∀ x∈os,x<n)→R (os.map nD) G
theorem zDr:∀ ds G R R',(∀ ls G',R ls G'→R' ls G')→zv ds G R→zv ds G R':=by
 rintro ds G R R' h ⟨n,q,e,h1,h9,k⟩
 exact⟨n,q,e,h1,h9,fun os a b c=>h _ _ (k os a b c)⟩
noncomputable def zAN:yg:=(zX (zp (zl (wA zI)) (gN 1)) (zX (zIa (xB (zW (fII fun i j=>.bl (decide (i<j))) (zL yK (zA (zD 1) zI)) (zW wD (zD 0) (xC (.int 0))))) (zX (zCE 2 (yT (iR1 (zA (zW wD (zD 0) (xC (.int 0))) zI)) bd1 (xB (zW (fIn true) (zD 3) (zD 1))) (zD 3))) (wY (zHd (zD 1) (zA (zW wD (yU zLV (yT (iV (zD 2)) bd1 zCi (yl (zA (zL yK (zA (zl (yB zZ (zA (zD 0) (zA (zD 3) (zA (zD 1) zI))))) zI)) (zA (zD 3) zI))))) (xC (.int 1))) zI))))) (yC (zD 1))))
theorem zGC(ds:List D)(G:Gp)(R:Q2)(h:spL zv ds G R):ds.length=1∧zAN (zf R) (zS ["web","order","rest"] ds) G:=by
 obtain⟨n,q,rfl,h1,h9,h⟩:=h
 refine⟨rfl,?_⟩
 unfold zAN
 rw[show zS ["web","order","rest"] [zn n q]=[some (zn n q),none,none] from rfl]
 refine ww (zFe (ds:=[]) (fun G2 e R q=>zET (wx ⟨by rw[sizeLine_eq];simp,q⟩)) fun l hl=>?_)
 simp only[gN,cO,cN]
 refine Fg.of ⟨fun m σ G'=>∃(os:List Nat) (o:Option D),σ=[some (zn n q),some (.adr l),o]∧m+os.length=n∧os.Nodup∧(∀ x∈os,x<n)∧G'.m l=some (os.map nD)∧L3.Sub G G',⟨n,[],none,rfl,rfl,List.nodup_nil,(fun x hx=>by cases hx),zG,.new hl⟩,?_⟩
 rintro m σ G1 ⟨os,o,rfl,hm,nd,hlt,g1,sb⟩
 have t0:=zFa (g:=fun i j=>.bl (decide (i<j))) (zIs (t:=zD 1) (σ:=[some (zn n q),some (.adr l),o]) (G:=G1) (a:=l) (zF rfl) (.inl g1)) (zDf (n:=n) (q:=q) (zF (i:=0) rfl))
 refine zCl t0 G1 (.refl _) _ ?_
 rw[d7]
 by_cases hd:os.length<n
 ·rw[decide_eq_true (by omega),if_pos rfl]
  have c:=zCn (σ:=[some (zn n q),some (.adr l),o]) (G:=G1) (bd:=bd1) (tc:=(xB (zW (fIn true) (zD 3) (zD 1)))) (te:=zD 3) (fun d=>match d with | .int v=>!decide (v.toNat∈os) | _=>false) (fun d=>d) (fun d=>[d])
   (show PuI (iR1 (zA (zW wD (zD 0) (xC (.int 0))) zI)) _ _ ((cY n).map nD) by
    rw[← zBz]
    exact zDJ (zH (zDf (q:=q) (zF rfl)) zU) (by omega)) fun x hx=>by
   obtain⟨j,u0,rfl⟩:=dI.mp hx
   refine⟨rfl,zCl (wu (x:=nD j) (y:=.adr l) (zF rfl) (zF rfl) fun G2 e R q'=>⟨os.map nD,e.ls (.inl g1),rfl,zGf os,?_⟩),fun u0=>zF rfl⟩
   rw[if_pos rfl,zKi];exact q'
  have e:dh (fun d=>d) (List.filter (fun d=>match d with | .int v=>!decide (v.toNat∈os) | _=>false) ((cY n).map nD))=(oth n os).map nD:=by
   rw[List.map_id',List.filter_map];rfl
  rw[e] at c
  refine zOt c fun lr hlr=>?_
  simp only[cO,cN]
  have nlr:l≠lr:=fun z=>by rw[z] at g1;rw[g1] at hlr;cases hlr
  have g2:(zQ G1 lr ((oth n os).map nD)).m l=some (os.map nD):=by rw[zb nlr];exact g1
  have g2r:Ls (zQ G1 lr ((oth n os).map nD)) lr ((oth n os).map nD):=.own
  have sb2:L3.Sub G (zQ G1 lr ((oth n os).map nD)):=sb.trans (.new hlr)
  generalize zQ G1 lr ((oth n os).map nD)=G2 at g2 g2r sb2
  obtain⟨y,hy⟩:∃ y,y∈oth n os:=by
   obtain⟨y,h1,h2⟩:=HT3.zAj (P:=fun j=>j∈os) (M:=n) (l:=os) (fun j u0 hj=>hj) hd
   exact⟨y,fj.mpr ⟨dL.mpr h1,by simp[h2]⟩⟩
  have cm:=zLG (σ:=[some (zn n q),some (.adr l),some (.adr lr)]) (G:=G2) (bd:=bd1) (tc:=zCi) (te:=yl (zA (zL yK (zA (zl (yB zZ (zA (zD 0) (zA (zD 3) (zA (zD 1) zI))))) zI)) (zA (zD 3) zI))) (fun u0=>true) (fun d=>match d with | .int v=>.tup [nD (os.filter (adj q v.toNat)).length,.int v] | _=>.non) (fun d=>[d]) (zBw (zF (i:=2) (d:=.adr lr) rfl) g2r) fun x hx=>by
   obtain⟨j,hj,rfl⟩:=dI.mp hx
   refine⟨rfl,fun G3 e R q'=>q' G3 (.refl _),fun u0=>zNA (x:=nD (os.filter (adj q j)).length) (y:=nD j) (fun G3 e R q'=>?_) (zF rfl)⟩
   refine(show zL yK _ _ _ _ from zBL (zC6 (wf (yL (d:=zn n q) (zF rfl) (yL (d:=nD j) (zF rfl) (yL (d:=.adr l) (zF rfl) (wx ⟨n,q,j,os,.adr l,rfl,e.ls (.inl g2),zH8 hj,hlt,fun lt hlt'=>?_⟩)))))))
   exact wx ⟨_,.own,by rw[d7];exact q' _ (.new hlt')⟩
  rw[List.filter_eq_self.mpr (fun u0 u0=>rfl)] at cm
  have e2:dh (fun d=>match d with | .int v=>D.tup [nD (os.filter (adj q v.toNat)).length,.int v] | _=>.non) ((oth n os).map nD)=((oth n os).map fun j=>[((os.filter (adj q j)).length:Int),(j:Int)]).map tupI:=by
   rw[fb,fb];rfl
  rw[e2] at cm
  have ln:0<((oth n os).map fun j=>[((os.filter (adj q j)).length:Int),(j:Int)]).length:=by
   rw[d7];exact List.length_pos_of_mem hy
  obtain⟨z,hz,hz2⟩:=dI.mp (zG4 ln)
  have pz:yA (zW wD (yU zLV (yT (iV (zD 2)) bd1 zCi (yl (zA (zL yK (zA (zl (yB zZ (zA (zD 0) (zA (zD 3) (zA (zD 1) zI))))) zI)) (zA (zD 3) zI))))) (xC (.int 1))) [some (zn n q),some (.adr l),some (.adr lr)] G2 (nD z):=by
   refine wu (x:=tupI [((os.filter (adj q z)).length:Int),(z:Int)]) (y:=.int 1) (fun G3 e R q'=>cm G3 e _ ⟨_,rfl,ln,?_⟩) yp fun u0 u0 u0 q'=>q'
   rw[← hz2];exact q'
  have hzo:z∉os:=by
   have:=(fj.mp hz).2
   simpa using this
  refine zH6 (zIv (l:=l) (zF rfl) g2 (yL pz (wx ⟨_,g2,by rw[d7];omega,?_⟩)))
  refine⟨[some (zn n q),some (.adr l),none],_,.keep (.keep (.skip .nil)),.refl _,m-1,by omega,os++[z],none,rfl,by rw[du];simp only[cR,cU];omega,?_,?_,?_,sb2.put hl⟩
  ·exact List.nodup_append.mpr ⟨nd,by simp,fun a ha b hb e=>by rw[dq.mp hb] at e;exact hzo (by rw[← e];exact ha)⟩
  ·intro x hx
   rcases dH.mp hx with hx | hx
   ·exact hlt x hx
   ·rw[dq.mp hx];exact zH8 hz
  ·rw[zG,fX];rfl
 ·rw[decide_eq_false (by omega),if_neg (by simp)]
  have hlen:os.length=n:=by
   have:os.length≤n:=by
    have:=nd.length_le_of_subset (l₂:=cY n) fun x hx=>dL.mpr (hlt x hx)
    rw[dP] at this;exact this
   omega
  show FgR R (.adr l) G1
  refine⟨zQ G l (os.map nD),⟨fun a o e=>?_,fun a o e=>sb.ro a o e⟩,h os nd hlen hlt l hl⟩
  by_cases ha:a=l
  ·subst ha;rw[zG] at e;cases e;exact g1
  ·rw[zb ha] at e;exact sb.m a o e
theorem zIB{σ:S2}{G:Gp}{t u:zm}{l:Addr}{ds:List D}{i:Int}{R:List D→Gp→Prop}(h:yA t σ G (.adr l))(h1:yA u σ G (.int i))(hl:Ls G l ds)(q:R (L3.cutD ds none (some i)) G):zFz t yr (wO u) σ G R:=h G (.refl G) _ (h1 G (.refl G) _ ⟨ds,hl,q⟩)
noncomputable def zr(d:Nat):Sp2:=fun ds G R=>∃(n:Nat) (q:Nat×Nat→Bool) (os:List Nat) (k:Nat) (r:List Nat) (lo:Addr),ds=[zn n q,.adr lo,nD k,uD r]∧Ls G lo (os.map nD)∧os.length=n∧n≤7∧(∀ x∈os,x<n)∧1≤k∧k≤n∧n<d+k∧r.length=2*k∧(∀ x∈r,x≤9)∧∀ x:D,(x=.non∨∃ r',x=uD r')→R x G
theorem zLW{ds:List D}{G:Gp}{R:Q2}(h:zr 0 ds G R):False:=by
 obtain⟨n,q,os,k,r,lo,u0,u0,u0,u0,u0,u0,h1,h2,u0⟩:=h
 omega
noncomputable def zD6(d:Nat):yg:=(zX (xIf (xB (zW (fEq false) (zD 2) (zL yK (zA (zD 1) zI)))) (yC (zD 3)) yN) (zX (zp (zW wD (zD 1) (zD 2)) (gN 4)) (zX (wv (iF (yB zu (zA (zD 3) (zA (zD 4) (zA (zl (yB zZ (zA (zD 0) (zA (zD 4) (zA (zl (zFz (zD 1) yr (wO (zD 2)))) zI))))) zI))))) (gN 5) (zX (zp (zL (zr d) (zA (zD 0) (zA (zD 1) (zA (zW yq (zD 2) (xC (.int 1))) (zA (zD 5) zI))))) (gN 6)) (xIf (xB (zW (zMt true) (zD 6) (xC .non))) (yC (zD 6)) yN))) (yC (xC .non)))))
theorem zNB(d:Nat)(ds:List D)(G:Gp)(R:Q2)(h:zr (d+1) ds G R):ds.length=4∧zD6 d (zf R) (zS ["web","order","done","ring","place","longer","found"] ds) G:=by
 obtain⟨n,q,os,k,r,lo,rfl,hlo,hon,hn,hlt,hk1,hkn,hd,hr,hrx,h⟩:=h
 refine⟨rfl,?_⟩
 unfold zD6
 rw[show zS ["web","order","done","ring","place","longer","found"] [zn n q,.adr lo,nD k,uD r]=[some (zn n q),some (.adr lo),some (nD k),some (uD r),none,none,none] from rfl]
 have t0:PuT (xB (zW (fEq false) (zD 2) (zL yK (zA (zD 1) zI)))) [some (zn n q),some (.adr lo),some (nD k),some (uD r),none,none,none] G (decide (k=n)):=zCl (zNY (x:=nD k) (y:=nD n) (zF rfl) (by
  have:=zIs (t:=zD 1) (σ:=[some (zn n q),some (.adr lo),some (nD k),some (uD r),none,none,none]) (G:=G) (a:=lo) (zF rfl) hlo
  rw[d7,hon] at this
  exact this) rfl rfl (by rw[if_neg (by simp),zKp]))
 refine zMn t0 (fun hb=>zES (zF rfl) (.of (h _ (.inr ⟨r,rfl⟩)))) fun hb=>?_
 have hkn':k<n:=by have:=of_decide_eq_false hb;omega
 have hko:k<os.length:=by omega
 have ixp:yA (zW wD (zD 1) (zD 2)) [some (zn n q),some (.adr lo),some (nD k),some (uD r),none,none,none] G (nD os[k]):=zK5 (k:=k) (zF (d:=.adr lo) rfl) (zF rfl) hlo (zBB (by rw[dJ];simp[hko]))
 have hp:os[k]<n:=hlt _ (fQ _)
 refine zCs ixp ?_
 simp only[gN,cO,cN]
 generalize os[k]=p at hp
 refine zB5 (zDK (zPj (wf (yL (d:=uD r) (zF rfl) (yL (d:=nD p) (zF rfl) (zBL (zC6 (wf (yL (d:=zn n q) (zF rfl) (yL (d:=nD p) (zF rfl) (zBL (zC6 (zIB (i:=(k:Int)) (zF (i:=1) (d:=.adr lo) rfl) (zF (i:=2) (d:=nD k) rfl) hlo fun ls hls=>?_)))))))))))))
 rw[zK7 (by rw[d7];omega),← List.map_take]
 refine wx ⟨n,q,p,os.take k,.adr ls,rfl,.inl zG,hp,fun x hx=>hlt x (fm hx),fun lc hlc=>?_⟩
 have cl:((os.take k).filter (adj q p)).length≤9:=by
  have a:=fT (adj q p) (os.take k)
  rw[dO] at a
  omega
 refine wx ⟨r,(os.take k).filter (adj q p),p,lc,rfl,.own,by omega,hrx,fun x hx=>?_,cl,fun lw hlw=>?_⟩
 ·have:=hlt x (fm (fj.mp hx).1);omega
 have sG:L3.Sub G (zQ (zQ (zQ G ls ((os.take k).map nD)) lc (((os.take k).filter (adj q p)).map nD)) lw ((wch r p (zCa ((os.take k).filter (adj q p)))).map uD)):=((L3.Sub.new hls).trans (.new hlc)).trans (.new hlw)
 refine zFf .own (fun x hx=>?_) ?_
 ·obtain⟨w,hw,rfl⟩:=dI.mp hx
  obtain⟨w1,w2⟩:=zDV r.length (cX _) hw
  generalize zQ (zQ (zQ G ls ((os.take k).map nD)) lc (((os.take k).filter (adj q p)).map nD)) lw ((wch r p (zCa ((os.take k).filter (adj q p)))).map uD)=G3 at sG
  simp only[gN,cO,cN]
  refine ww (zBK (ds:=[zn n q,.adr lo,nD (k+1),uD w]) (zH (zF rfl) (zH (zF rfl) (zH (d:=nD (k+1)) (zKj (i:=(k:Int)) (j:=1) (zF rfl) yp) (zH (zF rfl) zU)))) ⟨n,q,os,k+1,w,lo,rfl,hlo.sub sG,hon,hn,hlt,by omega,by omega,by omega,by omega,fun x hx=>?_,fun x hx=>?_⟩)
  ·rcases w2 x hx with rfl | z
   ·omega
   ·exact hrx x z
  ·simp only[gN,cO,cN]
   rcases hx with rfl | ⟨r',rfl⟩
   ·exact zKn (zCl (wu (x:=.non) (y:=.non) (zF rfl) yp fun u0 u0 u0 q'=>q')) ⟨.keep (.keep (.keep (.keep (.keep (.skip (.skip .nil)))))),.refl _⟩
   ·exact zKo (zCl (wu (x:=uD r') (y:=.non) (zF rfl) yp fun u0 u0 u0 q'=>q')) (zES (zF rfl) ⟨G,sG,h _ (.inr ⟨r',rfl⟩)⟩)
 ·dsimp only
  exact zES (d:=.non) yp ⟨G,sG,h _ (.inl rfl)⟩
noncomputable def wg:Sp2:=fun ds G R=>∃(n:Nat) (q:Nat×Nat→Bool),ds=[zn n q]∧1≤n∧n≤7∧∀ x:D,(x=.non∨∃ r',x=uD r')→R x G
noncomputable def zB6:yg:=(zX (wY (zL yJ (zA (zW wD (zD 0) (xC (.int 0))) (zA (xC (.int 7)) zI)))) (zX (zp (zl (yB zv (zA (zD 0) zI))) (gN 1)) (yC (zL (zr 8) (zA (zD 0) (zA (zD 1) (zA (xC (.int 1)) (zA (yl (zA (zW wD (zD 1) (xC (.int 0))) (zA (zW wD (zD 1) (xC (.int 0))) zI))) zI))))))))
theorem zJs(ds:List D)(G:Gp)(R:Q2)(h:wg ds G R):ds.length=1∧zB6 (zf R) (zS ["web","order"] ds) G:=by
 obtain⟨n,q,rfl,h1,h7,h⟩:=h
 refine⟨rfl,?_⟩
 unfold zB6
 rw[show zS ["web","order"] [zn n q]=[some (zn n q),none] from rfl]
 refine(show zX (wY _) _ _ _ _ from zBK (ds:=[nD n,nD 7]) (zH (zDf (q:=q) (zF rfl)) (zH yp zU)) ⟨n,7,rfl,h7,?_⟩)
 show zX (zp (zl (yB zv (zA (zD 0) zI))) (gN 1)) _ (zf R) [some (zn n q),none] G
 refine ww (zC6 (wf (yL (d:=zn n q) (zF rfl) (wx ⟨n,q,rfl,h1,by omega,fun os nd hl hlt lo hlo=>?_⟩))))
 simp only[gN,cO,cN]
 obtain⟨p,t,rfl⟩:∃ p t,os=p::t:=by
  cases os with
  | nil=>simp at hl;omega
  | cons p t=>exact⟨p,t,rfl⟩
 have ix:∀ {σ:S2},look σ 1=some (.adr lo)→yA (zW wD (zD 1) (xC (.int 0))) σ (zQ G lo ((p::t).map nD)) (nD p):=fun {σ} hs=>zK5 (k:=0) (zF hs) yp .own (zBB (j:=0) rfl)
 have hp:=hlt p (dt ..)
 refine zBK (ds:=[zn n q,.adr lo,nD 1,uD [p,p]]) (zH (zF rfl) (zH (zF rfl) (zH yp (zH (zBE (zH (ix rfl) (zH (ix rfl) zU)) (by simp)) zU)))) ⟨n,q,p::t,1,[p,p],lo,rfl,.own,hl,h7,hlt,by omega,by omega,by omega,rfl,fun x hx=>?_,fun x hx=>?_⟩
 ·simp only[dC,gI,or_false] at hx
  rcases hx with rfl | rfl<;>omega
 ·exact⟨G,.new hlo,h x hx⟩
end K
namespace HT
section
variable {prog:Program} {w:World} {A:Around} {E:Value→Shared→Prop} {s:Shared}
end
end HT
namespace L3
open L2
section
variable {X:Cx} {a b c d e o:Expr} {es:List Expr} {pos p:Pos} {ta tb tc td te:zm} {tl:TL2}
end
section
variable {X:Cx} {a b e o:Expr} {pos p apos cpos:Pos} {ta tb te:zm} {tl:TL2} {t:wH}
end
end L3
namespace L2
theorem wp.obj{P:Program}{w:World}{H:Hp}{h:Heap}{a:Addr}{o:HO}(x:wp P w H h a o):∃ u,h.get? a=some u:=by
 cases o with
 | lst xs=>obtain⟨u0,u0,u0,u0,e⟩:=x;exact⟨_,e⟩
 | tup xs=>obtain⟨u0,u0,u0,u0,e,u0⟩:=x;exact⟨_,e⟩
 | dK kvs=>obtain⟨u0,u0,u0,u0,o,u0,u0,e,u0⟩:=x;exact⟨_,e⟩
 | dT kvs=>obtain⟨u0,u0,u0,u0,o,u0,u0,e,u0⟩:=x;exact⟨_,e⟩
 | set S n=>obtain⟨o,u0,u0,u0,e,u0⟩:=x;exact⟨_,e⟩
 | ins C dx fs=>obtain⟨u0,u0,u0,e,u0⟩:=x;exact⟨_,e⟩
 | own y=>obtain⟨o,e⟩:=x;exact⟨_,e⟩
 | xd fs=>obtain⟨u0,⟨u0,u0,u0,e,u0⟩,u0⟩:=x;exact⟨_,e⟩
 | rng lo hi=>obtain⟨u0,u0,u0,e⟩:=x;exact⟨_,e⟩
 | frz ob u=>obtain⟨e,u0⟩:=x;exact⟨_,e⟩
 | tbl ps=>obtain⟨u0,u0,u0,u0,e,u0⟩:=x;exact⟨_,e⟩
 | met f y=>exact⟨_,(show h.get? a=some _ from x)⟩
 | ext φ=>obtain⟨u0,⟨u0,e⟩,u0⟩:=x;exact⟨_,e⟩
theorem zLX{env:Env}{r:List Env}{L:Addr}(hf:env.frame=some L):L∈wq (env::r):=by
 unfold wq;rw[ft,hf];exact dt
theorem zBr{env:Env}{r:List Env}{b:Addr}(h:b∈wq r):b∈wq (env::r):=by
 unfold wq;rw[ft]
 cases env.frame with
 | none=>exact h
 | some L=>exact dw _ h
theorem zJt{env:Env}{r:List Env}{L b:Addr}(hf:env.frame=some L)(h:b∈wq (env::r)):b=L∨b∈wq r:=by
 unfold wq at h;rw[ft,hf] at h
 exact dC.mp h
theorem zLY{h base h' B:Heap}:∀ {l:List Env},h.FunFrames base l→(∀ L∈wq l,B.get? L=none)→(∀ L∈wq l,∀ o,h.get? L=some o→∃ sl,h'.get? L=some { o with slots:=sl })→h'.FunFrames B l
 | [],_,_,_=>trivial
 | env::r,⟨hk,⟨L,o,hf,hn,ho,hd⟩,hr⟩,hB,hs=>by
  have hL:L∈wq (env::r):=zLX hf
  obtain⟨sl,e⟩:=hs L hL o ho
  exact⟨hk,⟨L,_,hf,hB L hL,e,hd⟩,zLY hr (fun b hb=>hB b (zBr hb)) fun b hb=>hs b (zBr hb)⟩
noncomputable def Tr(h B:Heap)(e C:Addr):Prop:=(∃ a0,h.TracedW B e (.ref C) a0)∨∃ oe vs a0,h.get? e=some oe∧oe.cls=.ref C∧oe.data=.fields vs∧vs[1]?=some .none∧vs[0]?=some a0
structure XE (P:Program) (w:World) (outer:List Env) (H:Hp) (s:Shared) (C e:Addr) (H':Hp) (B:Heap) (s':Shared):Prop where
 os:s'.os=s.os
 bare:AllBare s'.gens
 un:Un (wq outer) [] H H' s.heap s'.heap
 hok:HOk P w H' s'.heap
 new:s.heap.get? e=none
 free:H' e=none
 stay:Heap.StaysIn B s'.heap
 eB:B.get? e=none
 frB:∀ L∈wq outer,B.get? L=none
 has1:∀ b u,H' b=some u→∃ o,B.get? b=some o
 has0:∀ b o,s.heap.get? b=some o→H b=none→b∉wq outer→B.get? b=some o
 th:∀ b o,s.heap.get? b=some o→b∉wq outer→∃ o',B.get? b=some o'
 tr:∃ a0,s'.heap.TracedW B e (.ref C) a0
structure XB (X:Cx) (C e:Addr) (H':Hp) (B:Heap) (s':Shared):Prop where
 ok:X.Ok
 stk:X.stack=X.env::X.outer
 frm:X.env.frame=some X.env.locals
 ex:X.ex=[]
 os:s'.os=X.s₀.os
 bare:AllBare s'.gens
 un:Un X.fs [] X.H₀ H' X.s₀.heap s'.heap
 hok:HOk X.prog X.w H' s'.heap
 new:X.s₀.heap.get? e=none
 free:H' e=none
 stay:Heap.StaysIn B s'.heap
 eB:B.get? e=none
 frB:∀ L∈wq X.stack,B.get? L=none
 funs:s'.heap.FunFrames B X.stack
 has1:∀ b u,H' b=some u→∃ o,B.get? b=some o
 has0:∀ b o,X.s₀.heap.get? b=some o→X.H₀ b=none→b∉wq X.stack→B.get? b=some o
 th:∀ b o,X.s₀.heap.get? b=some o→b∉wq X.stack→∃ o',B.get? b=some o'
 tr:Tr s'.heap B e C
section
variable {X:Cx} {C e:Addr} {H':Hp} {B:Heap} {s':Shared}
theorem XB.outL(x:XB X C e H' B s'){b:Addr}{o:Obj}(q:X.s₀.heap.get? b=some o)(hb:b∉X.fs):b∉wq X.stack:=fun z=>by
 rw[x.stk] at z
 rcases zJt x.frm z with r | r
 ·exact absurd (dk (db q) x.ok.above) (by rw[r];exact eG _)
 ·exact hb r
theorem XB.left(x:XB X C e H' B s'){h'':Heap}{a0:Value}(l:Heap.LeftW B X.stack e (.ref C) a0 s'.heap h''):XE X.prog X.w X.outer X.H₀ X.s₀ C e H' B { s' with heap:=h'' }:=by
 obtain⟨l1,l2,l3,l4⟩:=l
 have keep:∀ b o,X.s₀.heap.get? b=some o→X.H₀ b=none→b∉X.fs→h''.get? b=some o:=fun b o q n hb=>l1 b o (x.has0 b o q n (x.outL q hb))
 have slot:∀ b o,X.s₀.heap.get? b=some o→X.H₀ b=none→b∈X.fs→∃ sl,h''.get? b=some { o with slots:=sl }:=fun b o q n hb=>by
  obtain⟨sl,q1⟩:=x.un.slot b o q n hb (by simp)
  have hd:∀ vs,o.data≠.fields vs:=by
   obtain⟨u0,o1,ho,hd⟩:=x.ok.funs.mem hb
   rw[q] at ho;cases ho;exact hd
  obtain⟨sl2,q2⟩:=l4 b _ q1 hd
  exact⟨sl2,q2⟩
 have th:∀ b o,X.s₀.heap.get? b=some o→∃ o',h''.get? b=some o':=fun b o q=>by
  by_cases hb:b∈X.fs
  ·obtain⟨sl,z⟩:=slot b o q (x.ok.frf b hb) hb
   exact⟨_,z⟩
  ·obtain⟨o',z⟩:=x.th b o q (x.outL q hb)
   exact⟨o',l1 b o' z⟩
 refine⟨x.os,x.bare,⟨fun b o q n hb u0=>keep b o q n hb,fun b o q n hb u0=>slot b o q n hb,fun b o q n u0=>x.un.free b o q n (by simp),fun b o q u0=>th b o q,x.un.tups,x.un.frzs,x.un.tbls⟩,?_,x.new,x.free,l1,x.eB,fun L hL=>x.frB L (by rw[x.stk];exact zBr hL),x.has1,fun b o q n hb=>x.has0 b o q n (x.outL q hb),fun b o q hb=>x.th b o q (x.outL q hb),⟨a0,l3⟩⟩
 intro b u q
 refine(x.hok b u q).stay (fun c v hc r=>?_) (fun u0 r=>r) (fun u0 u0 r=>r) fun u0 u0 u0 r=>r
 have:∃ o,B.get? c=some o:=by
  rcases hc with z | z
  ·subst z;exact x.has1 _ _ q
  ·exact x.has1 _ _ z
 obtain⟨o2,z⟩:=this
 have z2:=x.stay c o2 z
 rw[r] at z2
 obtain rfl:v=o2:=Option.some.inj z2
 exact l1 c v z
theorem XB.leave(x:XB X C e H' B s'){M:Model}{Q:Unit→Shared→Prop}{E:Value→Shared→Prop}(hQ:∀ h'',XE X.prog X.w X.outer X.H₀ X.s₀ C e H' B { s' with heap:=h'' }→Q () { s' with heap:=h'' }):wpAny M X.A (leaving X.env (.ref e)) Q E s':=by
 have fr:X.A.frames=some (X.env::X.outer):=by rw[x.ok.frames,x.stk]
 have ff:=x.funs
 rw[x.stk] at ff
 rcases x.tr with ⟨a0,t⟩ | ⟨oe,vs,a0,t1,t2,t3,t4,t5⟩
 ·exact wpAny_leaving_nextW fr ff x.frm t x.stay x.eB fun h' l=>hQ h' (x.left (a0:=a0) (by rw[x.stk];exact l))
 ·exact wpAny_leaving_firstW fr ff x.frm t1 x.stay x.eB t3 t4 t5 fun h' l=>hQ h' (x.left (a0:=a0) (by rw[x.stk,← t2];exact l))
theorem XE.body{pins:List (Addr×Obj)}{σ:St}{H:Hp}{s:Shared}(stk:X.stack=X.env::X.outer)(frm:X.env.frame=some X.env.locals)(ex:X.ex=[])(I:zP X pins σ H s)(x:XE X.prog X.w X.stack H s C e H' B s'):XB X C e H' B s':=by
 have I2:zP X pins σ H' s':=I.call' x.os x.un x.hok x.bare (fun b hb=>absurd hb (by simp))
 have nex:∀ b,b∉X.ex:=fun b z=>by rw[ex] at z;exact absurd z (by simp)
 have un:=I2.base
 rw[ex] at un
 refine⟨I.ok,stk,frm,ex,x.os.trans I.os,x.bare,un,x.hok,?_,x.free,x.stay,x.eB,x.frB,?_,x.has1,fun b o q n hb=>?_,fun b o q hb=>?_,.inl x.tr⟩
 ·cases q:X.s₀.heap.get? e with
  | none=>rfl
  | some o =>
   obtain⟨o',z⟩:=I.base.there e o q (nex _)
   rw[x.new] at z;cases z
 ·exact zLY I.stack x.frB fun L hL o ho=>x.un.slot L o ho (I.stkFree L hL) hL (by simp)
 ·exact x.has0 b o (I.base.keep b o q n (fun z=>hb (by rw[stk];exact zBr z)) (nex _)) (I.base.free b o q n (nex _)) hb
 ·obtain⟨o',z⟩:=I.base.there b o q (nex _)
  exact x.th b o' z hb
theorem XB.made{pins:List (Addr×Obj)}{σ:St}{H:Hp}{s:Shared}{h':Heap}{args:List Value}(stk:X.stack=X.env::X.outer)(frm:X.env.frame=some X.env.locals)(ex:X.ex=[])(I:zP X pins σ H s)(m:s.heap.MadeExcOf h' e (.ref C) args) :
  XB X C e H (PySem.W.hideAll s.heap (wq X.stack)) { s with heap:=h' }:=by
 have nex:∀ b,b∉X.ex:=fun b z=>by rw[ex] at z;exact absurd z (by simp)
 have I2:zP X pins σ H { s with heap:=h' }:=I.kept (t':=s.toks) m.keeps
 have un:=I2.base
 rw[ex] at un
 have hid:∀ b o,(PySem.W.hideAll s.heap (wq X.stack)).get? b=some o→s.heap.get? b=some o∧b∉wq X.stack:=fun b o q=>⟨PySem.W.of_hideAll _ q,fun hb=>by rw[PySem.W.hideAll_none _ hb] at q;cases q⟩
 have get:∀ b o,s.heap.get? b=some o→b∉wq X.stack→(PySem.W.hideAll s.heap (wq X.stack)).get? b=some o:=fun b o q n=>PySem.W.hideAll_get (wq X.stack) q n
 have none_of:∀ b,b∈wq X.stack→(PySem.W.hideAll s.heap (wq X.stack)).get? b=none:=fun b hb=>by
  cases q:(PySem.W.hideAll s.heap (wq X.stack)).get? b with
  | none=>rfl
  | some o=>exact absurd hb (hid b o q).2
 refine⟨I.ok,stk,frm,ex,I.os,I.bare,un,I2.hok,?_,?_,fun b o q=>m.keeps b o (hid b o q).1,?_,none_of,?_,fun b u q=>?_,fun b o q n hb=>?_,fun b o q hb=>?_,.inr ?_⟩
 ·cases q:X.s₀.heap.get? e with
  | none=>rfl
  | some o =>
   obtain⟨o',z⟩:=I.base.there e o q (nex _)
   rw[m.new] at z;cases z
 ·cases q:H e with
  | none=>rfl
  | some u =>
   obtain⟨o,z⟩:=(I.hok e u q).obj
   rw[m.new] at z;cases z
 ·cases q:(PySem.W.hideAll s.heap (wq X.stack)).get? e with
  | none=>rfl
  | some o =>
   have z:=(hid e o q).1
   rw[m.new] at z;cases z
 ·exact zLY I.stack none_of fun L hL o ho=>⟨o.slots,m.keeps L o ho⟩
 ·obtain⟨o,z⟩:=(I.hok b u q).obj
  exact⟨o,get b o z fun w=>by rw[I.stkFree b w] at q;cases q⟩
 ·exact get b o (I.base.keep b o q n (fun z=>hb (by rw[stk];exact zBr z)) (nex _)) hb
 ·obtain⟨o',z⟩:=I.base.there b o q (nex _)
  exact⟨o',get b o' z hb⟩
 ·obtain⟨t,h1,u0,u0⟩:=m.there
  exact⟨_,_,.ref t,h1,rfl,rfl,rfl,rfl⟩
end
noncomputable abbrev bmV:List Value:=[.type "ValueError",.type "Exception",.type "BaseException",.type "object"]
theorem zNC{K:PySem.W.Frag}{h:Heap}{C:Addr}{bmB:List Value}{newId:String}(X:K.In h)(q:PySem.W.excIn K C bmB newId=true) :
  ∃ bm N nm qn bs hdct sn sub ab col dd k0 k1 k2 k3 k5 mN,h.get? C=some (excClassObj nm qn C N bs bm hdct sn sub ab col dd k0 k1 k2 k3 k5 newId)∧h.Ns N mN∧mN "__init__"=none∧OwnTail h bmB bm:=by
 unfold PySem.W.excIn at q
 split at q
 ·rename_i dict cd sl heq
  split at q
  ·rename_i C' bm a0 a1 a2 a3 n a5 hm hs
   simp only[fF,beq_iff_eq,fu] at q
   obtain⟨⟨⟨⟨⟨q1,q2⟩,q3⟩,q4⟩,q5⟩,q6⟩:=q
   subst q1 q2
   have hg:=X _ _ heq
   obtain⟨mN,e1,e2⟩:∃ mN,h.Ns cd.ns mN∧mN "__init__"=none:=by
    exact⟨_,Heap.Ns.of_isNs (PySem.W.isNs_of_in X q5),PySem.W.nsMap_none_of_in X q5 q6⟩
   obtain⟨nm,bs,mro,ns,qn,hd,sn,sub,ab,col,del⟩:=cd
   dsimp only at hm q3 e1 hg
   subst hm q3
   have hsl:sl=#[a0,a1,a2,a3,some (.builtin n),a5]:=by
    cases sl with
    | mk l=>dsimp only at hs;rw[hs]
   subst hsl
   exact⟨bm,ns,nm,qn,bs,hd,sn,sub,ab,col,dict,a0,a1,a2,a3,a5,mN,hg,e1,e2,PySem.W.tail_of_in X q4⟩
  ·cases q
 ·cases q
end L2
namespace L3
open L2
noncomputable def Rz(P:Program)(w:World)(K:PySem.W.Frag)(mg:Str→Option Value)(base:Heap)(k:Nat)(x:Str)(ps:List Str)(cond:List D→Gp→(Gp→Prop)→Prop)(C:Addr):Prop :=
 ∃ f fd,mg x=some (.ref f)∧PySem.W.keepIn K (.ref f)=true∧Binds K fd ps []∧(∀ ds G E,cond ds G E→ds.length=ps.length) ∧
  ∀(A:Around) (outer:List Env) (s:Shared) (H:Hp) (args:Args) (us:List Value) (vs:List V) (ds:List D) (G:Gp) (E:Gp→Prop),zx k A→zEB P w K mg base A outer s H→BindsTo s fd args (ps.zip us)→zT vs us→Dens K H ds vs→zo K G H→cond ds G E →
   codeAny (model P w) A (.call (.ref f) args) (fun r s'=>∃ e H' B,r=.error (.ref e)∧XE P w outer H s C e H' B s'∧zj H H'∧∃ G',zo K G' H'∧E G') s
noncomputable def Xs(X:Cx)(C:Addr)(sts:List Stmt)(t:(Gp→Prop)→S2→Gp→Prop):Prop :=
 ∀(pins:List (Addr×Obj)) (s:Shared) (σ1:L2.St) (H:Hp) (σ:S2) (G:Gp) (E:Gp→Prop),zP X pins σ1 H s→Rel X.K σ G σ1 H→t E σ G →
  wpAny (model X.prog X.w) X.A (execs sts X.env) (fun u0 u0=>False) (fun v s'=>∃ e H' B,v=.ref e∧XB X C e H' B s'∧zj H H'∧∃ G',zo X.K G' H'∧E G') s
noncomputable def Xe(X:Cx)(C:Addr)(ex:Expr)(t:(Gp→Prop)→S2→Gp→Prop):Prop :=
 ∀(pins:List (Addr×Obj)) (s:Shared) (σ1:L2.St) (H:Hp) (σ:S2) (G:Gp) (E:Gp→Prop),zP X pins σ1 H s→Rel X.K σ G σ1 H→t E σ G →
  wpAny (model X.prog X.w) X.A (eval ex X.env) (fun u0 u0=>False) (fun v s'=>∃ e H' B,v=.ref e∧XB X C e H' B s'∧zj H H'∧∃ G',zo X.K G' H'∧E G') s
structure Own (X:Cx):Prop where
 no:∀ v s,¬ X.xe v s
 stk:X.stack=X.env::X.outer
 frm:X.env.frame=some X.env.locals
 ex:X.ex=[]
 calm:X.calm=true
section
variable {X:Cx} {C:Addr} {st:Stmt} {rest body els:List Stmt} {t:(Gp→Prop)→S2→Gp→Prop}
theorem zQU{c:Expr}{tt:TT2}{pos:Pos}(O:Own X)(hc:T2 X c tt)(hb:Xs X C body t):Xs X C (.If c body els pos::rest) (fun E σ G=>tt σ G fun b G'=>b=true∧t E σ G'):=by
 intro pins s σ1 H σ G E I r h
 refine eS (wpAny_If (eN (hc pins s σ1 H (fun b H'=>b=true∧zj H H'∧∃ G',Rel X.K σ G' σ1 H'∧t E σ G') I ⟨σ,G,_,r,h,fun b G' q H' g r'=>⟨q.1,g,G',r.to g r',q.2⟩⟩) (fun b s' q=>?_) fun v s' q=>(O.no v s' q).elim))
 obtain⟨H',I',rfl,g,G',r',q'⟩:=q
 exact eN (hb pins s' σ1 H' σ G' E I' r' q') (fun u0 u0 z=>z.elim) fun v s2 ⟨e,H2,B,e1,e2,g2,e3⟩=>⟨e,H2,B,e1,e2,g.trans g2,e3⟩
theorem zD7{F:Str}{ps:List Str}{cond:List D→Gp→(Gp→Prop)→Prop}{k k':Nat}{e:Expr}{es:List Expr}{ta:wH}{p pos:Pos}(O:Own X)(R:Rz X.prog X.w X.K X.mg X.base k F ps cond C)(hr:zx k' X.A)(hk:k≤k')(hg:Gl X F)(ha:A2 X (e::es) ta)
  (hdb:(F==("__debug__":Str))=false:=by decide) (he:starEach (e::es) X.env=(false,eval e X.env)::starEach es X.env:=by rfl) (hpl:(backTo pos (starEach es X.env)).any (·.1)=false:=by rfl) :
  Xe X C (.Call (.Name F p) (e::es) [] pos) (fun E σ G=>ta σ G fun ds G'=>cond ds G' E):=by
 intro pins s σ1 H σ G E I r h
 obtain⟨f,fd,hm,hkp,hb,hl,run⟩:=R
 refine eI (zBs I hg hm ?_ hdb)
 refine PySem.W.callWith_K (h₀:=X.base) I.ok.mod.kin hkp (eN (ha pos pins s σ1 H (fun vs H'=>zj H H'∧∃ ds G',Dens X.K H' ds vs∧zo X.K G' H'∧cond ds G' E) I ⟨σ,G,_,r,h,fun ds G' q vs H' g r' d'=>⟨g,ds,G',d',r',q⟩⟩) (fun us s1 q=>?_) fun v s' q=>(O.no v s' q).elim) he hpl
 obtain⟨vs,H1,I1,rv,g,ds,G',d',r',q'⟩:=q
 refine⟨I1.kIn,wpAny_call (eV (run X.A X.stack s1 H1 ⟨us,[]⟩ us vs ds G' E (hr.mono hk) I1.env0 ?_ rv d' r' q') fun rr s' ⟨ee,H',B,e1,e2,g2,e3⟩=>?_)⟩
 ·have:=hb s1 us I1.kIn (by rw[fk,← rv.length,← d'.length];exact hl ds G' E q')
  rw[fk] at this
  exact this
 ·subst e1
  exact⟨ee,H',B,rfl,e2.body O.stk O.frm O.ex I1,g.trans g2,e3⟩
theorem zLZ{ex:Expr}{pos:Pos}(h:Xe X C ex t)(hs:swapsWith ex none pos.line X.env=pure false:=by rfl):Xs X C (.Expr ex pos::rest) t:=by
 intro pins s σ1 H σ G E I r q
 exact eS (wpAny_Expr_any (eN (h pins s σ1 H σ G E I r q) (fun u0 u0 z=>z.elim) fun u0 u0 z=>z) I.quiet hs)
theorem x_raise{cn:Str}{m:Expr}{tm:zm}{np cpos pos:Pos}(O:Own X)(hg:Gl X cn)(hm:X.mg cn=some (.ref C))(hc:PySem.W.excIn X.K C bmV "ValueError.__new__"=true)(he:E2 X m tm)
  (hdb:(cn==("__debug__":Str))=false:=by decide) (hst:starEach [m] X.env=(false,eval m X.env)::starEach [] X.env:=by rfl):Xs X C (.Raise (some (.Call (.Name cn np) [m] [] cpos)) none pos::rest) (fun E σ G=>tm σ G fun u0 G'=>E G'):=by
 intro pins s σ1 H σ G E I r h
 have ha:PA X [m] (zKA (lE X.K tm) zOD):=yS he zAA hst
 obtain⟨bm,N,nm,qn,bs,hdct,sn,sub,ab,col,dd,k0,k1,k2,k3,k5,mN,c1,c2,c3,c4⟩:=zNC I.ok.mod.kin hc
 refine eS (wpAny_Raise_call_subT (C:=C) (N:=N) (bm:=bm) (mN:=mN) (nm:=nm) (q:=qn) (bs:=bs) (hdct:=hdct) (sn:=sn) (sub:=sub) (ab:=ab) (col:=col) (dd:=dd) (k0:=k0) (k1:=k1) (k2:=k2) (k3:=k3) (k5:=k5) F.excBase_ValueError (c4.hasType F.excBase_ValueError.hasBase) (I.ok.hd O.calm) (by rw[hst];rfl) c3 (zBs I hg hm ⟨rfl,?_⟩ hdb))
 rw[hst]
 refine Calls.evalArgs_plain ?_
 have h2:=ha cpos pins s σ1 H (fun vs H'=>vs.length=1∧zj H H'∧∃ G',zo X.K G' H'∧E G') I ⟨σ,G,fun u0 G'=>E G',r,h,fun d G' q v H' g r' dv=>⟨rfl,g,G',r',q⟩⟩
 rw[hst] at h2
 refine eN h2 (fun us s1 ⟨vs,H1,I1,rv,hl,hgr,hG⟩=>?_) fun v s' q=>(O.no v s' q).elim
 refine⟨rfl,?_,I1.bk _ _ c1,c2.keeps I1.bk,c4.keeps I1.bk,fun h' e mm=>⟨e,H1,_,rfl,XB.made O.stk O.frm O.ex I1 mm,hgr,hG⟩⟩
 show us.length≤sizeLine
 rw[← rv.length,hl];decide
end
section
variable {P:Program} {w:World} {K:PySem.W.Frag} {mg:Str→Option Value} {base:Heap}
theorem zGD{N:List Str}{qual:Str}{scope:Scope}{f:Addr}{cd:Value}{A:Around}{outer:List Env}{s:Shared}{H:Hp}{E:XK}:Own (zAq CX0 P w K mg base N qual scope f cd A outer s H E).nox:=⟨fun u0 u0 h=>h,rfl,rfl,rfl,rfl⟩
theorem zLa{x qual:Str}{st:Stmt}{f:Addr}{fd:FuncData}{N ps:List Str}{k:Nat}{C:Addr}{cond:List D→Gp→(Gp→Prop)→Prop}(t:(Gp→Prop)→S2→Gp→Prop)(F:Fun K x qual st f fd)(S:za N ps (zC st))(hm:mg x=some (.ref f))(hb:Binds K fd ps [])
  (ht:∀(cdv:Value) (A:Around) (outer:List Env) (s:Shared) (H:Hp) (E:XK),zx k (A.deeper (envOfC qual (zC st) s.heap.objs.size f cdv))→Xs (zAq CX0 P w K mg base N qual (zC st) f cdv A outer s H E).nox C (zV st) t)
  (hs:∀ ds G E,cond ds G E→ds.length=ps.length∧t E (zS N ds) G):Rz P w K mg base (k+1) x ps cond C:=by
 refine⟨f,fd,hm,F.kp,hb,fun ds G E h=>(hs ds G E h).1,fun A outer s H args us vs ds G EE hr e0 hbd rv d r h=>?_⟩
 obtain⟨oc,od,kV,doc,pm,an,cdv,ct,osl,rfl,lk,hcd⟩:=F.ex
 obtain⟨hl,hq⟩:=hs ds G EE h
 have hlv:vs.length=ps.length:=by rw[← d.length];exact hl
 have KX:K.In s.heap:=e0.mod.kin.keeps fun b o e=>(e0.bs b o e).1
 have lim:s.heap.NoLimit:=e0.mod.nolimit.keeps fun b o e=>(e0.bs b o e).1
 have hkind:∀ y∈ps.zip us,(zC st).names.lookup y.1=some .local∨((zC st).names.lookup y.1=some .cell∧((cellsFrom (s.heap.objs.size+1) (zC st).names []).lookup y.1).isSome=true):=fun⟨n,v⟩ hy=>by
  rcases S.par n (gT hy).1 with q | q
  ·exact .inl q
  ·exact .inr ⟨q,PySem.W.cellsFrom_some _ _ _ (.inl q)⟩
 refine codeAny_call_function hr.depth (KX _ _ lk) rfl S.co S.gen rfl (PySem.W.codeRec_of KX hcd) (hbd _ _ _ _ ?_)
 refine gD S.kind hkind fun env he s1 x=>?_
 subst he
 refine⟨lim.keeps x.toInCall.keep,codeAny_func ?_⟩
 have I:zP (zAq CX0 P w K mg base N qual (zC st) f cdv A outer s H E0) [] (start N vs) H s1:=zBt S hr.hd e0 hlv rv x
 refine eN (ht cdv A outer s H E0 (hr.deeper _) [] s1 (start N vs) H (zS N ds) G EE (I.wish _) (zDH r d) hq) (fun fl s' z=>z.elim) fun v s' z=>?_
 obtain⟨e,H',B,rfl,xb,g,hG⟩:=z
 exact xb.leave fun h'' q=>⟨e,H',B,rfl,q,g,hG⟩
end
end L3
namespace L2
theorem zIy{a b:Int}{t u:Tok}{c:Value}:∀ {l:List Value},TriplesOk l→TriplesOk (l++[.int a t,.int b u,c])∧∀ pos x,codeAmong pos (l++[.int a t,.int b u,c])=some x→codeAmong pos l=some x∨x=c
 | [],_=>⟨trivial,fun pos x e=>by
   have e':(if (a==↑pos.line&&b==↑pos.col)=true then some c else none)=some x:=e
   split at e'
   ·cases e';exact .inr rfl
   ·cases e'⟩
 | .int i _::.int j _::z::r,h=>by
  obtain⟨h1,h2⟩:=zIy (a:=a) (b:=b) (t:=t) (u:=u) (c:=c) (l:=r) h
  refine⟨h1,fun pos x e=>?_⟩
  have e':(if (i==↑pos.line&&j==↑pos.col)=true then some z else codeAmong pos (r++[.int a t,.int b u,c]))=some x:=e
  show(if (i==↑pos.line&&j==↑pos.col)=true then some z else codeAmong pos r)=some x∨x=c
  split at e'
  ·rename_i hc;rw[if_pos hc];exact .inl e'
  ·rename_i hc;rw[if_neg hc];exact h2 pos x e'
noncomputable def BMn(h:Heap)(mg:Str→Option Value):Prop:=∃ bm ob,mg "__builtins__"=some (.ref bm)∧bm≠builtinsNs∧h.get? bm=some ob∧ob.cls=.type "module"∧ob.dict=some builtinsNs∧ob.data=.plain
noncomputable def zGE(H:Hp)(cv:Value)(q:Str):Prop:=∃(c:Addr) (o:Obj) (us:Array Value) (t':Tok),cv=.ref c∧H c=some (.frz o (.own 0))∧o.data=.fields us∧us[1]?=some (.str q t')
theorem zFm{X:Cx}{pins:List (Addr×Obj)}{σ:St}{H:Hp}{s:Shared}{params:Arguments}{body:Expr}{sc:Scope}{pos:Pos}{c P:Addr}{q:Str}{tq:Tok}{Q:Value→Shared→Prop}{E:Value→Shared→Prop}{A:Around}
  (I:zP X pins σ H s) (hcap:∀ y∈sc.names,y.2=.free→X.env.kindOf y.1=some .cell∨X.env.kindOf y.1=some .free) (hdf:defaultsOf params X.env=([],[])) (hcode:X.env.code=.ref c) (hC:PySem.W.CodeHd X.base c P) (hB:BMn X.base X.mg)
  (hq:X.env.qual++"<lambda>"=q) (hP:H P=some (.tbl #[.str q tq]))
  (h:∀(g:Addr) (H':Hp) (s':Shared) (cv ctv pm:Value),zP X pins σ H' s'→zCO H H'→Un X.fs [] H H' s.heap s'.heap→s.heap.objs.size≤g→H' g=none→s'.heap.get? g=some { cls:=.type "function",data:=.func (PySem.W.kla_fn "<lambda>" q params body sc (zAS sc X.env) pm cv ctv) }→zGE H' cv q→Q (.ref g) s') :
  wpAny (model X.prog X.w) A (eval (.Lambda params body sc pos) X.env) Q E s:=by
 have hfree:∀ y∈sc.names,y.2=.free→∃ c,X.env.cells.lookup y.1=some c:=fun y hy hf=>I.ok.has _ (hcap y hy hf)
 obtain⟨q',t',vs,e0,e1,e2,e3⟩:=(show wp X.prog X.w H s.heap P (.tbl #[.str q tq]) from I.hok P _ hP)
 cases e0
 have hns:s.heap.Ns mainGlobals X.mg:=I.mod.glob.keeps I.bk
 have hCh:PySem.W.CodeHd s.heap c P:=hC.keeps I.bk
 have hBh:s.heap.BuiltinsAt X.mg P:=by
  obtain⟨bm,o,b1,b2,b5,b6,b7,b8⟩:=hB
  obtain⟨g1,g2⟩:=I.bs _ _ b5
  refine⟨bm,o,b1,b2,fun z=>?_,fun z=>?_,g1,b6,b7,b8⟩
  ·obtain⟨o',es,ep,n1,n2,u0⟩:=hns
   rw[z,n1] at g1;cases g1
   rw[n2] at b8;cases b8
  ·rw[z,hP] at g2;cases g2
 have hnP:mainGlobals≠P:=fun z=>by
  obtain⟨o,es,ep,n1,n2,u0⟩:=hns
  rw[z,e1] at n1;cases n1
  cases n2
 refine PySem.W.kla_eval hdf ?_
 rw[hq]
 cases hc:codeAmong pos vs.toList with
 | some cv =>
  refine PySem.W.kla_makeFunctionHit (wm hfree) I.ok.glob hns hcode hCh e1 e2 hc hBh fun ctv h' tk kp hs=>?_
  have kp2:∀ b u,s.heap.get? b=some u→(h'.push { cls:=.type "function",data:=.func (PySem.W.kla_fn "<lambda>" q params body sc (zAS sc X.env) ((X.mg "__name__").getD .none) cv ctv) }).get? b=some u:=fun b u z=>cQ _ (kp b u z)
  exact h _ H _ cv ctv _ (I.kept (t':=tk) kp2) (.refl H) (Un.kept kp2) hs (I.hok.fresh hs) (dc _ rfl) (e3 pos cv hc)
 | none =>
  refine PySem.W.kla_makeFunction (wm hfree) I.ok.glob hns hcode hCh e1 e2 hc hnP hBh fun c' ctv h' tk eb hs1 hs2 cr eP=>?_
  obtain⟨c1,oc,us,tt,z1,z2,z3,z4⟩:=cr
  cases z1
  have nc:H c'=none:=I.hok.fresh hs1
  have hcP:c'≠P:=fun z=>by rw[z,hP] at nc;cases nc
  have hs:s.heap.objs.size≤h'.objs.size:=gQ (Nat.lt_of_le_of_lt hs1 hs2)
  generalize hfo:PySem.W.kla_obj "<lambda>" q params body sc (zAS sc X.env) ((X.mg "__name__").getD .none) c' ctv=fo
  have sm:zCO H (wC H c' (.frz oc (.own 0))):=fun b o z=>by rw[zq (yR z nc)];exact z
  have kp:∀ b u,b≠P→s.heap.get? b=some u→(h'.push fo).get? b=some u:=fun b u n z=>cQ _ (eb b u n z)
  have nP:∀ b,H b=none→b≠P:=fun b n z=>by rw[z,hP] at n;cases n
  obtain⟨t1,t2⟩:=zIy (a:=↑pos.line) (b:=↑pos.col) (t:=0) (u:=0) (c:=.ref c') e2
  have gP:(h'.push fo).get? P=some (PySem.W.tabObj (vs++#[rawInt ↑pos.line,rawInt ↑pos.col,.ref c'])):=cQ _ eP
  have un:Un X.fs [] H (wC H c' (.frz oc (.own 0))) s.heap (h'.push fo):=by
   refine⟨fun b o z n u0 u0=>kp b o (nP b n) z,fun b o z n u0 u0=>⟨o.slots,kp b o (nP b n) z⟩,fun b o z n u0=>?_,fun b o z u0=>?_,fun b xs z=>sm _ _ z,fun b o u z=>sm _ _ z,fun b ps z=>sm _ _ z⟩
   ·rw[zq (dB (dk (db z) hs1))];exact n
   ·by_cases hb:b=P
    ·exact⟨_,by rw[hb];exact gP⟩
    ·exact⟨o,kp b o hb z⟩
  have hok:HOk X.prog X.w (wC H c' (.frz oc (.own 0))) (h'.push fo):=by
   intro b u z
   by_cases hb:b=c'
   ·subst hb
    rw[zc] at z;cases z
    exact⟨cQ _ z2,_,cQ _ z2⟩
   ·rw[zq hb] at z
    by_cases hb2:b=P
    ·subst hb2
     rw[hP] at z;cases z
     refine⟨q,tq,_,rfl,gP,?_,fun pos' cv e=>?_⟩
     ·rw[dX];exact t1
     ·rw[dX] at e
      rcases t2 pos' cv e with r | r
      ·obtain⟨c2,o2,us2,tt2,w1,w2,w3⟩:=e3 pos' cv r
       exact⟨c2,o2,us2,tt2,w1,sm _ _ w2,w3⟩
      ·exact⟨c',oc,us,tt,r,zc,z3,z4⟩
    ·refine(I.hok b u z).stay (fun d v hd r=>kp d v ?_ r) (fun u0 r=>sm _ _ r) (fun u0 u0 r=>sm _ _ r) fun u0 u0 u0 r=>sm _ _ r
     rcases hd with w | w
     ·rw[w];exact hb2
     ·intro w2;rw[w2,hP] at w;cases w
  refine h _ _ _ (.ref c') ctv ((X.mg "__name__").getD .none) (I.un (t':=tk) un hok) sm un hs ?_ ?_ ⟨c',oc,us,tt,rfl,zc,z3,z4⟩
  ·rw[zq (Nat.ne_of_gt hs2)];exact I.hok.fresh hs
  ·rw[← hfo];exact dc _ rfl
noncomputable def zDY(sc:Scope)(cl:List (Str×Addr))(q:Str)(g:Addr)(cv:Value)(L:Addr):Env:=newEnv sc L mainGlobals cl (q++".<locals>.") (some g) cv none builtinsNs
noncomputable def zG5(X:Cx)(sc:Scope)(q:Str)(g:Addr)(cv:Value)(A:Around)(outer:List Env)(s:Shared)(H:Hp):Cx where
 prog:=X.prog
 w:=X.w
 K:=X.K
 mg:=X.mg
 base:=X.base
 A:=A.deeper (zDY sc (zAS sc X.env) q g cv s.heap.objs.size)
 N:=X.N
 s₀:=s
 H₀:=H
 env:=zDY sc (zAS sc X.env) q g cv s.heap.objs.size
 outer:=outer
 stack:=zDY sc (zAS sc X.env) q g cv s.heap.objs.size::outer
 ex:=[]
 calm:=true
 fn:=fun u0=>false
 pn:=[]
 xe:=fun u0 u0=>False
structure zG6 (env:Env) (sc:Scope):Prop where
 kind:sc.kind=.function
 co:sc.isCoroutine=false
 gen:sc.isGenerator=false
 nocell:∀ y∈sc.names,y.2≠.cell
 noloc:∀ y∈sc.names,y.2≠.local
 cap:∀ y∈sc.names,y.2=.free→env.kindOf y.1=some .cell∨env.kindOf y.1=some .free
theorem zIz{X:Cx}{pins:List (Addr×Obj)}{σ:St}{H1 H2:Hp}{s1 s2:Shared}{sc:Scope}{q:Str}{g:Addr}{cv:Value}{A:Around}{outer:List Env}{k:Nat}{h':Heap}{tk:Nat}
  (I:zP X pins σ H1 s1) (T:zG6 X.env sc) (un:Un (wq X.stack) [] H1 H2 s1.heap s2.heap) (e0:zEB X.prog X.w X.K X.mg X.base A outer s2 H2) (hr:zx (k+1) A)
  (ns:h'.Ns s2.heap.objs.size fun u0=>none) (kp:∀ b o,s2.heap.get? b=some o→h'.get? b=some o):zP (zG5 X sc q g cv A outer s2 H2) [] σ H2 { s2 with heap:=h',toks:=tk }:=by
 have cellK:∀ x c,X.env.cells.lookup x=some c→∀ v,s1.heap.IsCell c v→h'.IsCell c v:=fun x c e v ⟨o,ho,hd⟩=>by
  obtain⟨sl,z⟩:=un.any ho (I.freeC x c e) (by simp)
  exact⟨_,kp _ _ z,hd⟩
 have free_of:∀ x,(sc.names.lookup x=some .local∨sc.names.lookup x=some .cell∨sc.names.lookup x=some .free)→sc.names.lookup x=some .free:=fun x hx=>by
  rcases hx with z | z | z
  ·exact absurd rfl (T.noloc _ (PySem.mem_of_lookup z))
  ·exact absurd rfl (T.nocell _ (PySem.mem_of_lookup z))
  ·exact z
 have hfree:∀ y∈sc.names,y.2=.free→∃ c,X.env.cells.lookup y.1=some c:=fun y hy hf=>I.ok.has _ (T.cap y hy hf)
 have has:∀ x,sc.names.lookup x=some .free→∃ c,(zAS sc X.env).lookup x=some c:=fun x hx=>zCf (env:=X.env) (ns:=sc.names) (cs:=[]) (x:=x) hfree (.inr (PySem.mem_of_lookup hx))
 have noA:∀ b:Addr,b∉(zG5 X sc q g cv A outer s2 H2).ex:=fun b z=>absurd (show b∈([]:List Addr) from z) (by simp)
 refine⟨⟨e0.mod,T.kind,rfl,rfl,cX _,fun x y c h1 h2=>I.ok.inj x y c (zAQ h1) (zAQ h2),fun x hx=>?_,fun x c z=>(by cases z),fun u0=>(hr.deeper _).hd,Around.frames_deeper e0.frames,.inr ⟨rfl,rfl⟩,fun b z=>absurd z (noA b),e0.bs,e0.bsz,fun b u0 u0=>noA b,fun b z=>absurd z (noA b),e0.funs,e0.frf,e0.tb⟩,
  rfl,e0.bare,Un.kept kp,⟨_,ns,fun i x v h1 h2 h3=>?_⟩,fun x c e=>?_,e0.hok.fresh (cX _),fun x c e=>?_,fun p hp=>absurd (show p∈([]:List (Addr×Obj)) from hp) (by simp),e0.hok.kept kp,I.len⟩
 ·exact has x (free_of x (.inr hx))
 ·have hf:=free_of x h3
  obtain⟨m,hn,hl⟩:=I.loc
  have cp:=T.cap _ (PySem.mem_of_lookup hf) rfl
  have vis:Vis X.env.scope x:=by
   rcases cp with z | z
   ·exact .inr (.inl z)
   ·exact .inr (.inr z)
  obtain⟨u,r,l⟩:=hl i x v h1 h2 vis
  refine⟨u,r,?_⟩
  obtain⟨c',hc'⟩:=has x hf
  have hc2:=zAQ hc'
  rcases l with ⟨z,u0⟩ | ⟨u0,c,e,z⟩
  ·rcases cp with z' | z'<;>(rw[z] at z';cases z')
  ·rw[e] at hc2
   have ec:c=c':=Option.some.inj hc2
   rw[← ec] at hc'
   exact .inr ⟨.inr hf,c,hc',cellK x c e _ z⟩
 ·have e':=zAQ (show(zAS sc X.env).lookup x=some c from e)
  obtain⟨v,z⟩:=I.cell x c e'
  exact⟨v,cellK x c e' v z⟩
 ·have e':=zAQ (show(zAS sc X.env).lookup x=some c from e)
  obtain⟨v,o,ho,u0⟩:=I.cell x c e'
  exact un.free c o ho (I.freeC x c e') (by simp)
end L2
namespace L3
open L2
theorem zI0{X:Cx}{sc:Scope}{q:Str}{g:Addr}{cv:Value}{A:Around}{outer:List Env}{s:Shared}{H:Hp}:Own (zG5 X sc q g cv A outer s H):=⟨fun u0 u0 h=>h,rfl,rfl,rfl,rfl⟩
theorem zND{X:Cx}{pins:List (Addr×Obj)}{σ1:L2.St}{σ:S2}{G:Gp}{E:Gp→Prop}{H1 H2:Hp}{s1 s2:Shared}{sc:Scope}{q:Str}{g C:Addr}{cv ctv pm:Value}{A:Around}{outer:List Env}{k:Nat}{params:Arguments}{body:Expr}{t:(Gp→Prop)→S2→Gp→Prop}
  (I:L2.zP X pins σ1 H1 s1) (T:zG6 X.env sc) (un:Un (wq X.stack) [] H1 H2 s1.heap s2.heap) (e0:zEB X.prog X.w X.K X.mg X.base A outer s2 H2) (hr:zx (k+1) A)
  (hbd:bindArgs (PySem.W.kla_fn "<lambda>" q params body sc (zAS sc X.env) pm cv ctv) ⟨[],[]⟩=pure [])
  (hg:s2.heap.get? g=some { cls:=.type "function",data:=.func (PySem.W.kla_fn "<lambda>" q params body sc (zAS sc X.env) pm cv ctv) }) (lc:zGE H2 cv q)
  (hx:Xe (zG5 X sc q g cv A outer s2 H2) C body t) (r:Rel X.K σ G σ1 H2) (ht:t E σ G) :
  codeAny (model X.prog X.w) A (.call (.ref g) ⟨[],[]⟩) (fun r s'=>∃ e H' B,r=.error (.ref e)∧XE X.prog X.w outer H2 s2 C e H' B s'∧zj H2 H'∧∃ G',zo X.K G' H'∧E G') s2:=by
 obtain⟨c,o,us,t',rfl,z2,z3,z4⟩:=lc
 have hcr:s2.heap.CodeRec (.ref c) q:=⟨c,o,us,t',rfl,(e0.hok c _ z2).1,z3,z4⟩
 have lim:s2.heap.NoLimit:=e0.mod.nolimit.keeps fun b o e=>(e0.bs b o e).1
 refine PySem.W.kla_callFunE hr.depth hg rfl T.co T.gen rfl hcr ?_
 rw[hbd]
 refine cT (wpAny_newFunctionEnv T.nocell (fun y hy=>absurd hy (by simp)) (fun h' ns sb=>?_) T.kind)
 have kp:∀ b o,s2.heap.get? b=some o→h'.get? b=some o:=fun b o e=>by
  rw[sb.2 b (dB (db e))]
  exact cQ _ e
 refine⟨lim.keeps kp,PySem.W.kla_codeExpr ?_⟩
 have I2:=zIz (q:=q) (g:=g) (cv:=.ref c) (tk:=s2.toks+0) I T un e0 hr ns kp
 refine eN (hx [] _ σ1 H2 σ G E I2 r ht) (fun v s' z=>z.elim) fun v s' z=>?_
 obtain⟨e,H',B,rfl,xb,gr,hG⟩:=z
 exact xb.leave fun h'' xe=>⟨e,H',B,rfl,xe,gr,hG⟩
end L3
namespace L2
theorem zIC{prog:Program}{w:World}{A:Around}{K:PySem.W.Frag}{x C:Addr}{R:Result→Shared→Prop}{tp:Value}{hh:Heap}{g:Array GenState}{dr:Drawn}{t:Nat}{os:OsState}(X:K.In hh)(L0:∀ M,PySem.W.Looks M hh (typeOf (.ref x)) (.ref C))(hm:PySem.W.mroIn K C (.type "object")=some true)
  (h:R (.ok (.ret (.ref C))) ⟨hh,g,dr,t,os⟩):codeAny (model prog w) A (.call (.builtin "getset_descriptor.__get__") ⟨[.builtin "object.__class__",.ref x,tp],[]⟩) R ⟨hh,g,dr,t,os⟩:=by
 have L1:∀ M,PySem.W.Looks M hh (isSubtype (.ref C) (.type "object")) true:=fun M=>PySem.W.looks_mroIn X hm
 refine codeAny_call_builtin PySem.W.KF.slot_gs.plain PySem.W.KF.entry_gs (PySem.W.KF.slot_gs.check _ _ _ _ _ _ _ _ PySem.W.KF.type_class (PySem.W.KF.args_gs _ _ _) ?_)
 unfold Builtin.«getset_descriptor.__get__» Builtin.Getset_descriptor.descrGet
 rw[PySem.W.dga_obj]
 refine cL (cT ?_)
 show wpAny _ _ (Builtin.Getset_descriptor.descrGetter (.builtin "object.__class__") (some (.ref x))) _ _ _
 unfold Builtin.Getset_descriptor.descrGetter
 dsimp only
 unfold Builtin.Getset_descriptor.descrCheckInstance
 have e1:Builtin.Getset_descriptor.descrNameAndClass (.builtin "object.__class__")=(pure (("__class__":Str),Value.type "object"):Sem (Str×Value)):=by
  unfold Builtin.Getset_descriptor.descrNameAndClass
  dsimp only
  rw[PySem.W.KF.owner_class]
 refine cL (cL (eQ e1 ?_))
 dsimp only
 unfold isInstance
 refine cL (cL (PySem.W.Looks.at (L0 _) (PySem.W.Looks.at (L1 _) ?_)))
 refine gz rfl (cT ?_)
 unfold again
 refine cT ⟨Code.quiet_builtin _ (by decide +kernel),dZ PySem.W.KF.entry_class ?_⟩
 unfold Builtin.«object.__class__»
 dsimp only
 unfold shownTypeOf
 refine cL (cL (PySem.W.Looks.at (L0 _) ?_))
 refine gz rfl (cT ?_)
 unfold ret
 exact cT h
theorem zJu{prog:Program}{w:World}{A:Around}{E:Value→Shared→Prop}{K:PySem.W.Frag}{e C:Addr}{o:Obj}{h:Heap}{g:Array GenState}{d:Drawn}{t:Nat}{os:OsState}{Q:Option Value→Shared→Prop}(X:K.In h)(hx:h.get? e=some o)(hc:o.cls=.ref C)
  (k1:PySem.W.findIn K (.ref C) "__getattribute__"=some (some (.builtin "BaseException.__getattribute__"))) (k2:PySem.W.findIn K (.ref C) "__getattr__"=some none) (k3:PySem.W.findIn K (.ref C) "__class__"=some (some (.builtin "object.__class__")))
  (k4:PySem.W.specialIn K (.builtin "object.__class__") "__get__"=some (some (.builtin "getset_descriptor.__get__"))) (k5:PySem.W.takesIn K (.builtin "object.__class__")=some true) (k6:PySem.W.mroIn K C (.type "object")=some true) (k7:PySem.W.mroIn K C (.type "BaseException")=some true)
  (q:Q (some (.ref C)) ⟨h,g,d,t+1,os⟩):wpAny (model prog w) A (getAttr? (.ref e) "__class__") Q E ⟨h,g,d,t,os⟩:=by
 have L0:∀ M,PySem.W.Looks M h (typeOf (.ref e)) (.ref C):=fun M=>hc▸PySem.W.Looks.andThen (PySem.W.Looks.ld hx) PySem.W.Looks.now
 have L7:∀ M,PySem.W.Looks M h (isSubtype (.ref C) (.type "BaseException")) true:=fun M=>PySem.W.looks_mroIn X k7
 unfold getAttr?
 refine cL (wpAny_mkText ?_)
 unfold getAttrBy?
 refine cL (g7 ?_)
 unfold getAttrBy
 refine eu (cL (PySem.W.Looks.at (L0 _) ?_))
 refine cL (PySem.W.Looks.at (PySem.W.looks_findIn X k1) ?_)
 dsimp only
 refine gz rfl ?_
 unfold getAttrByItsOwn
 refine cL ?_
 unfold hookBefore
 refine wpAny_ite_true rfl (PySem.W.Looks.at (PySem.W.looks_findIn X k2) ?_)
 refine cL (g7 (eu ?_))
 unfold callGetattribute
 refine gz rfl ?_
 unfold boundAndCalled
 refine cL (eQ (F.excAttr_ValueError.ga.bind (.ref e)) ?_)
 dsimp only
 refine wpAny_call (codeAny_call_builtin F.excAttr_ValueError.ga.plain F.entry_bexc_ga ?_)
 have hk:builtinKind "BaseException.__getattribute__"=some Manifest.AttrKind.slot:=by decide +kernel
 have hsp:splitId "BaseException.__getattribute__"=some ("BaseException","__getattribute__"):=by decide +kernel
 have ha:argsOk "BaseException.__getattribute__" { pos:=[Value.ref e,Value.str "__class__" t] }:=F.args_bexc_ga _ _
 unfold checkBuiltinCall
 rw[hk,hsp]
 dsimp only[cV,cW]
 unfold isInstance
 refine cL (cL (PySem.W.Looks.at (L0 _) (PySem.W.Looks.at (L7 _) ?_)))
 refine gz rfl (eQ ha ?_)
 unfold Builtin.«object.__getattribute__»
 refine cL ?_
 unfold slotArgs
 refine gz rfl (gz rfl (cT ?_))
 dsimp only
 refine cL ?_
 unfold Builtin.ObjectAttr.attrName
 refine cT ?_
 refine cL (PySem.W.Looks.at (L0 _) ?_)
 refine cL ?_
 unfold Builtin.ObjectAttr.find
 refine cL (PySem.W.Looks.at (PySem.W.looks_findIn X k3) ?_)
 refine cL ?_
 unfold Builtin.ObjectAttr.getOf
 refine PySem.W.Looks.at (PySem.W.looks_specialIn X k4) ?_
 refine cL ?_
 unfold Builtin.ObjectAttr.dataDescriptor?
 refine cL (PySem.W.Looks.at (PySem.W.looks_takesIn X k5) ?_)
 refine wpAny_ite_true rfl (cT ?_)
 dsimp only
 refine cL (fO (cT ?_))
 dsimp only
 unfold Builtin.ObjectAttr.bindTo
 dsimp only
 refine cL (eu (wpAny_call (zIC X L0 k6 ?_)))
 unfold ret
 refine cT ?_
 dsimp only
 exact PySem.W.handed_on rfl (cT q)
structure zFF (K:PySem.W.Frag) (C:Addr):Prop where
 ex0:PySem.W.excIn K C bmV "ValueError.__new__"=true
 cl:(PySem.W.clsIn K C).isSome=true
 k1:PySem.W.findIn K (.ref C) "__getattribute__"=some (some (.builtin "BaseException.__getattribute__"))
 k2:PySem.W.findIn K (.ref C) "__getattr__"=some none
 k3:PySem.W.findIn K (.ref C) "__class__"=some (some (.builtin "object.__class__"))
 k4:PySem.W.specialIn K (.builtin "object.__class__") "__get__"=some (some (.builtin "getset_descriptor.__get__"))
 k5:PySem.W.takesIn K (.builtin "object.__class__")=some true
 k6:PySem.W.mroIn K C (.type "object")=some true
 k7:PySem.W.mroIn K C (.type "BaseException")=some true
theorem zO1{K:PySem.W.Frag}{C:Addr}(h:(PySem.W.clsIn K C).isSome=true):∃ c d cd sl,K.lookup C=some ⟨c,d,.cls cd,sl⟩:=by
 unfold PySem.W.clsIn at h
 split at h
 ·rename_i c d cd sl e;exact⟨c,d,cd,sl,e⟩
 ·cases h
theorem zLb{K:PySem.W.Frag}{e C:Addr}(k:zFF K C):PySem.W.KitX K (.ref e) (.ref C) (fun h=>∃ o,h.get? e=some o∧o.cls=.ref C):=by
 obtain⟨c0,d0,cd,sl,hl⟩:=zO1 k.cl
 refine⟨fun M h _ ⟨o,hx,hc⟩=>hc▸PySem.W.Looks.andThen (PySem.W.Looks.ld hx) PySem.W.Looks.now,fun M h X u0 A Q E s kp q=>?_,fun h tp dd its n s2 X ht=>?_,fun {prog w A E Q s} X ⟨o,hx,hc⟩ q=>?_⟩
 ·unfold isType
  exact cL (wpAny_loadPart (kp _ _ (X _ _ hl)) (cT q))
 ·refine Bool.eq_false_iff.mpr fun z=>?_
  have z':=Value.ref.inj (beq_iff_eq.mp z)
  have z2:=X _ _ hl
  rw[z',ht] at z2
  cases z2
 ·obtain⟨hh,g,d,t,os⟩:=s
  exact zJu X hx hc k.k1 k.k2 k.k3 k.k4 k.k5 k.k6 k.k7 q
end L2
namespace HD
section
variable {prog:Program} {w:World} {A:Around} {E:Value→Shared→Prop} {s:Shared}
end
section
variable {prog:Program} {w:World} {A:Around} {R:Result→Shared→Prop} {h0:Heap} {S I l:Addr} {its:Array Value} {ks:Nat→Int} {vs:Nat→Value} {g:Array GenState} {d:Drawn} {os:OsState}
noncomputable def Kp(h0 h:Heap):Prop:=∀ b o,h0.get? b=some o→h.get? b=some o
theorem Kp.ne{h0 h h':Heap}{c:Addr}(k:Kp h0 h)(hc:h0.get? c=none)(e:∀ b o,b≠c→h.get? b=some o→h'.get? b=some o):Kp h0 h':=fun b o q=>e b o (fun z=>by subst z;rw[hc] at q;cases q) (k b o q)
end
section
variable {prog:Program} {w:World} {A:Around} {E:Value→Shared→Prop} {s:Shared}
end
end HD
namespace L2
open HD
noncomputable abbrev zJv(X:Cx)(a:Addr)(o:Obj):Cx:={ X with pn:=(a,o)::X.pn }
section
variable {X:Cx} {pins:List (Addr×Obj)} {σ:List (Option V)} {H:Hp} {s:Shared} {a:Addr} {o:Obj}
theorem zP.pinD(I:zP X pins σ H s)(e:s.heap.get? a=some o)(n:H a=none)(l:a≠X.env.locals)(f:a∉X.fs)(c:∀ v,o.data≠.cell v):zP X ((a,o)::pins) σ H s :=
 ⟨I.ok,I.os,I.bare,I.base,I.loc,I.cell,I.free,I.freeC,fun p hp=>by
  rcases dH.mp hp with hp | hp
  ·exact I.pin p (eO _ hp)
  ·rcases dC.mp hp with rfl | hp
   ·exact⟨e,n,l,f,c⟩
   ·exact I.pin p (dF _ hp),I.hok,I.len⟩
theorem Cx.Ok.pin(k:X.Ok):(zJv X a o).Ok:=⟨k.mod,k.kind,k.glob,k.blt,k.above,k.inj,k.has,k.cab,k.hd,k.frames,k.stk,k.exf,k.bs,k.bsz,k.noex,k.exfs,k.funs,k.frf,k.tb⟩
theorem zP.into(I:zP X ((a,o)::pins) σ H s):zP (zJv X a o) pins σ H s :=
 ⟨I.ok.pin,I.os,I.bare,I.base,I.loc,I.cell,I.free,I.freeC,fun p hp=>I.pin p (by
  rcases dH.mp hp with hp | hp
  ·rcases dC.mp hp with rfl | hp
   ·exact dF _ dt
   ·exact eO _ hp
  ·exact dF _ (dw _ hp)),I.hok,I.len⟩
end
end L2
namespace L3
open L2
end L3
namespace L2
theorem XE.after{P:Program}{w:World}{outer:List Env}{H H':Hp}{s s':Shared}{C e:Addr}{B base h'':Heap}(x:XE P w outer H s C e H' B s')(ff:s.heap.FunFrames base outer)(frf:∀ b∈wq outer,H b=none)(st:Heap.StaysIn B h'')
  (sl:∀ b o,s'.heap.get? b=some o→(∀ vs,o.data≠.fields vs)→∃ sl,h''.get? b=some { o with slots:=sl }):Un (wq outer) [] H H' s.heap h''∧HOk P w H' h'':=by
 have slot:∀ b o,s.heap.get? b=some o→H b=none→b∈wq outer→∃ sl,h''.get? b=some { o with slots:=sl }:=fun b o q n hb=>by
  obtain⟨s1,q1⟩:=x.un.slot b o q n hb (by simp)
  have hd:∀ vs,o.data≠.fields vs:=by
   obtain⟨u0,o1,ho,hd⟩:=ff.mem hb
   rw[q] at ho;cases ho;exact hd
  obtain⟨s2,q2⟩:=sl b _ q1 hd
  exact⟨s2,q2⟩
 refine⟨⟨fun b o q n hb u0=>st b o (x.has0 b o q n hb),fun b o q n hb u0=>slot b o q n hb,fun b o q n u0=>x.un.free b o q n (by simp),fun b o q u0=>?_,x.un.tups,x.un.frzs,x.un.tbls⟩,fun b u q=>?_⟩
 ·by_cases hb:b∈wq outer
  ·obtain⟨s1,z⟩:=slot b o q (frf b hb) hb
   exact⟨_,z⟩
  ·obtain⟨o',z⟩:=x.th b o q hb
   exact⟨o',st b o' z⟩
 ·refine(x.hok b u q).stay (fun c v hc r=>?_) (fun u0 r=>r) (fun u0 u0 r=>r) fun u0 u0 u0 r=>r
  have:∃ o,B.get? c=some o:=by
   rcases hc with z | z
   ·subst z;exact x.has1 _ _ q
   ·exact x.has1 _ _ z
  obtain⟨o2,z⟩:=this
  have z2:=x.stay c o2 z
  rw[r] at z2
  obtain rfl:v=o2:=Option.some.inj z2
  exact st c v z
section
variable {X:Cx} {pins:List (Addr×Obj)} {σ:St} {H:Hp} {s:Shared}
theorem zGF{M:Model}{A:Around}{E:Value→Shared→Prop}{i:Nat}{x:Str}{pos:Pos}{Q:Unit→Shared→Prop}(I:zP X pins σ H s)(hN:X.N.Nodup)(hi:X.N[i]?=some x)(hk:X.env.scope.names.lookup x=some .local)
  (h:∀ s',zP X pins (σ.set i none) H s'→Q () s'):wpAny M A (do bindName X.env x Value.none;unbindBehindTheSuite X.env x pos) Q E s:=by
 obtain⟨m,hn,hl⟩:=id I.loc
 have hcls:(X.env.scope.kind==.class||(X.env.scope.kind==.module&&X.env.locals != X.env.globals))=false:=by rw[I.ok.kind];rfl
 have hiσ:i<σ.length:=by rw[I.len];exact(d8.mp hi).1
 have cne:=I.cne
 refine wpAny_nameGoes_keeps hk hn hcls fun h' v hn' hs=>?_
 obtain⟨oL,u0,u0,hoL,u0⟩:=id hn
 have tracked:HOk X.prog X.w H h':=fun b ob e=>by
  refine(I.hok b ob e).stay (fun c w' hc q=>(hs.2 c ?_).trans q) (fun u0 q=>q) (fun u0 u0 q=>q) fun u0 u0 u0 q=>q
  rintro rfl
  rcases hc with rfl | hc
  ·rw[I.free] at e;cases e
  ·rw[I.free] at hc;cases hc
 refine h _ ⟨I.ok,I.os,I.bare,⟨fun b o e n hb hx=>?_,fun b o e n hb hx=>?_,I.base.free,fun b o e hx=>?_,I.base.tups,I.base.frzs,I.base.tbls⟩,⟨_,hn',fun j y v' e1 e2 e3=>?_⟩,fun y c e=>?_,I.free,I.freeC,fun p hp=>?_,tracked,by simpa using I.len⟩
 ·exact(hs.2 b (dB (dk (db e) I.ok.above))).trans (I.base.keep b o e n hb hx)
 ·obtain⟨sl,e1⟩:=I.base.slot b o e n hb hx
  exact⟨sl,(hs.2 b (dB (dk (db e) I.ok.above))).trans e1⟩
 ·obtain⟨o',e1⟩:=I.base.there b o e hx
  exact⟨o',(hs.2 b (dB (dk (db e) I.ok.above))).trans e1⟩
 ·by_cases hj:j=i
  ·subst hj
   rw[dU hiσ] at e2
   cases e2
  ·rw[eH (Ne.symm hj)] at e2
   obtain⟨u',r',q⟩:=hl j y v' e1 e2 e3
   refine⟨u',r',?_⟩
   rcases q with ⟨k,e⟩ | ⟨k,c,e,z⟩
   ·refine .inl ⟨k,?_⟩
    have:y≠x:=fun e=>hj (zD8 hN e1 (e▸hi))
    simp[this,e]
   ·exact .inr ⟨k,c,e,z.sameBut hs (cne y c e)⟩
 ·obtain⟨w',z⟩:=I.cell y c e
  exact⟨w',z.sameBut hs (cne y c e)⟩
 ·obtain⟨e,n,ne,nf,d⟩:=I.pin p hp
  exact⟨(hs.2 p.1 ne).trans e,n,ne,nf,d⟩
theorem zID{M:Model}{A:Around}{E:Value→Shared→Prop}{i:Nat}{x:Str}{v:V}{pos:Pos}{Q:Value→Shared→Prop}(I:zP X pins σ H s)(hi:X.N[i]?=some x)(hk:X.env.scope.names.lookup x=some .local)(hv:σ[i]?=some (some v))(hd:(x==("__debug__":Str))=false)
  (h:∀ u,RelV v u→Q u s):wpAny M A (eval (.Name x pos) X.env) Q E s:=by
 obtain⟨m,hn,hl⟩:=I.loc
 obtain⟨u,r,l⟩:=hl i x v hi hv (.inl hk)
 rcases l with ⟨u0,hm⟩ | ⟨z,u0⟩
 ·exact wpAny_Name (wpAny_loadName_local I.ok.kind hk hn hm (h u r)) hd
 ·rcases z with z | z<;>(rw[show X.env.kindOf x=some .local from hk] at z;cases z)
theorem zLc{C Cc g:Addr}{cn xc en er:Str}{ic ie ir:Nat}{p1 p2 p3 p4 p5 p6 p7 hp tp:Pos}{Z:Hp→Prop}{Q:Flow→Shared→Prop}{E:Value→Shared→Prop}(stk:X.stack=X.env::X.outer)(frm:X.env.frame=some X.env.locals)(ex:X.ex=[])
  (I:zP X pins σ H s) (hN:X.N.Nodup) (c1:X.N[ic]?=some cn) (c2:X.env.scope.names.lookup cn=some .local) (c3:σ[ic]?=some (some (.ref g))) (hf:PySem.W.FnAt g s.heap)
  (run:codeAny (model X.prog X.w) X.A (.call (.ref g) ⟨[],[]⟩) (fun r s'=>∃ e H' B,r=.error (.ref e)∧XE X.prog X.w X.stack H s C e H' B s'∧Z H') s)
  (hg:Gl X xc) (hm:X.mg xc=some (.ref Cc)) (hx:PySem.W.exmOne X.K (.ref C) (.ref Cc)=some true)
  (e1:X.N[ie]?=some en) (e2:X.env.scope.names.lookup en=some .local) (r1:X.N[ir]?=some er) (r2:X.env.scope.names.lookup er=some .local)
  (h:∀ e oe H' s',zP (zJv X e oe) pins (((σ.set ie (some (.ref e))).set ir (some (.ref e))).set ie none) H' s'→Z H'→oe.cls=.ref C→Q .next s')
  (d1:(cn==("__debug__":Str))=false:=by decide) (d2:(xc==("__debug__":Str))=false:=by decide) (d3:(en==("__debug__":Str))=false:=by decide)
  (sw1:swapsWith (.Call (.Name cn p1) [] [] p2) none p3.line X.env=pure false:=by rfl) (sw2:swapsWith (.Name en p6) (some (.Name er p5)) p7.line X.env=pure false:=by rfl) :
  wpAny (model X.prog X.w) X.A (exec (.Try [.Expr (.Call (.Name cn p1) [] [] p2) p3] [.ExceptHandler (some (.Name xc p4)) (some en) [.Assign [.Name er p5] (.Name en p6) p7] hp] [] [] tp) X.env) Q E s:=by
 refine wpAny_Try_except (eS (wpAny_Expr_any (eI (zID I c1 c2 c3 d1 fun u r=>?_)) I.quiet sw1))
 obtain rfl:u=Value.ref g:=r
 refine PySem.W.callWith_F0 hf (wpAny_call (eV run fun r s' ⟨e,H',B,z1,x,hZ⟩=>?_))
 subst z1
 dsimp only
 have xb:=x.body stk frm ex I
 obtain⟨a0,tr⟩:=x.tr
 have fr:X.A.frames=some (X.env::X.outer):=by rw[I.ok.frames,stk]
 have ffb:=xb.funs
 rw[stk] at ffb
 refine wpAny_noteFrame_onW fr ffb frm tr x.stay x.eB fun h1 n1=>?_
 obtain⟨n1,n2,n3,n4⟩:=n1
 refine wpAny_setFlight_noneW n1 n2 n3 fun h2 s2 f2 t2 k2=>?_
 have I2:zP X pins σ H' { s' with heap:=h2 }:=by
  obtain⟨u,hk⟩:=x.after I.stack I.stkFree s2 fun b o q nd=>by
   obtain⟨sl,z⟩:=n4 b o q nd
   exact⟨sl,k2 b _ z nd⟩
  exact I.call' (s':={ s' with heap:=h2 }) x.os u hk x.bare fun b hb=>absurd hb (by simp)
 refine wpAny_handleBy_cons (codeAny_handlers_test ?_) (fun q=>by cases q)
 refine Calls.Name_function_global I.ok.kind hg (Calls.loadGlobal_global (by rw[I.ok.glob];exact I2.mod.glob.keeps I2.bk) hm ?_) d2
 have hte:∃ o,h2.get? e=some o∧o.cls=.ref C:=by
  obtain⟨oe,vs,T,oT,ts,w1,⟨w2,u0⟩,u0⟩:=t2
  exact⟨oe,w1,w2⟩
 obtain⟨oe2,w1,w2⟩:=hte
 refine PySem.W.Looks.at (PySem.W.exm_one I2.kIn (w2▸PySem.W.Looks.andThen (PySem.W.Looks.ld w1) PySem.W.Looks.now) hx) ?_
 dsimp only
 rw[if_pos rfl]
 refine codeAny_handlers_suite_as ?_
 refine wpAny_setFlight_noneW s2 f2 t2.at fun h3 s3 f3 t3 k3=>?_
 have I3:zP X pins σ H' { s' with heap:=h3 }:=by
  obtain⟨u,hk⟩:=x.after I.stack I.stkFree s3 fun b o q nd=>by
   obtain⟨sl,z⟩:=n4 b o q nd
   exact⟨sl,k3 b _ (k2 b _ z nd) nd⟩
  exact I.call' (s':={ s' with heap:=h3 }) x.os u hk x.bare fun b hb=>absurd hb (by simp)
 obtain⟨oe,vs,T,oT,ts,v1,⟨v2,u0⟩,v3,u0⟩:=t3
 have neL:e≠X.env.locals:=fun z=>by
  obtain⟨m,⟨o,es,ep,ho,u0⟩,u0⟩:=I.loc
  have:=x.new
  rw[z,ho] at this;cases this
 have neF:e∉X.fs:=fun z=>by
  obtain⟨u0,o,ho,u0⟩:=I.funs.mem z
  rw[x.new] at ho;cases ho
 have I3p:=I3.pinD v1 x.free neL neF fun v q=>by rw[v3] at q;cases q
 have hie:ie<σ.length:=by rw[I.len];exact(d8.mp e1).1
 refine zAv I3p hN e1 (.inl e2) (show RelV (.ref e) (.ref e) from rfl) (fun s4 I4=>?_) (.inr e2)
 refine eS (wpAny_Assign_Name (zID I4 e1 e2 (dU hie) d3 fun u r=>?_) sw2)
 obtain rfl:u=Value.ref e:=r
 refine zAv I4 hN r1 (.inl r2) (show RelV (.ref e) (.ref e) from rfl) (fun s5 I5=>?_) (.inr r2)
 refine gB ?_
 dsimp only
 refine zGF I5 hN e1 e2 fun s6 I6=>?_
 exact h e oe H' s6 I6.into hZ v2
end
end L2
namespace L3
open L2
theorem _root_.L2.zCO.grow{H H':Hp}(h:zCO H H'):zj H H':=⟨fun a xs e=>h a _ e,fun a o u e=>h a _ e⟩
theorem zo.same{K:PySem.W.Frag}{G:Gp}{H H':Hp}(r:zo K G H)(h:zCO H H'):zo K G H' :=
 ⟨fun a ds e=>by obtain⟨xs,e1,e2⟩:=r.m a ds e;exact⟨xs,h _ _ e1,e2.grow h.grow⟩,fun a ds e=>by obtain⟨xs,e1,e2⟩:=r.ro a ds e;exact⟨xs,h.grow.roL e1,e2.grow h.grow⟩⟩
structure zI1 (st:Stmt) (N:List Str) (rest:List Stmt):Prop where
 body:∃ j1 p1 p2 p3 p4 p5 p6 p7 p8 p9 p10 p11 p12,zV st=.Assign [.Name "error" p1] (.Constant .none j1 p2) p3::.Try [.Expr (.Call (.Name "call" p4) [] [] p5) p6] [.ExceptHandler (some (.Name "ChordError" p7)) (some "e") [.Assign [.Name "error" p8] (.Name "e" p9) p10] p11] [] [] p12::rest
 n0:N[0]?=some ("call":Str)
 n1:N[1]?=some ("error":Str)
 n2:N[2]?=some ("e":Str)
 l0:(zC st).names.lookup ("call":Str)=some .local
 l1:(zC st).names.lookup ("error":Str)=some .local
 l2:(zC st).names.lookup ("e":Str)=some .local
 gl:(zC st).names.lookup ("ChordError":Str)=some .globalImplicit
structure zI2 (X:Cx) (x:Str) (c P:Addr) (params:Arguments) (body:Expr) (sc:Scope):Prop where
 hsc:zG6 X.env sc
 code:X.env.code=.ref c
 hd:PySem.W.CodeHd X.base c P
 blt:BMn X.base X.mg
 qual:X.env.qual++"<lambda>"=x++".<locals>.<lambda>"
 mem:x∈zA9
 tab:PySem.W.tabIn X.K x=some (c,P)
 df:defaultsOf params X.env=([],[])
 bd:∀(q:Str) (cl:List (Str×Addr)) (pm cv ctv:Value),bindArgs (PySem.W.kla_fn "<lambda>" q params body sc cl pm cv ctv) ⟨[],[]⟩=pure []
theorem zJw{X:Cx}{st:Stmt}{f:Addr}{fd:FuncData}{N:List Str}{k:Nat}{C Cc c P:Addr}{kind:Int}{x:Str}{rest:List Stmt}{params:Arguments}{body:Expr}{sc:Scope}{t:(Gp→Prop)→S2→Gp→Prop}{trest:Addr→yg}{p lp pos:Pos}
  (F:Fun X.K "_law_refused" "_law_refused" st f fd) (S:za N ["call"] (zC st)) (hm:X.mg "_law_refused"=some (.ref f)) (hb:Binds X.K fd ["call"] []) (hr:zx (k+2) X.A) (hgl:Gl X "_law_refused") (B:zI1 st N rest)
  (hCc:X.mg "ChordError"=some (.ref Cc)) (hxm:PySem.W.exmOne X.K (.ref C) (.ref Cc)=some true)
  (hrest:∀(cdv:Value) (A:Around) (outer:List Env) (s:Shared) (H:Hp) (e:Addr) (oe:Obj),zx (k+1) (A.deeper (envOfC "_law_refused" (zC st) s.heap.objs.size f cdv))→oe.cls=.ref C→Ps2 (zJv (zAq CX0 X.prog X.w X.K X.mg X.base N "_law_refused" (zC st) f cdv A outer s H E0).nox e oe) rest (trest e))
  (hres:∀(e:Addr) (G:Gp) (R:Q2),(∀ l,G.m l=none→R (.adr l) (zQ G l [.int kind]))→trest e (zf R) ((di N.length none).set 1 (some (.adr e))) G)
  (L:zI2 X x c P params body sc) (hlam:∀(g:Addr) (cv:Value) (A:Around) (outer:List Env) (s:Shared) (H:Hp),zx k (A.deeper (zDY sc (zAS sc X.env) (x++".<locals>.<lambda>") g cv s.heap.objs.size))→Xe (zG5 X sc (x++".<locals>.<lambda>") g cv A outer s H) C body t) :
  F2 X (.Call (.Name "_law_refused" p) [.Lambda params body sc lp] [] pos) (fun σ G R=>t (fun G'=>R [.int kind] G') σ G):=by
 intro pins s σ1 H Q I hq
 obtain⟨σ,G,R,r,ht,kk⟩:=hq
 refine eI (zBs I hgl hm ?_)
 refine PySem.W.callWith_K (h₀:=X.base) I.ok.mod.kin F.kp ?_
 obtain⟨tq,hP⟩:=I.tabs x L.mem c P L.tab
 show wpAny _ _ (spliced ((false,eval (.Lambda params body sc lp) X.env)::backTo pos (starEach [] X.env))) _ _ s
 refine Calls.spliced_cons (zFm I L.hsc.cap L.df L.code L.hd L.blt L.qual hP fun g H1 s1 cv ctv pm I1 sm un1 hsz hg0 hgo lc=>?_)
 refine Calls.spliced_nil ⟨I1.kIn,wpAny_call ?_⟩
 obtain⟨oc,od,kV,doc,pm2,an,cdv,ct,osl,rfl,lk,hcd⟩:=F.ex
 have hg3:g∉wq X.stack:=fun z=>by
  obtain⟨u0,o,ho,u0⟩:=I.stack.mem z
  exact absurd (dk (db ho) hsz) (eG _)
 let Q1:VK:=fun v H'=>∃ l xs G',v=.ref l∧R [.int kind] G'∧zo X.K G' H'∧G'.m l=none∧H' l=some (.lst xs)∧Dens X.K H' [.int kind] xs∧zj H H'
 have core:codeAny (model X.prog X.w) X.A (.call (.ref f) ⟨[.ref g],[]⟩) (CR CX0 X.stack X.prog X.w H1 s1 Q1 E0) s1:=by
  have e0:=I1.env0
  have KX:X.K.In s1.heap:=I1.kIn
  have lim:s1.heap.NoLimit:=I1.nolimit
  have hkind:∀ y∈[("call":Str)].zip [Value.ref g],(zC st).names.lookup y.1=some .local∨((zC st).names.lookup y.1=some .cell∧((cellsFrom (s1.heap.objs.size+1) (zC st).names []).lookup y.1).isSome=true):=fun⟨n,v⟩ hy=>by
   rcases S.par n (gT hy).1 with q | q
   ·exact .inl q
   ·exact .inr ⟨q,PySem.W.cellsFrom_some _ _ _ (.inl q)⟩
  have hbd:=hb s1 [.ref g] KX rfl
  refine codeAny_call_function hr.depth (KX _ _ lk) rfl S.co S.gen rfl (PySem.W.codeRec_of KX hcd) (hbd _ _ _ _ ?_)
  refine gD S.kind hkind fun env he s2 x2=>?_
  subst he
  refine⟨lim.keeps x2.toInCall.keep,codeAny_func ?_⟩
  have J0:zP (zAq CX0 X.prog X.w X.K X.mg X.base N "_law_refused" (zC st) f cdv X.A X.stack s1 H1 E0).nox [] (start N [.ref g]) H1 s2:=(zBt (vs:=[.ref g]) (us:=[.ref g]) S hr.hd e0 rfl (.cons (show RelV (.ref g) (.ref g) from rfl) .nil) x2).wish _
  have hrr:zx (k+1) (X.A.deeper (envOfC "_law_refused" (zC st) s1.heap.objs.size f cdv)):=hr.deeper _
  obtain⟨j1,p1,p2,p3,p4,p5,p6,p7,p8,p9,p10,p11,p12,hbody⟩:=B.body
  rw[hbody]
  have hl3:3≤N.length:=by have:=(d8.mp B.n2).1;omega
  have st0:(start N [.ref g])[0]?=some (some (.ref g)):=rfl
  refine eS (wpAny_Assign_Name (eN (zHJ (X:=(zAq CX0 X.prog X.w X.K X.mg X.base N "_law_refused" (zC st) f cdv X.A X.stack s1 H1 E0).nox) [] s2 _ H1 (fun v H'=>v=.non∧H'=H1) J0 ⟨rfl,rfl⟩) (fun u s3 hz=>?_) (fun u0 u0 z=>z.elim)) rfl)
  obtain⟨v,H',J1,rv,rfl,hH⟩:=hz
  rw[hH] at J1
  refine zAv J1 S.nd B.n1 (.inl B.l1) rv (fun s4 J2=>?_) (.inr B.l1)
  dsimp only
  refine eS (zLc (C:=C) (Cc:=Cc) (Z:=fun H'=>zj H1 H'∧∃ G',zo X.K G' H'∧R [.int kind] G') rfl rfl rfl J2 S.nd B.n0 B.l0 (by rw[eH (by decide)];exact st0) ?fn ?run B.gl hCc hxm B.n2 B.l2 B.n1 B.l1 ?h)
  case fn=>exact⟨_,_,_,_,J2.base.keep g _ hgo hg0 hg3 (by intro z;exact absurd (show g∈([]:List Addr) from z) (by simp))⟩
  case run =>
   exact zND (X:=X) (pins:=pins) (σ1:=σ1) I1 L.hsc J2.base J2.env0 hrr (L.bd _ _ _ _ _) (J2.base.keep g _ hgo hg0 hg3 (by intro z;exact absurd (show g∈([]:List Addr) from z) (by simp))) lc (hlam g cv _ _ s4 _ (hrr.deeper _)) (r.to sm.grow (r.g.same sm)) ht
  case h =>
   intro e oe H' s' Jp hZ hcl
   obtain⟨gr,G',rg,hR⟩:=hZ
   dsimp only
   let D:Ends:={ nx:=fun u0 H''=>Q1 .non H'',rt:=Q1 }
   let R2:Q2:=fun d G''=>∃ l G0,d=.adr l∧G0.m l=none∧G''=zQ G0 l [.int kind]∧R [.int kind] G0
   have hG:zj H H':=sm.grow.trans gr
   refine eN (hrest cdv X.A X.stack s1 H1 e oe hrr hcl [] s' _ H' D Jp ⟨_,G',zf R2,⟨rg,?_,?_⟩,hres e G' R2 fun l n=>⟨l,G',rfl,n,rfl,hR⟩,⟨?_,?_,?_,?_⟩⟩) (fun fl s'' hs=>?_) (fun u0 u0 z=>z.elim)
   ·simp[L2.start];omega
   ·intro i d e1
    by_cases hi:i=1
    ·subst hi
     rw[dU (by simp;omega)] at e1
     cases e1
     refine⟨.ref e,?_,by unfold zO;rfl⟩
     rw[eH (by decide),dU (by simp[L2.start];omega)]
    ·rw[eH (Ne.symm hi),fG] at e1
     split at e1<;>cases e1
   ·rintro σ' G1 ⟨G2,s2',⟨l,G0,z,u0⟩⟩;cases z
   ·intro u0 u0 z;exact z.elim
   ·intro u0 u0 z;exact z.elim
   ·rintro d G1 ⟨G2,s2',⟨l,G0,rfl,n0,rfl,hR0⟩⟩ v H2 g2 r2 dv
    unfold zO at dv
    subst dv
    obtain⟨xs,w1,w2⟩:=r2.m l _ (s2'.m _ _ zG)
    exact⟨l,xs,G0,rfl,hR0,r2.sub ((Sub.new n0).trans s2'),n0,w1,w2,hG.trans g2⟩
   ·cases fl with
    | ret u =>
     obtain⟨v,σ',H2,J,rv2,q⟩:=hs
     exact⟨v,H2,J.os,J.bare,J.base,J.hok,rv2,q⟩
    | next =>
     obtain⟨σ',H2,J,⟨l,xs,G2,z,u0⟩⟩:=hs
     cases z
    | brk=>obtain⟨u0,u0,u0,q⟩:=hs;exact q.elim
    | cont=>obtain⟨u0,u0,u0,q⟩:=hs;exact q.elim
 refine eV core fun rr s' hq'=>?_
 cases rr with
 | error e=>exact hq'.elim
 | ok fl =>
  cases fl with
  | ret u =>
   obtain⟨v,H',J,rv,l,xs,G',rfl,a1,a2,a3,a4,a5,a6⟩:=I1.after hq'
   exact⟨.ref l,H',J,rv,kk _ G' a1 l xs H' a6 a2 a3 a4 a5⟩
  | next=>exact hq'.elim
  | brk=>exact hq'.elim
  | cont=>exact hq'.elim
noncomputable def zG7(i:Nat)(e:Addr)(b:Bool):zm:=fun σ G R=>look σ i=some (.adr e)∧R (.bl b) G
section
variable {X:Cx}
theorem zG8{e C:Addr}{oe:Obj}{c:Value}{vc:V}{b:Bool}(k:zFF X.K C)(hp:(e,oe)∈X.pn)(hc:oe.cls=.ref C)(hv:∀ u,RelV vc u→u=c)(hb:PySem.W.kitOne X.K (.ref C) c=some b):yy X (.builtin "isinstance") (fun xs H Q=>xs=[.ref e,vc]∧Q (.bl b) H):=by
 intro pins s σ H xs us Q I rv h
 obtain⟨rfl,q⟩:=h
 obtain⟨w1,w2,rfl,r1,r2⟩:=vals2 rv
 obtain rfl:w1=Value.ref e:=r1
 obtain rfl:=hv w2 r2
 exact PySem.W.kia_one (zLb k) I.kIn ⟨oe,(I.pin _ (eO _ hp)).1,hc⟩ hb (fun z=>nomatch z) fun tk=>⟨.bl b,H,I.tok _,rfl,q⟩
theorem zG9(i:Nat){x cn:Str}{e C D:Addr}{oe:Obj}{b:Bool}{p p1 p2 pos:Pos}(k:zFF X.K C)(hp:(e,oe)∈X.pn)(hc:oe.cls=.ref C)(hg:Gl X "isinstance")(hm:X.mg "isinstance"=none)(hg2:Gl X cn)(hD:X.mg cn=some (.ref D))(hb:PySem.W.kitOne X.K (.ref C) (.ref D)=some b)
  (hN:X.N[i]?=some x:=by rfl) (hv:Vis X.env.scope x:=by first | exact Or.inl rfl | exact Or.inr (Or.inl rfl) | exact Or.inr (Or.inr rfl)) (hd:(x==("__debug__":Str))=false:=by decide) (hcd:(x==("__classdict__":Str))=false:=by decide) (hdb:(cn==("__debug__":Str))=false:=by decide) :
  E2 X (.Call (.Name "isinstance" p) [.Name x p1,.Name cn p2] [] pos) (zG7 i e b):=by
 refine PE.mono (zAw (zG8 (vc:=.ref D) k hp hc (fun u r=>r) hb) hg hm (by decide +kernel) (yS (zCM hN hv hd hcd) (yS (zFr hg2 hD (v:=.ref D) rfl hdb) zAA rfl) rfl)) ?_
 rintro σ1 H Q ⟨σ,G,R,r,⟨q1,q2⟩,kk⟩
 obtain⟨v,e1,e2⟩:=r.val i _ (zAT q1)
 unfold zO at e2
 subst e2
 exact⟨_,e1,rfl,kk _ G q2 _ H (.refl H) r.g (by unfold zO;rfl)⟩
theorem zO2(i:Nat){x:Str}{e C:Addr}{oe:Obj}{p p1 p2 pos:Pos}(k:zFF X.K C)(hp:(e,oe)∈X.pn)(hc:oe.cls=.ref C)(hg:Gl X "isinstance")(hm:X.mg "isinstance"=none)(hg2:Gl X "ValueError")(hm2:X.mg "ValueError"=none)(hb:PySem.W.kitOne X.K (.ref C) (.type "ValueError")=some true)
  (hN:X.N[i]?=some x:=by rfl) (hv:Vis X.env.scope x:=by first | exact Or.inl rfl | exact Or.inr (Or.inl rfl) | exact Or.inr (Or.inr rfl)) (hd:(x==("__debug__":Str))=false:=by decide) (hcd:(x==("__classdict__":Str))=false:=by decide) :
  E2 X (.Call (.Name "isinstance" p) [.Name x p1,.Name "ValueError" p2] [] pos) (zG7 i e true):=by
 refine PE.mono (zAw (zG8 (vc:=.ty "ValueError") k hp hc (fun u r=>r) hb) hg hm (by decide +kernel) (yS (zCM hN hv hd hcd) (yS (zIM (v:=.ty "ValueError") hg2 hm2 (by decide +kernel) rfl) zAA rfl) rfl)) ?_
 rintro σ1 H Q ⟨σ,G,R,r,⟨q1,q2⟩,kk⟩
 obtain⟨v,e1,e2⟩:=r.val i _ (zAT q1)
 unfold zO at e2
 subst e2
 exact⟨_,e1,rfl,kk _ G q2 _ H (.refl H) r.g (by unfold zO;rfl)⟩
set_option genInjectivity true in
inductive zAb (X:Cx) (is:List Nat):List Expr→Prop
 | nil:zAb X is []
 | con {c:Str} {j:Nat} {p:Pos} {r:List Expr} (h:c.length≤100) (t:zAb X is r):zAb X is (.Constant (.str c) j p::r)
 | fld {i:Nat} {x:Str} {p p2:Pos} {r:List Expr} (hi:i∈is) (h:PE X (.Name x p) (zNn i)) (t:zAb X is r):zAb X is (.FormattedValue (.Name x p) (-1) none p2::r)
theorem zLd{is:List Nat}{c:Str}{j:Nat}{p:Pos}{r:List Expr}(t:zAb X is r)(h:c.length≤100:=by decide):zAb X is (.Constant (.str c) j p::r):=.con h t
theorem zO3(i:Nat){is:List Nat}{x:Str}{p p2:Pos}{r:List Expr}(t:zAb X is r)(hi:i∈is:=by decide)(hN:X.N[i]?=some x:=by rfl)(hv:Vis X.env.scope x:=by first | exact Or.inl rfl | exact Or.inr (Or.inl rfl) | exact Or.inr (Or.inr rfl))(hd:(x==("__debug__":Str))=false:=by decide)(hcd:(x==("__classdict__":Str))=false:=by decide) :
  zAb X is (.FormattedValue (.Name x p) (-1) none p2::r):=.fld hi (zCM hN hv hd hcd) t
theorem zJx:∀ n:Fin 100,(Str.ofString (toString ((n.val:Nat):Int))).length≤100:=by decide +kernel
theorem zEs{is:List Nat}{pins:List (Addr×Obj)}{σ1:L2.St}{H:Hp}(hs:∀ i∈is,∃ n:Nat,n<100∧σ1[i]?=some (some (.int n))){Qq:Str→Shared→Prop}(hq:∀ out s',L2.zP X pins σ1 H s'→out.length≤sizeLine→Qq out s') :
  ∀ {parts:List Expr},zAb X is parts→∀(acc:Str) (s:Shared),L2.zP X pins σ1 H s→acc.length+100*parts.length≤sizeLine→Joins (model X.prog X.w) X.A X.xe (evalEach parts X.env) acc Qq s
 | _,.nil,acc,s,I,hl=>hq acc s I (by simpa using hl)
 | _,.con (c:=c) (r:=r) h t,acc,s,I,hl=>by
  have hl':acc.length+100*(r.length+1)≤sizeLine:=by simpa using hl
  have e:(acc++c).length=acc.length+c.length:=Str.length_append _ _
  refine wpAny_Constant_str ⟨c,_,rfl,by omega,zEs hs hq t _ _ (I.tok _) (by omega)⟩
 | _,.fld (i:=i) (r:=r) hi h t,acc,s,I,hl=>by
  have hl':acc.length+100*(r.length+1)≤sizeLine:=by simpa using hl
  obtain⟨n,hn,hv⟩:=hs i hi
  refine wpAny_FormattedValue_plain (wB (h pins s σ1 H (fun v H'=>v=.int n∧H'=H) I ⟨_,hv,rfl,rfl⟩) fun u s1 hz=>?_)
  obtain⟨v,H',I1,rv,rfl,hH⟩:=hz
  rw[hH] at I1
  obtain⟨tk,rfl⟩:=rv
  have hlen:=zJx ⟨n,hn⟩
  dsimp only at hlen
  have e:(acc++Str.ofString (toString (n:Int))).length=acc.length+(Str.ofString (toString (n:Int))).length:=Str.length_append _ _
  refine wpAny_formatField_int ?_ ⟨_,_,rfl,by omega,zEs hs hq t _ _ (I1.tok _) (by omega)⟩
  have:((n:Int)).natAbs=n:=by simp
  rw[this]
  have h2:Nat.log2 n≤n:=Nat.log2_le_self n
  omega
noncomputable def xFs(is:List Nat):zm:=fun σ G R=>(∀ i∈is,∃ n:Nat,n<100∧look σ i=some (.int n))∧∀ x,R (.str x) G
theorem zO4(is:List Nat){v1 v2:Expr}{r:List Expr}{pos:Pos}(h:zAb X is (v1::v2::r))(hl:100*(v1::v2::r).length≤sizeLine:=by decide):E2 X (.JoinedStr (v1::v2::r) pos) (xFs is):=by
 intro pins s σ1 H Q I hq
 obtain⟨σ,G,R,rr,⟨q1,q2⟩,kk⟩:=hq
 refine wpAny_JoinedStr (zEs (fun i hi=>?_) (fun out s' I' ho=>?_) h Str.empty s I (by have:Str.empty.length=0:=rfl;omega))
 ·obtain⟨n,hn,hk⟩:=q1 i hi
  obtain⟨v,e1,e2⟩:=rr.val i _ (zAT hk)
  unfold zO at e2
  subst e2
  exact⟨n,hn,e1⟩
 ·exact⟨ho,.str out,H,I'.tok _,⟨_,rfl⟩,kk _ G (q2 out) _ H (.refl H) rr.g (by unfold zO;rfl)⟩
end
end L3
namespace L2
noncomputable def zO5:Value→Bool | .str _ _=>true | _=>false
noncomputable def zLe:Value→Bool | .int _ _=>true | _=>false
noncomputable def zPw:Value→Bool | .bool _=>true | _=>false
noncomputable def zO6(P:Addr):Option Value→Bool | some (.ref a)=>a==P | _=>false
noncomputable def zC8(K:PySem.W.Frag)(c P:Addr):Bool:=match K.lookup c with
 | some ⟨.type "code",_,.fields vs,_⟩=>zO6 P vs[11]?&&zO5 (vs.getD 18 .none)&&zLe (vs.getD 7 .none)&&zPw (vs.getD 9 .none)&&zLe (vs.getD 10 .none)&&!(c==P)
 | _=>false
theorem zFn{K:PySem.W.Frag}{c P:Addr}{h:Heap}(X:K.In h)(q:zC8 K c P=true):PySem.W.CodeHd h c P∧isCodeTable h P:=by
 unfold zC8 at q
 split at q
 ·rename_i d vs sl heq
  simp only[fF,fu,beq_eq_false_iff_ne] at q
  obtain⟨⟨⟨⟨⟨q1,q2⟩,q3⟩,q4⟩,q5⟩,q6⟩:=q
  have h11:vs[11]?=some (.ref P):=by
   generalize vs[11]?=v at q1
   cases v with
   | none=>cases q1
   | some v=>cases v<;>first | (have:=beq_iff_eq.mp (show(_==P)=true from q1);rw[this];done) | cases q1
  have hd:∀(b:Value→Bool) (v:Value),b v=true→b v=true:=fun u0 u0 z=>z
  obtain⟨s,t,e18⟩:∃ s t,vs.getD 18 .none=.str s t:=by
   generalize vs.getD 18 .none=v at q2
   cases v<;>first | exact⟨_,_,rfl⟩ | cases q2
  obtain⟨i,t2,e7⟩:∃ s t,vs.getD 7 .none=.int s t:=by
   generalize vs.getD 7 .none=v at q3
   cases v<;>first | exact⟨_,_,rfl⟩ | cases q3
  obtain⟨b,e9⟩:∃ s,vs.getD 9 .none=.bool s:=by
   generalize vs.getD 9 .none=v at q4
   cases v<;>first | exact⟨_,rfl⟩ | cases q4
  obtain⟨i2,t3,e10⟩:∃ s t,vs.getD 10 .none=.int s t:=by
   generalize vs.getD 10 .none=v at q5
   cases v<;>first | exact⟨_,_,rfl⟩ | cases q5
  have g:=X _ _ heq
  refine⟨⟨_,vs,s,t,i,t2,b,i2,t3,g,rfl,rfl,h11,?_,e18,e7,e9,e10,q6⟩,⟨c,_,vs,g,rfl,rfl,h11⟩⟩
  rw[Array.getD_eq_getD_getElem?,h11];rfl
 ·cases q
theorem zLf{K:PySem.W.Frag}{x:Str}{c P f:Addr}{oc:Value}{od:Option Addr}{fd:FuncData}{sl:Array (Option Value)}(h:PySem.W.tabIn K x=some (c,P))(h1:PySem.W.nsIn K mainGlobals x=some (some (.ref f)))(h2:K.lookup f=some ⟨oc,od,.func fd,sl⟩):fd.code=.ref c:=by
 unfold PySem.W.tabIn at h
 rw[h1] at h
 dsimp only at h
 rw[h2] at h
 dsimp only at h
 cases hc:fd.code<;>(rw[hc] at h;dsimp only at h)<;>try cases h
 rename_i c'
 split at h
 ·split at h
  ·cases h;rfl
  ·cases h
 ·cases h
structure zNe (K:PySem.W.Frag) (as ts:List Addr) (qn:Addr→Str):Prop where
 out:∀ P∈ts,P∉as
 code:∀ P∈ts,∃ c,zC8 K c P=true
 name:∀ x∈zA9,∀ c b,PySem.W.tabIn K x=some (c,b)→b∈ts∧qn b=x++".<locals>.<lambda>"
theorem lookup_none{K:PySem.W.Frag}{P:Addr}(h:P∉K.map (·.1)):K.lookup P=none:=by
 induction K with
 | nil=>rfl
 | cons p r ih =>
  rw[eZ,dC,not_or] at h
  obtain⟨a,o⟩:=p
  have hb:(P==a)=false:=by simpa using h.1
  rw[dW,hb]
  exact ih h.2
theorem zPx{K:PySem.W.Frag}{as ts:List Addr}{x:Str}(h:∃ c P,PySem.W.tabIn K x=some (c,P)∧zC8 K c P=true∧ts=[P])(hy:∀ y∈zA9,y=x∨PySem.W.tabIn K y=none)(ho:∀ P∈ts,P∉as):∃ qn,zNe K as ts qn:=by
 obtain⟨c,P,h1,h2,rfl⟩:=h
 refine⟨fun u0=>x++".<locals>.<lambda>",ho,fun P' hP=>?_,fun y hyy c' b e=>?_⟩
 ·rw[dq.mp hP];exact⟨c,h2⟩
 ·rcases hy y hyy with rfl | z
  ·rw[h1] at e;cases e;exact⟨dq.mpr rfl,rfl⟩
  ·rw[z] at e;cases e
theorem zJy{P':Program}{w:World}{K:PySem.W.Frag}{mg mb:Str→Option Value}{CX:CXT}{k:Nat}{fa a:Addr}{fd:FuncData}{x:Str}{sp:Sp}{s₁:Shared}{vs:List Value}{ns:List Int}{ts:List Addr}{qn:Addr→Str}
  (TB:TabsAt K s₁.heap ts qn) (KX:K.In s₁.heap) (hns:s₁.heap.Ns mainGlobals mg) (hb:s₁.heap.Ns builtinsNs mb) (hbb:∀ x:Str,x≠"__name__"→mb x=bootBuiltins x) (hlim:s₁.heap.NoLimit) (hg:s₁.gens=#[])
  (ha:s₁.heap.get? a=some { cls:=.type "list",data:=.seq vs.toArray }) (hi:IntsAre vs ns) (hl:ns.length≤sizeLine) (hr:zx k callerA)
  (hbm:BMn s₁.heap mg) (F:∀ base:Heap,K.In base→base.Ns mainGlobals mg→BMn base mg→zBb P' w K mg base CX k fa fd [x] sp) (hbind:∀(s:Shared) (u:Value),BindsTo s fd ⟨[u],[]⟩ [(x,u)])
  (hsp:∀ H:Hp,zMC H→SqL K H a (ns.map V.int)→sp [.ref a] H (fun v u0=>v=.bl true) fun u0 u0 u0=>False)
  (hCX:∀ H e s',CX [] H s₁ (fun u0 u0 u0=>False) e s'→False) :
  codeAny (model P' w) callerA (.call (.ref fa) ⟨[.ref a],[]⟩) (fun r s'=>r=.ok (.ret (.bool true))∧OldK s₁.heap s'.heap∧s'.os=s₁.os∧AllBare s'.gens) s₁:=by
 have rv:=zFQ hi
 have lenV:=hi.length
 -- from an abstract heap in which nothing but the script may be tracked
 have core:∀ H:Hp,zMC H→SqL K H a (ns.map V.int)→HOk P' w H s₁.heap→(∀ b,H b≠none→b=a∨b∈ts)→(H a≠none→K.lookup a=none)→(∀ P∈ts,H P=some (.tbl #[.str (qn P) 0])) →
   codeAny (model P' w) callerA (.call (.ref fa) ⟨[.ref a],[]⟩) (fun r s'=>r=.ok (.ret (.bool true))∧OldK s₁.heap s'.heap∧s'.os=s₁.os∧AllBare s'.gens) s₁:=by
  intro H hO hS hok hA hK hT
  have base_of:∀ {b:Addr} {o:Obj},s₁.heap.get? b=some o→H b=none→(zE0 s₁.heap H).get? b=some o:=fun e n=>zJ4 e n
  have noA:∀ {b:Addr} {o:Obj} {es:Array DictEntry} {ep:Nat},s₁.heap.get? b=some o→o.data=.dict es ep→H b=none:=fun {b o es ep} e d=>by
   cases q:H b with
   | none=>rfl
   | some u =>
    rcases hA b (by rw[q];simp) with e' | e'
    ·subst e'
     rw[ha] at e;cases e
     have d':Data.seq vs.toArray _=Data.dict es ep:=d
     cases d'
    ·rw[TB.obj b e'] at e;cases e
     have d':Data.fields #[]=Data.dict es ep:=d
     cases d'
  have nsK:∀ {b:Addr} {m:Str→Option Value},s₁.heap.Ns b m→(zE0 s₁.heap H).Ns b m:=fun {b m} ⟨o,es,ep,e,d,r⟩=>⟨o,es,ep,base_of e (noA e d),d,r⟩
  have hKb:K.In (zE0 s₁.heap H):=fun b o e=>base_of (KX b o e) (by
   cases q:H b with
   | none=>rfl
   | some u =>
    rcases hA b (by rw[q];simp) with e' | e'
    ·subst e'
     rw[hK (by rw[q];simp)] at e;cases e
    ·rw[TB.out b e'] at e;cases e)
  have hM:Mod K mg (zE0 s₁.heap H):=⟨hKb,nsK hns,⟨mb,nsK hb,hbb⟩,let ⟨mc,h1,h2⟩:=hlim;⟨mc,nsK h1,h2⟩⟩
  have e0:zEB P' w K mg (zE0 s₁.heap H) callerA [] s₁ H:=⟨rfl,hM,fun b o e=>zLt e,Nat.le_of_eq (zI8 _ _),trivial,fun b hb=>absurd (show b∈([]:List Addr) from hb) (by simp),hok,.of_eq hg,fun x hx c b e=>by
   obtain⟨z1,z2⟩:=TB.name x hx c b e
   exact⟨0,by rw[← z2];exact hT b z1⟩⟩
  have hbm':BMn (zE0 s₁.heap H) mg:=by
   obtain⟨bm,o,b1,b2,b5,b6,b7,b8⟩:=hbm
   refine⟨bm,o,b1,b2,base_of b5 ?_,b6,b7,b8⟩
   cases q:H bm with
   | none=>rfl
   | some u =>
    rcases hA bm (by rw[q];simp) with e' | e'
    ·subst e'
     rw[ha] at b5;cases b5;cases b8
    ·rw[TB.obj bm e'] at b5;cases b5;cases b8
  refine eV ((F _ hKb (nsK hns) hbm').run callerA [] s₁ H ⟨[.ref a],[]⟩ [.ref a] [.ref a] _ _ hr e0 (hbind s₁ (.ref a)) (.cons rfl .nil) (hsp H hO hS)) fun r s' h=>?_
  cases r with
  | error e=>exact(hCX H e s' h).elim
  | ok fl =>
   cases fl with
   | next=>exact False.elim h
   | brk=>exact False.elim h
   | cont=>exact False.elim h
   | ret u =>
    obtain⟨v,H',os,bare,un,hok',r',q⟩:=h
    have q':v=.bl true:=q
    subst q'
    obtain rfl:u=Value.bool true:=r'
    have K1:∀ b o,b∉ts→s₁.heap.get? b=some o→s'.heap.get? b=some o:=fun b o hb e=>by
     cases q:H b with
     | none=>exact un.keep b o e q (by intro z;exact absurd (show b∈([]:List Addr) from z) (by simp)) (by simp)
     | some u =>
      rcases hO b with z | ⟨ob,xs,z⟩ | ⟨ps,z⟩
      ·rw[q] at z;cases z
      ·have z2:=un.frzs b ob _ z
       obtain⟨e1,u0⟩:=hok b _ z
       obtain⟨e2,u0⟩:=hok' b _ z2
       rw[e] at e1;cases e1
       exact e2
      ·rcases hA b (by rw[q];simp) with e' | e'
       ·obtain⟨u0,u0,u0,u0,w1,u0⟩:=hok b _ z
        rw[e',ha] at w1;cases w1
       ·exact absurd e' hb
    have K2:∀ b,b∈ts→∃ vs,s'.heap.get? b=some (PySem.W.tabObj vs):=fun b hb=>by
     have z2:=un.tbls b _ (hT b hb)
     obtain⟨u0,u0,vs,u0,w1,u0⟩:=hok' b _ z2
     exact⟨vs,w1⟩
    refine⟨rfl,⟨fun b o e=>?_,fun b o e=>?_⟩,os,bare⟩
    ·by_cases hb:b∈ts
     ·obtain⟨vs,w1⟩:=K2 b hb
      rw[TB.obj b hb] at e
      cases e
      exact .inr (.inl ⟨TB.code b hb,rfl,#[],vs,rfl,by simpa using w1⟩)
     ·exact .inl (K1 b o hb e)
    ·by_cases hb:b∈ts
     ·obtain⟨vs,w1⟩:=K2 b hb
      exact⟨_,w1⟩
     ·exact⟨o,K1 b o hb e⟩
 have naT:∀ P∈ts,P≠a:=fun P hP z=>by
  have e:=TB.obj P hP
  rw[z,ha] at e;cases e
 have tok:∀(H:Hp),∀ P∈ts,wp P' w H s₁.heap P (.tbl #[.str (qn P) 0]):=fun H P hP=>⟨qn P,0,#[],rfl,TB.obj P hP,trivial,fun pos cv e=>by cases e⟩
 cases hk:K.lookup a with
 | some o =>
  -- the script is one of the module's own objects
  have e:=KX a o hk
  rw[ha] at e
  cases e
  refine core (fun b=>if b∈ts then some (.tbl #[.str (qn b) 0]) else none) (fun b=>?_) (.inr ⟨_,vs.toArray,_,hk,rfl,rfl,rfl,by rw[dg,lenV];exact hl,by simpa using rv⟩) (fun b u z=>?_) (fun b z=>?_) (fun z=>?_) fun P hP=>if_pos hP
  ·by_cases hb:b∈ts
   ·exact .inr (.inr ⟨_,if_pos hb⟩)
   ·exact .inl (if_neg hb)
  ·by_cases hb:b∈ts
   ·have z':=(if_pos hb).symm.trans z
    cases z'
    exact tok _ b hb
   ·have z':=(if_neg hb).symm.trans z
    cases z'
  ·by_cases hb:b∈ts
   ·exact .inr hb
   ·exact absurd (if_neg hb) z
  ·by_cases hb:a∈ts
   ·exact absurd rfl (naT a hb)
   ·exact absurd (if_neg hb) z
 | none =>
  refine core (fun b=>if b=a then some (.frz { cls:=.type "list",data:=.seq vs.toArray } (.lst (ns.map V.int))) else if b∈ts then some (.tbl #[.str (qn b) 0]) else none) (fun b=>?_) (.inl (.inr ⟨{ cls:=.type "list",data:=.seq vs.toArray },if_pos rfl⟩)) (fun b u z=>?_) (fun b z=>?_) (fun u0=>hk) fun P hP=>?_
  ·by_cases hb:b=a
   ·exact .inr (.inl ⟨_,_,if_pos hb⟩)
   ·by_cases hb2:b∈ts
    ·exact .inr (.inr ⟨_,(if_neg hb).trans (if_pos hb2)⟩)
    ·exact .inl ((if_neg hb).trans (if_neg hb2))
  ·by_cases hb:b=a
   ·have z':=(if_pos hb).symm.trans z
    cases z'
    subst hb
    exact⟨ha,by rw[d7];exact hl,vs,_,rv,ha⟩
   ·by_cases hb2:b∈ts
    ·have z':=((if_neg hb).trans (if_pos hb2)).symm.trans z
     cases z'
     exact tok _ b hb2
    ·have z':=((if_neg hb).trans (if_neg hb2)).symm.trans z
     cases z'
  ·by_cases hb:b=a
   ·exact .inl hb
   ·by_cases hb2:b∈ts
    ·exact .inr hb2
    ·exact absurd ((if_neg hb).trans (if_neg hb2)) z
  ·exact(if_neg (naT P hP)).trans (if_pos hP)
theorem zLg{l:PySem.W.OpenLaw}{n k:Nat}{q:Program}{loose:List Str}{XP:(Str→Option Value)→Heap→Prop}{YP:World→Heap→Prop}{d:DefRec}{K:Params→PySem.W.Frag}{CX:World→CXT}{sp:World→Sp}{x:Str}
  (hn:l.most=some n) (hn2:n≤sizeLine) (hdf:d.params.defaults=[]) (hr:zx k callerA)
  (hY:∀(w:World) (h:Heap),YP w h→(K w.params).In h∧∃ ts qn,TabsAt (K w.params) h ts qn)
  (F:∀(w:World) (mg:Str→Option Value) (fa:Addr) (h:Heap),(K w.params).In h→h.Ns mainGlobals mg→mg d.name=some (.ref fa) →
   ∃ fd:FuncData,(∀(s:Shared) (u:Value),BindsTo s fd ⟨[u],[]⟩ [(x,u)]) ∧
    ∀ base:Heap,(K w.params).In base→base.Ns mainGlobals mg→BMn base mg→zBb l.prog w (K w.params) mg base (CX w) k fa fd [x] (sp w))
  (hsp:∀(w:World) (H:Hp) (a:Addr) (ns:List Int),ns.length≤n→zMC H→SqL (K w.params) H a (ns.map V.int)→sp w [.ref a] H (fun v u0=>v=.bl true) fun u0 u0 u0=>False)
  (hCX:∀(w:World) (H:Hp) (s:Shared) (e:Value) (s':Shared),CX w [] H s (fun u0 u0 u0=>False) e s'→False) :
  PySem.W.WalkO q loose XP YP l.row.toRowW d [] (fun f vs=>PySem.call f vs):=by
 refine Att.zGS hn hdf fun w s₀ s₁ mg mb fa o pm cd doc a vs ns G Y ho hd hcd hmg hobj hints hlen hg=>?_
 obtain⟨KX,ts,qn,TB⟩:=hY w _ Y
 obtain⟨fd,hb,hF⟩:=F w mg fa _ KX G.T.g hmg
 exact zJy TB KX G.T.g G.T.b G.T.builtins G.T.nolimit hg hobj hints (eD hlen hn2) hr G.T.bmain hF hb (fun H hO hS=>hsp w H a ns hlen hO hS) fun H e s'=>hCX w H s₁ e s'
end L2
namespace L3
open L2
theorem zJz{l:PySem.W.OpenLaw}{k:Nat}{q:Program}{loose:List Str}{XP:(Str→Option Value)→Heap→Prop}{d:DefRec}{K:Params→PySem.W.Frag}{as:List Addr}{e:∀ P:Params,as=(K P).map (·.1)}{ts:List Addr}(hn:l.most=some 63)(hdf:d.params.defaults=[])(hr:zx k callerA)
  (hT:∀ w:World,∃ qn,zNe (K w.params) as ts qn)
  (F:∀(w:World) (mg:Str→Option Value) (fa:Addr) (h:Heap),(K w.params).In h→h.Ns mainGlobals mg→mg d.name=some (.ref fa) →
   ∃ fd:FuncData,(∀(s:Shared) (u:Value),BindsTo s fd ⟨[u],[]⟩ [("script",u)])∧∀ base:Heap,(K w.params).In base→base.Ns mainGlobals mg→BMn base mg→zBb l.prog w (K w.params) mg base CX0 k fa fd ["script"] (lSp (K w.params) zFc)) :
  PySem.W.WalkO q loose XP (PySem.W.kmHook K as e ts).says l.row.toRowW d [] (fun f vs=>PySem.call f vs) :=
 L2.zLg (K:=K) (n:=63) (k:=k) (x:="script") (CX:=fun u0=>CX0) (sp:=fun w=>lSp (K w.params) zFc) hn (by decide) hdf hr (fun w h Y=>⟨PySem.W.km_in_of Y,ts,by
  obtain⟨qn,t⟩:=hT w
  have KX:=PySem.W.km_in_of Y
  exact⟨qn,PySem.W.km_tabs_of Y,fun P hP=>lookup_none (by rw[← e w.params];exact t.out P hP),fun P hP=>(zFn KX (t.code P hP).choose_spec).2,t.name⟩⟩) F (fun u0 H a ns hl hO hS=>zOe hl hO hS) fun u0 u0 u0 u0 u0 z=>z
theorem zO7{P:Program}{w:World}{K:PySem.W.Frag}{mg:Str→Option Value}{base:Heap}{x qual:Str}{st:Stmt}{f:Addr}{fd:FuncData}{N ps:List Str}{k:Nat}{sp:Sp2}(t:yg)(F:Fun K x qual st f fd)(S:za N ps (zC st))
  (ht:∀(cdv:Value) (A:Around) (outer:List Env) (s:Shared) (H:Hp) (E:XK),fd.code=cdv→zx k (A.deeper (envOfC qual (zC st) s.heap.objs.size f cdv))→Ps2 (zAq CX0 P w K mg base N qual (zC st) f cdv A outer s H E).nox (zV st) t)
  (hs:∀ ds G R,sp ds G R→ds.length=ps.length∧t (zf R) (zS N ds) G):zBb P w K mg base CX0 (k+1) f fd ps (lSp K sp):=by
 have F0:=F.ex
 obtain⟨oc,od,kV,doc,pm,an,cdv,ct,osl,rfl,lk,hcd⟩:=F0
 refine zNJ lk hcd S ?_ ?_
 ·rintro vs H Q E ⟨ds,G,R,d,r,h,u0⟩
  rw[← d.length]
  exact(hs ds G R h).1
 ·intro A outer s H vs Q E hr h
  obtain⟨ds,G,R,d,r,h,kk⟩:=h
  refine⟨_,(ht cdv A outer s H E rfl hr).nox,zS N ds,G,_,zDH r d,(hs ds G R h).2,⟨?_,?_,?_,?_⟩⟩
  ·rintro σ G' ⟨G'',s',q'⟩ σ1 H' g' r'
   exact kk _ G'' q' _ H' g' (r'.g.sub s') (by unfold zO;rfl)
  ·intro σ G' h;exact h.elim
  ·intro σ G' h;exact h.elim
  ·rintro d' G' ⟨G'',s',q'⟩ v H' g' r' dv
   exact kk _ G'' q' _ H' g' (r'.sub s') dv
noncomputable def zO8(kind:Int)(cond:List D→Gp→(Gp→Prop)→Prop)(ta:wH):TL2:=fun σ G R=>ta σ G fun ds G2=>cond ds G2 fun G3=>R [.int kind] G3
noncomputable def zO9(osc sc:Scope):Bool:=decide (sc.kind=.function)&&!sc.isCoroutine&&!sc.isGenerator&&sc.names.all (fun y=>decide (y.2≠.cell))&&sc.names.all (fun y=>decide (y.2≠.local))&&sc.names.all (fun y=>decide (y.2=.free→osc.names.lookup y.1=some .cell∨osc.names.lookup y.1=some .free))
theorem zLh{env:Env}{osc sc:Scope}(h:zO9 osc sc=true)(e:env.scope=osc):zG6 env sc:=by
 subst e
 unfold zO9 at h
 simp only[fF,decide_eq_true_eq,List.all_eq_true,fu] at h
 obtain⟨⟨⟨⟨⟨h1,h2⟩,h3⟩,h4⟩,h5⟩,h6⟩:=h
 exact⟨h1,h2,h3,h4,h5,h6⟩
theorem zI3{X:Cx}{osc:Scope}{x:Str}{c P:Addr}{params:Arguments}{body:Expr}{sc:Scope}(h:zO9 osc sc=true)(code:X.env.code=.ref c)(hd:PySem.W.CodeHd X.base c P)(blt:BMn X.base X.mg)(tab:PySem.W.tabIn X.K x=some (c,P))(mem:x∈zA9)(qual:X.env.qual++"<lambda>"=x++".<locals>.<lambda>")(df:defaultsOf params X.env=([],[]))
  (bd:∀(q:Str) (cl:List (Str×Addr)) (pm cv ctv:Value),bindArgs (PySem.W.kla_fn "<lambda>" q params body sc cl pm cv ctv) ⟨[],[]⟩=pure []) (e:X.env.scope=osc:=by rfl):zI2 X x c P params body sc :=
 ⟨zLh h e,code,hd,blt,qual,mem,tab,df,bd⟩
theorem zNf{X:Cx}{st:Stmt}{f:Addr}{fd:FuncData}{N:List Str}{k:Nat}{C Cc c P:Addr}{kind:Int}{x:Str}{rest:List Stmt}{params:Arguments}{body:Expr}{sc:Scope}{cond:List D→Gp→(Gp→Prop)→Prop}{ta:wH}{trest:Addr→yg}{p lp pos:Pos}
  (F:Fun X.K "_law_refused" "_law_refused" st f fd) (S:za N ["call"] (zC st)) (hm:X.mg "_law_refused"=some (.ref f)) (hb:Binds X.K fd ["call"] []) (hr:zx (k+2) X.A) (hgl:Gl X "_law_refused") (B:zI1 st N rest)
  (hCc:X.mg "ChordError"=some (.ref Cc)) (hxm:PySem.W.exmOne X.K (.ref C) (.ref Cc)=some true)
  (hrest:∀(cdv:Value) (A:Around) (outer:List Env) (s:Shared) (H:Hp) (e:Addr) (oe:Obj),zx (k+1) (A.deeper (envOfC "_law_refused" (zC st) s.heap.objs.size f cdv))→oe.cls=.ref C→Ps2 (zJv (zAq CX0 X.prog X.w X.K X.mg X.base N "_law_refused" (zC st) f cdv A outer s H E0).nox e oe) rest (trest e))
  (hres:∀(e:Addr) (G:Gp) (R:Q2),(∀ l,G.m l=none→R (.adr l) (zQ G l [.int kind]))→trest e (zf R) ((di N.length none).set 1 (some (.adr e))) G)
  (L:zI2 X x c P params body sc) (hlam:∀(g:Addr) (cv:Value) (A:Around) (outer:List Env) (s:Shared) (H:Hp),zx k (A.deeper (zDY sc (zAS sc X.env) (x++".<locals>.<lambda>") g cv s.heap.objs.size))→Xe (zG5 X sc (x++".<locals>.<lambda>") g cv A outer s H) C body (fun E σ G=>ta σ G fun ds G2=>cond ds G2 E)) :
  F2 X (.Call (.Name "_law_refused" p) [.Lambda params body sc lp] [] pos) (zO8 kind cond ta) :=
 zJw (t:=fun E σ G=>ta σ G fun ds G2=>cond ds G2 E) F S hm hb hr hgl B hCc hxm hrest hres L hlam
end L3
namespace K
open L2 L3
noncomputable def zA6(ex:Addr)(b_TooMany b_NoTie b_NoSplit b_NoName b_BadNote:Bool):yg:=(zX (zp (zl (wA (zA (zG7 1 ex b_TooMany) (zA (zG7 1 ex b_NoTie) (zA (zG7 1 ex b_NoSplit) zI))))) (gN 3)) (zX (zp (zl (zIY (zD 3) (zl (wA (zA (zG7 1 ex b_NoName) (zA (zG7 1 ex b_BadNote) zI)))))) (gN 3)) (zX (xIf (zBe (xB (zG7 1 ex true))) (yC (xC .non)) yN) (yC (zl (yT (iR1 (zA (xC (.int 5)) zI)) bd1 (xB (zW wD (zD 3) (zD 4))) (zD 4)))))))
theorem zPy{σ:S2}{G:Gp}{ta tb:zm}{R:List D→Gp→Prop}(h:ta σ G fun x G1=>tb σ G1 fun y G2=>match x,y with | D.adr l,D.adr m=>∃ xs ys,G2.m l=some xs∧G2.m m=some ys∧xs.length+ys.length≤1000000∧R (xs++ys) G2 | _,_=>False):zIY ta tb σ G R:=h
theorem zPA{σ:S2}{G:Gp}{t u:zm}{l:Addr}{ds:List D}{k:Int}{d:D}(h:yA t σ G (.adr l))(h':yA u σ G (.int k))(hl:Ls G l ds)(e:atI ds k=some d):yA (zW wD t u) σ G d:=wu h h' fun G2 e2 R q=>⟨ds,d,e2.ls hl,e,q⟩
theorem zLi{G G':Gp}{l:Addr}{ds:List D}(h:Sub G G'):Sub (zQ G l ds) (zQ G' l ds):=⟨fun a o e=>by
 by_cases ha:a=l
 ·subst ha;rw[zG] at e ⊢;exact e
 ·rw[zb ha] at e ⊢;exact h.m a o e,fun a o e=>h.ro a o e⟩
theorem zLj{G G':Gp}{x:Addr}(h:Sub G G')(n:G'.m x=none):G.m x=none:=by
 cases q:G.m x with
 | none=>rfl
 | some o=>rw[h.m x o q] at n;cases n
theorem zHA{tl:TL2}{i:Nat}{u:yg}{E:zy}{σ:S2}{G:Gp}{ds:List D}(h:PuL tl σ G ds)(h':∀ l,G.m l=none→u E (σ.set i (some (.adr l))) (zQ G l ds)):zX (zp (zl tl) (gN i)) u E σ G:=h G (.refl G) _ h'
theorem zHB{tl:TL2}{i:Nat}{u:yg}{E:zy}{σ:S2}{G:Gp}(h:tl σ G fun ds G'=>∀ l,G'.m l=none→u E (σ.set i (some (.adr l))) (zQ G' l ds)):zX (zp (zl tl) (gN i)) u E σ G:=h
theorem zNg{i:Nat}{σ:S2}{G:Gp}{R:Q2}{d:D}(h:look σ i=some d)(h':R d G):zD i σ G R:=by unfold zD;rw[h];exact h'
theorem zIE{tc:TT2}{t u v:yg}{E:zy}{σ:S2}{G:Gp}(h:xIf tc t u { E with nx:=v E } σ G):zX (xIf tc t u) v E σ G:=h
theorem zLk{tl:TL2}{E:zy}{σ:S2}{G:Gp}{ds:List D}(h:PuL tl σ G ds)(h':∀ l,G.m l=none→E.rt (.adr l) (zQ G l ds)):yC (zl tl) E σ G:=h G (.refl G) _ h'
noncomputable def zPz(bs:List Bool):D→Bool | .int k=>bs.getD k.toNat false | _=>false
theorem zJ0{b0 b1 b2 b3 b4:Bool}{e:Addr}{G:Gp}{R:Q2}{ks:List D}(hks:((zw 0 5).filter (zPz [b0,b1,b2,b3,b4])).map id=ks)(h:∀ l,G.m l=none→R (.adr l) (zQ G l ks)) :
  zA6 e b0 b1 b2 b3 b4 (zf R) ((di 4 none).set 1 (some (.adr e))) G:=by
 unfold zA6
 refine zHA (ds:=[.bl b0,.bl b1,.bl b2]) (fun G2 e2 R2 q=>⟨rfl,rfl,rfl,(show 3≤sizeLine by decide),q⟩) fun l1 n1=>?_
 show zX _ _ _ [none,some (.adr e),none,some (.adr l1)] (zQ G l1 [.bl b0,.bl b1,.bl b2])
 refine zHB (zPy (zNg (d:=.adr l1) rfl ?_))
 refine zFe (ds:=[.bl b3,.bl b4]) (fun G2 e2 R2 q=>⟨rfl,rfl,(show 2≤sizeLine by decide),q⟩) fun l2 n2=>?_
 have n12:l1≠l2:=fun z=>by rw[← z,zG] at n2;cases n2
 refine⟨[.bl b0,.bl b1,.bl b2],[.bl b3,.bl b4],by rw[zb n12];exact zG,zG,(show 3+2≤1000000 by decide),fun l3 n3=>?_⟩
 show zX _ _ _ [none,some (.adr e),none,some (.adr l3)] _
 generalize hG3:zQ (zQ (zQ G l1 [.bl b0,.bl b1,.bl b2]) l2 [.bl b3,.bl b4]) l3 ([.bl b0,.bl b1,.bl b2]++[.bl b3,.bl b4])=G3
 have hs:Sub G G3:=by rw[← hG3];exact((Sub.new n1).trans (.new n2)).trans (.new n3)
 have hl:Ls G3 l3 [.bl b0,.bl b1,.bl b2,.bl b3,.bl b4]:=by rw[← hG3];exact .own
 refine zIE (zKn (zIX (b:=true) (zCl fun G2 e2 R2 q=>⟨rfl,q⟩)) ?_)
 show yC (zl (yT (iR1 (zA (xC (.int 5)) zI)) bd1 (xB (zW wD (zD 3) (zD 4))) (zD 4))) (zf R) [none,some (.adr e),none,some (.adr l3)] G3
 refine zLk (ds:=ks) ?_ fun l4 n4=>⟨zQ G l4 ks,zLi hs,h l4 (zLj hs n4)⟩
 rw[← hks]
 refine zCn (zPz [b0,b1,b2,b3,b4]) id (fun x=>[x]) (zDJ (j:=5) (zH yp zU) (by decide)) fun x hx=>⟨rfl,zCl ?_,fun u0=>zF rfl⟩
 obtain⟨k,hk,rfl⟩:=dI.mp hx
 have hk5:k<5:=dL.mp hk
 refine zPA (l:=l3) (zF rfl) (zF rfl) hl ?_
 match k,hk5 with
 | 0,_=>rfl
 | 1,_=>rfl
 | 2,_=>rfl
 | 3,_=>rfl
 | 4,_=>rfl
theorem zDk(e:Addr)(G:Gp)(R:Q2)(h:∀ l,G.m l=none→R (.adr l) (zQ G l [.int 0])):zA6 e true false false false false (zf R) ((di 4 none).set 1 (some (.adr e))) G:=zJ0 rfl h
end K
namespace L3
open L2
theorem zLl{X:Cx}{pins:List (Addr×Obj)}{σ1:L2.St}{σ:S2}{G:Gp}{R:Gp→Prop}{H1 H2:Hp}{s1 s2:Shared}{sc:Scope}{q:Str}{g:Addr}{cv ctv pm:Value}{A:Around}{outer:List Env}{k:Nat}{params:Arguments}{body:Expr}{t:zm}
  (I:L2.zP X pins σ1 H1 s1) (T:zG6 X.env sc) (un:Un (wq X.stack) [] H1 H2 s1.heap s2.heap) (e0:zEB X.prog X.w X.K X.mg X.base A outer s2 H2) (hr:zx (k+1) A)
  (hbd:bindArgs (PySem.W.kla_fn "<lambda>" q params body sc (zAS sc X.env) pm cv ctv) ⟨[],[]⟩=pure [])
  (hg:s2.heap.get? g=some { cls:=.type "function",data:=.func (PySem.W.kla_fn "<lambda>" q params body sc (zAS sc X.env) pm cv ctv) }) (lc:zGE H2 cv q)
  (hx:E2 (zG5 X sc q g cv A outer s2 H2) body t) (r:Rel X.K σ G σ1 H2) (ht:t σ G fun u0 G'=>R G') :
  codeAny (model X.prog X.w) A (.call (.ref g) ⟨[],[]⟩) (CR CX0 outer X.prog X.w H2 s2 (fun u0 H'=>zj H2 H'∧∃ G',zo X.K G' H'∧R G') E0) s2:=by
 obtain⟨c,o,us,t',rfl,z2,z3,z4⟩:=lc
 have hcr:s2.heap.CodeRec (.ref c) q:=⟨c,o,us,t',rfl,(e0.hok c _ z2).1,z3,z4⟩
 have lim:s2.heap.NoLimit:=e0.mod.nolimit.keeps fun b o e=>(e0.bs b o e).1
 refine PySem.W.kla_callFunE hr.depth hg rfl T.co T.gen rfl hcr ?_
 rw[hbd]
 refine cT (wpAny_newFunctionEnv T.nocell (fun y hy=>absurd hy (by simp)) (fun h' ns sb=>?_) T.kind)
 have kp:∀ b o,s2.heap.get? b=some o→h'.get? b=some o:=fun b o e=>by
  rw[sb.2 b (dB (db e))]
  exact cQ _ e
 refine⟨lim.keeps kp,PySem.W.kla_codeExpr ?_⟩
 have I2:=zIz (q:=q) (g:=g) (cv:=.ref c) (tk:=s2.toks+0) I T un e0 hr ns kp
 refine eN (hx [] _ σ1 H2 (fun u0 H'=>zj H2 H'∧∃ G',zo X.K G' H'∧R G') I2 ⟨σ,G,_,r,ht,fun d G' q v H' g r' dv=>⟨g,G',r',q⟩⟩) (fun u s' z=>?_) fun v s' z=>z.elim
 obtain⟨v,H',J,rv,q⟩:=z
 exact⟨v,H',J.os,J.bare,J.base,J.hok,rv,q⟩
theorem zLm{X:Cx}{e:Expr}{t u:zm}(h:E2 X e t)(h':E2 X e u):E2 X e (fun σ G R=>t σ G R∨u σ G R):=by
 intro pins s σ1 H Q I hq
 obtain⟨σ,G,R,r,ht,kk⟩:=hq
 rcases ht with ht | ht
 ·exact h pins s σ1 H Q I ⟨σ,G,R,r,ht,kk⟩
 ·exact h' pins s σ1 H Q I ⟨σ,G,R,r,ht,kk⟩
theorem zI4{X:Cx}{st:Stmt}{f:Addr}{fd:FuncData}{N:List Str}{k:Nat}{c P:Addr}{x:Str}{rest:List Stmt}{params:Arguments}{body:Expr}{sc:Scope}{t:zm}{trest:yg}{p lp pos:Pos}
  (F:Fun X.K "_law_refused" "_law_refused" st f fd) (S:za N ["call"] (zC st)) (hm:X.mg "_law_refused"=some (.ref f)) (hb:Binds X.K fd ["call"] []) (hr:zx (k+2) X.A) (hgl:Gl X "_law_refused") (B:zI1 st N rest)
  (hrest:∀(cdv:Value) (A:Around) (outer:List Env) (s:Shared) (H:Hp),zx (k+1) (A.deeper (envOfC "_law_refused" (zC st) s.heap.objs.size f cdv))→Ps2 (zAq CX0 X.prog X.w X.K X.mg X.base N "_law_refused" (zC st) f cdv A outer s H E0).nox rest trest)
  (hres:∀(G:Gp) (R:Q2),R .non G→trest (zf R) ((di N.length none).set 1 (some .non)) G)
  (L:zI2 X x c P params body sc) (hlam:∀(g:Addr) (cv:Value) (A:Around) (outer:List Env) (s:Shared) (H:Hp),zx k (A.deeper (zDY sc (zAS sc X.env) (x++".<locals>.<lambda>") g cv s.heap.objs.size))→E2 (zG5 X sc (x++".<locals>.<lambda>") g cv A outer s H) body t) :
  E2 X (.Call (.Name "_law_refused" p) [.Lambda params body sc lp] [] pos) (fun σ G R=>t σ G fun u0 G'=>R .non G'):=by
 intro pins s σ1 H Q I hq
 obtain⟨σ,G,R,r,ht,kk⟩:=hq
 refine eI (zBs I hgl hm ?_)
 refine PySem.W.callWith_K (h₀:=X.base) I.ok.mod.kin F.kp ?_
 obtain⟨tq,hP⟩:=I.tabs x L.mem c P L.tab
 show wpAny _ _ (spliced ((false,eval (.Lambda params body sc lp) X.env)::backTo pos (starEach [] X.env))) _ _ s
 refine Calls.spliced_cons (zFm I L.hsc.cap L.df L.code L.hd L.blt L.qual hP fun g H1 s1 cv ctv pm I1 sm un1 hsz hg0 hgo lc=>?_)
 refine Calls.spliced_nil ⟨I1.kIn,wpAny_call ?_⟩
 obtain⟨oc,od,kV,doc,pm2,an,cdv,ct,osl,rfl,lk,hcd⟩:=F.ex
 have hg3:g∉wq X.stack:=fun z=>by
  obtain⟨u0,o,ho,u0⟩:=I.stack.mem z
  exact absurd (dk (db ho) hsz) (eG _)
 let Q1:VK:=fun v H'=>v=.non∧zj H H'∧∃ G',zo X.K G' H'∧R .non G'
 have core:codeAny (model X.prog X.w) X.A (.call (.ref f) ⟨[.ref g],[]⟩) (CR CX0 X.stack X.prog X.w H1 s1 Q1 E0) s1:=by
  have e0:=I1.env0
  have KX:X.K.In s1.heap:=I1.kIn
  have lim:s1.heap.NoLimit:=I1.nolimit
  have hkind:∀ y∈[("call":Str)].zip [Value.ref g],(zC st).names.lookup y.1=some .local∨((zC st).names.lookup y.1=some .cell∧((cellsFrom (s1.heap.objs.size+1) (zC st).names []).lookup y.1).isSome=true):=fun⟨n,v⟩ hy=>by
   rcases S.par n (gT hy).1 with q | q
   ·exact .inl q
   ·exact .inr ⟨q,PySem.W.cellsFrom_some _ _ _ (.inl q)⟩
  have hbd:=hb s1 [.ref g] KX rfl
  refine codeAny_call_function hr.depth (KX _ _ lk) rfl S.co S.gen rfl (PySem.W.codeRec_of KX hcd) (hbd _ _ _ _ ?_)
  refine gD S.kind hkind fun env he s2 x2=>?_
  subst he
  refine⟨lim.keeps x2.toInCall.keep,codeAny_func ?_⟩
  have J0:zP (zAq CX0 X.prog X.w X.K X.mg X.base N "_law_refused" (zC st) f cdv X.A X.stack s1 H1 E0).nox [] (start N [.ref g]) H1 s2:=(zBt (vs:=[.ref g]) (us:=[.ref g]) S hr.hd e0 rfl (.cons (show RelV (.ref g) (.ref g) from rfl) .nil) x2).wish _
  have hrr:zx (k+1) (X.A.deeper (envOfC "_law_refused" (zC st) s1.heap.objs.size f cdv)):=hr.deeper _
  obtain⟨j1,p1,p2,p3,p4,p5,p6,p7,p8,p9,p10,p11,p12,hbody⟩:=B.body
  rw[hbody]
  have hl3:3≤N.length:=by have:=(d8.mp B.n2).1;omega
  have st0:(start N [.ref g])[0]?=some (some (.ref g)):=rfl
  refine eS (wpAny_Assign_Name (eN (zHJ (X:=(zAq CX0 X.prog X.w X.K X.mg X.base N "_law_refused" (zC st) f cdv X.A X.stack s1 H1 E0).nox) [] s2 _ H1 (fun v H'=>v=.non∧H'=H1) J0 ⟨rfl,rfl⟩) (fun u s3 hz=>?_) (fun u0 u0 z=>z.elim)) rfl)
  obtain⟨v,H',J1,rv,rfl,hH⟩:=hz
  rw[hH] at J1
  refine zAv J1 S.nd B.n1 (.inl B.l1) rv (fun s4 J2=>?_) (.inr B.l1)
  dsimp only
  have hgs:s4.heap.get? g=some { cls:=.type "function",data:=.func (PySem.W.kla_fn "<lambda>" (x++".<locals>.<lambda>") params body sc (zAS sc X.env) pm cv ctv) }:=J2.base.keep g _ hgo hg0 hg3 (by intro z;exact absurd (show g∈([]:List Addr) from z) (by simp))
  have run:=zLl (X:=X) (pins:=pins) (σ1:=σ1) (R:=fun G'=>R .non G') I1 L.hsc J2.base J2.env0 hrr (L.bd _ _ _ _ _) hgs lc (hlam g cv _ _ s4 _ (hrr.deeper _)) (r.to sm.grow (r.g.same sm)) ht
  refine eS (wpAny_Try_except (eS (wpAny_Expr_any (eI (zID J2 B.n0 B.l0 (by rw[eH (by decide)];exact st0) (by decide) fun u r=>?_)) J2.quiet rfl)))
  obtain rfl:u=Value.ref g:=r
  refine PySem.W.callWith_F0 ⟨_,_,_,_,hgs⟩ (wpAny_call (eV run fun rr s' hq'=>?_))
  cases rr with
  | error e=>exact hq'.elim
  | ok fl =>
   cases fl with
   | next=>exact hq'.elim
   | brk=>exact hq'.elim
   | cont=>exact hq'.elim
   | ret u =>
    obtain⟨v,H',J3,rv3,gr,G',rg,hR⟩:=J2.after hq'
    refine gB (gB ?_)
    dsimp only
    let D:Ends:={ nx:=fun u0 H''=>Q1 .non H'',rt:=Q1 }
    let R2:Q2:=fun d G''=>d=.non∧R .non G''
    have hG:zj H H':=sm.grow.trans gr
    refine eN (hrest cdv X.A X.stack s1 H1 hrr [] s' _ H' D J3 ⟨_,G',zf R2,⟨rg,?_,?_⟩,hres G' R2 ⟨rfl,hR⟩,⟨?_,?_,?_,?_⟩⟩) (fun fl s'' hs=>?_) (fun u0 u0 z=>z.elim)
    ·simp[L2.start];omega
    ·intro i d e1
     by_cases hi:i=1
     ·subst hi
      rw[dU (by simp;omega)] at e1
      cases e1
      refine⟨.non,?_,by unfold zO;rfl⟩
      rw[dU (by simp[L2.start];omega)]
     ·rw[eH (Ne.symm hi),fG] at e1
      split at e1<;>cases e1
    ·rintro σ' G1 ⟨G2,s2',u0,h2⟩ σ1' H2 g2 r2
     exact⟨rfl,hG.trans g2,G2,r2.g.sub s2',h2⟩
    ·intro u0 u0 z;exact z.elim
    ·intro u0 u0 z;exact z.elim
    ·rintro d G1 ⟨G2,s2',rfl,h2⟩ v H2 g2 r2 dv
     unfold zO at dv
     subst dv
     exact⟨rfl,hG.trans g2,G2,r2.sub s2',h2⟩
    ·cases fl with
     | ret u =>
      obtain⟨v,σ',H2,J,rv2,q⟩:=hs
      exact⟨v,H2,J.os,J.bare,J.base,J.hok,rv2,q⟩
     | next =>
      obtain⟨σ',H2,J,q⟩:=hs
      exact⟨.non,H2,J.os,J.bare,J.base,J.hok,rfl,q⟩
     | brk=>obtain⟨u0,u0,u0,q⟩:=hs;exact q.elim
     | cont=>obtain⟨u0,u0,u0,q⟩:=hs;exact q.elim
 refine eV core fun rr s' hq'=>?_
 cases rr with
 | error e=>exact hq'.elim
 | ok fl =>
  cases fl with
  | ret u =>
   obtain⟨v,H',J,rv,rfl,a6,G',a2,a1⟩:=I1.after hq'
   exact⟨.non,H',J,rv,kk _ G' a1 _ H' a6 a2 (by unfold zO;rfl)⟩
  | next=>exact hq'.elim
  | brk=>exact hq'.elim
  | cont=>exact hq'.elim
noncomputable def zHC(i:Nat):zm:=fun σ G R=>look σ i=some .non∧R (.bl false) G
section
variable {X:Cx}
theorem zHD{c:Value}{vc:V}{b:Bool}(hv:∀ u,RelV vc u→u=c)(hb:PySem.W.kitOne X.K (.type "NoneType") c=some b):yy X (.builtin "isinstance") (fun xs H Q=>xs=[.non,vc]∧Q (.bl b) H):=by
 intro pins s σ H xs us Q I rv h
 obtain⟨rfl,q⟩:=h
 obtain⟨w1,w2,rfl,r1,r2⟩:=vals2 rv
 obtain rfl:w1=Value.none:=r1
 obtain rfl:=hv w2 r2
 exact PySem.W.kia_one PySem.W.kitx_none I.kIn trivial hb (fun z=>nomatch z) fun tk=>⟨.bl b,H,I.tok _,rfl,q⟩
theorem zEt(i:Nat){x cn:Str}{D:Addr}{p p1 p2 pos:Pos}(hg:Gl X "isinstance")(hm:X.mg "isinstance"=none)(hg2:Gl X cn)(hD:X.mg cn=some (.ref D))(hb:PySem.W.kitOne X.K (.type "NoneType") (.ref D)=some false)
  (hN:X.N[i]?=some x:=by rfl) (hv:Vis X.env.scope x:=by first | exact Or.inl rfl | exact Or.inr (Or.inl rfl) | exact Or.inr (Or.inr rfl)) (hd:(x==("__debug__":Str))=false:=by decide) (hcd:(x==("__classdict__":Str))=false:=by decide) (hdb:(cn==("__debug__":Str))=false:=by decide) :
  E2 X (.Call (.Name "isinstance" p) [.Name x p1,.Name cn p2] [] pos) (zHC i):=by
 refine PE.mono (zAw (zHD (vc:=.ref D) (fun u r=>r) hb) hg hm (by decide +kernel) (yS (zCM hN hv hd hcd) (yS (zFr hg2 hD (v:=.ref D) rfl hdb) zAA rfl) rfl)) ?_
 rintro σ1 H Q ⟨σ,G,R,r,⟨q1,q2⟩,kk⟩
 obtain⟨v,e1,e2⟩:=r.val i _ (zAT q1)
 unfold zO at e2
 subst e2
 exact⟨_,e1,rfl,kk _ G q2 _ H (.refl H) r.g (by unfold zO;rfl)⟩
theorem zNE(i:Nat){x:Str}{p p1 p2 pos:Pos}(hg:Gl X "isinstance")(hm:X.mg "isinstance"=none)(hg2:Gl X "ValueError")(hm2:X.mg "ValueError"=none)(hb:PySem.W.kitOne X.K (.type "NoneType") (.type "ValueError")=some false)
  (hN:X.N[i]?=some x:=by rfl) (hv:Vis X.env.scope x:=by first | exact Or.inl rfl | exact Or.inr (Or.inl rfl) | exact Or.inr (Or.inr rfl)) (hd:(x==("__debug__":Str))=false:=by decide) (hcd:(x==("__classdict__":Str))=false:=by decide) :
  E2 X (.Call (.Name "isinstance" p) [.Name x p1,.Name "ValueError" p2] [] pos) (zHC i):=by
 refine PE.mono (zAw (zHD (vc:=.ty "ValueError") (fun u r=>r) hb) hg hm (by decide +kernel) (yS (zCM hN hv hd hcd) (yS (zIM (v:=.ty "ValueError") hg2 hm2 (by decide +kernel) rfl) zAA rfl) rfl)) ?_
 rintro σ1 H Q ⟨σ,G,R,r,⟨q1,q2⟩,kk⟩
 obtain⟨v,e1,e2⟩:=r.val i _ (zAT q1)
 unfold zO at e2
 subst e2
 exact⟨_,e1,rfl,kk _ G q2 _ H (.refl H) r.g (by unfold zO;rfl)⟩
end
noncomputable def zFo(kind:Int)(cond:List D→Gp→(Gp→Prop)→Prop)(sp:Sp2)(ta:wH):zm:=fun σ G R=>zl (zO8 kind cond ta) σ G R∨zL sp ta σ G fun u0 G'=>R .non G'
theorem zLn{X:Cx}{e:Expr}{kind:Int}{cond:List D→Gp→(Gp→Prop)→Prop}{sp:Sp2}{ta:wH}(h:F2 X e (zO8 kind cond ta))(h':E2 X e (fun σ G R=>zL sp ta σ G fun u0 G'=>R .non G')):E2 X e (zFo kind cond sp ta):=zLm (zz h) h'
end L3
namespace K
open L2 L3
noncomputable def zt:List D→Gp→(Gp→Prop)→Prop:=fun ds G E=>∃ a b:Nat,ds=[nD a,nD b]∧b<a∧b<100∧E G
noncomputable def wV:(Gp→Prop)→S2→Gp→Prop:=(fun E σ G=>(xB (zW (fII fun i j=>.bl (decide (j<i))) (zD 0) (zD 1))) σ G fun b G2=>b=true∧(fun E σ G=>(xFs [1]) σ G fun u0 G2=>E G2) E σ G2)
theorem zPB{σ:S2}{G:Gp}{t u:zm}{a b:Nat}{c:Bool}(h:yA t σ G (nD a))(h':yA u σ G (nD b))(e:decide (b<a)=c):yA (zW (fII fun i j=>.bl (decide (j<i))) t u) σ G (.bl c):=by
 have:=zFa (g:=fun i j=>.bl (decide (j<i))) h h'
 have e2:decide ((b:Int)<(a:Int))=c:=by rw[← e];simp
 rw[e2] at this
 exact this
theorem zEu(ds:List D)(G:Gp)(E:Gp→Prop)(h:zt ds G E):ds.length=2∧wV E (zS ["many","most"] ds) G:=by
 obtain⟨a,b,rfl,hab,hb,h⟩:=h
 refine⟨rfl,?_⟩
 unfold wV
 refine(zCl (zPB (σ:=[some (nD a),some (nD b)]) (G:=G) (a:=a) (b:=b) (c:=true) (zF (i:=0) rfl) (zF (i:=1) rfl) (by simp;omega))) G (.refl G) _ ⟨rfl,fun k hk=>?_,fun x=>h⟩
 rw[dq.mp hk]
 exact⟨b,hb,rfl⟩
noncomputable def zBU:yg:=(zX (zp (zl (wA (zA (zHC 1) (zA (zHC 1) (zA (zHC 1) zI))))) (gN 3)) (zX (zp (zl (zIY (zD 3) (zl (wA (zA (zHC 1) (zA (zHC 1) zI)))))) (gN 3)) (zX (xIf (zBe (xB (zHC 1))) (yC (xC .non)) yN) (yC (zl (yT (iR1 (zA (xC (.int 5)) zI)) bd1 (xB (zW wD (zD 3) (zD 4))) (zD 4)))))))
theorem res_none(G:Gp)(R:Q2)(h:R .non G):zBU (zf R) ((di 4 none).set 1 (some .non)) G:=by
 unfold zBU
 refine zHA (ds:=[.bl false,.bl false,.bl false]) (fun G2 e2 R2 q=>⟨rfl,rfl,rfl,(show 3≤sizeLine by decide),q⟩) fun l1 n1=>?_
 show zX _ _ _ [none,some .non,none,some (.adr l1)] (zQ G l1 [.bl false,.bl false,.bl false])
 refine zHB (zPy (zNg (d:=.adr l1) rfl ?_))
 refine zFe (ds:=[.bl false,.bl false]) (fun G2 e2 R2 q=>⟨rfl,rfl,(show 2≤sizeLine by decide),q⟩) fun l2 n2=>?_
 have n12:l1≠l2:=fun z=>by rw[← z,zG] at n2;cases n2
 refine⟨[.bl false,.bl false,.bl false],[.bl false,.bl false],by rw[zb n12];exact zG,zG,(show 3+2≤1000000 by decide),fun l3 n3=>?_⟩
 show zX _ _ _ [none,some .non,none,some (.adr l3)] _
 refine zIE (zKo (zIX (b:=false) (zCl fun G2 e2 R2 q=>⟨rfl,q⟩)) ?_)
 exact zES (d:=.non) yp ⟨G,((Sub.new n1).trans (.new n2)).trans (.new n3),h⟩
noncomputable def yw:List D→Gp→(Gp→Prop)→Prop:=fun ds G E=>∃(n:Nat) (q:Nat×Nat→Bool),ds=[zn n q]∧7<n∧E G
noncomputable def zBV:(Gp→Prop)→S2→Gp→Prop:=(fun E σ G=>(zA (zW wD (zD 0) (xC (.int 0))) (zA (xC (.int 7)) zI)) σ G fun ds G2=>zt ds G2 E)
theorem zIF(ds:List D)(G:Gp)(E:Gp→Prop)(h:yw ds G E):ds.length=1∧zBV E (zS ["web","order"] ds) G:=by
 obtain⟨n,q,rfl,hn,h⟩:=h
 refine⟨rfl,?_⟩
 unfold zBV
 exact zH (zDf (q:=q) (zF (σ:=[some (zn n q),none]) rfl)) (zH (d:=nD 7) yp zU) G (.refl _) _ ⟨n,7,rfl,hn,by omega,h⟩
noncomputable def yX:List D→Gp→(Gp→Prop)→Prop:=fun ds G E=>∃(n:Nat) (q:Nat×Nat→Bool),ds=[zn n q]∧5<n∧E G
noncomputable def zAO:(Gp→Prop)→S2→Gp→Prop:=(fun E σ G=>(zA (zW wD (zD 0) (xC (.int 0))) (zA (xC (.int 5)) zI)) σ G fun ds G2=>zt ds G2 E)
theorem zGG(ds:List D)(G:Gp)(E:Gp→Prop)(h:yX ds G E):ds.length=1∧zAO E (zS ["web","rings","place"] ds) G:=by
 obtain⟨n,q,rfl,hn,h⟩:=h
 refine⟨rfl,?_⟩
 unfold zAO
 exact zH (zDf (q:=q) (zF (σ:=[some (zn n q),none,none]) rfl)) (zH (d:=nD 5) yp zU) G (.refl _) _ ⟨n,5,rfl,hn,by omega,h⟩
theorem zNh{σ:S2}{G:Gp}{n m:Nat}{q:Nat×Nat→Bool}{R:Q2}(h:look σ 3=some (zn n q))(k:∀ G' d,Sub G G'→(n<m→d=.non)→(m≤n→∃ l,d=.adr l∧Ls G' l [.int 0])→R d G') :
  zW wD (zl (wA (zA (zl (wA (zA (xC (.int 0)) zI))) (zA (xC .non) zI)))) (zL zBk (zA (zW (fII fun i j=>.bl (decide (i<j))) (zW wD (zD 3) (xC (.int 0))) (xC (nD m))) zI)) σ G R:=by
 refine zPp (zC6 (zET (zBL (zC6 (zET (yL (d:=.int 0) yp (wx ⟨by rw[sizeLine_eq];simp,fun l0 h0=>?_⟩)))))))
 refine yL (d:=.non) yp (wx ⟨by rw[sizeLine_eq];simp,fun l1 h1=>?_⟩)
 have n01:l0≠l1:=fun z=>by rw[← z,zG] at h1;cases h1
 have g1:Ls (zQ (zQ G l0 [.int 0]) l1 [.adr l0,.non]) l1 [.adr l0,.non]:=.own
 have g0:Ls (zQ (zQ G l0 [.int 0]) l1 [.adr l0,.non]) l0 [.int 0]:=.inl (by rw[zb n01];exact zG)
 have sb:Sub G (zQ (zQ G l0 [.int 0]) l1 [.adr l0,.non]):=(Sub.new h0).trans (.new h1)
 generalize zQ (zQ G l0 [.int 0]) l1 [.adr l0,.non]=G' at g0 g1 sb
 have pc:yA (zW (fII fun i j=>.bl (decide (i<j))) (zW wD (zD 3) (xC (.int 0))) (xC (nD m))) σ G' (.bl (decide (n<m))):=by
  have:=zFa (g:=fun i j=>.bl (decide (i<j))) (zDf (n:=n) (q:=q) (zF (i:=3) (σ:=σ) (G:=G') h)) (yp (d:=nD m))
  have e2:decide ((n:Int)<(m:Int))=decide (n<m):=by simp
  rw[e2] at this
  exact this
 refine zBK (ds:=[.bl (decide (n<m))]) (zH pc zU) ?_
 by_cases hn:n<m
 ·rw[decide_eq_true hn]
  exact⟨_,.non,g1,rfl,k G' _ sb (fun u0=>rfl) (fun z=>by omega)⟩
 ·rw[decide_eq_false hn]
  exact⟨_,.adr l0,g1,rfl,k G' _ sb (fun z=>by omega) (fun u0=>⟨l0,rfl,g0⟩)⟩
theorem zLo{σ:S2}{G:Gp}{n m:Nat}{q:Nat×Nat→Bool}{d:D}{E:zy}{cond:List D→Gp→(Gp→Prop)→Prop}{sp:Sp2}(h:look σ 3=some (zn n q))(h4:look σ 4=some d)(k1:n<m→d=.non)(k2:m≤n→∃ l,d=.adr l∧Ls G l [.int 0])
  (hc:m≤n→∀ E,E G→cond [zn n q] G E) (hs:n<m→∀ R:Q2,(∀ x G',Sub G G'→R x G')→sp [zn n q] G R) (hE:∀ G',Sub G G'→E.nx σ G') :
  xIf (xB (zW (fEq true) (zFo 0 cond sp (zA (zD 3) zI)) (zD 4))) (yC (xC (.bl false))) yN E σ G:=by
 refine zQO (zPp ?_)
 by_cases hn:n<m
 ·obtain rfl:=k1 hn
  refine .inr (zBK (zH (zF h) zU) (hs hn _ fun x G' s=>zF h4 G' (.refl _) _ ⟨rfl,rfl,?_⟩))
  show if (!true)=true then _ else _
  rw[if_neg (by simp)]
  exact hE G' s
 ·obtain⟨l0,rfl,hl⟩:=k2 (by omega)
  refine .inl (zC6 (zH (zF h) zU G (.refl _) _ (hc (by omega) _ fun l hl'=>?_)))
  refine zF h4 _ (.refl _) _ ⟨[.int 0],[.int 0],.own,hl.sub (.new hl'),by simp[flat],by simp[flat],?_⟩
  show if (!true)=true then _ else _
  rw[if_neg (by simp)]
  exact hE _ (.new hl')
noncomputable def zC9:yg:=(zX (wv (iR1 (zA (zL zAy (zA (xC (.int 1)) (zA (zL zAe (zA (zL yK (zA (zD 0) zI)) (zA (xC (.int 10)) zI))) zI))) zI)) (gN 1) (zX (zp (zl (yB yb (zA (zD 0) (zA (zD 1) zI)))) (gN 2)) (wv (iF (wA (zA (zL zAz (zA (zD 2) (zA (xC (.int 9)) zI))) (zA (zL yk (zA (zL wc (zA (zD 2) (zA (xC (.int 9)) zI))) zI)) (zA (zL zAz (zA (zD 2) (zA (xC (.int 5)) zI))) (zA (yl (zA (xC (.int 8)) (zA (yl zI) zI))) (zA (yl (zA (xC (.int 6)) (zA (yl zI) zI))) zI))))))) (gN 3) (zX (zp (zW wD (zl (wA (zA (zl (wA (zA (xC (.int 0)) zI))) (zA (xC .non) zI)))) (zL zBk (zA (zW (fII fun i j=>.bl (decide (i<j))) (zW wD (zD 3) (xC (.int 0))) (xC (.int 8))) zI))) (gN 4)) (zX (xIf (xB (zW (fEq true) (zFo 0 yw wg (zA (zD 3) zI)) (zD 4))) (yC (xC (.bl false))) yN) (zX (zp (zW wD (zl (wA (zA (zl (wA (zA (xC (.int 0)) zI))) (zA (xC .non) zI)))) (zL zBk (zA (zW (fII fun i j=>.bl (decide (i<j))) (zW wD (zD 3) (xC (.int 0))) (xC (.int 6))) zI))) (gN 4)) (xIf (xB (zW (fEq true) (zFo 0 yX (spL yv) (zA (zD 3) zI)) (zD 4))) (yC (xC (.bl false))) yN))))))) (yC (xC (.bl true))))
noncomputable abbrev zNi:yg:=(zX (zp (zW wD (zl (wA (zA (zl (wA (zA (xC (.int 0)) zI))) (zA (xC .non) zI)))) (zL zBk (zA (zW (fII fun i j=>.bl (decide (i<j))) (zW wD (zD 3) (xC (.int 0))) (xC (.int 8))) zI))) (gN 4)) (zX (xIf (xB (zW (fEq true) (zFo 0 yw wg (zA (zD 3) zI)) (zD 4))) (yC (xC (.bl false))) yN) (zX (zp (zW wD (zl (wA (zA (zl (wA (zA (xC (.int 0)) zI))) (zA (xC .non) zI)))) (zL zBk (zA (zW (fII fun i j=>.bl (decide (i<j))) (zW wD (zD 3) (xC (.int 0))) (xC (.int 6))) zI))) (gN 4)) (xIf (xB (zW (fEq true) (zFo 0 yX (spL yv) (zA (zD 3) zI)) (zD 4))) (yC (xC (.bl false))) yN))))
theorem zIG{E:zy}{G:Gp}{x0 x1 x2 x4:Option D}{n:Nat}{q:Nat×Nat→Bool}(h1:1≤n)(h9:n≤9)(h:∀ G' x4,Sub G G'→E.nx [x0,x1,x2,some (zn n q),x4] G'):zNi E [x0,x1,x2,some (zn n q),x4] G:=by
 unfold zNi
 refine ww (zNh (m:=8) (n:=n) (q:=q) rfl fun G1 d s1 a1 b1=>?_)
 simp only[gN,cO,cN]
 refine zIE (zLo (m:=8) (n:=n) (q:=q) rfl rfl a1 b1 (fun z E hE=>⟨n,q,rfl,by omega,hE⟩) (fun z R hR=>⟨n,q,rfl,h1,by omega,fun x u0=>hR x G1 (.refl _)⟩) fun G2 s2=>?_)
 refine ww (zNh (m:=6) (n:=n) (q:=q) rfl fun G3 d3 s3 a3 b3=>?_)
 simp only[gN,cO,cN]
 exact zLo (m:=6) (n:=n) (q:=q) rfl rfl a3 b3 (fun z E hE=>⟨n,q,rfl,by omega,hE⟩) (fun z R hR=>⟨n,q,rfl,h1,by omega,fun m m1 m2 m3 l hl=>hR _ _ (.new hl)⟩) fun G4 s4=>h G4 _ (s1.trans (s2.trans (s3.trans s4)))
theorem zP0(ds:List D)(G:Gp)(R:Q2)(h:zFc ds G R):ds.length=1∧zC9 (zf R) (zS ["script","k","state","web","due"] ds) G:=by
 obtain⟨a,ns,rfl,ha,u0,u0,h⟩:=h
 refine⟨rfl,?_⟩
 unfold zC9
 obtain⟨m,hm⟩:=zJX (σ:=zS ["script","k","state","web","due"] [.adr a]) (G:=G) (a:=a) (ns:=ns) (c:=10) (by omega) rfl (.inr ha)
 refine zKY hm (fun x hx G1 e1=>?_) (fun G1 e1=>show FgR R (.bl true) G1 from⟨G,e1.sub,h⟩)
 obtain⟨k,u0,rfl⟩:=dI.mp hx
 refine zJZ (σ:=[some (.adr a),some (nD k),none,none,none]) (i:=0) (j:=1) (x:=2) (ns:=ns) rfl rfl (e1.ls (.inr ha)) fun l s b hl ok=>?_
 simp only[cO,cN]
 refine zDK (zPj (zET (zBL (zBK (zH (zF (d:=.adr l) rfl) (zH (yp (d:=nD 9)) zU)) ⟨l,9,rfl,⟨s,b,zG,ok⟩,by omega,by omega,fun n1 q1 G2 h11 h19 d2=>?_⟩))))
 refine zBL (zOh (zBL (zBK (zH (zF (d:=.adr l) rfl) (zH (yp (d:=nD 9)) zU)) ⟨l,9,rfl,d2.st,by omega,fun r G3 hr d3=>?_⟩)))
 refine wx ⟨9,r,rfl,hr,by omega,?_⟩
 refine zBL (zBK (zH (zF (d:=.adr l) rfl) (zH (yp (d:=nD 5)) zU)) ⟨l,5,rfl,d3.st,by omega,by omega,fun n2 q2 G4 h21 h25 d4=>?_⟩)
 have sb4:Sub G1 G4:=((d2.trans d3).trans d4).new hl |>.sub
 have e8:zn 8 (fun u0=>false)=.tup [nD 8,.tup []]:=by unfold zn;simp
 have e6:zn 6 (fun u0=>false)=.tup [nD 6,.tup []]:=by unfold zn;simp
 refine yL (d:=zn 8 (fun u0=>false)) (by rw[e8];exact zBE (zH yp (zH (zBE zU (by simp)) zU)) (by simp)) (yL (d:=zn 6 (fun u0=>false)) (by rw[e6];exact zBE (zH yp (zH (zBE zU (by simp)) zU)) (by simp)) (wx ⟨by rw[sizeLine_eq];simp,fun lw hlw=>?_⟩))
 refine zFf .own (fun x hx=>?_) ⟨.keep (.skip (.skip (.skip (.skip .nil)))),sb4.trans (.new hlw)⟩
 have hxr:∃ n q,x=zn n q∧1≤n∧n≤9:=by
  simp only[dC,gI,or_false] at hx
  rcases hx with rfl | rfl | rfl | rfl | rfl
  ·exact⟨_,_,rfl,h11,h19⟩
  ·exact⟨_,_,rfl,by omega,by omega⟩
  ·exact⟨_,_,rfl,h21,by omega⟩
  ·exact⟨_,_,rfl,by omega,by omega⟩
  ·exact⟨_,_,rfl,by omega,by omega⟩
 obtain⟨n,q,rfl,n1',n9⟩:=hxr
 simp only[gN,cO,cN]
 exact zIG n1' n9 fun G' x4 s=>⟨.keep (.keep (.keep (.skip (.skip .nil)))),s⟩
noncomputable def top(i:Nat):Stmt:=PySem.Challenge.pw_chordwebs_k53_too_many_places.main.body.getD i (.Pass ⟨0,0,0,0⟩)
noncomputable abbrev yG:Stmt:=top 8
theorem wW:za ["many","most"] ["many","most"] (zC yG):=⟨rfl,rfl,rfl,by decide +kernel,rfl,by decide +kernel,by decide +kernel⟩
noncomputable abbrev yY:Stmt:=top 10
theorem zBZ:za ["ring","by"] ["ring","by"] (zC yY):=⟨rfl,rfl,rfl,by decide +kernel,rfl,by decide +kernel,by decide +kernel⟩
noncomputable abbrev wj:Stmt:=top 11
theorem zDl:za ["ring"] ["ring"] (zC wj):=⟨rfl,rfl,rfl,by decide +kernel,rfl,by decide +kernel,by decide +kernel⟩
noncomputable abbrev zB7:Stmt:=top 12
theorem zHE:za ["ring","back","best","by"] ["ring"] (zC zB7):=⟨rfl,rfl,rfl,by decide +kernel,rfl,by decide +kernel,by decide +kernel⟩
noncomputable abbrev zDZ:Stmt:=top 14
theorem zI5:za ["web","one","other"] ["web","one","other"] (zC zDZ):=⟨rfl,rfl,rfl,by decide +kernel,rfl,by decide +kernel,by decide +kernel⟩
noncomputable abbrev wM:Stmt:=top 17
theorem zBW:za ["web","order"] ["web"] (zC wM):=⟨rfl,rfl,rfl,by decide +kernel,rfl,by decide +kernel,by decide +kernel⟩
noncomputable abbrev yP:Stmt:=top 18
theorem zCJ:za ["web","order","rest"] ["web"] (zC yP):=⟨rfl,rfl,rfl,by decide +kernel,rfl,by decide +kernel,by decide +kernel⟩
noncomputable abbrev yc:Stmt:=top 19
theorem zCK:za ["web","place","others"] ["web","place","others"] (zC yc):=⟨rfl,rfl,rfl,by decide +kernel,rfl,by decide +kernel,by decide +kernel⟩
noncomputable abbrev yd:Stmt:=top 20
theorem zEv:za ["web","order","done","ring","place","longer","found"] ["web","order","done","ring"] (zC yd):=⟨rfl,rfl,rfl,by decide +kernel,rfl,by decide +kernel,by decide +kernel⟩
noncomputable abbrev ye:Stmt:=top 21
theorem zCL:za ["ring","place","crossed","wanted","found","first","inside","second"] ["ring","place","crossed"] (zC ye):=⟨rfl,rfl,rfl,by decide +kernel,rfl,by decide +kernel,by decide +kernel⟩
noncomputable abbrev yQ:Stmt:=top 24
theorem zAP:za ["web","rings","place"] ["web"] (zC yQ):=⟨rfl,rfl,rfl,by decide +kernel,rfl,by decide +kernel,by decide +kernel⟩
noncomputable abbrev yH:Stmt:=top 25
theorem zAn:za ["rings","place","crossed","longer","ring"] ["rings","place","crossed"] (zC yH):=⟨rfl,rfl,rfl,by decide +kernel,rfl,by decide +kernel,by decide +kernel⟩
noncomputable abbrev wN:Stmt:=top 27
theorem zDA:za ["script","k"] ["script","k"] (zC wN):=⟨rfl,rfl,rfl,by decide +kernel,rfl,by decide +kernel,by decide +kernel⟩
noncomputable abbrev zAR:Stmt:=top 28
theorem zEw:za ["script","k","cell"] ["script","k"] (zC zAR):=⟨rfl,rfl,rfl,by decide +kernel,rfl,by decide +kernel,by decide +kernel⟩
noncomputable abbrev zA7:Stmt:=top 29
theorem zFp:za ["state","many","found","mixed"] ["state","many"] (zC zA7):=⟨rfl,rfl,rfl,by decide +kernel,rfl,by decide +kernel,by decide +kernel⟩
noncomputable abbrev wk:Stmt:=top 30
theorem zEx:za ["many","found","one"] ["many"] (zC wk):=⟨rfl,rfl,rfl,by decide +kernel,rfl,by decide +kernel,by decide +kernel⟩
noncomputable abbrev zAo:Stmt:=top 31
theorem zHF:za ["state","most","many","way","pairs","far"] ["state","most"] (zC zAo):=⟨rfl,rfl,rfl,by decide +kernel,rfl,by decide +kernel,by decide +kernel⟩
noncomputable abbrev zAc:Stmt:=top 32
theorem zFq:za ["state","many","left"] ["state","many"] (zC zAc):=⟨rfl,rfl,rfl,by decide +kernel,rfl,by decide +kernel,by decide +kernel⟩
noncomputable abbrev wG:Stmt:=top 33
theorem zDm:za ["ring","many","found","one","other","some"] ["ring"] (zC wG):=⟨rfl,rfl,rfl,by decide +kernel,rfl,by decide +kernel,by decide +kernel⟩
noncomputable abbrev zi:Stmt:=top 35
theorem yx:za ["call","error","e","kinds"] ["call"] (zC zi):=⟨rfl,rfl,rfl,by decide +kernel,rfl,by decide +kernel,by decide +kernel⟩
noncomputable abbrev zA8:Stmt:=top 36
theorem zLp:za ["script","k","state","web","due"] ["script"] (zC zA8):=⟨rfl,rfl,rfl,by decide +kernel,rfl,by decide +kernel,by decide +kernel⟩
section
variable {P:Program} {w:World} {K:PySem.W.Frag} {mg:Str→Option Value} {base:Heap}
theorem zI6:zI1 zi ["call","error","e","kinds"] ((zV zi).drop 2):=⟨⟨_,_,_,_,_,_,_,_,_,_,_,_,_,rfl⟩,rfl,rfl,rfl,by decide +kernel,by decide +kernel,by decide +kernel,by decide +kernel⟩
theorem zI7{C0 aa aG ap az aq f e:Addr}{cdv:Value}{A:Around}{outer:List Env}{s:Shared}{H:Hp}{oe:Obj}{b_TooMany b_NoTie b_NoSplit b_NoName b_BadNote:Bool}(ad:mg "isinstance"=none)(ai:mg "ValueError"=none)(af:mg "range"=none)(ah:mg "TooMany"=some (.ref aa))(aW:mg "NoTie"=some (.ref aG))(aC:mg "NoSplit"=some (.ref ap))(aI:mg "NoName"=some (.ref az))(aD:mg "BadNote"=some (.ref aq))(xk:zFF K C0)(hcl:oe.cls=.ref C0)(cb:PySem.W.kitOne K (.ref C0) (.ref aa)=some b_TooMany)(cK:PySem.W.kitOne K (.ref C0) (.ref aG)=some b_NoTie)(cc:PySem.W.kitOne K (.ref C0) (.ref ap)=some b_NoSplit)(cf:PySem.W.kitOne K (.ref C0) (.ref az)=some b_NoName)(ce:PySem.W.kitOne K (.ref C0) (.ref aq)=some b_BadNote)(qV:PySem.W.kitOne K (.ref C0) (.type "ValueError")=some true):Ps2 (zJv (zAq CX0 P w K mg base ["call","error","e","kinds"] "_law_refused" (zC zi) f cdv A outer s H E0).nox e oe) ((zV zi).drop 2) (zA6 e b_TooMany b_NoTie b_NoSplit b_NoName b_BadNote):=by
 have nd:=(yx).nd
 unfold zA6
 exact(zM (yE 3 nd (zz (wX (zB (zG9 1 xk dt hcl rfl ad rfl ah cb) (zB (zG9 1 xk dt hcl rfl ad rfl aW cK) (zB (zG9 1 xk dt hcl rfl ad rfl aC cc) zJ)))))) (zM (yE 3 nd (zz (zNV (zE 3) (zz (wX (zB (zG9 1 xk dt hcl rfl ad rfl aI cf) (zB (zG9 1 xk dt hcl rfl ad rfl aD ce) zJ))))))) (zM (zCQ (zNO (zFV (zO2 1 xk dt hcl rfl ad rfl ai qV))) (zR (yF zFS)) wF) (zR (yF (zz (zE5 "k" rfl (yf (osc:=zC zi) (N:=["call","error","e","kinds"]) (N0:=["!00","!01","!02","kinds"]) (own:=["k"]) (by decide +kernel)) (zAV rfl af (zB zN zJ)) (fun u0 u0 u0 u0 u0=>(zCR (zFV (yo (zE 3) (zE 4))))) (fun u0 u0 u0 u0 u0=>(zE 4)))))))))
theorem zHG{aa aG ap az aq f:Addr}{cdv:Value}{A:Around}{outer:List Env}{s:Shared}{H:Hp}(ad:mg "isinstance"=none)(ai:mg "ValueError"=none)(af:mg "range"=none)(ah:mg "TooMany"=some (.ref aa))(aW:mg "NoTie"=some (.ref aG))(aC:mg "NoSplit"=some (.ref ap))(aI:mg "NoName"=some (.ref az))(aD:mg "BadNote"=some (.ref aq))(aK:PySem.W.kitOne K (.type "NoneType") (.ref aa)=some false)(b9:PySem.W.kitOne K (.type "NoneType") (.ref aG)=some false)(aL:PySem.W.kitOne K (.type "NoneType") (.ref ap)=some false)(aX:PySem.W.kitOne K (.type "NoneType") (.ref az)=some false)(aM:PySem.W.kitOne K (.type "NoneType") (.ref aq)=some false)(nV:PySem.W.kitOne K (.type "NoneType") (.type "ValueError")=some false):Ps2 (zAq CX0 P w K mg base ["call","error","e","kinds"] "_law_refused" (zC zi) f cdv A outer s H E0).nox ((zV zi).drop 2) zBU:=by
 have nd:=(yx).nd
 unfold zBU
 exact(zM (yE 3 nd (zz (wX (zB (zEt 1 rfl ad rfl ah aK) (zB (zEt 1 rfl ad rfl aW b9) (zB (zEt 1 rfl ad rfl aC aL) zJ)))))) (zM (yE 3 nd (zz (zNV (zE 3) (zz (wX (zB (zEt 1 rfl ad rfl aI aX) (zB (zEt 1 rfl ad rfl aD aM) zJ))))))) (zM (zCQ (zNO (zFV (zNE 1 rfl ad rfl ai nV))) (zR (yF zFS)) wF) (zR (yF (zz (zE5 "k" rfl (yf (osc:=zC zi) (N:=["call","error","e","kinds"]) (N0:=["!00","!01","!02","kinds"]) (own:=["k"]) (by decide +kernel)) (zAV rfl af (zB zN zJ)) (fun u0 u0 u0 u0 u0=>(zCR (zFV (yo (zE 3) (zE 4))))) (fun u0 u0 u0 u0 u0=>(zE 4)))))))))
theorem zEy{f aa:Addr}{fd:FuncData}(F:Fun K "refuse_more" "refuse_more" yG f fd)(hm:mg "refuse_more"=some (.ref f))  (ah:mg "TooMany"=some (.ref aa))(aA:zFF K aa):Rz P w K mg base 1 "refuse_more" ["many","most"] zt aa:=by
 have nd:=(wW).nd
 refine zLa wV F wW hm (F.binds fun u0 u0 u0 u0 u0 u0 us hl=>us2 us hl fun u0 u0=>rfl) (fun cdv A outer s H E hr=>?_) zEu
 unfold wV
 exact(zQU zGD (zPd (zE 0) (zE 1)) (x_raise zGD rfl ah aA.ex0 (zO4 [1] (zLd (zO3 1 (zLd .nil))))))
theorem zIH{f aa:Addr}{fd:FuncData}(F:Fun K "ring_of" "ring_of" wM f fd)(hm:mg "ring_of"=some (.ref f)) {aJ:Tok}(aH:mg "MOST_FOUND"=some (.int 7 aJ))(aO:Df P w K mg base 3 "near_order" ["web"] (spL zv))(bb:Df P w K mg base 11 "grown" ["web","order","done","ring"] (zr 8))(aE:Rz P w K mg base 1 "refuse_more" ["many","most"] zt aa)(ah:mg "TooMany"=some (.ref aa))(aA:zFF K aa):Rz P w K mg base 12 "ring_of" ["web"] yw aa:=by
 have nd:=(zBW).nd
 refine zLa zBV F zBW hm (F.binds fun u0 u0 u0 u0 u0 u0 us hl=>us1 us hl fun u0=>rfl) (fun cdv A outer s H E hr=>?_) zIF
 unfold zBV
 exact(zLZ (zD7 zGD aE hr (by decide) rfl (zB (yo (zE 0) zN) (zB (zD0 rfl aH) zJ))))
theorem zGH{f aa:Addr}{fd:FuncData}(F:Fun K "all_rings" "all_rings" yQ f fd)(hm:mg "all_rings"=some (.ref f))(af:mg "range"=none)(av:mg "tuple"=none)(bj:mg "sorted"=none)(bW:mg "set"=none){aP:Tok}(aN:mg "MOST_TOLD"=some (.int 5 aP))(ae:Df P w K mg base 2 "tied_among" ["web","place","others"] (spL zZ))(aB:Df P w K mg base 2 "all_with_chord" ["rings","place","crossed"] (spL zh))(bG:Df P w K mg base 2 "least" ["ring"] wy)(aE:Rz P w K mg base 1 "refuse_more" ["many","most"] zt aa)(ah:mg "TooMany"=some (.ref aa))(aA:zFF K aa):Rz P w K mg base 3 "all_rings" ["web"] yX aa:=by
 have nd:=(zAP).nd
 refine zLa zAO F zAP hm (F.binds fun u0 u0 u0 u0 u0 u0 us hl=>us1 us hl fun u0=>rfl) (fun cdv A outer s H E hr=>?_) zGG
 unfold zAO
 exact(zLZ (zD7 zGD aE hr (by decide) rfl (zB (yo (zE 0) zN) (zB (zD0 rfl aN) zJ))))
theorem zEz{f:Addr}{fd:FuncData}(F:Fun K "refuse_more" "refuse_more" yG f fd)(hm:mg "refuse_more"=some (.ref f))    :Df P w K mg base 1 "refuse_more" ["many","most"] yJ:=by
 have nd:=(wW).nd
 refine yV wo F wW hm (F.binds fun u0 u0 u0 u0 u0 u0 us hl=>us2 us hl fun u0 u0=>rfl) (fun cdv A outer s H E hr=>?_) zFD
 unfold wo
 exact(zR (zCQ (zPd (zE 0) (zE 1)) (zR zQR) wF))
theorem zDs{f:Addr}{fd:FuncData}(F:Fun K "turned_round" "turned_round" yY f fd)(hm:mg "turned_round"=some (.ref f))    :Df P w K mg base 1 "turned_round" ["ring","by"] yD:=by
 have nd:=(zBZ).nd
 refine yV zAa F zBZ hm (F.binds fun u0 u0 u0 u0 u0 u0 us hl=>us2 us hl fun u0 u0=>rfl) (fun cdv A outer s H E hr=>?_) zEm
 unfold zAa
 exact(zR (yF (zAW (zCm (zE 0) (zCS (zE 1)) zEK) (zCm (zE 0) zEK (zCS (zE 1))))))
theorem zHH{f:Addr}{fd:FuncData}(F:Fun K "mirrored" "mirrored" wj f fd)(hm:mg "mirrored"=some (.ref f))(av:mg "tuple"=none)(bD:mg "reversed"=none)   :Df P w K mg base 1 "mirrored" ["ring"] wL:=by
 have nd:=(zDl).nd
 refine yV zCZ F zDl hm (F.binds fun u0 u0 u0 u0 u0 u0 us hl=>us1 us hl fun u0=>rfl) (fun cdv A outer s H E hr=>?_) zH5
 unfold zCZ
 exact(zR (yF (zOm rfl rfl av rfl bD (zB (zE 0) zJ))))
theorem zLq{f:Addr}{fd:FuncData}(F:Fun K "least" "least" zB7 f fd)(hm:mg "least"=some (.ref f))(af:mg "range"=none)(aj:mg "len"=none)(bH:mg "min"=none)   (bE:Df P w K mg base 1 "mirrored" ["ring"] wL)(aQ:Df P w K mg base 1 "turned_round" ["ring","by"] yD):Df P w K mg base 2 "least" ["ring"] wy:=by
 have nd:=(zHE).nd
 refine yV zD5 F zHE hm (F.binds fun u0 u0 u0 u0 u0 u0 us hl=>us1 us hl fun u0=>rfl) (fun cdv A outer s H E hr=>?_) zMr
 unfold zD5
 exact(zM (yE 1 nd (yI bE hr (by decide) rfl (zB (zE 0) zJ))) (zM (yE 2 nd (zE 0)) (zM (zAs PassesOwn.never rfl (zAV rfl af (zB (zBf rfl aj (zB (zE 0) zJ)) zJ)) (zBC 3 nd) (zR (yE 2 nd (zOn hr rfl rfl bH (zB (zE 2) (zB (yI aQ hr (by decide) rfl (zB (zE 0) (zB (zE 3) zJ))) (zB (yI aQ hr (by decide) rfl (zB (zE 1) (zB (zE 3) zJ))) zJ))))))) (zR (yF (zE 2))))))
theorem zNF{f:Addr}{fd:FuncData}(F:Fun K "tied" "tied" zDZ f fd)(hm:mg "tied"=some (.ref f))(bH:mg "min"=none)(bI:mg "max"=none)   :Df P w K mg base 1 "tied" ["web","one","other"] zBy:=by
 have nd:=(zI5).nd
 refine yV zFv F zI5 hm (F.binds fun u0 u0 u0 u0 u0 u0 us hl=>us3 us hl fun u0 u0 u0=>rfl) (fun cdv A outer s H E hr=>?_) zOf
 unfold zFv
 exact(zR (yF (zQL hr (zAG (zB (zNR rfl rfl bH (zB (zE 1) (zB (zE 2) zJ))) (zB (zNS rfl rfl bI (zB (zE 1) (zB (zE 2) zJ))) zJ))) (yo (zE 0) zN))))
theorem zII{f:Addr}{fd:FuncData}(F:Fun K "ring_of" "ring_of" wM f fd)(hm:mg "ring_of"=some (.ref f)) {aJ:Tok}(aH:mg "MOST_FOUND"=some (.int 7 aJ))  (aF:Df P w K mg base 1 "refuse_more" ["many","most"] yJ)(aO:Df P w K mg base 3 "near_order" ["web"] (spL zv))(bb:Df P w K mg base 11 "grown" ["web","order","done","ring"] (zr 8)):Df P w K mg base 12 "ring_of" ["web"] wg:=by
 have nd:=(zBW).nd
 refine yV zB6 F zBW hm (F.binds fun u0 u0 u0 u0 u0 u0 us hl=>us1 us hl fun u0=>rfl) (fun cdv A outer s H E hr=>?_) zJs
 unfold zB6
 exact(zM (zCP (yI aF hr (by decide) rfl (zB (yo (zE 0) zN) (zB (zD0 rfl aH) zJ)))) (zM (yE 1 nd (zz (zAr aO zDr hr (by decide) rfl (zB (zE 0) zJ)))) (zR (yF (yI bb hr (by decide) rfl (zB (zE 0) (zB (zE 1) (zB zN (zB (zAG (zB (yo (zE 1) zN) (zB (yo (zE 1) zN) zJ))) zJ)))))))))
theorem zFG{f:Addr}{fd:FuncData}(F:Fun K "near_order" "near_order" yP f fd)(hm:mg "near_order"=some (.ref f))(aj:mg "len"=none)(af:mg "range"=none)(bI:mg "max"=none)   (ae:Df P w K mg base 2 "tied_among" ["web","place","others"] (spL zZ)):Df P w K mg base 3 "near_order" ["web"] (spL zv):=by
 have nd:=(zCJ).nd
 refine yV zAN F zCJ hm (F.binds fun u0 u0 u0 u0 u0 u0 us hl=>us1 us hl fun u0=>rfl) (fun cdv A outer s H E hr=>?_) zGC
 unfold zAN
 exact(zM (yE 1 nd (zz (wX zJ))) (zM (zKX PassesOwn.never (zOP (zBf rfl aj (zB (zE 1) zJ)) (yo (zE 0) zN)) (zM (zIW 2 "place" rfl (yf (osc:=zC yP) (N:=["web","order","rest"]) (N0:=["!00","order","!02"]) (own:=["place"]) (by decide +kernel)) (zAV rfl af (zB (yo (zE 0) zN) zJ)) (fun u0 u0 u0 u0 u0=>(zCR (zMI hr (zE 3) (zE 1)))) (fun u0 u0 u0 u0 u0=>(zE 3)) nd) (zR (zCP (zEJ (zE 1) (zB (yo (zO0 hr rfl rfl bI (zE5 "place" rfl (yf (osc:=zC yP) (N:=["web","order","rest"]) (N0:=["web","order","!02"]) (own:=["place"]) (by decide +kernel)) (zDc (zE 2)) (fun u0 u0 u0 u0 u0=>zEG) (fun u0 u0 u0 u0 u0=>(zAG (zB (zBf rfl aj (zB (zz (zAr ae zAF hr (by decide) rfl (zB (zE 0) (zB (zE 3) (zB (zE 1) zJ))))) zJ)) (zB (zE 3) zJ)))))) zN) zJ)))))) (zR (yF (zE 1)))))
theorem zFH{f:Addr}{fd:FuncData}(F:Fun K "tied_among" "tied_among" yc f fd)(hm:mg "tied_among"=some (.ref f))    (bX:Df P w K mg base 1 "tied" ["web","one","other"] zBy):Df P w K mg base 2 "tied_among" ["web","place","others"] (spL zZ):=by
 have nd:=(zCK).nd
 refine yV zAM F zCK hm (F.binds fun u0 u0 u0 u0 u0 u0 us hl=>us3 us hl fun u0 u0 u0=>rfl) (fun cdv A outer s H E hr=>?_) zGB
 unfold zAM
 exact(zR (yF (zz (zE5 "other" rfl (yf (osc:=zC yc) (N:=["web","place","others"]) (N0:=["web","place","!02"]) (own:=["other"]) (by decide +kernel)) (zDc (zE 2)) (fun u0 u0 u0 u0 u0=>(zCR (zFV (yI bX hr (by decide) rfl (zB (zE 0) (zB (zE 1) (zB (zE 3) zJ))))))) (fun u0 u0 u0 u0 u0=>(zE 3))))))
theorem zJ1{k:Nat}{f:Addr}{fd:FuncData}(F:Fun K "grown" "grown" yd f fd)(hm:mg "grown"=some (.ref f)):Df P w K mg base (k+1) "grown" ["web","order","done","ring"] (zr 0):=by
 refine yV (fun u0 u0 u0=>False) F zEv hm (F.binds fun u0 u0 u0 u0 u0 u0 us hl=>match us,hl with | [_,_,_,_],_=>rfl) (fun cdv A outer s H E hr=>?_) (fun u0 u0 u0 h=>(zLW h).elim)
 exact zPk
theorem wz{k d:Nat}{f:Addr}{fd:FuncData}(F:Fun K "grown" "grown" yd f fd)(hm:mg "grown"=some (.ref f))(aj:mg "len"=none)(ae:Df P w K mg base 2 "tied_among" ["web","place","others"] (spL zZ))(cI:2≤k)(ag:Df P w K mg base 1 "with_chord" ["ring","place","crossed"] (spL zu))(cJ:1≤k)(bb:Df P w K mg base k "grown" ["web","order","done","ring"] (zr d)):Df P w K mg base (k+1) "grown" ["web","order","done","ring"] (zr (d+1)):=by
 have nd:=(zEv).nd
 refine yV (zD6 d) F zEv hm (F.binds fun u0 u0 u0 u0 u0 u0 us hl=>match us,hl with | [_,_,_,_],_=>rfl) (fun cdv A outer s H E hr=>?_) (zNB d)
 unfold zD6
 exact(zM (zCQ (zHX hr (zE 2) (zBf rfl aj (zB (zE 1) zJ))) (zR (yF (zE 3))) wF) (zM (yE 4 nd (yo (zE 1) (zE 2))) (zM (zAs PassesOwn.never rfl (zKM (zAr ag zBY hr (by omega) rfl (zB (zE 3) (zB (zE 4) (zB (zz (zAr ae zAF hr (by omega) rfl (zB (zE 0) (zB (zE 4) (zB (zz (zMh (zE 1) zEK (zCS (zE 2)))) zJ))))) zJ))))) (zBC 5 nd) (zM (yE 6 nd (yI bb hr (by omega) rfl (zB (zE 0) (zB (zE 1) (zB (zAW (zE 2) zN) (zB (zE 5) zJ)))))) (zR (zCQ (zLC (zE 6) zFS) (zR (yF (zE 6))) wF)))) (zR (yF zFS)))))
theorem zFI{f:Addr}{fd:FuncData}(F:Fun K "with_chord" "with_chord" ye f fd)(hm:mg "with_chord"=some (.ref f))(cg:mg "sum"=none)(af:mg "range"=none)(aj:mg "len"=none)   :Df P w K mg base 1 "with_chord" ["ring","place","crossed"] (spL zu):=by
 have nd:=(zCL).nd
 refine yV zAL F zCL hm (F.binds fun u0 u0 u0 u0 u0 u0 us hl=>us3 us hl fun u0 u0 u0=>rfl) (fun cdv A outer s H E hr=>?_) zGA
 unfold zAL
 exact(zM (yE 3 nd (zMm rfl rfl cg (zE5 "other" rfl (yf (osc:=zC ye) (N:=["ring","place","crossed","wanted","found","first","inside","second"]) (N0:=["!00","!01","!02","!03","!04","!05","!06","!07"]) (own:=["other"]) (by decide +kernel)) (zDc (zE 2)) (fun u0 u0 u0 u0 u0=>zEG) (fun u0 u0 u0 u0 u0=>(zNc zN (zE 8)))))) (zM (yE 4 nd (zz (wX zJ))) (zM (zAs PassesOwn.never rfl (zCh rfl af (zB zN (zB (zAW (zBf rfl aj (zB (zE 0) zJ)) zN) zJ))) (zBC 5 nd) (zM (yE 6 nd zN) (zR (zAs PassesOwn.never rfl (zCh rfl af (zB (zE 5) (zB (zAW (zBf rfl aj (zB (zE 0) zJ)) zN) zJ))) (zBC 7 nd) (zM (zCQ (zHX hr (zE 6) (zE 3)) (zR (zCP (zEJ (zE 4) (zB (zAW (zAW (zAW (zAW (zCm (zE 0) zEK (zCS (zE 5))) (zAG (zB (zE 1) zJ))) (zCm (zE 0) (zCS (zE 5)) (zCS (zE 7)))) (zAG (zB (zE 1) zJ))) (zCm (zE 0) (zCS (zE 7)) zEK)) zJ)))) wF) (zR (zCQ (zOP (zE 7) (zBf rfl aj (zB (zE 0) zJ))) (zR (yE 6 nd (zNZ (zE 6) (zNc zN (yo (zE 0) (zE 7)))))) wF))))))) (zR (yF (zE 4))))))
theorem zGI{f:Addr}{fd:FuncData}(F:Fun K "all_rings" "all_rings" yQ f fd)(hm:mg "all_rings"=some (.ref f))(af:mg "range"=none)(av:mg "tuple"=none)(bj:mg "sorted"=none)(bW:mg "set"=none){aP:Tok}(aN:mg "MOST_TOLD"=some (.int 5 aP))  (aF:Df P w K mg base 1 "refuse_more" ["many","most"] yJ)(ae:Df P w K mg base 2 "tied_among" ["web","place","others"] (spL zZ))(aB:Df P w K mg base 2 "all_with_chord" ["rings","place","crossed"] (spL zh))(bG:Df P w K mg base 2 "least" ["ring"] wy):Df P w K mg base 3 "all_rings" ["web"] (spL yv):=by
 have nd:=(zAP).nd
 refine yV zAm F zAP hm (F.binds fun u0 u0 u0 u0 u0 u0 us hl=>us1 us hl fun u0=>rfl) (fun cdv A outer s H E hr=>?_) zG3
 unfold zAm
 exact(zM (zCP (yI aF hr (by decide) rfl (zB (yo (zE 0) zN) (zB (zD0 rfl aN) zJ)))) (zM (yE 1 nd (zz (wX (zB (zAG (zB zN (zB zN zJ))) zJ)))) (zM (zAs PassesOwn.never rfl (zCh rfl af (zB zN (zB (yo (zE 0) zN) zJ))) (zBC 2 nd) (zR (yE 1 nd (zz (zAr aB zCB hr (by decide) rfl (zB (zE 1) (zB (zE 2) (zB (zz (zAr ae zAF hr (by decide) rfl (zB (zE 0) (zB (zE 2) (zB (zOc rfl rfl av rfl af (zB (zE 2) zJ)) zJ))))) zJ)))))))) (zR (yF (zz (zIA hr rfl rfl bj rfl bW (zE5 "ring" rfl (yf (osc:=zC yQ) (N:=["web","rings","place"]) (N0:=["!00","!01","!02"]) (own:=["ring"]) (by decide +kernel)) (zDc (zE 1)) (fun u0 u0 u0 u0 u0=>zEG) (fun u0 u0 u0 u0 u0=>(yI bG hr (by decide) rfl (zB (zE 3) zJ)))))))))))
theorem zDB{f:Addr}{fd:FuncData}(F:Fun K "all_with_chord" "all_with_chord" yH f fd)(hm:mg "all_with_chord"=some (.ref f))    (ag:Df P w K mg base 1 "with_chord" ["ring","place","crossed"] (spL zu)):Df P w K mg base 2 "all_with_chord" ["rings","place","crossed"] (spL zh):=by
 have nd:=(zAn).nd
 refine yV yu F zAn hm (F.binds fun u0 u0 u0 u0 u0 u0 us hl=>us3 us hl fun u0 u0 u0=>rfl) (fun cdv A outer s H E hr=>?_) zDX
 unfold yu
 exact(zM (yE 3 nd (zz (wX zJ))) (zM (zAs PassesOwn.never rfl (zDc (zE 0)) (zBC 4 nd) (zR (zCP (zGa (zE 3) (zAr ag zBY hr (by decide) rfl (zB (zE 4) (zB (zE 1) (zB (zE 2) zJ)))))))) (zR (yF (zE 3)))))
theorem zGJ{f:Addr}{fd:FuncData}(F:Fun K "_law_cell_at" "_law_cell_at" wN f fd)(hm:mg "_law_cell_at"=some (.ref f))(aj:mg "len"=none)   :Df P w K mg base 1 "_law_cell_at" ["script","k"] wQ:=by
 have nd:=(zDA).nd
 refine yV zAf F zDA hm (F.binds fun u0 u0 u0 u0 u0 u0 us hl=>us2 us hl fun u0 u0=>rfl) (fun cdv A outer s H E hr=>?_) zGe
 unfold zAf
 exact(zM (zCQ (zOP (zE 1) (zBf rfl aj (zB (zE 0) zJ))) (zR (yF (yo (zE 0) (zE 1)))) wF) (zR (yF zN)))
theorem zIJ{f:Addr}{fd:FuncData}(F:Fun K "_law_state" "_law_state" zAR f fd)(hm:mg "_law_state"=some (.ref f))    (bn:Df P w K mg base 1 "_law_cell_at" ["script","k"] wQ):Df P w K mg base 2 "_law_state" ["script","k"] (spL yb):=by
 have nd:=(zEw).nd
 refine yV zB0 F zEw hm (F.binds fun u0 u0 u0 u0 u0 u0 us hl=>us2 us hl fun u0 u0=>rfl) (fun cdv A outer s H E hr=>?_) zJT
 unfold zB0
 exact(zM (yE 2 nd (yI bn hr (by decide) rfl (zB (zE 0) (zB (zE 1) zJ)))) (zM (zCQ (zQK (zE 2) (zNQ zN zN)) (zR (yF (zz (wX (zB (zNP (zE 2) (zNQ zN zN)) (zB zKH zJ)))))) wF) (zR (yF (zz (wX (zB (zFW (zE 2) zN) (zB zKH zJ))))))))
theorem zJ2{f:Addr}{fd:FuncData}(F:Fun K "_law_take" "_law_take" zA7 f fd)(hm:mg "_law_take"=some (.ref f))    :Df P w K mg base 1 "_law_take" ["state","many"] yW:=by
 have nd:=(zFp).nd
 refine yV zCq F zFp hm (F.binds fun u0 u0 u0 u0 u0 u0 us hl=>us2 us hl fun u0 u0=>rfl) (fun cdv A outer s H E hr=>?_) zKg
 unfold zCq
 exact(zM (zCQ (zFV (yo (zE 0) zN)) (zM (yE 2 nd (zFW (yo (zE 0) zN) (zE 1))) (zM (zNN (zHV (yo (zE 0) zN) (zE 1)) (zPY (zE 0) zN)) (zR (yF (zE 2))))) wF) (zM (zNN (zFW (zAW (zDG (yo (zE 0) zN) zN) zN) zN) (zPY (zE 0) zN)) (zM (yE 3 nd (zFW (zAW (zAW (zDG (yo (zE 0) zN) (yo (zE 0) zN)) (zDG zN (yo (zE 0) zN))) zN) zN)) (zM (yE 3 nd (zFW (zAW (zDG (zE 3) (zE 3)) (zDG zN (zE 3))) zN)) (zR (yF (zFW (zHV (zE 3) zN) (zE 1))))))))
theorem zIK{f:Addr}{fd:FuncData}(F:Fun K "_law_pairs" "_law_pairs" wk f fd)(hm:mg "_law_pairs"=some (.ref f))(af:mg "range"=none)   :Df P w K mg base 1 "_law_pairs" ["many"] (spL yZ):=by
 have nd:=(zEx).nd
 refine yV zB1 F zEx hm (F.binds fun u0 u0 u0 u0 u0 u0 us hl=>us1 us hl fun u0=>rfl) (fun cdv A outer s H E hr=>?_) zJV
 unfold zB1
 exact(zM (yE 1 nd (zz (wX zJ))) (zM (zAs PassesOwn.never rfl (zAV rfl af (zB (zE 0) zJ)) (zBC 2 nd) (zR (zCP (zGa (zE 1) (zE5 "other" rfl (yf (osc:=zC wk) (N:=["many","found","one"]) (N0:=["!00","!01","one"]) (own:=["other"]) (by decide +kernel)) (zCh rfl af (zB (zAW (zE 2) zN) (zB (zE 0) zJ))) (fun u0 u0 u0 u0 u0=>zEG) (fun u0 u0 u0 u0 u0=>(zAG (zB (zE 2) (zB (zE 3) zJ))))))))) (zR (yF (zE 1)))))
theorem zLr{f:Addr}{fd:FuncData}(F:Fun K "_law_web" "_law_web" zAo f fd)(hm:mg "_law_web"=some (.ref f))(av:mg "tuple"=none)   (aR:Df P w K mg base 1 "_law_take" ["state","many"] yW)(aZ:Df P w K mg base 1 "_law_pairs" ["many"] (spL yZ))(ba:Df P w K mg base 2 "_law_ring" ["state","many"] wc)(aT:Df P w K mg base 2 "_law_web_of" ["ring"] yk):Df P w K mg base 3 "_law_web" ["state","most"] zAz:=by
 have nd:=(zHF).nd
 refine yV zD1 F zHF hm (F.binds fun u0 u0 u0 u0 u0 u0 us hl=>us2 us hl fun u0 u0=>rfl) (fun cdv A outer s H E hr=>?_) zMZ
 unfold zD1
 exact(zM (yE 2 nd (zAW zN (yI aR hr (by decide) rfl (zB (zE 0) (zB (zE 1) zJ))))) (zM (yE 3 nd (yI aR hr (by decide) rfl (zB (zE 0) (zB zN zJ)))) (zM (yE 4 nd (zz (zAr aZ zCp hr (by decide) rfl (zB (zE 2) zJ)))) (zM (zCQ (zHX hr (zE 3) zN) (zR (yF (yI aT hr (by decide) rfl (zB (yI ba hr (by decide) rfl (zB (zE 0) (zB (zE 2) zJ))) zJ)))) wF) (zM (zCQ (zHX hr (zE 3) zN) (zR (yF (zAG (zB (zE 2) (zB (zHa rfl av (zE5 "pair" rfl (yf (osc:=zC zAo) (N:=["state","most","many","way","pairs","far"]) (N0:=["state","!01","!02","!03","!04","!05"]) (own:=["pair"]) (by decide +kernel)) (zDc (zE 4)) (fun u0 u0 u0 u0 u0=>(zCR (W2.test (w_or (zHX hr (yo (zE 6) zN) (zAW (yo (zE 6) zN) zN)) (zPb (zHX hr (yI aR hr (by decide) rfl (zB (zE 0) (zB zN zJ))) zN)))))) (fun u0 u0 u0 u0 u0=>(zE 6)))) zJ))))) wF) (zM (yE 5 nd (yo (zz (wX (zB zN (zB zN (zB zN zJ))))) (zNP (zE 3) zN))) (zR (yF (zAG (zB (zE 2) (zB (zHa rfl av (zE5 "pair" rfl (yf (osc:=zC zAo) (N:=["state","most","many","way","pairs","far"]) (N0:=["state","!01","!02","!03","!04","far"]) (own:=["pair"]) (by decide +kernel)) (zDc (zE 4)) (fun u0 u0 u0 u0 u0=>(zCR (zHX hr (yI aR hr (by decide) rfl (zB (zE 0) (zB (zE 5) zJ))) zN))) (fun u0 u0 u0 u0 u0=>(zE 6)))) zJ)))))))))))
theorem zJ3{f:Addr}{fd:FuncData}(F:Fun K "_law_ring" "_law_ring" zAc f fd)(hm:mg "_law_ring"=some (.ref f))(bY:mg "list"=none)(af:mg "range"=none)(av:mg "tuple"=none)(aj:mg "len"=none)   (aR:Df P w K mg base 1 "_law_take" ["state","many"] yW):Df P w K mg base 2 "_law_ring" ["state","many"] wc:=by
 have nd:=(zFq).nd
 refine yV zCr F zFq hm (F.binds fun u0 u0 u0 u0 u0 u0 us hl=>us2 us hl fun u0 u0=>rfl) (fun cdv A outer s H E hr=>?_) zKl
 unfold zCr
 exact(zM (yE 2 nd (zz (zPf (zz (zMM rfl rfl bY rfl af (zB (zE 1) zJ))) zN))) (zR (yF (zHa rfl av (zE5 "k" rfl (yf (osc:=zC zAc) (N:=["state","many","left"]) (N0:=["state","!01","left"]) (own:=["k"]) (by decide +kernel)) (zAV rfl af (zB (zDG zN (zE 1)) zJ)) (fun u0 u0 u0 u0 u0=>zEG) (fun u0 u0 u0 u0 u0=>(zPg (zE 2) (zB (yI aR hr (by decide) rfl (zB (zE 0) (zB (zBf rfl aj (zB (zE 2) zJ)) zJ))) zJ))))))))
theorem zHI{f:Addr}{fd:FuncData}(F:Fun K "_law_web_of" "_law_web_of" wG f fd)(hm:mg "_law_web_of"=some (.ref f))(aj:mg "len"=none)(av:mg "tuple"=none)   (aZ:Df P w K mg base 1 "_law_pairs" ["many"] (spL yZ)):Df P w K mg base 2 "_law_web_of" ["ring"] yk:=by
 have nd:=(zDm).nd
 refine yV zBJ F zDm hm (F.binds fun u0 u0 u0 u0 u0 u0 us hl=>us1 us hl fun u0=>rfl) (fun cdv A outer s H E hr=>?_) zHn
 unfold zBJ
 exact(zM (yE 1 nd (zHV (zBf rfl aj (zB (zE 0) zJ)) zN)) (zM (yE 2 nd (zz (wX zJ))) (zM (zAs PassesOwn.never rfl (zKM (zAr aZ zCp hr (by decide) rfl (zB (zE 1) zJ))) (zPX 3 4 rfl nd) (zM (zIW 5 "place" rfl (yf (osc:=zC wG) (N:=["ring","many","found","one","other","some"]) (N0:=["!00","!01","!02","one","other","!05"]) (own:=["place"]) (by decide +kernel)) (zDc (zE 0)) (fun u0 u0 u0 u0 u0=>(zCR (zQM hr (zE 6) (zAG (zB (zE 3) (zB (zE 4) zJ)))))) (fun u0 u0 u0 u0 u0=>(zE 6)) nd) (zR (zCQ (W2.test (w_and (zMH hr (yo (zE 5) zN) (yo (zE 5) zN)) (zOO (zMH hr (yo (zE 5) zN) (yo (zE 5) zN))))) (zR (zCP (zEJ (zE 2) (zB (zAG (zB (zE 3) (zB (zE 4) zJ))) zJ)))) wF)))) (zR (yF (zAG (zB (zE 1) (zB (zML rfl av (zB (zE 2) zJ)) zJ))))))))
theorem zPC{f:Addr}{fd:FuncData}(F:Fun K "law" "law" zA8 f fd)(af:mg "range"=none)(bI:mg "max"=none)(bH:mg "min"=none)(aj:mg "len"=none)(ca:mg "int"=none)(ad:mg "isinstance"=none)(ai:mg "ValueError"=none)   (bJ:Df P w K mg base 2 "_law_state" ["script","k"] (spL yb))(bP:Df P w K mg base 3 "_law_web" ["state","most"] zAz)(ba:Df P w K mg base 2 "_law_ring" ["state","many"] wc)(aT:Df P w K mg base 2 "_law_web_of" ["ring"] yk)(bK:Df P w K mg base 12 "ring_of" ["web"] wg)(bo:Df P w K mg base 3 "all_rings" ["web"] (spL yv)){aS aa aG ap az aq:Addr}(aY:mg "ChordError"=some (.ref aS))(ah:mg "TooMany"=some (.ref aa))(aW:mg "NoTie"=some (.ref aG))(aC:mg "NoSplit"=some (.ref ap))(aI:mg "NoName"=some (.ref az))(aD:mg "BadNote"=some (.ref aq)){fR:Addr}{fdR:FuncData}(FR:Fun K "_law_refused" "_law_refused" zi fR fdR)(mR:mg "_law_refused"=some (.ref fR))(bR:Binds K fdR ["call"] []){tc tP:Addr}(hco:fd.code=.ref tc)(hCH:PySem.W.CodeHd base tc tP)(hBA:BMn base mg)(hTB:PySem.W.tabIn K "law"=some (tc,tP))(aA:zFF K aa)(aU:PySem.W.exmOne K (.ref aa) (.ref aS)=some true)(ak:PySem.W.kitOne K (.ref aa) (.ref aa)=some true)(aw:PySem.W.kitOne K (.ref aa) (.ref aG)=some false)(am:PySem.W.kitOne K (.ref aa) (.ref ap)=some false)(au:PySem.W.kitOne K (.ref aa) (.ref az)=some false)(ao:PySem.W.kitOne K (.ref aa) (.ref aq)=some false)(aV:PySem.W.kitOne K (.ref aa) (.type "ValueError")=some true)(aK:PySem.W.kitOne K (.type "NoneType") (.ref aa)=some false)(b9:PySem.W.kitOne K (.type "NoneType") (.ref aG)=some false)(aL:PySem.W.kitOne K (.type "NoneType") (.ref ap)=some false)(aX:PySem.W.kitOne K (.type "NoneType") (.ref az)=some false)(aM:PySem.W.kitOne K (.type "NoneType") (.ref aq)=some false)(nV:PySem.W.kitOne K (.type "NoneType") (.type "ValueError")=some false)(bL:Rz P w K mg base 12 "ring_of" ["web"] yw aa)(bp:Rz P w K mg base 3 "all_rings" ["web"] yX aa) :zBb P w K mg base CX0 15 f fd ["script"] (lSp K zFc):=by
 have nd:=zLp.nd
 refine zO7 zC9 F zLp (fun cdv A outer s H E hcd hr=>?_) zP0
 unfold zC9
 exact(zM (zAs PassesOwn.never rfl (zAV rfl af (zB (zNS rfl rfl bI (zB zN (zB (zNR rfl rfl bH (zB (zBf rfl aj (zB (zE 0) zJ)) (zB zN zJ))) zJ))) zJ)) (zBC 1 nd) (zM (yE 2 nd (zz (zAr bJ zFw hr (by decide) rfl (zB (zE 0) (zB (zE 1) zJ))))) (zR (zAs PassesOwn.never rfl (zKM (wX (zB (yI bP hr (by decide) rfl (zB (zE 2) (zB zN zJ))) (zB (yI aT hr (by decide) rfl (zB (yI ba hr (by decide) rfl (zB (zE 2) (zB zN zJ))) zJ)) (zB (yI bP hr (by decide) rfl (zB (zE 2) (zB zN zJ))) (zB (zAG (zB zN (zB (zAG zJ) zJ))) (zB (zAG (zB zN (zB (zAG zJ) zJ))) zJ))))))) (zBC 3 nd) (zM (yE 4 nd (yo (zz (wX (zB (zz (wX (zB zN zJ))) (zB zFS zJ)))) (zKy rfl ca (zB (zPc (yo (zE 3) zN) zN) zJ)))) (zM (zCQ (zMH hr (zLn (zNf (k:=12) FR yx mR bR (hr.mono (by decide)) rfl zI6 aY aU (fun cdv A outer s H e oe u0 hcl=>zI7 ad ai af ah aW aC aI aD aA hcl ak aw am au ao aV) zDk (zI3 (osc:=zC zA8) (by decide +kernel) (hcd.symm.trans hco) hCH hBA hTB (by decide) rfl rfl (fun u0 u0 u0 u0 u0=>rfl)) (fun g cv A outer s H hr2=>zD7 zI0 bL hr2 (by decide) rfl (zB (zE 3) zJ))) (zI4 (k:=12) FR yx mR bR (hr.mono (by decide)) rfl zI6 (fun cdv A outer s H u0=>zHG ad ai af ah aW aC aI aD aK b9 aL aX aM nV) res_none (zI3 (osc:=zC zA8) (by decide +kernel) (hcd.symm.trans hco) hCH hBA hTB (by decide) rfl rfl (fun u0 u0 u0 u0 u0=>rfl)) (fun g cv A outer s H hr2=>yI bK hr2 (by decide) rfl (zB (zE 3) zJ)))) (zE 4)) (zR (yF zKH)) wF) (zM (yE 4 nd (yo (zz (wX (zB (zz (wX (zB zN zJ))) (zB zFS zJ)))) (zKy rfl ca (zB (zPc (yo (zE 3) zN) zN) zJ)))) (zR (zCQ (zMH hr (zLn (zNf (k:=3) FR yx mR bR (hr.mono (by decide)) rfl zI6 aY aU (fun cdv A outer s H e oe u0 hcl=>zI7 ad ai af ah aW aC aI aD aA hcl ak aw am au ao aV) zDk (zI3 (osc:=zC zA8) (by decide +kernel) (hcd.symm.trans hco) hCH hBA hTB (by decide) rfl rfl (fun u0 u0 u0 u0 u0=>rfl)) (fun g cv A outer s H hr2=>zD7 zI0 bp hr2 (by decide) rfl (zB (zE 3) zJ))) (zI4 (k:=3) FR yx mR bR (hr.mono (by decide)) rfl zI6 (fun cdv A outer s H u0=>zHG ad ai af ah aW aC aI aD aK b9 aL aX aM nV) res_none (zI3 (osc:=zC zA8) (by decide +kernel) (hcd.symm.trans hco) hCH hBA hTB (by decide) rfl rfl (fun u0 u0 u0 u0 u0=>rfl)) (fun g cv A outer s H hr2=>yI bo hr2 (by decide) rfl (zB (zE 3) zJ)))) (zE 4)) (zR (yF zKH)) wF))))))))) (zR (yF zKH)))
end
theorem zPD{l:PySem.W.OpenLaw}{w:World}{K:PySem.W.Frag}{h:Heap}{mg:Str→Option Value}{fa:Addr}(X:K.In h)(G:h.Ns mainGlobals mg)(hfa:mg "law"=some (.ref fa))
  {f0:Addr} {od0 an0:Option Addr} {sl0:Array (Option Value)} {oc0 kV0 dc0 pm0 cd0 ct0:Value} {f1:Addr} {od1 an1:Option Addr} {sl1:Array (Option Value)} {oc1 kV1 dc1 pm1 cd1 ct1:Value} {f2:Addr} {od2 an2:Option Addr} {sl2:Array (Option Value)} {oc2 kV2 dc2 pm2 cd2 ct2:Value} {f3:Addr} {od3 an3:Option Addr} {sl3:Array (Option Value)} {oc3 kV3 dc3 pm3 cd3 ct3:Value} {f4:Addr} {od4 an4:Option Addr} {sl4:Array (Option Value)} {oc4 kV4 dc4 pm4 cd4 ct4:Value} {f5:Addr} {od5 an5:Option Addr} {sl5:Array (Option Value)} {oc5 kV5 dc5 pm5 cd5 ct5:Value} {f6:Addr} {od6 an6:Option Addr} {sl6:Array (Option Value)} {oc6 kV6 dc6 pm6 cd6 ct6:Value} {f7:Addr} {od7 an7:Option Addr} {sl7:Array (Option Value)} {oc7 kV7 dc7 pm7 cd7 ct7:Value} {f8:Addr} {od8 an8:Option Addr} {sl8:Array (Option Value)} {oc8 kV8 dc8 pm8 cd8 ct8:Value} {f9:Addr} {od9 an9:Option Addr} {sl9:Array (Option Value)} {oc9 kV9 dc9 pm9 cd9 ct9:Value} {f10:Addr} {od10 an10:Option Addr} {sl10:Array (Option Value)} {oc10 kV10 dc10 pm10 cd10 ct10:Value} {f11:Addr} {od11 an11:Option Addr} {sl11:Array (Option Value)} {oc11 kV11 dc11 pm11 cd11 ct11:Value} {f12:Addr} {od12 an12:Option Addr} {sl12:Array (Option Value)} {oc12 kV12 dc12 pm12 cd12 ct12:Value} {f13:Addr} {od13 an13:Option Addr} {sl13:Array (Option Value)} {oc13 kV13 dc13 pm13 cd13 ct13:Value} {f14:Addr} {od14 an14:Option Addr} {sl14:Array (Option Value)} {oc14 kV14 dc14 pm14 cd14 ct14:Value} {f15:Addr} {od15 an15:Option Addr} {sl15:Array (Option Value)} {oc15 kV15 dc15 pm15 cd15 ct15:Value} {f16:Addr} {od16 an16:Option Addr} {sl16:Array (Option Value)} {oc16 kV16 dc16 pm16 cd16 ct16:Value} {f17:Addr} {od17 an17:Option Addr} {sl17:Array (Option Value)} {oc17 kV17 dc17 pm17 cd17 ct17:Value} {f18:Addr} {od18 an18:Option Addr} {sl18:Array (Option Value)} {oc18 kV18 dc18 pm18 cd18 ct18:Value} {f19:Addr} {od19 an19:Option Addr} {sl19:Array (Option Value)} {oc19 kV19 dc19 pm19 cd19 ct19:Value} {f20:Addr} {od20 an20:Option Addr} {sl20:Array (Option Value)} {oc20 kV20 dc20 pm20 cd20 ct20:Value} {aJ:Tok} {aP:Tok} {aS aa aG ap az aq:Addr} {ci cj:Addr}
  (a0:PySem.W.nsIn K mainGlobals "refuse_more"=some (some (.ref f0))) (l0:K.lookup f0=some ⟨oc0,od0,.func (PySem.W.fnOf "refuse_more" "refuse_more" (zg yG) (zV yG) (zC yG) .none kV0 dc0 pm0 an0 cd0 ct0),sl0⟩) (c0:PySem.W.codeIn K cd0 "refuse_more"=true) (k0:PySem.W.keepIn K (.ref f0)=true)
  (a1:PySem.W.nsIn K mainGlobals "turned_round"=some (some (.ref f1))) (l1:K.lookup f1=some ⟨oc1,od1,.func (PySem.W.fnOf "turned_round" "turned_round" (zg yY) (zV yY) (zC yY) .none kV1 dc1 pm1 an1 cd1 ct1),sl1⟩) (c1:PySem.W.codeIn K cd1 "turned_round"=true) (k1:PySem.W.keepIn K (.ref f1)=true)
  (a2:PySem.W.nsIn K mainGlobals "mirrored"=some (some (.ref f2))) (l2:K.lookup f2=some ⟨oc2,od2,.func (PySem.W.fnOf "mirrored" "mirrored" (zg wj) (zV wj) (zC wj) .none kV2 dc2 pm2 an2 cd2 ct2),sl2⟩) (c2:PySem.W.codeIn K cd2 "mirrored"=true) (k2:PySem.W.keepIn K (.ref f2)=true)
  (a3:PySem.W.nsIn K mainGlobals "least"=some (some (.ref f3))) (l3:K.lookup f3=some ⟨oc3,od3,.func (PySem.W.fnOf "least" "least" (zg zB7) (zV zB7) (zC zB7) .none kV3 dc3 pm3 an3 cd3 ct3),sl3⟩) (c3:PySem.W.codeIn K cd3 "least"=true) (k3:PySem.W.keepIn K (.ref f3)=true)
  (a4:PySem.W.nsIn K mainGlobals "tied"=some (some (.ref f4))) (l4:K.lookup f4=some ⟨oc4,od4,.func (PySem.W.fnOf "tied" "tied" (zg zDZ) (zV zDZ) (zC zDZ) .none kV4 dc4 pm4 an4 cd4 ct4),sl4⟩) (c4:PySem.W.codeIn K cd4 "tied"=true) (k4:PySem.W.keepIn K (.ref f4)=true)
  (a5:PySem.W.nsIn K mainGlobals "ring_of"=some (some (.ref f5))) (l5:K.lookup f5=some ⟨oc5,od5,.func (PySem.W.fnOf "ring_of" "ring_of" (zg wM) (zV wM) (zC wM) .none kV5 dc5 pm5 an5 cd5 ct5),sl5⟩) (c5:PySem.W.codeIn K cd5 "ring_of"=true) (k5:PySem.W.keepIn K (.ref f5)=true)
  (a6:PySem.W.nsIn K mainGlobals "near_order"=some (some (.ref f6))) (l6:K.lookup f6=some ⟨oc6,od6,.func (PySem.W.fnOf "near_order" "near_order" (zg yP) (zV yP) (zC yP) .none kV6 dc6 pm6 an6 cd6 ct6),sl6⟩) (c6:PySem.W.codeIn K cd6 "near_order"=true) (k6:PySem.W.keepIn K (.ref f6)=true)
  (a7:PySem.W.nsIn K mainGlobals "tied_among"=some (some (.ref f7))) (l7:K.lookup f7=some ⟨oc7,od7,.func (PySem.W.fnOf "tied_among" "tied_among" (zg yc) (zV yc) (zC yc) .none kV7 dc7 pm7 an7 cd7 ct7),sl7⟩) (c7:PySem.W.codeIn K cd7 "tied_among"=true) (k7:PySem.W.keepIn K (.ref f7)=true)
  (a8:PySem.W.nsIn K mainGlobals "grown"=some (some (.ref f8))) (l8:K.lookup f8=some ⟨oc8,od8,.func (PySem.W.fnOf "grown" "grown" (zg yd) (zV yd) (zC yd) .none kV8 dc8 pm8 an8 cd8 ct8),sl8⟩) (c8:PySem.W.codeIn K cd8 "grown"=true) (k8:PySem.W.keepIn K (.ref f8)=true)
  (a9:PySem.W.nsIn K mainGlobals "with_chord"=some (some (.ref f9))) (l9:K.lookup f9=some ⟨oc9,od9,.func (PySem.W.fnOf "with_chord" "with_chord" (zg ye) (zV ye) (zC ye) .none kV9 dc9 pm9 an9 cd9 ct9),sl9⟩) (c9:PySem.W.codeIn K cd9 "with_chord"=true) (k9:PySem.W.keepIn K (.ref f9)=true)
  (a10:PySem.W.nsIn K mainGlobals "all_rings"=some (some (.ref f10))) (l10:K.lookup f10=some ⟨oc10,od10,.func (PySem.W.fnOf "all_rings" "all_rings" (zg yQ) (zV yQ) (zC yQ) .none kV10 dc10 pm10 an10 cd10 ct10),sl10⟩) (c10:PySem.W.codeIn K cd10 "all_rings"=true) (k10:PySem.W.keepIn K (.ref f10)=true)
  (a11:PySem.W.nsIn K mainGlobals "all_with_chord"=some (some (.ref f11))) (l11:K.lookup f11=some ⟨oc11,od11,.func (PySem.W.fnOf "all_with_chord" "all_with_chord" (zg yH) (zV yH) (zC yH) .none kV11 dc11 pm11 an11 cd11 ct11),sl11⟩) (c11:PySem.W.codeIn K cd11 "all_with_chord"=true) (k11:PySem.W.keepIn K (.ref f11)=true)
  (a12:PySem.W.nsIn K mainGlobals "_law_cell_at"=some (some (.ref f12))) (l12:K.lookup f12=some ⟨oc12,od12,.func (PySem.W.fnOf "_law_cell_at" "_law_cell_at" (zg wN) (zV wN) (zC wN) .none kV12 dc12 pm12 an12 cd12 ct12),sl12⟩) (c12:PySem.W.codeIn K cd12 "_law_cell_at"=true) (k12:PySem.W.keepIn K (.ref f12)=true)
  (a13:PySem.W.nsIn K mainGlobals "_law_state"=some (some (.ref f13))) (l13:K.lookup f13=some ⟨oc13,od13,.func (PySem.W.fnOf "_law_state" "_law_state" (zg zAR) (zV zAR) (zC zAR) .none kV13 dc13 pm13 an13 cd13 ct13),sl13⟩) (c13:PySem.W.codeIn K cd13 "_law_state"=true) (k13:PySem.W.keepIn K (.ref f13)=true)
  (a14:PySem.W.nsIn K mainGlobals "_law_take"=some (some (.ref f14))) (l14:K.lookup f14=some ⟨oc14,od14,.func (PySem.W.fnOf "_law_take" "_law_take" (zg zA7) (zV zA7) (zC zA7) .none kV14 dc14 pm14 an14 cd14 ct14),sl14⟩) (c14:PySem.W.codeIn K cd14 "_law_take"=true) (k14:PySem.W.keepIn K (.ref f14)=true)
  (a15:PySem.W.nsIn K mainGlobals "_law_pairs"=some (some (.ref f15))) (l15:K.lookup f15=some ⟨oc15,od15,.func (PySem.W.fnOf "_law_pairs" "_law_pairs" (zg wk) (zV wk) (zC wk) .none kV15 dc15 pm15 an15 cd15 ct15),sl15⟩) (c15:PySem.W.codeIn K cd15 "_law_pairs"=true) (k15:PySem.W.keepIn K (.ref f15)=true)
  (a16:PySem.W.nsIn K mainGlobals "_law_web"=some (some (.ref f16))) (l16:K.lookup f16=some ⟨oc16,od16,.func (PySem.W.fnOf "_law_web" "_law_web" (zg zAo) (zV zAo) (zC zAo) .none kV16 dc16 pm16 an16 cd16 ct16),sl16⟩) (c16:PySem.W.codeIn K cd16 "_law_web"=true) (k16:PySem.W.keepIn K (.ref f16)=true)
  (a17:PySem.W.nsIn K mainGlobals "_law_ring"=some (some (.ref f17))) (l17:K.lookup f17=some ⟨oc17,od17,.func (PySem.W.fnOf "_law_ring" "_law_ring" (zg zAc) (zV zAc) (zC zAc) .none kV17 dc17 pm17 an17 cd17 ct17),sl17⟩) (c17:PySem.W.codeIn K cd17 "_law_ring"=true) (k17:PySem.W.keepIn K (.ref f17)=true)
  (a18:PySem.W.nsIn K mainGlobals "_law_web_of"=some (some (.ref f18))) (l18:K.lookup f18=some ⟨oc18,od18,.func (PySem.W.fnOf "_law_web_of" "_law_web_of" (zg wG) (zV wG) (zC wG) .none kV18 dc18 pm18 an18 cd18 ct18),sl18⟩) (c18:PySem.W.codeIn K cd18 "_law_web_of"=true) (k18:PySem.W.keepIn K (.ref f18)=true)
  (a19:PySem.W.nsIn K mainGlobals "_law_refused"=some (some (.ref f19))) (l19:K.lookup f19=some ⟨oc19,od19,.func (PySem.W.fnOf "_law_refused" "_law_refused" (zg zi) (zV zi) (zC zi) .none kV19 dc19 pm19 an19 cd19 ct19),sl19⟩) (c19:PySem.W.codeIn K cd19 "_law_refused"=true) (k19:PySem.W.keepIn K (.ref f19)=true)
  (a20:PySem.W.nsIn K mainGlobals "law"=some (some (.ref f20))) (l20:K.lookup f20=some ⟨oc20,od20,.func (PySem.W.fnOf "law" "law" (zg zA8) (zV zA8) (zC zA8) .none kV20 dc20 pm20 an20 cd20 ct20),sl20⟩) (c20:PySem.W.codeIn K cd20 "law"=true) (k20:PySem.W.keepIn K (.ref f20)=true)
  (bf:PySem.W.nsIn K mainGlobals "MOST_FOUND"=some (some (.int 7 aJ)))
  (bq:PySem.W.nsIn K mainGlobals "MOST_TOLD"=some (some (.int 5 aP)))
  (bT:PySem.W.nsIn K mainGlobals "tuple"=some none)
  (bF:PySem.W.nsIn K mainGlobals "reversed"=some none)
  (bU:PySem.W.nsIn K mainGlobals "range"=some none)
  (ck:PySem.W.nsIn K mainGlobals "len"=some none)
  (cq:PySem.W.nsIn K mainGlobals "min"=some none)
  (cu:PySem.W.nsIn K mainGlobals "max"=some none)
  (cw:PySem.W.nsIn K mainGlobals "sum"=some none)
  (bQ:PySem.W.nsIn K mainGlobals "sorted"=some none)
  (cx:PySem.W.nsIn K mainGlobals "set"=some none)
  (bZ:PySem.W.nsIn K mainGlobals "list"=some none)
  (bg:PySem.W.nsIn K mainGlobals "isinstance"=some none)
  (bh:PySem.W.nsIn K mainGlobals "ValueError"=some none)
  (cy:PySem.W.nsIn K mainGlobals "int"=some none)
  (bi:PySem.W.nsIn K mainGlobals "ChordError"=some (some (.ref aS)))
  (bM:PySem.W.nsIn K mainGlobals "TooMany"=some (some (.ref aa)))
  (bV:PySem.W.nsIn K mainGlobals "NoTie"=some (some (.ref aG)))
  (bN:PySem.W.nsIn K mainGlobals "NoSplit"=some (some (.ref ap)))
  (bS:PySem.W.nsIn K mainGlobals "NoName"=some (some (.ref az)))
  (bO:PySem.W.nsIn K mainGlobals "BadNote"=some (some (.ref aq)))
  (br:PySem.W.excIn K aa bmV "ValueError.__new__"=true)
  (bu:(PySem.W.clsIn K aa).isSome=true)
  (bv:PySem.W.findIn K (.ref aa) "__getattribute__"=some (some (.builtin "BaseException.__getattribute__")))
  (bw:PySem.W.findIn K (.ref aa) "__getattr__"=some none)
  (bx:PySem.W.findIn K (.ref aa) "__class__"=some (some (.builtin "object.__class__")))
  (bz:PySem.W.specialIn K (.builtin "object.__class__") "__get__"=some (some (.builtin "getset_descriptor.__get__")))
  (bA:PySem.W.takesIn K (.builtin "object.__class__")=some true)
  (bB:PySem.W.mroIn K aa (.type "object")=some true)
  (bC:PySem.W.mroIn K aa (.type "BaseException")=some true)
  (aU:PySem.W.exmOne K (.ref aa) (.ref aS)=some true)
  (ak:PySem.W.kitOne K (.ref aa) (.ref aa)=some true)
  (aw:PySem.W.kitOne K (.ref aa) (.ref aG)=some false)
  (am:PySem.W.kitOne K (.ref aa) (.ref ap)=some false)
  (au:PySem.W.kitOne K (.ref aa) (.ref az)=some false)
  (ao:PySem.W.kitOne K (.ref aa) (.ref aq)=some false)
  (aV:PySem.W.kitOne K (.ref aa) (.type "ValueError")=some true)
  (aK:PySem.W.kitOne K (.type "NoneType") (.ref aa)=some false)
  (b9:PySem.W.kitOne K (.type "NoneType") (.ref aG)=some false)
  (aL:PySem.W.kitOne K (.type "NoneType") (.ref ap)=some false)
  (aX:PySem.W.kitOne K (.type "NoneType") (.ref az)=some false)
  (aM:PySem.W.kitOne K (.type "NoneType") (.ref aq)=some false)
  (nV:PySem.W.kitOne K (.type "NoneType") (.type "ValueError")=some false)
  (zC9:PySem.W.tabIn K "law"=some (ci,cj)) (cz:zC8 K ci cj=true) :
  ∃ fd:FuncData,(∀(s:Shared) (v:Value),BindsTo s fd ⟨[v],[]⟩ [("script",v)])∧∀ base:Heap,K.In base→base.Ns mainGlobals mg→BMn base mg→zBb l.prog w K mg base CX0 15 fa fd ["script"] (lSp K zFc):=by
 have e:=hfa.symm.trans (PySem.W.mg_of X G a20)
 cases e
 have aH:=PySem.W.mg_of X G bf
 have aN:=PySem.W.mg_of X G bq
 have av:=PySem.W.mg_none_of X G bT
 have bD:=PySem.W.mg_none_of X G bF
 have af:=PySem.W.mg_none_of X G bU
 have aj:=PySem.W.mg_none_of X G ck
 have bH:=PySem.W.mg_none_of X G cq
 have bI:=PySem.W.mg_none_of X G cu
 have cg:=PySem.W.mg_none_of X G cw
 have bj:=PySem.W.mg_none_of X G bQ
 have bW:=PySem.W.mg_none_of X G cx
 have bY:=PySem.W.mg_none_of X G bZ
 have ad:=PySem.W.mg_none_of X G bg
 have ai:=PySem.W.mg_none_of X G bh
 have ca:=PySem.W.mg_none_of X G cy
 refine⟨PySem.W.fnOf "law" "law" (zg zA8) (zV zA8) (zC zA8) .none kV20 dc20 pm20 an20 cd20 ct20,fun s v=>.of_eq rfl,fun base kb u0 hBA=>?_⟩
 have aY:=PySem.W.mg_of X G bi
 have ah:=PySem.W.mg_of X G bM
 have aW:=PySem.W.mg_of X G bV
 have aC:=PySem.W.mg_of X G bN
 have aI:=PySem.W.mg_of X G bS
 have aD:=PySem.W.mg_of X G bO
 have aA:zFF K aa:=⟨br,bu,bv,bw,bx,bz,bA,bB,bC⟩
 have FR:=zk (st:=zi) l19 c19 k19
 have mR:=PySem.W.mg_of X G a19
 have bR:=FR.binds (ps:=["call"]) fun u0 u0 u0 u0 u0 u0 us hl=>us1 us hl fun u0=>rfl
 have aE:Rz l.prog w K mg base 1 "refuse_more" ["many","most"] zt aa:=zEy (zk (st:=yG) l0 c0 k0) (PySem.W.mg_of X G a0) ah aA
 have aF:Df l.prog w K mg base 1 "refuse_more" ["many","most"] yJ:=zEz (zk (st:=yG) l0 c0 k0) (PySem.W.mg_of X G a0) 
 have aQ:Df l.prog w K mg base 1 "turned_round" ["ring","by"] yD:=zDs (zk (st:=yY) l1 c1 k1) (PySem.W.mg_of X G a1) 
 have bE:Df l.prog w K mg base 1 "mirrored" ["ring"] wL:=zHH (zk (st:=wj) l2 c2 k2) (PySem.W.mg_of X G a2) av bD
 have bX:Df l.prog w K mg base 1 "tied" ["web","one","other"] zBy:=zNF (zk (st:=zDZ) l4 c4 k4) (PySem.W.mg_of X G a4) bH bI
 have ag:Df l.prog w K mg base 1 "with_chord" ["ring","place","crossed"] (spL zu):=zFI (zk (st:=ye) l9 c9 k9) (PySem.W.mg_of X G a9) cg af aj
 have bn:Df l.prog w K mg base 1 "_law_cell_at" ["script","k"] wQ:=zGJ (zk (st:=wN) l12 c12 k12) (PySem.W.mg_of X G a12) aj
 have aR:Df l.prog w K mg base 1 "_law_take" ["state","many"] yW:=zJ2 (zk (st:=zA7) l14 c14 k14) (PySem.W.mg_of X G a14) 
 have aZ:Df l.prog w K mg base 1 "_law_pairs" ["many"] (spL yZ):=zIK (zk (st:=wk) l15 c15 k15) (PySem.W.mg_of X G a15) af
 have bG:Df l.prog w K mg base 2 "least" ["ring"] wy:=zLq (zk (st:=zB7) l3 c3 k3) (PySem.W.mg_of X G a3) af aj bH bE aQ
 have ae:Df l.prog w K mg base 2 "tied_among" ["web","place","others"] (spL zZ):=zFH (zk (st:=yc) l7 c7 k7) (PySem.W.mg_of X G a7) bX
 have aB:Df l.prog w K mg base 2 "all_with_chord" ["rings","place","crossed"] (spL zh):=zDB (zk (st:=yH) l11 c11 k11) (PySem.W.mg_of X G a11) ag
 have bJ:Df l.prog w K mg base 2 "_law_state" ["script","k"] (spL yb):=zIJ (zk (st:=zAR) l13 c13 k13) (PySem.W.mg_of X G a13) bn
 have ba:Df l.prog w K mg base 2 "_law_ring" ["state","many"] wc:=zJ3 (zk (st:=zAc) l17 c17 k17) (PySem.W.mg_of X G a17) bY af av aj aR
 have aT:Df l.prog w K mg base 2 "_law_web_of" ["ring"] yk:=zHI (zk (st:=wG) l18 c18 k18) (PySem.W.mg_of X G a18) aj av aZ
 have aO:Df l.prog w K mg base 3 "near_order" ["web"] (spL zv):=zFG (zk (st:=yP) l6 c6 k6) (PySem.W.mg_of X G a6) aj af bI ae
 have bp:Rz l.prog w K mg base 3 "all_rings" ["web"] yX aa:=zGH (zk (st:=yQ) l10 c10 k10) (PySem.W.mg_of X G a10) af av bj bW aN ae aB bG aE ah aA
 have bo:Df l.prog w K mg base 3 "all_rings" ["web"] (spL yv):=zGI (zk (st:=yQ) l10 c10 k10) (PySem.W.mg_of X G a10) af av bj bW aN aF ae aB bG
 have bP:Df l.prog w K mg base 3 "_law_web" ["state","most"] zAz:=zLr (zk (st:=zAo) l16 c16 k16) (PySem.W.mg_of X G a16) av aR aZ ba aT
 have cA:Df l.prog w K mg base 3 "grown" ["web","order","done","ring"] (zr 0):=zJ1 (zk (st:=yd) l8 c8 k8) (PySem.W.mg_of X G a8)
 have cB:Df l.prog w K mg base 4 "grown" ["web","order","done","ring"] (zr 1):=wz (zk (st:=yd) l8 c8 k8) (PySem.W.mg_of X G a8) aj ae (by decide) ag (by decide) cA
 have cC:Df l.prog w K mg base 5 "grown" ["web","order","done","ring"] (zr 2):=wz (zk (st:=yd) l8 c8 k8) (PySem.W.mg_of X G a8) aj ae (by decide) ag (by decide) cB
 have cD:Df l.prog w K mg base 6 "grown" ["web","order","done","ring"] (zr 3):=wz (zk (st:=yd) l8 c8 k8) (PySem.W.mg_of X G a8) aj ae (by decide) ag (by decide) cC
 have cE:Df l.prog w K mg base 7 "grown" ["web","order","done","ring"] (zr 4):=wz (zk (st:=yd) l8 c8 k8) (PySem.W.mg_of X G a8) aj ae (by decide) ag (by decide) cD
 have cF:Df l.prog w K mg base 8 "grown" ["web","order","done","ring"] (zr 5):=wz (zk (st:=yd) l8 c8 k8) (PySem.W.mg_of X G a8) aj ae (by decide) ag (by decide) cE
 have cG:Df l.prog w K mg base 9 "grown" ["web","order","done","ring"] (zr 6):=wz (zk (st:=yd) l8 c8 k8) (PySem.W.mg_of X G a8) aj ae (by decide) ag (by decide) cF
 have cH:Df l.prog w K mg base 10 "grown" ["web","order","done","ring"] (zr 7):=wz (zk (st:=yd) l8 c8 k8) (PySem.W.mg_of X G a8) aj ae (by decide) ag (by decide) cG
 have bb:Df l.prog w K mg base 11 "grown" ["web","order","done","ring"] (zr 8):=wz (zk (st:=yd) l8 c8 k8) (PySem.W.mg_of X G a8) aj ae (by decide) ag (by decide) cH
 have bL:Rz l.prog w K mg base 12 "ring_of" ["web"] yw aa:=zIH (zk (st:=wM) l5 c5 k5) (PySem.W.mg_of X G a5) aH aO bb aE ah aA
 have bK:Df l.prog w K mg base 12 "ring_of" ["web"] wg:=zII (zk (st:=wM) l5 c5 k5) (PySem.W.mg_of X G a5) aH aF aO bb
 exact zPC (zk (st:=zA8) l20 c20 k20) af bI bH aj ca ad ai bJ bP ba aT bK bo aY ah aW aC aI aD FR mR bR (zLf zC9 a20 l20) (zFn kb cz).1 hBA zC9 aA aU ak aw am au ao aV aK b9 aL aX aM nV bL bp 
end K
open PySem PySem.W PyProof.Rows
set_option maxRecDepth 100000 in
set_option maxHeartbeats 0 in
theorem PySem.Challenge.cw_chordwebs_k53_too_many_places_holds : PySem.Challenge.rw_chordwebs_k53_too_many_places.Holds := by
 w_on;o_law;k_head;(case hw=>w_witness2)
 k_fill
 refine L3.zJz (l:=PySem.Challenge.rw_chordwebs_k53_too_many_places) (k:=15) rfl rfl ⟨rfl,by decide,by decide⟩ ?T ?F
 case T =>
  intro w
  refine' L2.zPx (x:="law") ⟨_,_,?e1,?e2,?e3⟩ ?hy ?ho
  (case e1=>rfl)
  (case e2=>rfl)
  (case e3=>rfl)
  (case hy=>intro y hy;unfold L2.zA9 at hy;simp only[dC,gI,or_false] at hy;first | (subst hy;first | exact Or.inl rfl | exact Or.inr (Or.inl rfl) | exact Or.inr rfl | exact Or.inr (Or.inr rfl)) | (rcases hy with rfl | rfl<;>first | exact Or.inl rfl | exact Or.inr (Or.inl rfl) | exact Or.inr rfl | exact Or.inr (Or.inr rfl)))
  (case ho=>decide)
 case F =>
  intro w mg fa h KX G hmg
  refine' K.zPD KX G hmg ?a0 ?l0 ?c0 ?k0 ?a1 ?l1 ?c1 ?k1 ?a2 ?l2 ?c2 ?k2 ?a3 ?l3 ?c3 ?k3 ?a4 ?l4 ?c4 ?k4 ?a5 ?l5 ?c5 ?k5 ?a6 ?l6 ?c6 ?k6 ?a7 ?l7 ?c7 ?k7 ?a8 ?l8 ?c8 ?k8 ?a9 ?l9 ?c9 ?k9 ?a10 ?l10 ?c10 ?k10 ?a11 ?l11 ?c11 ?k11 ?a12 ?l12 ?c12 ?k12 ?a13 ?l13 ?c13 ?k13 ?a14 ?l14 ?c14 ?k14 ?a15 ?l15 ?c15 ?k15 ?a16 ?l16 ?c16 ?k16 ?a17 ?l17 ?c17 ?k17 ?a18 ?l18 ?c18 ?k18 ?a19 ?l19 ?c19 ?k19 ?a20 ?l20 ?c20 ?k20 ?bf ?bq ?bT ?bF ?bU ?ck ?cq ?cu ?cw ?bQ ?cx ?bZ ?bg ?bh ?cy ?bi ?bM ?bV ?bN ?bS ?bO ?br ?bu ?bv ?bw ?bx ?bz ?bA ?bB ?bC ?aU ?ak ?aw ?am ?au ?ao ?aV ?aK ?b9 ?aL ?aX ?aM ?nV ?zC9 ?cz
  (case a0=>k_is)
  (case l0=>k_is)
  (case c0=>k_is)
  (case k0=>k_is)
  (case a1=>k_is)
  (case l1=>k_is)
  (case c1=>k_is)
  (case k1=>k_is)
  (case a2=>k_is)
  (case l2=>k_is)
  (case c2=>k_is)
  (case k2=>k_is)
  (case a3=>k_is)
  (case l3=>k_is)
  (case c3=>k_is)
  (case k3=>k_is)
  (case a4=>k_is)
  (case l4=>k_is)
  (case c4=>k_is)
  (case k4=>k_is)
  (case a5=>k_is)
  (case l5=>k_is)
  (case c5=>k_is)
  (case k5=>k_is)
  (case a6=>k_is)
  (case l6=>k_is)
  (case c6=>k_is)
  (case k6=>k_is)
  (case a7=>k_is)
  (case l7=>k_is)
  (case c7=>k_is)
  (case k7=>k_is)
  (case a8=>k_is)
  (case l8=>k_is)
  (case c8=>k_is)
  (case k8=>k_is)
  (case a9=>k_is)
  (case l9=>k_is)
  (case c9=>k_is)
  (case k9=>k_is)
  (case a10=>k_is)
  (case l10=>k_is)
  (case c10=>k_is)
  (case k10=>k_is)
  (case a11=>k_is)
  (case l11=>k_is)
  (case c11=>k_is)
  (case k11=>k_is)
  (case a12=>k_is)
  (case l12=>k_is)
  (case c12=>k_is)
  (case k12=>k_is)
  (case a13=>k_is)
  (case l13=>k_is)
  (case c13=>k_is)
  (case k13=>k_is)
  (case a14=>k_is)
  (case l14=>k_is)
  (case c14=>k_is)
  (case k14=>k_is)
  (case a15=>k_is)
  (case l15=>k_is)
  (case c15=>k_is)
  (case k15=>k_is)
  (case a16=>k_is)
  (case l16=>k_is)
  (case c16=>k_is)
  (case k16=>k_is)
  (case a17=>k_is)
  (case l17=>k_is)
  (case c17=>k_is)
  (case k17=>k_is)
  (case a18=>k_is)
  (case l18=>k_is)
  (case c18=>k_is)
  (case k18=>k_is)
  (case a19=>k_is)
  (case l19=>k_is)
  (case c19=>k_is)
  (case k19=>k_is)
  (case a20=>k_is)
  (case l20=>k_is)
  (case c20=>k_is)
  (case k20=>k_is)
  (case bf=>k_is)
  (case bq=>k_is)
  (case bT=>k_is)
  (case bF=>k_is)
  (case bU=>k_is)
  (case ck=>k_is)
  (case cq=>k_is)
  (case cu=>k_is)
  (case cw=>k_is)
  (case bQ=>k_is)
  (case cx=>k_is)
  (case bZ=>k_is)
  (case bg=>k_is)
  (case bh=>k_is)
  (case cy=>k_is)
  (case bi=>k_is)
  (case bM=>k_is)
  (case bV=>k_is)
  (case bN=>k_is)
  (case bS=>k_is)
  (case bO=>k_is)
  (case br=>first | kernel_rfl | k_is)
  (case bu=>first | kernel_rfl | k_is)
  (case bv=>first | kernel_rfl | k_is)
  (case bw=>first | kernel_rfl | k_is)
  (case bx=>first | kernel_rfl | k_is)
  (case bz=>first | kernel_rfl | k_is)
  (case bA=>first | kernel_rfl | k_is)
  (case bB=>first | kernel_rfl | k_is)
  (case bC=>first | kernel_rfl | k_is)
  (case aU=>first | kernel_rfl | k_is)
  (case ak=>first | kernel_rfl | k_is)
  (case aw=>first | kernel_rfl | k_is)
  (case am=>first | kernel_rfl | k_is)
  (case au=>first | kernel_rfl | k_is)
  (case ao=>first | kernel_rfl | k_is)
  (case aV=>first | kernel_rfl | k_is)
  (case aK=>first | kernel_rfl | k_is)
  (case b9=>first | kernel_rfl | k_is)
  (case aL=>first | kernel_rfl | k_is)
  (case aX=>first | kernel_rfl | k_is)
  (case aM=>first | kernel_rfl | k_is)
  (case nV=>first | kernel_rfl | k_is)
  (case zC9=>rfl)
  (case cz=>rfl)
#print axioms PySem.Challenge.cw_chordwebs_k53_too_many_places_holds
