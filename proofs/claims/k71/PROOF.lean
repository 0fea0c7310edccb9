import PyProof.Rows.All
import Wide.All
import OpenK.AllK
import Wide.FinOn
import Lean
import PyProof.EqAt
import PyProof.EqKinds
import PyProof.TupleCall
import PyProof.NeKinds
import KE.KRevIter
import PyProof.Rows.Range3
import PyProof.ZipIter
import PyProof.Rows.SortRunsK
import PyProof.Rows.SortShell
import PyProof.Rows.IntRules
import PyProof.Dict
import PyProof.Conv_int_bool
import PyProof.Rows.DictRows
import PyProof.DictTable
import PyProof.SetKind
import PyProof.Rows.SetFrom
import PyProof.Rows.SortPure
import PyProof.FactsAll.set_1
import PyProof.SetRoads
import PyProof.Walks
import PyProof.CollectWalk
import PyProof.ListRange
import PyProof.TupleKey
import PyProof.IsRules
import PyProof.WalksMore
import PyProof.EnumStmt
import PyProof.Rows.EnumRows
import PyProof.SeqI3
import PySem.Challenge.RW_chordwebs_k71_all_rings_of_a_web
set_option Elab.async false
set_option linter.all false
set_option maxRecDepth 100000
set_option bootstrap.genMatcherCode false
set_option genSizeOf false
namespace K
open PySem
@[elab_as_elim] theorem us1{m:List Value→Prop}(us:List Value)(hl:us.length=1)(h:∀ a,m [a]):m us:=match us,hl with
 | [a],_=>h a
@[elab_as_elim] theorem us2{m:List Value→Prop}(us:List Value)(hl:us.length=2)(h:∀ a b,m [a,b]):m us:=match us,hl with
 | [a,b],_=>h a b
@[elab_as_elim] theorem us3{m:List Value→Prop}(us:List Value)(hl:us.length=3)(h:∀ a b c,m [a,b,c]):m us:=match us,hl with
 | [a,b,c],_=>h a b c
end K
namespace L2
open PySem PySem.Spec PyProof.Rows
noncomputable abbrev Key:=Sum Int Str
noncomputable def zMi:Key→Value→Bool
 | .inl k,v=>Value.isInt k v
 | .inr x,v=>Value.isStrOf x v
noncomputable def zPE(w:World):Key→Int
 | .inl k=>hashInt k
 | .inr x=>hashStr w x
theorem yC:∀ {k:Key} {v:Value},zMi k v=true→(∃ i t,k=Sum.inl i∧v=Value.int i t)∨(∃ x t,k=Sum.inr x∧v=Value.str x t)
 | .inl i,v,h=>by
  obtain⟨t,e⟩:=Value.isInt_shape (k:=i) (v:=v) h
  exact .inl ⟨i,t,rfl,e⟩
 | .inr x,v,h=>by
  obtain⟨t,e⟩:=Value.isStrOf_shape (x:=x) (v:=v) h
  exact .inr ⟨x,t,rfl,e⟩
theorem zM5(a b:Int):decide ((Sum.inl a:Key)=Sum.inl b)=(a==b):=by
 by_cases e:a=b
 ·subst e;simp
 ·have h:¬ (Sum.inl a:Key)=Sum.inl b:=fun q=>e (Sum.inl.inj q)
  rw[decide_eq_false h]
  exact(beq_eq_false_iff_ne.mpr e).symm
theorem zM6(a b:Str):decide ((Sum.inr a:Key)=Sum.inr b)=decide (a=b):=by
 by_cases e:a=b
 ·subst e;simp
 ·have h:¬ (Sum.inr a:Key)=Sum.inr b:=fun q=>e (Sum.inr.inj q)
  rw[decide_eq_false h,decide_eq_false e]
theorem zM7(a:Int)(b:Str):decide ((Sum.inl a:Key)=Sum.inr b)=false:=decide_eq_false (fun q=>nomatch q)
theorem zM8(a:Str)(b:Int):decide ((Sum.inr a:Key)=Sum.inl b)=false:=decide_eq_false (fun q=>nomatch q)
noncomputable def zID(prog:Program)(w:World):PySem.KeyKind prog w Key where
 is:=zMi
 hash:=zPE w
 inj:=fun v a b ha hb=>by
  rcases yC ha with ⟨i,t,rfl,rfl⟩ | ⟨x,t,rfl,rfl⟩
  ·rcases yC hb with ⟨j,u,rfl,e⟩ | ⟨y,u,rfl,e⟩
   ·injection e with e1 _;rw[e1]
   ·exact nomatch e
  ·rcases yC hb with ⟨j,u,rfl,e⟩ | ⟨y,u,rfl,e⟩
   ·exact nomatch e
   ·injection e with e1 _;rw[e1]
 byValue:=fun k v h=>by
  rcases yC h with ⟨i,t,rfl,rfl⟩ | ⟨x,t,rfl,rfl⟩<;>rfl
 pyHash:=fun hv h=>by
  rcases yC hv with ⟨i,t,rfl,rfl⟩ | ⟨x,t,rfl,rfl⟩
  ·exact wpAny_pyHash_int h
  ·exact wpAny_pyHash_str h
 eqBool:=fun hu hv h=>by
  rcases yC hu with ⟨i,t,rfl,rfl⟩ | ⟨x,t,rfl,rfl⟩
  ·rcases yC hv with ⟨j,u,rfl,rfl⟩ | ⟨y,u,rfl,rfl⟩
   ·rw[zM5] at h;exact wpAny_eqBool_int h
   ·rw[zM7] at h;exact SeqAt.EqAt.int_str i t y u _ _ _ _ h
  ·rcases yC hv with ⟨j,u,rfl,rfl⟩ | ⟨y,u,rfl,rfl⟩
   ·rw[zM8] at h;exact SeqAt.EqAt.str_int x t j u _ _ _ _ h
   ·rw[zM6] at h;exact wpAny_eqBool_str h
 «strs»:=fun k x t v h=>by
  rcases yC h with ⟨i,u,rfl,e⟩ | ⟨y,u,rfl,e⟩
  ·exact nomatch e
  ·injection e with e1 _
   subst e1
   cases v<;>rfl
end L2
namespace L2
open PySem PySem.Spec PyProof.Rows
inductive V where
 | non | bl (b:Bool) | int (i:Int) | str (x:Str) | byt (b:Array UInt8) | flt (b:UInt64) | ref (a:Addr) | ty (n:String)
 deriving DecidableEq
noncomputable def RelV:V→Value→Prop
 | .non,u=>u=Value.none
 | .bl b,u=>u=Value.bool b
 | .int i,u=>∃ t,u=Value.int i t
 | .str x,u=>∃ t,u=Value.str x t
 | .byt b,u=>∃ t,u=Value.bytes b t
 | .flt b,u=>∃ t,u=Value.float b t
 | .ref a,u=>u=Value.ref a
 | .ty n,u=>u=Value.type n
noncomputable abbrev zR:List V→List Value→Prop:=Paired RelV
theorem zR.length{xs:List V}{us:List Value}(r:zR xs us):xs.length=us.length:=Paired.length r
theorem zR.get:∀ {xs:List V} {us:List Value} {i:Nat} {x:V},zR xs us→xs[i]?=some x→∃ u,us[i]?=some u∧RelV x u
 | _,_,_,_,.nil,e=>by simp at e
 | _,_,0,_,.cons r _,e=>by simp at e;subst e;exact⟨_,rfl,r⟩
 | _,_,i+1,x,.cons _ t,e=>by
  obtain⟨u,h1,h2⟩:=zR.get (i:=i) (x:=x) t (by simpa using e)
  exact⟨u,by simpa using h1,h2⟩
theorem zR.set{x:V}{u:Value}(r:RelV x u):∀ {xs:List V} {us:List Value} (i:Nat),zR xs us→zR (xs.set i x) (us.set i u)
 | _,_,_,.nil=>.nil
 | _,_,0,.cons _ t=>.cons r t
 | _,_,i+1,.cons q t=>.cons q (zR.set r i t)
theorem zR.append:∀ {xs ys:List V} {us ws:List Value},zR xs us→zR ys ws→zR (xs++ys) (us++ws)
 | _,_,_,_,.nil,s=>s
 | _,_,_,_,.cons r t,s=>.cons r (zR.append t s)
theorem zR.take:∀ {xs:List V} {us:List Value} (n:Nat),zR xs us→zR (xs.take n) (us.take n)
 | _,_,0,_=>.nil
 | _,_,_+1,.nil=>.nil
 | _,_,n+1,.cons r t=>.cons r (zR.take n t)
theorem zR.drop:∀ {xs:List V} {us:List Value} (n:Nat),zR xs us→zR (xs.drop n) (us.drop n)
 | _,_,0,r=>r
 | _,_,_+1,.nil=>.nil
 | _,_,n+1,.cons _ t=>zR.drop n t
noncomputable def zM9:Option V→Option Value→Prop
 | some v,some u=>RelV v u
 | none,none=>True
 | _,_=>False
noncomputable def KV{κ:Type}:List (κ×V)→List (κ×Value)→Prop:=Paired fun(p:κ×V) (q:κ×Value)=>p.1=q.1∧RelV p.2 q.2
noncomputable def kV:Key→V
 | .inl i=>.int i
 | .inr x=>.str x
inductive HO where
 /-- a list -/
 | lst (xs:List V)
 /-- a tuple (never changes) -/
 | tup (xs:List V)
 /-- a dict whose keys are ints and texts;one whose keys are tuples of ints and texts (the empty one is both) -/
 | dK (kvs:List (Key×V)) | dT (kvs:List (List Key×V))
 /-- a set of ints: its members,its size -/
 | set (S:Int→Bool) (n:Nat)
 /-- an instance of the class at C,its dict at dx,its attributes -/
 | ins (C dx:Addr) (fs:List (Str×V))
 /-- the dict of the instance at x -/
 | own (x:Addr)
 /-- the dict of an exception -/
 | xd (fs:List (Str×V))
 /-- a bound method,f of x -/
 | met (f x:Addr)
 /-- a range object lo,lo+1,.. below hi -/
 | rng (lo hi:Int)
 /-- a thing that is known to the object (the script;a dict while a loop walks it): read,never written while it is so -/
 | frz (o:Obj) (u:HO)
 /-- a code object's table -/
 | tbl (ps:Array Value)
 /-- any other thing,by what is true of its one object (a def of one's own: SetO a S n:=HO.ext fun h=>..) -/
 | ext (φ:Heap→Prop)
noncomputable abbrev Hp:=Addr→Option HO
noncomputable def yz(H:Hp)(a:Addr)(o:HO):Hp:=fun b=>if b=a then some o else H b
theorem zd{H:Hp}{a:Addr}{o:HO}:yz H a o a=some o:=by unfold yz;rw[if_pos rfl]
theorem zv{H:Hp}{a b:Addr}{o:HO}(h:b≠a):yz H a o b=H b:=by unfold yz;rw[if_neg h]
theorem zMj{H:Hp}{a b:Addr}{o u:HO}(h:H a=some o)(h':H b=some u)(d:o≠u):a≠b:=by
 intro e;subst e;rw[h] at h';exact d (Option.some.inj h')
theorem yU{H:Hp}{a b:Addr}{o:HO}(h:H a=some o)(h':H b=none):a≠b:=by
 intro e;subst e;rw[h] at h';cases h'
noncomputable def zC4(h:Heap)(a:Addr)(items:Array Value):Prop:=∃ o,h.get? a=some o∧o.cls=.type "tuple"∧(∃ n,o.data=.seq items n)∧o.dict=none
theorem zC4.isTup{h:Heap}{a:Addr}{items:Array Value}(x:zC4 h a items):IsTup h a items:=let ⟨o,h1,h2,h3,_⟩:=x;⟨o,h1,h2,h3⟩
theorem zC4.lt{h:Heap}{a:Addr}{items:Array Value}(x:zC4 h a items):a<h.objs.size:=x.isTup.lt
theorem zC4.new(h:Heap)(items:Array Value):zC4 (h.push { cls:=.type "tuple",data:=.seq items }) h.objs.size items:=⟨_,Heap.get?_push_size _ rfl,rfl,⟨_,rfl⟩,rfl⟩
section
variable (P:Program) (w:World)
noncomputable def wA(H:Hp)(h:Heap)(a:Addr):HO→Prop
 | .lst xs=>xs.length≤sizeLine∧∃(its:List Value) (n:Nat),zR xs its∧h.get? a=some { cls:=.type "list",data:=.seq its.toArray n }
 | .tup xs=>xs.length≤sizeLine∧∃ its:List Value,zR xs its∧zC4 h a its.toArray
 | .dK kvs=>kvs.length≤sizeLine∧(a==sysModules)=false∧∃ vs,KV kvs vs∧h.DictOf (zID P w) a vs
 | .dT kvs=>kvs.length≤sizeLine∧(a==sysModules)=false∧∃ xs:List (List Key×Addr×Value),
   Paired (fun(p:List Key×V) (q:List Key×Addr×Value)=>p.1=q.1∧H q.2.1=some (.tup (p.1.map kV))∧RelV p.2 q.2.2) kvs xs ∧
   ∃ o es ep,h.get? a=some o∧o.ExactDict∧o.data=.dict es ep∧es.toList=xs.map (entryOfKey (tupleKind (zID P w)))∧(xs.map (·.1)).Nodup
 | .set S n=>h.SetOf (intKind P w) a S n
 | .ins C dx fs=>H dx=some (.own a)∧fs.length≤1000∧dx≠a∧h.get? a=some (PySem.W.instObj C dx) ∧
   ∃ mA,h.Ns1 dx mA∧(∀ f,zM9 (fs.lookup f) (mA f))∧PySem.Within mA (fs.map (·.1))
 | .own _=>∃ o,h.get? a=some o
 | .xd fs=>∃ mA,h.Ns1 a mA∧∀ f,zM9 (fs.lookup f) (mA f)
 | .rng lo hi=>∃ t u v,h.get? a=some { cls:=.type "range",data:=.fields #[.int lo t,.int hi u,.int 1 v] }
 | .frz o u=>h.get? a=some o∧wA H h a u
 | .tbl ps=>∃(q:Str) (t:Tok) (vs:Array Value),ps=#[.str q t]∧h.get? a=some (PySem.W.tabObj vs)∧TriplesOk vs.toList∧∀(pos:Pos) (cv:Value),codeAmong pos vs.toList=some cv →
   ∃(c:Addr) (o:Obj) (us:Array Value) (t':Tok),cv=.ref c∧H c=some (.frz o (.own 0))∧o.data=.fields us∧us[1]?=some (.str q t')
 | .met f x=>h.get? a=some (PySem.W.methodObj (.ref f) (.ref x))
 | .ext φ=>φ h∧(∃ o,h.get? a=some o)∧∀ h1 h2:Heap,φ h1→(∀ o,h1.get? a=some o→h2.get? a=some o)→φ h2
noncomputable def HOk(H:Hp)(h:Heap):Prop:=∀ a o,H a=some o→wA P w H h a o
end
section
variable {P:Program} {w:World} {H H':Hp} {h h':Heap} {a:Addr} {o:HO}
theorem wA.lt(x:wA P w H h a o):a<h.objs.size:=by
 cases o with
 | lst xs=>obtain⟨u0,u0,u0,u0,e⟩:=x;exact Heap.lt_size e
 | tup xs=>obtain⟨u0,u0,u0,p⟩:=x;exact p.lt
 | dK kvs=>obtain⟨u0,u0,u0,u0,o,u0,u0,e,u0⟩:=x;exact Heap.lt_size e
 | dT kvs=>obtain⟨u0,u0,u0,u0,o,u0,u0,e,u0⟩:=x;exact Heap.lt_size e
 | set S n=>obtain⟨o,u0,u0,u0,e,u0⟩:=x;exact Heap.lt_size e
 | ins C dx fs=>obtain⟨u0,u0,u0,e,u0⟩:=x;exact Heap.lt_size e
 | own y=>obtain⟨u0,e⟩:=x;exact Heap.lt_size e
 | xd fs=>obtain⟨u0,⟨u0,u0,u0,e,u0⟩,u0⟩:=x;exact Heap.lt_size e
 | rng lo hi=>obtain⟨u0,u0,u0,e⟩:=x;exact Heap.lt_size e
 | frz ob u=>obtain⟨e,u0⟩:=x;exact Heap.lt_size e
 | tbl ps=>obtain⟨u0,u0,u0,u0,e,u0⟩:=x;exact Heap.lt_size e
 | met f y=>exact Heap.lt_size (show h.get? a=some _ from x)
 | ext φ=>obtain⟨u0,⟨u0,e⟩,u0⟩:=x;exact Heap.lt_size e
theorem Paired.mapP{α β:Type}{F G:α→β→Prop}:∀ {l₁:List α} {l₂:List β},Paired F l₁ l₂→(∀ a b,F a b→G a b)→Paired G l₁ l₂
 | _,_,.nil,_=>.nil
 | _,_,.cons r t,f=>.cons (f _ _ r) (Paired.mapP t f)
theorem wA.stay(x:wA P w H h a o)(k:∀ b u,(b=a∨H b=some (.own a))→h.get? b=some u→h'.get? b=some u)
  (ho:∀ b,H b=some (.own a)→H' b=some (.own a)) (ht:∀ b xs,H b=some (.tup xs)→H' b=some (.tup xs)) (hz:∀ b o u,H b=some (.frz o u)→H' b=some (.frz o u)):wA P w H' h' a o:=by
 induction o with
 | lst xs=>obtain⟨z,its,n,r,e⟩:=x;exact⟨z,its,n,r,k _ _ (.inl rfl) e⟩
 | tup xs=>obtain⟨z,its,r,ob,e,c⟩:=x;exact⟨z,its,r,ob,k _ _ (.inl rfl) e,c⟩
 | dK kvs=>obtain⟨z,y,vs,r,ob,es,ep,e,c⟩:=x;exact⟨z,y,vs,r,ob,es,ep,k _ _ (.inl rfl) e,c⟩
 | dT kvs =>
  obtain⟨z,y,xs,r,ob,es,ep,e,c⟩:=x
  exact⟨z,y,xs,Paired.mapP r fun p q z=>⟨z.1,ht _ _ z.2.1,z.2.2⟩,ob,es,ep,k _ _ (.inl rfl) e,c⟩
 | set S n=>obtain⟨ob,es,ep,t,e,c⟩:=x;exact⟨ob,es,ep,t,k _ _ (.inl rfl) e,c⟩
 | ins C dx fs =>
  obtain⟨d,z,ne,e,mA,⟨od,es,ep,e2,c⟩,r⟩:=x
  exact⟨ho _ d,z,ne,k _ _ (.inl rfl) e,mA,⟨od,es,ep,k _ _ (.inr d) e2,c⟩,r⟩
 | own y=>obtain⟨ob,e⟩:=x;exact⟨ob,k _ _ (.inl rfl) e⟩
 | xd fs=>obtain⟨mA,⟨od,es,ep,e,c⟩,r⟩:=x;exact⟨mA,⟨od,es,ep,k _ _ (.inl rfl) e,c⟩,r⟩
 | rng lo hi=>obtain⟨t,u,v,e⟩:=x;exact⟨t,u,v,k _ _ (.inl rfl) e⟩
 | frz ob u ih=>obtain⟨e,q⟩:=x;exact⟨k _ _ (.inl rfl) e,ih q⟩
 | tbl ps =>
  obtain⟨q,t,vs,e0,e,e1,e2⟩:=x
  refine⟨q,t,vs,e0,k _ _ (.inl rfl) e,e1,fun pos cv z=>?_⟩
  obtain⟨c,oc,us,t',z1,z2,z3⟩:=e2 pos cv z
  exact⟨c,oc,us,t',z1,hz _ _ _ z2,z3⟩
 | met f y =>
  have e:h.get? a=some (PySem.W.methodObj (.ref f) (.ref y)):=x
  show h'.get? a=some (PySem.W.methodObj (.ref f) (.ref y))
  exact k a _ (.inl rfl) e
 | ext φ=>obtain⟨p,⟨o,e⟩,st⟩:=x;exact⟨st _ _ p fun o q=>k _ _ (.inl rfl) q,⟨o,k _ _ (.inl rfl) e⟩,st⟩
theorem HOk.lt(x:HOk P w H h)(e:H a=some o):a<h.objs.size:=(x a o e).lt
theorem HOk.fresh(x:HOk P w H h)(e:h.objs.size≤a):H a=none:=by
 cases q:H a with
 | none=>rfl
 | some u=>exact absurd (Nat.lt_of_lt_of_le (x.lt q) e) (Nat.lt_irrefl _)
theorem HOk.kept(x:HOk P w H h)(k:∀ b u,h.get? b=some u→h'.get? b=some u):HOk P w H h':=fun a o e =>
 (x a o e).stay (fun b u u0 q=>k b u q) (fun u0 q=>q) (fun u0 u0 q=>q) fun u0 u0 u0 q=>q
theorem HOk.laid(x:HOk P w H h)(k:∀ b u,h.get? b=some u→h'.get? b=some u)(hp:h.objs.size≤a)(new:wA P w (yz H a o) h' a o):HOk P w (yz H a o) h':=fun b u e=>by
 have hn:=x.fresh hp
 by_cases hb:b=a
 ·subst hb;rw[zd] at e;cases e;exact new
 ·rw[zv hb] at e
  exact(x b u e).stay (fun c v u0 q=>k c v q) (fun c q=>by rw[zv (yU q hn)];exact q) (fun c xs q=>by rw[zv (yU q hn)];exact q) fun c oo u q=>by rw[zv (yU q hn)];exact q
end
noncomputable def Rd(H:Hp)(a:Addr)(u:HO):Prop:=H a=some u∨∃ o,H a=some (.frz o u)
theorem Rd.of{H:Hp}{a:Addr}{u:HO}(h:H a=some u):Rd H a u:=.inl h
theorem Rd.ok{P:Program}{w:World}{H:Hp}{h:Heap}{a:Addr}{u:HO}(r:Rd H a u)(x:HOk P w H h):wA P w H h a u:=by
 rcases r with r | ⟨o,r⟩
 ·exact x a u r
 ·obtain⟨u0,q⟩:=x a _ r
  exact q
noncomputable def Mut:Option HO→Prop
 | some (.lst _)=>True
 | some (.dK _)=>True
 | some (.dT _)=>True
 | some (.set _ _)=>True
 | some (.ins _ _ _)=>True
 | some (.ext _)=>True
 | _=>False
section
variable {P:Program} {w:World} {H:Hp} {h h':Heap} {x e:Addr} {o':HO}
theorem HOk.write(ok:HOk P w H h)(mu:Mut (H x))(he:e=x∨H e=some (.own x))(k:∀ b u,b≠e→h.get? b=some u→h'.get? b=some u)(heo:∃ u,h'.get? e=some u)
  (new:wA P w (yz H x o') h' x o'):HOk P w (yz H x o') h':=fun b u q=>by
 have nown:∀ c y,H c=some (.own y)→c≠x:=fun c y r z=>by subst z;rw[r] at mu;exact mu
 have ntup:∀ c xs,H c=some (.tup xs)→c≠x:=fun c xs r z=>by subst z;rw[r] at mu;exact mu
 have nfrz:∀ c oo u,H c=some (.frz oo u)→c≠x:=fun c oo u r z=>by subst z;rw[r] at mu;exact mu
 by_cases hb:b=x
 ·subst hb;rw[zd] at q;cases q;exact new
 ·rw[zv hb] at q
  by_cases hbe:b=e
  ·have q':H b=some (.own x):=by
    rcases he with z | z
    ·exact absurd (hbe.trans z) hb
    ·rw[hbe];exact z
   rw[q] at q';cases q'
   obtain⟨v,hv⟩:=heo
   exact⟨v,by rw[hbe];exact hv⟩
  ·refine(ok b u q).stay (fun c v hc r=>k c v ?_ r) (fun c r=>by rw[zv (nown c b r)];exact r) (fun c xs r=>by rw[zv (ntup c xs r)];exact r) fun c oo u r=>by rw[zv (nfrz c oo u r)];exact r
   rcases hc with rfl | hc
   ·exact hbe
   ·rintro rfl
    rcases he with z | z
    ·exact nown c b hc z
    ·rw[hc] at z;cases z;exact hb rfl
end
structure Un (fs ex:List Addr) (H H':Hp) (h h':Heap):Prop where
 keep:∀ b o,h.get? b=some o→H b=none→b∉fs→b∉ex→h'.get? b=some o
 slot:∀ b o,h.get? b=some o→H b=none→b∈fs→b∉ex→∃ sl,h'.get? b=some { o with slots:=sl }
 free:∀ b o,h.get? b=some o→H b=none→b∉ex→H' b=none
 there:∀ b o,h.get? b=some o→b∉ex→∃ o',h'.get? b=some o'
 tups:∀ b xs,H b=some (.tup xs)→H' b=some (.tup xs)
 frzs:∀ b o u,H b=some (.frz o u)→H' b=some (.frz o u)
 tbls:∀ b ps,H b=some (.tbl ps)→H' b=some (.tbl ps)
section
variable {fs fs' ex ex':List Addr} {H H1 H2:Hp} {h h1 h2 h':Heap} {a x e:Addr} {o:HO}
theorem Un.any(u:Un fs ex H H1 h h1){b:Addr}{ob:Obj}(q:h.get? b=some ob)(n:H b=none)(hx:b∉ex):∃ sl,h1.get? b=some { ob with slots:=sl }:=by
 by_cases hb:b∈fs
 ·exact u.slot b ob q n hb hx
 ·exact⟨ob.slots,u.keep b ob q n hb hx⟩
theorem Un.trans(a:Un fs ex H H1 h h1)(b:Un fs ex H1 H2 h1 h2):Un fs ex H H2 h h2 where
 keep:=fun c ob q n hc hx=>b.keep c ob (a.keep c ob q n hc hx) (a.free c ob q n hx) hc hx
 slot:=fun c ob q n hc hx=>by
  obtain⟨sl,e1⟩:=a.slot c ob q n hc hx
  obtain⟨sl',e2⟩:=b.slot c _ e1 (a.free c ob q n hx) hc hx
  exact⟨sl',e2⟩
 free:=fun c ob q n hx=>by
  obtain⟨o',e1⟩:=a.there c ob q hx
  exact b.free c o' e1 (a.free c ob q n hx) hx
 there:=fun c ob q hx=>by
  obtain⟨o',e1⟩:=a.there c ob q hx
  exact b.there c o' e1 hx
 tups:=fun c xs q=>b.tups c xs (a.tups c xs q)
 frzs:=fun c ob xs q=>b.frzs c ob xs (a.frzs c ob xs q)
 tbls:=fun c ps q=>b.tbls c ps (a.tbls c ps q)
theorem Un.kept(k:∀ b u,h.get? b=some u→h'.get? b=some u):Un fs ex H H h h' :=
 ⟨fun b ob q u0 u0 u0=>k b ob q,fun b ob q u0 u0 u0=>⟨ob.slots,k b ob q⟩,fun u0 u0 u0 n u0=>n,fun b ob q u0=>⟨ob,k b ob q⟩,fun u0 u0 q=>q,fun u0 u0 u0 q=>q,fun u0 u0 q=>q⟩
theorem Un.refl:Un fs ex H H h h:=Un.kept fun u0 u0 q=>q
theorem Un.laid(k:∀ b u,h.get? b=some u→h'.get? b=some u)(hp:h.objs.size≤a)(hn:H a=none):Un fs ex H (yz H a o) h h' where
 keep:=fun b u q u0 u0 u0=>k b u q
 slot:=fun b u q u0 u0 u0=>⟨u.slots,k b u q⟩
 free:=fun b u q n u0=>by rw[zv (Nat.ne_of_lt (Nat.lt_of_lt_of_le (Heap.lt_size q) hp))];exact n
 there:=fun b u q u0=>⟨u,k b u q⟩
 tups:=fun b xs q=>by rw[zv (yU q hn)];exact q
 frzs:=fun b u xs q=>by rw[zv (yU q hn)];exact q
 tbls:=fun b ps q=>by rw[zv (yU q hn)];exact q
theorem Un.write(mu:Mut (H x))(he:e=x∨H e=some (.own x))(k:∀ b u,b≠e→h.get? b=some u→h'.get? b=some u)(heo:∃ u,h'.get? e=some u):Un fs ex H (yz H x o) h h':=by
 have hx:∀ b,H b=none→b≠x:=fun b n z=>by subst z;rw[n] at mu;exact mu
 have hb:∀ b,H b=none→b≠e:=fun b n z=>by
  subst z
  rcases he with r | r
  ·exact hx b n r
  ·rw[n] at r;cases r
 have hm:∀ b u,H b=some u→¬ Mut (some u)→b≠x:=fun b u q nm z=>by subst z;rw[q] at mu;exact nm mu
 refine⟨fun b u q n u0 u0=>k b u (hb b n) q,fun b u q n u0 u0=>⟨u.slots,k b u (hb b n) q⟩,fun b u q n u0=>by rw[zv (hx b n)];exact n,fun b u q u0=>?_,
  fun b xs q=>by rw[zv (hm b _ q fun z=>z)];exact q,fun b u xs q=>by rw[zv (hm b _ q fun z=>z)];exact q,fun b ps q=>by rw[zv (hm b _ q fun z=>z)];exact q⟩
 by_cases hbe:b=e
 ·subst hbe;exact heo
 ·exact⟨u,k b u hbe q⟩
theorem Un.mono(u:Un fs ex H H1 h h1)(hs:∀ b∈fs,b∈fs')(hx:∀ b∈ex,b∈ex'):Un fs' ex' H H1 h h1 :=
 ⟨fun b ob q n hb he=>u.keep b ob q n (fun z=>hb (hs b z)) fun z=>he (hx b z),fun u0 u0 q n u0 he=>u.any q n fun z=>he (hx _ z),fun b ob q n he=>u.free b ob q n fun z=>he (hx b z),fun b ob q he=>u.there b ob q fun z=>he (hx b z),u.tups,u.frzs,u.tbls⟩
end
noncomputable def trk(h:Heap)(H:Hp):List Addr:=(List.range h.objs.size).filter fun a=>(H a).isSome
noncomputable def zFi(h:Heap)(H:Hp):Heap:=PySem.W.hideAll h (trk h H)
theorem zI2(h:Heap)(H:Hp):(zFi h H).objs.size=h.objs.size:=PySem.W.hideAll_size _ _
theorem zJu{h:Heap}{H:Hp}{b:Addr}{o:Obj}(e:h.get? b=some o)(n:H b=none):(zFi h H).get? b=some o :=
 PySem.W.hideAll_get _ e fun hm=>by
  have q:(H b).isSome=true:=(List.mem_filter.mp hm).2
  rw[n] at q;simp at q
theorem zLP{h:Heap}{H:Hp}{b:Addr}{o:Obj}(e:(zFi h H).get? b=some o):h.get? b=some o∧H b=none:=by
 have e':h.get? b=some o:=PySem.W.of_hideAll (trk h H) e
 refine⟨e',?_⟩
 cases q:H b with
 | none=>rfl
 | some x =>
  have hm:b∈trk h H:=List.mem_filter.mpr ⟨List.mem_range.mpr (Heap.lt_size e'),by simp[q]⟩
  have z:(zFi h H).get? b=none:=PySem.W.hideAll_none (trk h H) hm
  rw[z] at e;cases e
noncomputable def zLQ(g h:Heap)(L:Addr):List (Addr×Obj):=(List.range h.objs.size).filterMap fun a=>if a=L∨(g.get? a).isSome=true then none else (h.get? a).map fun o=>(a,o)
noncomputable def rest(g h:Heap)(L d:Addr):List (Addr×Obj):=(zLQ g h L).filter fun p=>decide (p.1≠d)
end L2
namespace L2
open PySem PySem.Spec PyProof.Rows
structure Mod (K:PySem.W.Frag) (mg:Str→Option Value) (base:Heap):Prop where
 kin:K.In base
 glob:base.Ns mainGlobals mg
 blt:∃ mb,base.Ns builtinsNs mb∧∀ x:Str,x≠"__name__"→mb x=bootBuiltins x
 nolimit:base.NoLimit
structure Cx where
 prog:Program
 w:World
 K:PySem.W.Frag
 mg:Str→Option Value
 base:Heap
 A:Around
 N:List Str
 s₀:Shared
 H₀:Hp
 env:Env
 outer:List Env
 stack:List Env
 ex:List Addr
 fn:Str→Bool
 calm:Bool
 pn:List (Addr×Obj)
 xe:Value→Shared→Prop
noncomputable def frs(l:List Env):List Addr:=l.filterMap (·.frame)
noncomputable abbrev Cx.fs(X:Cx):List Addr:=frs X.outer
noncomputable def Vis(sc:Scope)(x:Str):Prop:=sc.names.lookup x=some .local∨sc.names.lookup x=some .cell∨sc.names.lookup x=some .free
noncomputable def Loc(sc:Scope)(x:Str):Prop:=sc.names.lookup x=some .local∨sc.names.lookup x=some .cell
noncomputable def Look(env:Env)(h:Heap)(m:Str→Option Value)(x:Str)(u:Value):Prop :=
 (env.kindOf x=some .local∧m x=some u)∨((env.kindOf x=some .cell∨env.kindOf x=some .free)∧∃ c,env.cells.lookup x=some c∧h.IsCell c (some u))
noncomputable def zIE:List Str:=[]
noncomputable def TabsOk(K:PySem.W.Frag)(H:Hp):Prop:=∀ x∈zIE,∀ c b,PySem.W.tabIn K x=some (c,b)→∃ t,H b=some (.tbl #[.str (x++".<locals>.<lambda>") t])
structure Cx.Ok (X:Cx):Prop where
 mod:Mod X.K X.mg X.base
 kind:X.env.scope.kind=.function
 glob:X.env.globals=mainGlobals
 blt:X.env.builtins=builtinsNs
 above:X.s₀.heap.objs.size≤X.env.locals
 inj:∀ x y c,X.env.cells.lookup x=some c→X.env.cells.lookup y=some c→x=y
 has:∀ x,(X.env.kindOf x=some .cell∨X.env.kindOf x=some .free)→∃ c,X.env.cells.lookup x=some c
 cab:∀ x c,X.fn x=true→X.env.cells.lookup x=some c→X.s₀.heap.objs.size≤c
 hd:X.calm=true→X.A.handled=none
 frames:X.A.frames=some X.stack
 stk:X.stack=X.outer∨(X.stack=X.env::X.outer∧X.env.frame=some X.env.locals)
 exf:∀ b∈X.ex,b≠X.env.locals∧∀ x c,X.env.cells.lookup x=some c→c≠b
 bs:∀ b o,X.base.get? b=some o→X.s₀.heap.get? b=some o∧X.H₀ b=none
 bsz:X.base.objs.size≤X.s₀.heap.objs.size
 noex:∀ b o,X.base.get? b=some o→b∉X.ex
 exfs:∀ b∈X.ex,b∉X.fs
 funs:X.s₀.heap.FunFrames X.base X.outer
 frf:∀ b∈X.fs,X.H₀ b=none
 tb:TabsOk X.K X.H₀
structure zP (X:Cx) (pins:List (Addr×Obj)) (σ:List (Option V)) (H:Hp) (s:Shared):Prop where
 ok:X.Ok
 os:s.os=X.s₀.os
 bare:AllBare s.gens
 base:Un X.fs X.ex X.H₀ H X.s₀.heap s.heap
 loc:∃ m,s.heap.Ns X.env.locals m∧∀(i:Nat) (x:Str) (v:V),X.N[i]?=some x→σ[i]?=some (some v)→Vis X.env.scope x→∃ u,RelV v u∧Look X.env s.heap m x u
 cell:∀ x c,X.env.cells.lookup x=some c→∃ v,s.heap.IsCell c v
 free:H X.env.locals=none
 freeC:∀ x c,X.env.cells.lookup x=some c→H c=none
 pin:∀ p∈X.pn++pins,s.heap.get? p.1=some p.2∧H p.1=none∧p.1≠X.env.locals∧p.1∉X.fs∧∀ v,p.2.data≠.cell v
 hok:HOk X.prog X.w H s.heap
 len:σ.length=X.N.length
section
variable {X:Cx} {pins:List (Addr×Obj)} {σ:List (Option V)} {H H':Hp} {s:Shared} {h':Heap}
theorem Cx.Ok.nofr(ok:X.Ok){b:Addr}{o:Obj}(e:X.base.get? b=some o):b∉X.fs:=fun hb=>by
 have:=(ok.funs.mem hb).1
 rw[e] at this;cases this
theorem zP.bs(I:zP X pins σ H s):∀ b o,X.base.get? b=some o→s.heap.get? b=some o∧H b=none:=fun b o e =>
 ⟨I.base.keep b o (I.ok.bs b o e).1 (I.ok.bs b o e).2 (I.ok.nofr e) (I.ok.noex b o e),I.base.free b o (I.ok.bs b o e).1 (I.ok.bs b o e).2 (I.ok.noex b o e)⟩
theorem zP.bk(I:zP X pins σ H s):∀ b o,X.base.get? b=some o→s.heap.get? b=some o:=fun b o e=>(I.bs b o e).1
theorem zP.mod(I:zP X pins σ H s):Mod X.K X.mg X.base:=I.ok.mod
theorem zP.tabs(I:zP X pins σ H s):TabsOk X.K H:=fun x hx c b e=>by
 obtain⟨t,q⟩:=I.ok.tb x hx c b e
 exact⟨t,I.base.tbls b _ q⟩
theorem zP.kIn(I:zP X pins σ H s):X.K.In s.heap:=I.ok.mod.kin.keeps I.bk
theorem zP.nolimit(I:zP X pins σ H s):s.heap.NoLimit:=I.ok.mod.nolimit.keeps I.bk
theorem zP.fr(I:zP X pins σ H s):∃ m,Fr X.base X.env.locals s.heap m :=
 let ⟨m,hn,_⟩:=I.loc
 ⟨m,hn,I.bk,Nat.le_trans I.ok.bsz I.ok.above⟩
theorem zP.lt(I:zP X pins σ H s):X.env.locals<s.heap.objs.size:=let ⟨_,hn,_⟩:=I.loc;hn.lt
theorem zP.sz(I:zP X pins σ H s):X.s₀.heap.objs.size≤s.heap.objs.size:=Nat.le_trans I.ok.above (Nat.le_of_lt I.lt)
theorem zP.nofs(I:zP X pins σ H s){a:Addr}(h:s.heap.objs.size≤a):a∉X.fs:=fun hb=>by
 obtain⟨u0,o,ho,u0⟩:=I.ok.funs.mem hb
 exact absurd (Nat.lt_of_lt_of_le (Heap.lt_size ho) (Nat.le_trans I.sz h)) (Nat.lt_irrefl _)
theorem zP.cne(I:zP X pins σ H s):∀ x c,X.env.cells.lookup x=some c→c≠X.env.locals:=fun x c e z=>by
 obtain⟨v,o,ho,hd⟩:=I.cell x c e
 obtain⟨m,⟨o',es,ep,ho',hd',u0⟩,u0⟩:=I.loc
 rw[z,ho'] at ho;cases ho;rw[hd'] at hd;cases hd
theorem zP.funs(I:zP X pins σ H s):s.heap.FunFrames X.base X.outer:=by
 have all:∀(l:List Env),(∀ b∈frs l,b∈X.fs)→X.s₀.heap.FunFrames X.base l→s.heap.FunFrames X.base l:=by
  intro l
  induction l with
  | nil=>intro u0 u0;trivial
  | cons env r ih =>
   intro hs hl
   obtain⟨hk,⟨L,o,hf,hn,ho,hd⟩,hr⟩:=hl
   have hL:L∈X.fs:=hs L (by unfold frs;rw[List.filterMap_cons,hf];exact List.mem_cons_self)
   obtain⟨sl,e⟩:=I.base.slot L o ho (I.ok.frf L hL) hL fun z=>I.ok.exfs L z hL
   exact⟨hk,⟨L,_,hf,hn,e,hd⟩,ih (fun b hb=>hs b (by unfold frs;rw[List.filterMap_cons,hf];exact List.mem_cons_of_mem _ hb)) hr⟩
 exact all X.outer (fun u0 hb=>hb) I.ok.funs
theorem zP.stack(I:zP X pins σ H s):s.heap.FunFrames X.base X.stack:=by
 rcases I.ok.stk with e | ⟨e,hf⟩
 ·rw[e];exact I.funs
 ·rw[e]
  obtain⟨m,hn,u0⟩:=I.loc
  refine .cons (by rw[I.ok.kind];decide) hf hn ?_ I.funs
  exact Heap.get?_none_of_le (Nat.le_trans I.ok.bsz I.ok.above)
theorem zP.stkSub(I:zP X pins σ H s):∀ b∈frs X.stack,b∈X.env.locals::X.fs:=fun b hb=>by
 rcases I.ok.stk with e | ⟨e,hf⟩
 ·rw[e] at hb;exact List.mem_cons_of_mem _ hb
 ·rw[e] at hb
  unfold frs at hb
  rw[List.filterMap_cons,hf] at hb
  exact hb
theorem zP.stkFree(I:zP X pins σ H s):∀ b∈frs X.stack,H b=none:=fun b hb=>by
 rcases List.mem_cons.mp (I.stkSub b hb) with e | hb
 ·rw[e];exact I.free
 ·obtain⟨u0,o,ho,u0⟩:=I.ok.funs.mem hb
  exact I.base.free b o ho (I.ok.frf b hb) fun z=>I.ok.exfs b z hb
theorem zP.step{g':Array GenState}{t':Nat}{d':Drawn}{ch:List Addr}(I:zP X pins σ H s)
  (hch:∀ b∈ch,(b∈X.ex∨X.s₀.heap.objs.size≤b)∧b≠X.env.locals∧(∀ x c,X.env.cells.lookup x=some c→c≠b)∧∀ p∈X.pn++pins,p.1≠b)
  (keep:∀ b o,b≠X.env.locals→b∉X.fs→b∉ch→s.heap.get? b=some o→H b=none→h'.get? b=some o)
  (slot:∀ b o,b≠X.env.locals→b∈X.fs→b∉ch→s.heap.get? b=some o→H b=none→∃ sl,h'.get? b=some { o with slots:=sl }) (free:∀ b o,b∉ch→s.heap.get? b=some o→H b=none→H' b=none)
  (there:∀ b o,b∉ch→s.heap.get? b=some o→∃ o',h'.get? b=some o')
  (tups:∀ b xs,H b=some (.tup xs)→H' b=some (.tup xs)) (frzs:∀ b o u,H b=some (.frz o u)→H' b=some (.frz o u)) (tbls:∀ b ps,H b=some (.tbl ps)→H' b=some (.tbl ps))
  (ns:∀ m,s.heap.Ns X.env.locals m→h'.Ns X.env.locals m) (hok:HOk X.prog X.w H' h') (hg:AllBare g') :
  zP X pins σ H' { s with heap:=h',gens:=g',drawn:=d',toks:=t' }:=by
 have neL:∀ b o,X.s₀.heap.get? b=some o→b≠X.env.locals:=fun b o e=>Nat.ne_of_lt (Nat.lt_of_lt_of_le (Heap.lt_size e) I.ok.above)
 have neC:∀ b o,X.s₀.heap.get? b=some o→b∉X.ex→b∉ch:=fun b o e hx hb=>by
  rcases(hch b hb).1 with z | z
  ·exact hx z
  ·exact absurd (Nat.lt_of_lt_of_le (Heap.lt_size e) z) (Nat.lt_irrefl _)
 have cellK:∀ x c,X.env.cells.lookup x=some c→∀ v,s.heap.IsCell c v→h'.IsCell c v:=fun x c e v ⟨o,ho,hd⟩=>by
  have nch:c∉ch:=fun z=>(hch c z).2.2.1 x c e rfl
  by_cases hc:c∈X.fs
  ·obtain⟨sl,q⟩:=slot c o (I.cne x c e) hc nch ho (I.freeC x c e)
   exact⟨_,q,hd⟩
  ·exact⟨o,keep c o (I.cne x c e) hc nch ho (I.freeC x c e),hd⟩
 refine⟨I.ok,I.os,hg,⟨fun b o e n hb hx=>?_,fun b o e n hb hx=>?_,fun b o e n hx=>?_,fun b o e hx=>?_,fun b xs e=>tups b xs (I.base.tups b xs e),fun b o xs e=>frzs b o xs (I.base.frzs b o xs e),fun b ps e=>?_⟩,?_,fun x c e=>?_,?_,fun x c e=>?_,fun p hp=>?_,hok,I.len⟩
 ·exact keep b o (neL b o e) hb (neC b o e hx) (I.base.keep b o e n hb hx) (I.base.free b o e n hx)
 ·obtain⟨sl,e1⟩:=I.base.slot b o e n hb hx
  obtain⟨sl',e2⟩:=slot b _ (neL b o e) hb (neC b o e hx) e1 (I.base.free b o e n hx)
  exact⟨sl',e2⟩
 ·obtain⟨o',e1⟩:=I.base.there b o e hx
  exact free b o' (neC b o e hx) e1 (I.base.free b o e n hx)
 ·obtain⟨o',e1⟩:=I.base.there b o e hx
  exact there b o' (neC b o e hx) e1
 ·exact tbls b _ (I.base.tbls b ps e)
 ·obtain⟨m,hn,hl⟩:=I.loc
  refine⟨m,ns m hn,fun i x v e1 e2 e3=>?_⟩
  obtain⟨u,r,l⟩:=hl i x v e1 e2 e3
  refine⟨u,r,?_⟩
  rcases l with l | ⟨k,c,e,z⟩
  ·exact .inl l
  ·exact .inr ⟨k,c,e,cellK x c e _ z⟩
 ·obtain⟨v,z⟩:=I.cell x c e
  exact⟨v,cellK x c e v z⟩
 ·obtain⟨m,⟨o,u0,u0,ho,u0⟩,u0⟩:=I.loc
  exact free _ o (fun z=>(hch _ z).2.1 rfl) ho I.free
 ·obtain⟨v,o,ho,hd⟩:=I.cell x c e
  exact free c o (fun z=>(hch c z).2.2.1 x c e rfl) ho (I.freeC x c e)
 ·obtain⟨e,n,ne,nf,d⟩:=I.pin p hp
  have nch:p.1∉ch:=fun z=>(hch p.1 z).2.2.2 p hp rfl
  exact⟨keep p.1 p.2 ne nf nch e n,free p.1 p.2 nch e n,ne,nf,d⟩
theorem zP.un{t':Nat}(I:zP X pins σ H s)(u:Un X.fs [] H H' s.heap h')(hok:HOk X.prog X.w H' h'):zP X pins σ H' { s with heap:=h',toks:=t' }:=by
 obtain⟨m,⟨o,es,ep,ho,r⟩,u0⟩:=id I.loc
 obtain⟨sl,hL⟩:=u.any ho I.free (by simp)
 exact I.step (g':=s.gens) (d':=s.drawn) (ch:=[]) (fun u0 z=>nomatch z) (fun b o u0 hb u0 e n=>u.keep b o e n hb (by simp)) (fun b o u0 hb u0 e n=>u.slot b o e n hb (by simp)) (fun b o u0 e n=>u.free b o e n (by simp)) (fun b o u0 e=>u.there b o e (by simp)) u.tups u.frzs u.tbls (fun m' hm=>by
  obtain⟨o',es',ep',ho',r'⟩:=hm
  rw[ho] at ho';cases ho'
  exact⟨_,es',ep',hL,r'⟩) hok I.bare
theorem zP.call{g':Array GenState}{t':Nat}{d':Drawn}{ch:List Addr}(I:zP X pins σ H s)(u:Un (frs X.stack) ch H H' s.heap h')(hok:HOk X.prog X.w H' h')(hg:AllBare g')
  (hch:∀ b∈ch,(b∈X.ex∨X.s₀.heap.objs.size≤b)∧b≠X.env.locals∧(∀ x c,X.env.cells.lookup x=some c→c≠b)∧∀ p∈X.pn++pins,p.1≠b) :
  zP X pins σ H' { s with heap:=h',gens:=g',drawn:=d',toks:=t' }:=by
 obtain⟨m,⟨o,es,ep,ho,r⟩,u0⟩:=id I.loc
 obtain⟨sl,hL⟩:=u.any ho I.free fun z=>(hch _ z).2.1 rfl
 exact I.step (ch:=ch) hch (fun b o hL hb hc e n=>u.keep b o e n (fun z=>(List.mem_cons.mp (I.stkSub b z)).elim hL hb) hc) (fun b o u0 u0 hc e n=>u.any e n hc) (fun b o hc e n=>u.free b o e n hc) (fun b o hc e=>u.there b o e hc) u.tups u.frzs u.tbls (fun m' hm=>by
  obtain⟨o',es',ep',ho',r'⟩:=hm
  rw[ho] at ho';cases ho'
  exact⟨_,es',ep',hL,r'⟩) hok hg
theorem zP.turned{t':Nat}{it:Addr}(I:zP X pins σ H s)(k:∀ b o,b≠it→s.heap.get? b=some o→h'.get? b=some o)(hn:H it=none)(hL:it≠X.env.locals)
  (h1:it∈X.ex∨X.s₀.heap.objs.size≤it) (h2:∀ x c,X.env.cells.lookup x=some c→c≠it) (h3:∀ p∈X.pn++pins,p.1≠it):zP X pins σ H { s with heap:=h',toks:=t' }:=by
 have nit:∀ b u,H b=some u→b≠it:=fun b u e z=>by rw[z,hn] at e;cases e
 refine I.step (g':=s.gens) (d':=s.drawn) (ch:=[it]) (fun b hb=>?_) (fun b o u0 u0 hc e u0=>k b o (fun z=>hc (by simp[z])) e) (fun b o u0 u0 hc e u0=>⟨o.slots,k b o (fun z=>hc (by simp[z])) e⟩) (fun u0 u0 u0 u0 n=>n)
  (fun b o hc e=>⟨o,k b o (fun z=>hc (by simp[z])) e⟩) (fun u0 u0 e=>e) (fun u0 u0 u0 e=>e) (fun u0 u0 e=>e) (fun m hm=>?_) (fun b u e=>?_) I.bare
 ·have e:b=it:=by simpa using hb
  subst e
  exact⟨h1,hL,h2,h3⟩
 ·obtain⟨o,es,ep,ho,r⟩:=hm
  exact⟨o,es,ep,k _ o (Ne.symm hL) ho,r⟩
 ·refine(I.hok b u e).stay (fun c v hc q=>k c v ?_ q) (fun u0 q=>q) (fun u0 u0 q=>q) fun u0 u0 u0 q=>q
  rcases hc with z | z
  ·rw[z];exact nit b u e
  ·exact nit c _ z
theorem zP.tok(I:zP X pins σ H s)(t:Nat):zP X pins σ H { s with toks:=t }:=I.un (h':=s.heap) (t':=t) Un.refl I.hok
theorem zP.kept{t':Nat}(I:zP X pins σ H s)(k:∀ b u,s.heap.get? b=some u→h'.get? b=some u):zP X pins σ H { s with heap:=h',toks:=t' }:=I.un (Un.kept k) (I.hok.kept k)
theorem zP.laid{a:Addr}{o:HO}{t':Nat}(I:zP X pins σ H s)(k:∀ b u,s.heap.get? b=some u→h'.get? b=some u)(hp:s.heap.objs.size≤a)(new:wA X.prog X.w (yz H a o) h' a o) :
  zP X pins σ (yz H a o) { s with heap:=h',toks:=t' }:=I.un (Un.laid k hp (I.hok.fresh hp)) (I.hok.laid k hp new)
theorem zP.write{x e:Addr}{o:HO}{t':Nat}(I:zP X pins σ H s)(mu:Mut (H x))(he:e=x∨H e=some (.own x))(k:∀ b u,b≠e→s.heap.get? b=some u→h'.get? b=some u)(heo:∃ u,h'.get? e=some u)
  (new:wA X.prog X.w (yz H x o) h' x o):zP X pins σ (yz H x o) { s with heap:=h',toks:=t' }:=I.un (Un.write mu he k heo) (I.hok.write mu he k heo new)
theorem zP.weak{σ':List (Option V)}(I:zP X pins σ H s)(hl:σ'.length=σ.length)(w:∀(i:Nat) v,σ'[i]?=some (some v)→σ[i]?=some (some v)):zP X pins σ' H s :=
 ⟨I.ok,I.os,I.bare,I.base,let ⟨m,hn,hl'⟩:=I.loc;⟨m,hn,fun i x v e1 e2 e3=>hl' i x v e1 (w i v e2) e3⟩,I.cell,I.free,I.freeC,I.pin,I.hok,hl.trans I.len⟩
theorem zP.pins_of{pins':List (Addr×Obj)}(I:zP X pins σ H s)(h:∀ p∈pins',s.heap.get? p.1=some p.2∧H p.1=none∧p.1≠X.env.locals∧p.1∉X.fs∧∀ v,p.2.data≠.cell v):zP X pins' σ H s :=
 ⟨I.ok,I.os,I.bare,I.base,I.loc,I.cell,I.free,I.freeC,fun p hp=>(List.mem_append.mp hp).elim (fun z=>I.pin p (List.mem_append_left _ z)) (h p),I.hok,I.len⟩
theorem zGH{N:List Str}(hN:N.Nodup){i j:Nat}{x:Str}(a:N[i]?=some x)(b:N[j]?=some x):i=j:=by
 obtain⟨h1,e1⟩:=List.getElem?_eq_some_iff.mp a
 obtain⟨h2,e2⟩:=List.getElem?_eq_some_iff.mp b
 exact(List.getElem_inj hN).mp (e1.trans e2.symm)
theorem zE9{M:Model}{A:Around}{E:Value→Shared→Prop}{i:Nat}{x:Str}{v:V}{u:Value}{Q:Unit→Shared→Prop}(I:zP X pins σ H s)(hN:X.N.Nodup)(hi:X.N[i]?=some x)(hx:Loc X.env.scope x)(r:RelV v u)
  (h:∀ s',zP X pins (σ.set i (some v)) H s'→(∃ a,Heap.SameBut a s.heap s'.heap∧(a=X.env.locals∨X.env.cells.lookup x=some a))→Q () s') (hf:X.fn x=true∨X.env.scope.names.lookup x=some .local:=by first | exact .inl rfl | exact .inr rfl | assumption):wpAny M A (storeName X.env x u) Q E s:=by
 obtain⟨m,hn,hl⟩:=id I.loc
 have hcls:(X.env.scope.kind==.class||(X.env.scope.kind==.module&&X.env.locals != X.env.globals))=false:=by rw[I.ok.kind];rfl
 have hiσ:i<σ.length:=by rw[I.len];exact(List.getElem?_eq_some_iff.mp hi).1
 have cne:=I.cne
 have tracked:∀ {a:Addr} {h':Heap},(∃ o,s.heap.get? a=some o∧H a=none)→Heap.SameBut a s.heap h'→HOk X.prog X.w H h':=fun {a h'} ha hs b ob e=>by
  obtain⟨u0,u0,hfree⟩:=ha
  refine(I.hok b ob e).stay (fun c w' hc q=>(hs.2 c ?_).trans q) (fun u0 q=>q) (fun u0 u0 q=>q) fun u0 u0 u0 q=>q
  rintro rfl
  rcases hc with rfl | hc
  ·rw[hfree] at e;cases e
  ·rw[hfree] at hc;cases hc
 rcases hx with hk | hk
 ·refine wpAny_storeName_local hk hn (fun h' hn' hs=>?_) hcls
  obtain⟨oL,u0,u0,hoL,u0⟩:=id hn
  refine h _ ⟨I.ok,I.os,I.bare,⟨fun b o e n hb hx=>?_,fun b o e n hb hx=>?_,I.base.free,fun b o e hx=>?_,I.base.tups,I.base.frzs,I.base.tbls⟩,⟨_,hn',fun j y v' e1 e2 e3=>?_⟩,fun y c e=>?_,I.free,I.freeC,fun p hp=>?_,tracked ⟨oL,hoL,I.free⟩ hs,by simpa using I.len⟩ ⟨_,hs,.inl rfl⟩
  ·exact(hs.2 b (Nat.ne_of_lt (Nat.lt_of_lt_of_le (Heap.lt_size e) I.ok.above))).trans (I.base.keep b o e n hb hx)
  ·obtain⟨sl,e1⟩:=I.base.slot b o e n hb hx
   exact⟨sl,(hs.2 b (Nat.ne_of_lt (Nat.lt_of_lt_of_le (Heap.lt_size e) I.ok.above))).trans e1⟩
  ·obtain⟨o',e1⟩:=I.base.there b o e hx
   exact⟨o',(hs.2 b (Nat.ne_of_lt (Nat.lt_of_lt_of_le (Heap.lt_size e) I.ok.above))).trans e1⟩
  ·by_cases hj:j=i
   ·subst hj
    rw[hi] at e1;cases e1
    rw[List.getElem?_set_self hiσ] at e2
    cases e2
    exact⟨u,r,.inl ⟨hk,by simp⟩⟩
   ·rw[List.getElem?_set_ne (Ne.symm hj)] at e2
    obtain⟨u',r',q⟩:=hl j y v' e1 e2 e3
    refine⟨u',r',?_⟩
    rcases q with ⟨k,e⟩ | ⟨k,c,e,z⟩
    ·refine .inl ⟨k,?_⟩
     have:y≠x:=fun e=>hj (zGH hN e1 (e▸hi))
     simp[this,e]
    ·exact .inr ⟨k,c,e,z.sameBut hs (cne y c e)⟩
  ·obtain⟨w',z⟩:=I.cell y c e
   exact⟨w',z.sameBut hs (cne y c e)⟩
  ·obtain⟨e,n,ne,nf,d⟩:=I.pin p hp
   exact⟨(hs.2 p.1 ne).trans e,n,ne,nf,d⟩
 ·have hfn:X.fn x=true:=by
   rcases hf with z | z
   ·exact z
   ·rw[z] at hk;cases hk
  obtain⟨c,hc⟩:=I.ok.has x (.inl hk)
  obtain⟨w',z⟩:=I.cell x c hc
  refine wpAny_storeName_cell I.ok.kind hk hc z (fun h' hc' hs=>?_)
  obtain⟨oc,hoc,hocd⟩:=id z
  refine h { s with heap:=h' } ⟨I.ok,I.os,I.bare,⟨fun b o e n hb hx=>?_,fun b o e n hb hx=>?_,I.base.free,fun b o e hx=>?_,I.base.tups,I.base.frzs,I.base.tbls⟩,⟨m,hn.sameBut hs (Ne.symm (cne x c hc)),fun j y v' e1 e2 e3=>?_⟩,fun y c' e=>?_,I.free,I.freeC,fun p hp=>?_,tracked ⟨oc,hoc,I.freeC x c hc⟩ hs,by simpa using I.len⟩ ⟨c,hs,.inr hc⟩
  ·exact(hs.2 b (Nat.ne_of_lt (Nat.lt_of_lt_of_le (Heap.lt_size e) (I.ok.cab x c hfn hc)))).trans (I.base.keep b o e n hb hx)
  ·obtain⟨sl,e1⟩:=I.base.slot b o e n hb hx
   exact⟨sl,(hs.2 b (Nat.ne_of_lt (Nat.lt_of_lt_of_le (Heap.lt_size e) (I.ok.cab x c hfn hc)))).trans e1⟩
  ·obtain⟨o',e1⟩:=I.base.there b o e hx
   exact⟨o',(hs.2 b (Nat.ne_of_lt (Nat.lt_of_lt_of_le (Heap.lt_size e) (I.ok.cab x c hfn hc)))).trans e1⟩
  ·by_cases hj:j=i
   ·subst hj
    rw[hi] at e1;cases e1
    rw[List.getElem?_set_self hiσ] at e2
    cases e2
    exact⟨u,r,.inr ⟨.inl hk,c,hc,hc'⟩⟩
   ·rw[List.getElem?_set_ne (Ne.symm hj)] at e2
    obtain⟨u',r',q⟩:=hl j y v' e1 e2 e3
    refine⟨u',r',?_⟩
    rcases q with q | ⟨k,c',e,z'⟩
    ·exact .inl q
    ·refine .inr ⟨k,c',e,z'.sameBut hs ?_⟩
     rintro rfl
     exact hj (zGH hN e1 (I.ok.inj _ _ _ e hc▸hi))
  ·by_cases hcc:c'=c
   ·subst hcc;exact⟨_,hc'⟩
   ·obtain⟨w2,z2⟩:=I.cell y c' e
    exact⟨w2,z2.sameBut hs hcc⟩
  ·obtain⟨e,n,ne,nf,d⟩:=I.pin p hp
   refine⟨(hs.2 p.1 ?_).trans e,n,ne,nf,d⟩
   intro q
   rw[q,hoc] at e
   have q':oc=p.2:=Option.some.inj e
   exact d w' (by rw[← q'];exact hocd)
theorem zGI{M:Model}{A:Around}{E:Value→Shared→Prop}{i:Nat}{x:Str}{v:V}{u:Value}{Q:Unit→Shared→Prop}(I:zP X pins σ H s)(hN:X.N.Nodup)(hi:X.N[i]?=some x)(hx:Loc X.env.scope x)(r:RelV v u)
  (h:∀ s',zP X pins (σ.set i (some v)) H s'→Q () s') (hf:X.fn x=true∨X.env.scope.names.lookup x=some .local:=by first | exact .inl rfl | exact .inr rfl | assumption):wpAny M A (storeName X.env x u) Q E s :=
 zE9 I hN hi hx r (fun s' I' u0=>h s' I') hf
theorem zP.call'{s':Shared}{ch:List Addr}(I:zP X pins σ H s)(ho:s'.os=s.os)(u:Un (frs X.stack) ch H H' s.heap s'.heap)(hok:HOk X.prog X.w H' s'.heap)(hg:AllBare s'.gens)
  (hch:∀ b∈ch,(b∈X.ex∨X.s₀.heap.objs.size≤b)∧b≠X.env.locals∧(∀ x c,X.env.cells.lookup x=some c→c≠b)∧∀ p∈X.pn++pins,p.1≠b):zP X pins σ H' s':=by
 obtain⟨h',g',d',t',o'⟩:=s'
 have e:o'=s.os:=ho
 subst e
 exact I.call (g':=g') (t':=t') (d':=d') u hok hg hch
end
noncomputable abbrev XK:=Value→Option Addr→Hp→Prop
noncomputable abbrev St:=List (Option V)
noncomputable abbrev VK:=V→Hp→Prop
noncomputable abbrev TE:=St→Hp→VK→Prop
noncomputable abbrev TT:=St→Hp→(Bool→Hp→Prop)→Prop
noncomputable abbrev TA:=St→Hp→(List V→Hp→Prop)→Prop
structure Ends where
 nx:St→Hp→Prop
 rt:VK
 bk:St→Hp→Prop:=fun u0 u0=>False
 ct:St→Hp→Prop:=fun u0 u0=>False
noncomputable abbrev TS:=Ends→St→Hp→Prop
noncomputable def EP(X:Cx)(pins:List (Addr×Obj))(σ:St)(Q:VK)(u:Value)(s':Shared):Prop:=∃ v H',zP X pins σ H' s'∧RelV v u∧Q v H'
noncomputable def TP(X:Cx)(pins:List (Addr×Obj))(σ:St)(Q:Bool→Hp→Prop)(b:Bool)(s':Shared):Prop:=∃ H',zP X pins σ H' s'∧Q b H'
noncomputable def AP(X:Cx)(pins:List (Addr×Obj))(σ:St)(Q:List V→Hp→Prop)(us:List Value)(s':Shared):Prop:=∃ vs H',zP X pins σ H' s'∧zR vs us∧Q vs H'
noncomputable def SP(X:Cx)(pins:List (Addr×Obj))(D:Ends)(f:Flow)(s':Shared):Prop :=
 match f with
 | .next=>∃ σ' H',zP X pins σ' H' s'∧D.nx σ' H'
 | .brk=>∃ σ' H',zP X pins σ' H' s'∧D.bk σ' H'
 | .cont=>∃ σ' H',zP X pins σ' H' s'∧D.ct σ' H'
 | .ret u=>∃ v σ' H',zP X pins σ' H' s'∧RelV v u∧D.rt v H'
noncomputable def PE(X:Cx)(e:Expr)(t:TE):Prop :=
 ∀(pins:List (Addr×Obj)) (s:Shared) (σ:St) (H:Hp) (Q:VK),zP X pins σ H s→t σ H Q→wpAny (model X.prog X.w) X.A (eval e X.env) (EP X pins σ Q) X.xe s
noncomputable def PT(X:Cx)(e:Expr)(t:TT):Prop :=
 ∀(pins:List (Addr×Obj)) (s:Shared) (σ:St) (H:Hp) (Q:Bool→Hp→Prop),zP X pins σ H s→t σ H Q→wpAny (model X.prog X.w) X.A (isTrue e X.env (eval e X.env)) (TP X pins σ Q) X.xe s
noncomputable def PW(X:Cx)(e:Expr)(t:TT):Prop :=
 ∀(whole:Sem Value) (pins:List (Addr×Obj)) (s:Shared) (σ:St) (H:Hp) (Q:Bool→Hp→Prop),zP X pins σ H s→t σ H Q→wpAny (model X.prog X.w) X.A (isTrue e X.env whole) (TP X pins σ Q) X.xe s
theorem PW.pt{X:Cx}{e:Expr}{t:TT}(h:PW X e t):PT X e t:=h _
noncomputable def PA(X:Cx)(es:List Expr)(t:TA):Prop :=
 ∀(pos:Pos) (pins:List (Addr×Obj)) (s:Shared) (σ:St) (H:Hp) (Q:List V→Hp→Prop),zP X pins σ H s→t σ H Q→wpAny (model X.prog X.w) X.A (spliced (backTo pos (starEach es X.env))) (AP X pins σ Q) X.xe s
noncomputable def PS(X:Cx)(st:Stmt)(t:TS):Prop :=
 ∀(pins:List (Addr×Obj)) (s:Shared) (σ:St) (H:Hp) (D:Ends),zP X pins σ H s→t D σ H→wpAny (model X.prog X.w) X.A (exec st X.env) (SP X pins D) X.xe s
noncomputable def PSs(X:Cx)(st:List Stmt)(t:TS):Prop :=
 ∀(pins:List (Addr×Obj)) (s:Shared) (σ:St) (H:Hp) (D:Ends),zP X pins σ H s→t D σ H→wpAny (model X.prog X.w) X.A (execs st X.env) (SP X pins D) X.xe s
theorem yr{α:Type}{t:Sem α}{Q Q':α→Shared→Prop}{M:Model}{A:Around}{E:Value→Shared→Prop}{s:Shared}(h:wpAny M A t Q E s)(hQ:∀ a s,Q a s→Q' a s):wpAny M A t Q' E s:=wpAny_mono h hQ fun u0 u0 x=>x
end L2
namespace L2
open PySem PySem.Spec PyProof.Rows
section
variable {X:Cx}
noncomputable def zOQ(i:Nat):TE:=fun σ H Q=>∃ v,σ[i]?=some (some v)∧Q v H
noncomputable def tC(v:V):TE:=fun u0 H Q=>Q v H
theorem zJv{i:Nat}{x:Str}{pos:Pos}(hN:X.N[i]?=some x)(hv:Vis X.env.scope x)(hd:(x==("__debug__":Str))=false:=by decide)(hcd:(x==("__classdict__":Str))=false:=by decide):PE X (.Name x pos) (zOQ i):=by
 intro pins s σ H Q I h
 obtain⟨v,e,h⟩:=h
 obtain⟨m,hn,hl⟩:=I.loc
 obtain⟨u,r,l⟩:=hl i x v hN e hv
 have fin:EP X pins σ Q u s:=⟨v,H,I,r,h⟩
 rcases l with ⟨hk,hm⟩ | ⟨hk,c,hc,hcell⟩
 ·exact wpAny_Name (wpAny_loadName_local I.ok.kind hk hn hm fin) hd
 ·rcases hk with hk | hk
  ·exact wpAny_Name (wpAny_loadName_cell I.ok.kind hk hc hcell fin) hd
  ·exact wpAny_Name (wpAny_loadName_free I.ok.kind hk hc hcell fin hcd) hd
theorem zJw{i j pos}:PE X (.Constant (.int i) j pos) (tC (.int i)):=fun u0 u0 u0 H u0 I h=>wpAny_Constant_int ⟨.int i,H,I.tok _,⟨_,rfl⟩,h⟩
theorem zOR{b j pos}:PE X (.Constant (.bool b) j pos) (tC (.bl b)):=fun u0 u0 u0 H u0 I h=>Constant_bool ⟨.bl b,H,I,rfl,h⟩
noncomputable def Gl(X:Cx)(x:Str):Prop:=X.env.kindOf x=some .globalImplicit
theorem zIF{E:Value→Shared→Prop}{pins:List (Addr×Obj)}{s:Shared}{σ:St}{H:Hp}{x:Str}{u:Value}{pos:Pos}{Q:Value→Shared→Prop}(I:zP X pins σ H s)(hg:Gl X x)(hm:X.mg x=some u)(h:Q u s)
  (hd:(x==("__debug__":Str))=false:=by decide):wpAny (model X.prog X.w) X.A (eval (.Name x pos) X.env) Q E s :=
 Calls.Name_function_global I.ok.kind hg (Calls.loadGlobal_global (by rw[I.ok.glob];exact I.mod.glob.keeps I.bk) hm h) hd
theorem zAj{E:Value→Shared→Prop}{pins:List (Addr×Obj)}{s:Shared}{σ:St}{H:Hp}{x:Str}{u:Value}{pos:Pos}{Q:Value→Shared→Prop}(I:zP X pins σ H s)(hg:Gl X x)(hm:X.mg x=none)(hv:bootBuiltins x=some u)(h:Q u s)
  (hn:x≠"__name__":=by decide) (hd:(x==("__debug__":Str))=false:=by decide):wpAny (model X.prog X.w) X.A (eval (.Name x pos) X.env) Q E s:=by
 obtain⟨mb,h1,h2⟩:=I.mod.blt
 exact Calls.Name_function_global I.ok.kind hg (Calls.loadGlobal_builtin (by rw[I.ok.glob];exact I.mod.glob.keeps I.bk) hm (by rw[I.ok.blt];exact h1.keeps I.bk) ((h2 x hn).trans hv) h) hd
theorem zLR{x:Str}{v:V}{u:Value}{pos:Pos}(hg:Gl X x)(hm:X.mg x=some u)(r:RelV v u)(hd:(x==("__debug__":Str))=false:=by decide):PE X (.Name x pos) (tC v) :=
 fun u0 u0 u0 H u0 I h=>zIF I hg hm ⟨v,H,I,r,h⟩ hd
theorem zLS{x:Str}{v:V}{u:Value}{pos:Pos}(hg:Gl X x)(hm:X.mg x=none)(hv:bootBuiltins x=some u)(r:RelV v u)(hn:x≠"__name__":=by decide)(hd:(x==("__debug__":Str))=false:=by decide):PE X (.Name x pos) (tC v) :=
 fun u0 u0 u0 H u0 I h=>zAj I hg hm hv ⟨v,H,I,r,h⟩ hn hd
variable {a b:Expr} {ta tb:TE} {pos:Pos}
noncomputable def tB(t:TE):TT:=fun σ H Q=>t σ H fun x H1=>∃ c,x=.bl c∧Q c H1
theorem zNA{e:Expr}{t:TE}(h:PE X e t)(he:∀ whole,isTrue e X.env whole=(do let v ← whole;standAt e.pos;holding [v] (truthy v)):=by intro u0;rfl):PT X e (tB t):=by
 intro pins s σ H Q I hw
 refine isTrue_plain (yr (h pins s σ H _ I hw) fun v s1 ⟨x,H1,I1,r1,q1⟩=>?_) (he _)
 obtain⟨d,rfl,q⟩:=q1
 cases r1
 exact wpAny_truthy_bool ⟨H1,I1,q⟩
variable {tA tB':TT} {rest:List Expr}
noncomputable def zPF(t u:TT):TT:=fun σ H Q=>t σ H fun c H1=>if c=true then u σ H1 Q else Q false H1
noncomputable def tOr(t u:TT):TT:=fun σ H Q=>t σ H fun c H1=>if c=true then Q true H1 else u σ H1 Q
noncomputable def zPG(t:TT):TT:=fun σ H Q=>t σ H fun c H1=>Q (!c) H1
theorem zLT(ha:PT X a tA):PW X (.BoolOp .And [a] pos) tA:=by
 intro wh pins s σ H Q I h
 refine isTrue_and (yr (ha pins s σ H Q I h) fun c s1 e=>?_)
 cases c with
 | true=>exact isTrue_and_nil e
 | false=>exact e
theorem zNB(ha:PT X a tA):PW X (.BoolOp .Or [a] pos) tA:=by
 intro wh pins s σ H Q I h
 refine isTrue_or (yr (ha pins s σ H Q I h) fun c s1 e=>?_)
 cases c with
 | false=>exact isTrue_or_nil e
 | true=>exact e
theorem zNC(ha:PT X a tA)(hb:PW X (.BoolOp .And (b::rest) pos) tB'):PW X (.BoolOp .And (a::b::rest) pos) (zPF tA tB'):=by
 intro wh pins s σ H Q I h
 refine isTrue_and (yr (ha pins s σ H _ I h) fun c s1 ⟨H1,I1,q1⟩=>?_)
 cases c with
 | true=>exact hb wh pins s1 σ H1 Q I1 q1
 | false=>exact⟨H1,I1,q1⟩
theorem zOS(ha:PT X a tA)(hb:PW X (.BoolOp .Or (b::rest) pos) tB'):PW X (.BoolOp .Or (a::b::rest) pos) (tOr tA tB'):=by
 intro wh pins s σ H Q I h
 refine isTrue_or (yr (ha pins s σ H _ I h) fun c s1 ⟨H1,I1,q1⟩=>?_)
 cases c with
 | true=>exact⟨H1,I1,q1⟩
 | false=>exact hb wh pins s1 σ H1 Q I1 q1
theorem zND(ha:PT X a tA):PT X (.UnaryOp .Not a pos) (zPG tA):=by
 intro pins s σ H Q I h
 exact isTrue_not (ha pins s σ H (fun c H1=>Q (!c) H1) I h)
noncomputable def tIf(t:TT)(ta tb:TE):TE:=fun σ H Q=>t σ H fun c H1=>if c=true then ta σ H1 Q else tb σ H1 Q
theorem zJx{c:Expr}(hc:PT X c tA)(ha:PE X a ta)(hb:PE X b tb):PE X (.IfExp c a b pos) (tIf tA ta tb):=by
 intro pins s σ H Q I h
 refine wpAny_IfExp (yr (hc pins s σ H _ I h) fun d s1 ⟨H1,I1,q1⟩=>?_)
 cases d with
 | true=>exact ha pins s1 σ H1 Q I1 q1
 | false=>exact hb pins s1 σ H1 Q I1 q1
end
end L2
namespace L2
open PySem PySem.Spec PyProof.Rows
noncomputable def SqL(K:PySem.W.Frag)(H:Hp)(a:Addr)(xs:List V):Prop :=
 Rd H a (.lst xs) ∨
  ∃(o:Obj) (its:Array Value) (n:Nat),K.lookup a=some o∧o.cls=.type "list"∧o.dict=none∧o.data=.seq its n∧its.size≤sizeLine∧zR xs its.toList
noncomputable def SqT(K:PySem.W.Frag)(H:Hp)(a:Addr)(xs:List V):Prop :=
 Rd H a (.tup xs) ∨
  ∃(o:Obj) (its:Array Value) (n:Nat),K.lookup a=some o∧o.cls=.type "tuple"∧o.data=.seq its n∧its.size≤sizeLine∧zR xs its.toList∧o.dict=none
noncomputable def zPH:Value→Option V
 | .none=>some .non
 | .bool b=>some (.bl b)
 | .int i _=>some (.int i)
 | .str x _=>some (.str x)
 | .bytes b _=>some (.byt b)
 | .float b _=>some (.flt b)
 | .ref a=>some (.ref a)
 | .type n=>some (.ty n)
 | _=>none
theorem RelV.abs{x:V}{u:Value}(r:RelV x u):zPH u=some x:=by
 cases x with
 | non=>cases r;rfl
 | bl _=>cases r;rfl
 | int _=>obtain⟨t,rfl⟩:=r;rfl
 | str _=>obtain⟨t,rfl⟩:=r;rfl
 | byt _=>obtain⟨t,rfl⟩:=r;rfl
 | flt _=>obtain⟨t,rfl⟩:=r;rfl
 | ref _=>cases r;rfl
 | ty _=>cases r;rfl
theorem RelV.inj{x y:V}{u:Value}(r:RelV x u)(q:RelV y u):x=y:=Option.some.inj (r.abs.symm.trans q.abs)
theorem zR.inj:∀ {xs ys:List V} {us:List Value},zR xs us→zR ys us→xs=ys
 | _,_,_,.nil,.nil=>rfl
 | _,_,_,.cons r t,.cons r' t'=>by rw[r.inj r',zR.inj t t']
section
variable {X:Cx} {pins:List (Addr×Obj)} {σ:St} {H:Hp} {s:Shared} {a:Addr} {xs ys:List V}
theorem SqL.of{K:PySem.W.Frag}(h:H a=some (.lst xs)):SqL K H a xs:=.inl (.inl h)
theorem SqT.of{K:PySem.W.Frag}(h:H a=some (.tup xs)):SqT K H a xs:=.inl (.inl h)
theorem zP.list(I:zP X pins σ H s)(h:SqL X.K H a xs):∃ its:List Value,zR xs its∧PlainL s.heap a its.toArray∧xs.length≤sizeLine:=by
 rcases h with h | ⟨o,its,n,hk,hc,hd,hs,hz,r⟩
 ·obtain⟨z,its,n,r,e⟩:=h.ok I.hok
  exact⟨its,r,⟨_,n,e,rfl,rfl,rfl⟩,z⟩
 ·refine⟨its.toList,r,⟨o,n,I.kIn a o hk,hc,hd,by simpa using hs⟩,?_⟩
  have e:=r.length
  simp only[Array.length_toList] at e
  (first|lia|omega)
theorem zP.tuple(I:zP X pins σ H s)(h:SqT X.K H a xs):∃ its:List Value,zR xs its∧IsTup s.heap a its.toArray∧xs.length≤sizeLine:=by
 rcases h with h | ⟨o,its,n,hk,hc,hs,hz,r,u0⟩
 ·obtain⟨z,its,r,p⟩:=h.ok I.hok
  exact⟨its,r,p.isTup,z⟩
 ·refine⟨its.toList,r,⟨o,I.kIn a o hk,hc,n,by simpa using hs⟩,?_⟩
  have e:=r.length
  simp only[Array.length_toList] at e
  (first|lia|omega)
theorem zP.noDict(I:zP X pins σ H s)(h:SqT X.K H a xs):s.TypeIs (.ref a) "tuple"∧∃ ob,s.heap.get? a=some ob∧ob.dict=none:=by
 rcases h with h | ⟨o,its,n,hk,hc,hs,hz,r,hd⟩
 ·obtain⟨z,its,r,o,h1,h2,h3,h4⟩:=h.ok I.hok
  exact⟨⟨o,h1,h2⟩,o,h1,h4⟩
 ·exact⟨⟨o,I.kIn a o hk,hc⟩,o,I.kIn a o hk,hd⟩
theorem zP.list_inj(I:zP X pins σ H s)(h:SqL X.K H a xs)(h':SqL X.K H a ys):xs=ys:=by
 obtain⟨its,r,⟨o,n,e,u0,u0,d⟩,u0⟩:=I.list h
 obtain⟨its',r',⟨o',n',e',u0,u0,d'⟩,u0⟩:=I.list h'
 rw[e] at e';cases e'
 rw[d] at d'
 injection d' with d1 _
 have:its=its':=by simpa using congrArg Array.toList d1
 subst this
 exact r.inj r'
theorem zP.tuple_inj(I:zP X pins σ H s)(h:SqT X.K H a xs)(h':SqT X.K H a ys):xs=ys:=by
 obtain⟨its,r,⟨o,e,u0,n,d⟩,u0⟩:=I.tuple h
 obtain⟨its',r',⟨o',e',u0,n',d'⟩,u0⟩:=I.tuple h'
 rw[e] at e';cases e'
 rw[d] at d'
 injection d' with d1 _
 have:its=its':=by simpa using congrArg Array.toList d1
 subst this
 exact r.inj r'
end
noncomputable abbrev Cx.wish(X:Cx)(E:Value→Shared→Prop):Cx:={ X with xe:=E }
noncomputable abbrev Cx.nox(X:Cx):Cx:=X.wish fun u0 u0=>False
theorem Cx.Ok.wish{X:Cx}(ok:X.Ok)(E:Value→Shared→Prop):(X.wish E).Ok :=
 ⟨ok.mod,ok.kind,ok.glob,ok.blt,ok.above,ok.inj,ok.has,ok.cab,ok.hd,ok.frames,ok.stk,ok.exf,ok.bs,ok.bsz,ok.noex,ok.exfs,ok.funs,ok.frf,ok.tb⟩
theorem Cx.Ok.unwish{X:Cx}{E:Value→Shared→Prop}(ok:(X.wish E).Ok):X.Ok :=
 ⟨ok.mod,ok.kind,ok.glob,ok.blt,ok.above,ok.inj,ok.has,ok.cab,ok.hd,ok.frames,ok.stk,ok.exf,ok.bs,ok.bsz,ok.noex,ok.exfs,ok.funs,ok.frf,ok.tb⟩
section
variable {X:Cx} {pins:List (Addr×Obj)} {σ:St} {H:Hp} {s:Shared} {E:Value→Shared→Prop}
theorem zP.wish(I:zP X pins σ H s)(E:Value→Shared→Prop):zP (X.wish E) pins σ H s:=⟨I.ok.wish E,I.os,I.bare,I.base,I.loc,I.cell,I.free,I.freeC,I.pin,I.hok,I.len⟩
theorem zP.unwish(I:zP (X.wish E) pins σ H s):zP X pins σ H s:=⟨I.ok.unwish,I.os,I.bare,I.base,I.loc,I.cell,I.free,I.freeC,I.pin,I.hok,I.len⟩
theorem SP.unwish{D:Ends}{f:Flow}{s':Shared}(h:SP (X.wish E) pins D f s'):SP X pins D f s':=by
 cases f with
 | next=>obtain⟨σ',H',I,q⟩:=h;exact⟨σ',H',I.unwish,q⟩
 | brk=>obtain⟨σ',H',I,q⟩:=h;exact⟨σ',H',I.unwish,q⟩
 | cont=>obtain⟨σ',H',I,q⟩:=h;exact⟨σ',H',I.unwish,q⟩
 | ret u=>obtain⟨v,σ',H',I,r,q⟩:=h;exact⟨v,σ',H',I.unwish,r,q⟩
theorem PSs.nox{st:List Stmt}{t:TS}(h:PSs X.nox st t):PSs X st t:=fun pins s σ H D I hw =>
 wpAny_mono (h pins s σ H D (I.wish _) hw) (fun u0 u0 q=>q.unwish) fun u0 u0 z=>False.elim z
end
section
variable {X:Cx} {st:Stmt} {rest:List Stmt} {t u:TS} {e:Expr} {te:TE} {pos:Pos}
noncomputable def zOT:TS:=fun D σ H=>D.nx σ H
noncomputable def zPI(t u:TS):TS:=fun D σ H=>t { D with nx:=u D } σ H
theorem zLU:PSs X [] zOT:=fun u0 u0 σ H u0 I h=>wpAny_execs_nil ⟨σ,H,I,h⟩
theorem zJy(h1:PS X st t)(h2:PSs X rest u):PSs X (st::rest) (zPI t u):=by
 intro pins s σ H D I h
 refine wpAny_execs_cons (yr (h1 pins s σ H { D with nx:=u D } I h) fun f s1 q=>?_)
 cases f with
 | next =>
  obtain⟨σ',H',I',q⟩:=q
  exact h2 pins s1 σ' H' D I' q
 | ret v=>exact q
 | brk=>exact q
 | cont=>exact q
theorem zLV(h1:PS X st t):PSs X [st] t:=by
 intro pins s σ H D I h
 refine wpAny_execs_cons (yr (h1 pins s σ H D I h) fun f s1 q=>?_)
 cases f with
 | next=>exact wpAny_execs_nil q
 | ret v=>exact q
 | brk=>exact q
 | cont=>exact q
theorem zP.quiet{pins:List (Addr×Obj)}{σ:St}{H:Hp}{s:Shared}(I:zP X pins σ H s):interactive X.env=false:=by simp[interactive,I.ok.kind]
noncomputable def zOU(te:TE):TS:=fun D σ H=>te σ H fun u0 H1=>D.nx σ H1
theorem zLW(he:PE X e te)(hs:swapsWith e none pos.line X.env=pure false:=by rfl):PS X (.Expr e pos) (zOU te):=by
 intro pins s σ H D I h
 exact wpAny_Expr_any (yr (he pins s σ H _ I h) fun v s1 ⟨x,H1,I1,r1,q1⟩=>⟨σ,H1,I1,q1⟩) I.quiet hs
noncomputable def zPJ(te:TE):TS:=fun D σ H=>te σ H D.rt
theorem zNE(he:PE X e te):PS X (.Return (some e) pos) (zPJ te):=by
 intro pins s σ H D I h
 exact wpAny_Return_some (yr (he pins s σ H _ I h) fun v s1 ⟨x,H1,I1,r1,q1⟩=>⟨x,σ,H1,I1,r1,q1⟩)
noncomputable def zPK(c:TT)(t u:TS):TS:=fun D σ H=>c σ H fun b H1=>if b=true then t D σ H1 else u D σ H1
theorem zOV{c:Expr}{a b:List Stmt}{tc:TT}(hc:PT X c tc)(ha:PSs X a t)(hb:PSs X b u):PS X (.If c a b pos) (zPK tc t u):=by
 intro pins s σ H D I h
 refine wpAny_If (yr (hc pins s σ H _ I h) fun d s1 ⟨H1,I1,q1⟩=>?_)
 cases d with
 | true=>exact ha pins s1 σ H1 D I1 q1
 | false=>exact hb pins s1 σ H1 D I1 q1
end
noncomputable abbrev TG:=V→St→Hp→(St→Hp→Prop)→Prop
noncomputable abbrev TGs:=List V→St→Hp→(St→Hp→Prop)→Prop
noncomputable def PG(X:Cx)(target:Expr)(t:TG):Prop :=
 ∀(pins:List (Addr×Obj)) (s:Shared) (σ:St) (H:Hp) (v:V) (u:Value) (Q:St→Hp→Prop),zP X pins σ H s→RelV v u→t v σ H Q →
  wpAny (model X.prog X.w) X.A (assign target X.env u) (fun u0 s'=>∃ σ' H',zP X pins σ' H' s'∧Q σ' H') X.xe s
noncomputable def PGs(X:Cx)(ts:List Expr)(t:TGs):Prop :=
 ∀(pins:List (Addr×Obj)) (s:Shared) (σ:St) (H:Hp) (vs:List V) (us:List Value) (Q:St→Hp→Prop),zP X pins σ H s→zR vs us→t vs σ H Q →
  wpAny (model X.prog X.w) X.A (assignInOrder ((assignEach ts X.env).map (·.2)) us) (fun u0 s'=>∃ σ' H',zP X pins σ' H' s'∧Q σ' H') X.xe s
noncomputable abbrev zNF:=V→V→V→Hp→(Hp→Prop)→Prop
noncomputable def zOW(X:Cx)(t:zNF):Prop :=
 ∀(pins:List (Addr×Obj)) (s:Shared) (σ:St) (H:Hp) (o i v:V) (ov iv u:Value) (Q:Hp→Prop),zP X pins σ H s→RelV o ov→RelV i iv→RelV v u→t o i v H Q →
  wpAny (model X.prog X.w) X.A (setItem ov iv u) (fun u0 s'=>∃ H',zP X pins σ H' s'∧Q H') X.xe s
section
variable {X:Cx} {pos:Pos}
noncomputable def zCT(i:Nat):TG:=fun v σ H Q=>Q (σ.set i (some v)) H
theorem zAw{i:Nat}{x:Str}(hN:X.N.Nodup)(hi:X.N[i]?=some x)(hx:Loc X.env.scope x)(hf:X.fn x=true∨X.env.scope.names.lookup x=some .local:=by first | exact .inl rfl | exact .inr rfl | assumption):PG X (.Name x pos) (zCT i):=by
 intro pins s σ H v u Q I r h
 exact wpAny_assign_Name (zGI I hN hi hx r (fun s' I'=>⟨_,H,I',h⟩) hf)
noncomputable def zNG:TGs:=fun vs σ H Q=>vs=[]∧Q σ H
noncomputable def zGJ(t:TG)(u:TGs):TGs:=fun vs σ H Q=>∃ v r,vs=v::r∧t v σ H fun σ' H'=>u r σ' H' Q
theorem zIG:PGs X [] zNG:=by
 intro pins s σ H vs us Q I r h
 obtain⟨e,h⟩:=h
 subst e
 cases r
 exact assignInOrder_nil ⟨σ,H,I,h⟩
theorem zCU{e:Expr}{es:List Expr}{t:TG}{u:TGs}(h1:PG X e t)(h2:PGs X es u)
  (hs:(assignEach (e::es) X.env).map (·.2)=assign e X.env::(assignEach es X.env).map (·.2):=by rfl):PGs X (e::es) (zGJ t u):=by
 intro pins s σ H vs us Q I r h
 obtain⟨v,vr,e1,h⟩:=h
 subst e1
 cases r with
 | cons r rr =>
  rw[hs]
  refine assignInOrder_cons (yr (h1 pins s σ H _ _ _ I r h) fun _ s1 ⟨σ1,H1,I1,q1⟩=>?_)
  exact h2 pins s1 σ1 H1 _ _ Q I1 rr q1
noncomputable def zNH(K:PySem.W.Frag)(n:Nat)(t:TGs):TG:=fun v σ H Q=>∃ a xs,v=.ref a∧SqT K H a xs∧xs.length=n∧t xs σ H Q
theorem zJz{es:List Expr}{k:Nat}{t:TGs}{n:Nat}(hc:X.calm=true)(h:PGs X es t)
  (hn:(assignEach es X.env).length=n:=by rfl) (hst:(assignEach es X.env).findIdx? (·.1)=none:=by rfl):PG X (.Tuple es k pos) (zNH X.K n t):=by
 intro pins s σ H v u Q I r hw
 obtain⟨a,xs,e1,hq,hl,hw⟩:=hw
 subst e1
 cases r
 obtain⟨its,rv,ht,hz⟩:=I.tuple hq
 refine assign_Tuple_tuple (I.ok.hd hc) ht (by simp[hn,← hl,rv.length]) hst fun h' hx=>?_
 have I1:zP X pins σ H { s with heap:=h' }:=I.kept (t':=s.toks) fun b o e=>hx b o (Nat.ne_of_lt (Heap.lt_size e)) e
 exact h pins _ σ H xs _ Q I1 (by simpa using rv) hw
noncomputable def zPL(to ti:TE)(t:zNF):TG:=fun v σ H Q=>to σ H fun o H1=>ti σ H1 fun i H2=>t o i v H2 fun H3=>Q σ H3
theorem zNI{o i:Expr}{to ti:TE}{t:zNF}(ho:PE X o to)(hi:PE X i ti)(hs:zOW X t)
  (ha:∀ v,assign (.Subscript o i pos) X.env v=(do
   let ov ← holding [v] (eval o X.env)
   let iv ← holding [v,ov] (eval i X.env)
   standAt pos
   holding [v,ov,iv] (setItem ov iv v)
   release [v,ov,iv] []):=by intro u0;rfl):PG X (.Subscript o i pos) (zPL to ti t):=by
 intro pins s σ H v u Q I r h
 rw[ha]
 refine wpAny_bind (wpAny_holding (yr (ho pins s σ H _ I h) fun ov s1 ⟨x,H1,I1,r1,q1⟩=>?_))
 refine wpAny_bind (wpAny_holding (yr (hi pins s1 σ H1 _ I1 q1) fun iv s2 ⟨y,H2,I2,r2,q2⟩=>?_))
 refine wpAny_bind (wpAny_standAt (wpAny_bind (wpAny_holding (yr (hs pins s2 σ H2 x y v ov iv u _ I2 r1 r2 r q2) fun _ s3 ⟨H3,I3,q3⟩=>?_))))
 exact wpAny_release ⟨σ,H3,I3,q3⟩
noncomputable def zNJ(te:TE)(g:TG):TS:=fun D σ H=>te σ H fun x H1=>g x σ H1 D.nx
theorem zNK{tg e:Expr}{te:TE}{g:TG}(he:PE X e te)(hg:PG X tg g)(hs:swapsWithSole [tg] e pos.line X.env=pure false:=by rfl)(hw:swappedStores [tg] e X.env=pure none:=by rfl)
  (h1:(assignEach [tg] X.env).map (·.2)=[assign tg X.env]:=by rfl):PS X (.Assign [tg] e pos) (zNJ te g):=by
 intro pins s σ H D I h
 refine wpAny_Assign_stores (yr (he pins s σ H _ I h) fun v s1 ⟨x,H1,I1,r1,q1⟩=>?_) hs hw
 rw[h1]
 exact yr (hg pins s1 σ H1 x v _ I1 r1 q1) fun u0 s2 q=>q
theorem zNL{i:Nat}{x:Str}{e:Expr}{te:TE}{pos':Pos}(hN:X.N.Nodup)(hi:X.N[i]?=some x)(hx:Loc X.env.scope x)(he:PE X e te)(hs:swapsWith e (some (.Name x pos')) pos.line X.env=pure false:=by rfl)(hf:X.fn x=true∨X.env.scope.names.lookup x=some .local:=by first | exact .inl rfl | exact .inr rfl | assumption) :
  PS X (.Assign [.Name x pos'] e pos) (zNJ te (zCT i)):=by
 intro pins s σ H D I h
 refine wpAny_Assign_Name (yr (he pins s σ H _ I h) fun v s1 ⟨y,H1,I1,r1,q1⟩=>?_) hs
 exact zGI I1 hN hi hx r1 (fun s2 I2=>⟨_,H1,I2,q1⟩) hf
end
section
variable {X:Cx} {pos:Pos}
end
structure It where
 go:Nat→Hp→Prop
 yld:Nat→Hp→V→Hp→Prop
 stop:Nat→Hp→Prop
noncomputable def zDz(X:Cx)(pins:List (Addr×Obj))(H:Hp)(b:Addr):Prop :=
 H b=none∧b≠X.env.locals∧b∉X.fs∧(b∈X.ex∨X.s₀.heap.objs.size≤b)∧(∀ x c,X.env.cells.lookup x=some c→c≠b)∧∀ p∈X.pn++pins,p.1≠b
theorem zP.fpOk{X:Cx}{pins:List (Addr×Obj)}{σ:St}{H H':Hp}{s:Shared}{b:Addr}(I:zP X pins σ H s)(hb:s.heap.objs.size≤b)(hn:H' b=none):zDz X pins H' b:=by
 refine⟨hn,Nat.ne_of_gt (Nat.lt_of_lt_of_le I.lt hb),I.nofs hb,.inr (Nat.le_trans I.sz hb),fun x c e z=>?_,fun p hp z=>?_⟩
 ·obtain⟨v,q⟩:=I.cell x c e
  exact absurd (Nat.lt_of_lt_of_le q.lt (by rw[z];exact hb)) (Nat.lt_irrefl _)
 ·exact absurd (Nat.lt_of_lt_of_le (Heap.lt_size (I.pin p hp).1) (by rw[z];exact hb)) (Nat.lt_irrefl _)
structure Turn (P:Program) (w:World) (K:PySem.W.Frag) (tg:Expr) (J:It) (fp:List Addr) (it:Addr) (tn:Nat→Heap→Prop):Prop where
 mem:it∈fp
 obj:∀ i h,tn i h→∀ b∈fp,∃ o,h.get? b=some o∧∀ v,o.data≠.cell v
 keep:∀ i h h',tn i h→(∀ b∈fp,∀ o,h.get? b=some o→h'.get? b=some o)→tn i h'
 item:∀(X:Cx),X.prog=P→X.w=w→X.K=K→X.calm=true→∀(i:Nat) (pins:List (Addr×Obj)) (s:Shared) (σ:St) (H:Hp) (E:Value→Shared→Prop),zP X pins σ H s→(∀ b∈fp,zDz X pins H b)→tn i s.heap→J.go i H →
  wpAny (model P w) X.A (pyNext (.ref it)) (fun r s1=>∃ u,r=some u ∧
   wpAny (model P w) X.A (letOwnedTupleGo tg (.ref it) u) (fun u0 s2=>∃ x H',zP X pins σ H' s2∧RelV x u∧J.yld i H x H'∧tn (i+1) s2.heap∧∀ b∈fp,H' b=none) E s1) E s
 done:∀(X:Cx),X.prog=P→X.w=w→X.K=K→X.calm=true→∀(i:Nat) (pins:List (Addr×Obj)) (s:Shared) (σ:St) (H:Hp) (E:Value→Shared→Prop),zP X pins σ H s→(∀ b∈fp,zDz X pins H b)→tn i s.heap→J.stop i H →
  wpAny (model P w) X.A (pyNext (.ref it)) (fun r s1=>r=none∧zP X pins σ H s1) E s
 self:∀(A:Around) (i:Nat) (s:Shared) (Q:Value→Shared→Prop) (E:Value→Shared→Prop),tn i s.heap→Q (.ref it) s→wpAny (model P w) A (pyIter (.ref it)) Q E s
noncomputable abbrev TI:=St→Hp→(It→Hp→Prop)→Prop
noncomputable def PIE(X:Cx)(pins:List (Addr×Obj))(σ:St)(tg:Expr)(R:It→Hp→Prop)(itv:Value)(s2:Shared):Prop :=
 ∃(it:Addr) (fp:List Addr) (tn:Nat→Heap→Prop) (J:It) (H':Hp),itv=.ref it∧zP X pins σ H' s2∧Turn X.prog X.w X.K tg J fp it tn∧tn 0 s2.heap∧(∀ b∈fp,zDz X pins H' b)∧R J H'
noncomputable def PI(X:Cx)(tg iter:Expr)(wi:TI):Prop :=
 ∀(pins:List (Addr×Obj)) (s:Shared) (σ:St) (H:Hp) (R:It→Hp→Prop),zP X pins σ H s→wi σ H R →
  wpAny (model X.prog X.w) X.A (eval iter X.env) (fun v s1=>wpAny (model X.prog X.w) X.A (pyIter v) (PIE X pins σ tg R) X.xe s1) X.xe s
theorem zJ0{M:Model}{A:Around}{E:Value→Shared→Prop}{s:Shared}{tg:Expr}{it:Addr}{u:Value}{o:Obj}{n:String}{vs:Array Value}{Q:Unit→Shared→Prop}(ho:s.heap.get? it=some o)(hc:o.cls=.type n)(hd:o.data=.fields vs)
    (hn:["enumerate","zip","dict_itemiterator","dict_reverseitemiterator","odict_iterator","itertools.zip_longest","itertools.pairwise"].contains n=false) (hQ:Q () s):wpAny M A (letOwnedTupleGo tg (.ref it) u) Q E s:=by
  unfold letOwnedTupleGo
  cases tg<;>first
    | exact wpAny_pure hQ
    | (cases u<;>first
        | exact wpAny_pure hQ
        | (refine wpAny_bind (wpAny_load ho ?_)
           rw[hc,hd]
           show wpAny M A (if (["enumerate","zip","dict_itemiterator","dict_reverseitemiterator","odict_iterator","itertools.zip_longest","itertools.pairwise"].contains n&&vs[0]?==some (rawInt _))=true then _ else _) Q E s
           rw[if_neg (by intro h;rw[hn,Bool.false_and] at h;cases h)]
           exact wpAny_pure hQ))
noncomputable def Itl(K:PySem.W.Frag)(a:Addr):It :=
 ⟨fun i H=>∃ xs x,SqL K H a xs∧xs[i]?=some x,fun i H x H'=>H'=H∧∀ xs,SqL K H a xs→xs[i]?=some x,fun i H=>∃ xs,SqL K H a xs∧xs.length≤i⟩
noncomputable def Itt(K:PySem.W.Frag)(a:Addr):It :=
 ⟨fun i H=>∃ xs x,SqT K H a xs∧xs[i]?=some x,fun i H x H'=>H'=H∧∀ xs,SqT K H a xs→xs[i]?=some x,fun i H=>∃ xs,SqT K H a xs∧xs.length≤i⟩
noncomputable def Itr(lo:Int)(n:Nat):It:=⟨fun i u0=>i<n,fun i H x H'=>H'=H∧x=.int (lo+i),fun i u0=>n≤i⟩
theorem zI3{P:Program}{w:World}{K:PySem.W.Frag}{tg:Expr}(a it:Addr):Turn P w K tg (Itl K a) [it] it (fun i h=>h.IsListIter it a i) where
 mem:=by simp
 obj:=fun i h st b hb=>by
  have e:b=it:=by simpa using hb
  subst e
  obtain⟨o,e,c,d⟩:=st
  exact⟨o,e,fun v z=>by rw[d] at z;cases z⟩
 keep:=fun i h h' st k=>st.at fun o e=>k it (by simp) o e
 item:=by
  intro X hP hw hK hc i pins s σ H E I hf st hg
  subst hP hw hK
  obtain⟨xs,x,hq,hx⟩:=hg
  obtain⟨its,rv,p,hz⟩:=I.list hq
  obtain⟨u,hu,ru⟩:=rv.get hx
  obtain⟨f0,f1,f2,f3,f4,f5⟩:=hf it (by simp)
  refine wpAny_pyNext_list_item st p.isList (x:=u) (by simpa using hu) fun h' st' sb=>?_
  have I1:zP X pins σ H { s with heap:=h' }:=I.turned (t':=s.toks) (fun b o hb e=>(sb.2 b hb).trans e) f0 f1 f3 f4 f5
  obtain⟨o,e,c,d⟩:=id st'
  exact⟨u,rfl,zJ0 (s:={ s with heap:=h' }) e c d (by decide) ⟨x,H,I1,ru,⟨rfl,fun ys hy=>by rw[I.list_inj hy hq];exact hx⟩,st',fun b hb=>(hf b hb).1⟩⟩
 done:=by
  intro X hP hw hK hc i pins s σ H E I hf st hg
  subst hP hw hK
  obtain⟨xs,hq,hx⟩:=hg
  obtain⟨its,rv,p,hz⟩:=I.list hq
  obtain⟨f0,f1,f2,f3,f4,f5⟩:=hf it (by simp)
  have hl:=rv.length
  exact wpAny_pyNext_list_end (I.ok.hd hc) st p.isList (by simp;(first|lia|omega)) fun h' eb=>⟨rfl,I.turned (t':=s.toks) (fun b o hb e=>eb b o hb e) f0 f1 f3 f4 f5⟩
 self:=fun u0 u0 u0 u0 u0 st h=>wpAny_pyIter_listiter st h
theorem zHH{P:Program}{w:World}{K:PySem.W.Frag}{tg:Expr}(a it:Addr):Turn P w K tg (Itt K a) [it] it (fun i h=>h.IsTupleIter it a i) where
 mem:=by simp
 obj:=fun i h st b hb=>by
  have e:b=it:=by simpa using hb
  subst e
  obtain⟨o,e,c,d⟩:=st
  exact⟨o,e,fun v z=>by rw[d] at z;cases z⟩
 keep:=fun i h h' st k=>st.at fun o e=>k it (by simp) o e
 item:=by
  intro X hP hw hK hc i pins s σ H E I hf st hg
  subst hP hw hK
  obtain⟨xs,x,hq,hx⟩:=hg
  obtain⟨its,rv,p,hz⟩:=I.tuple hq
  obtain⟨u,hu,ru⟩:=rv.get hx
  obtain⟨f0,f1,f2,f3,f4,f5⟩:=hf it (by simp)
  refine wpAny_pyNext_tuple_item st (show s.heap.IsTuple a its.toArray from p) (x:=u) (by simpa using hu) fun h' st' sb=>?_
  have I1:zP X pins σ H { s with heap:=h' }:=I.turned (t':=s.toks) (fun b o hb e=>(sb.2 b hb).trans e) f0 f1 f3 f4 f5
  obtain⟨o,e,c,d⟩:=id st'
  exact⟨u,rfl,zJ0 (s:={ s with heap:=h' }) e c d (by decide) ⟨x,H,I1,ru,⟨rfl,fun ys hy=>by rw[I.tuple_inj hy hq];exact hx⟩,st',fun b hb=>(hf b hb).1⟩⟩
 done:=by
  intro X hP hw hK hc i pins s σ H E I hf st hg
  subst hP hw hK
  obtain⟨xs,hq,hx⟩:=hg
  obtain⟨its,rv,p,hz⟩:=I.tuple hq
  obtain⟨f0,f1,f2,f3,f4,f5⟩:=hf it (by simp)
  have hl:=rv.length
  exact wpAny_pyNext_tuple_end (I.ok.hd hc) st (show s.heap.IsTuple a its.toArray from p) (by simp;(first|lia|omega)) fun h' eb=>⟨rfl,I.turned (t':=s.toks) (fun b o hb e=>eb b o hb e) f0 f1 f3 f4 f5⟩
 self:=fun u0 u0 u0 u0 u0 st h=>wpAny_pyIter_tupleiter st h
theorem zHI{P:Program}{w:World}{K:PySem.W.Frag}{tg:Expr}(it:Addr)(lo:Int)(n:Nat):Turn P w K tg (Itr lo n) [it] it (fun i h=>IsRangeIter h it (lo+(i:Nat)*1) ((n:Int)-(i:Nat)) 1) where
 mem:=by simp
 obj:=fun i h st b hb=>by
  have e:b=it:=by simpa using hb
  subst e
  exact⟨_,st,fun v z=>by
   have z':Data.fields _=Data.cell v:=z
   cases z'⟩
 keep:=fun i h h' st k=>k it (by simp) _ st
 item:=by
  intro X hP hw hK hc i pins s σ H E I hf st hg
  subst hP hw hK
  obtain⟨f0,f1,f2,f3,f4,f5⟩:=hf it (by simp)
  have W:=Walks.range (prog:=X.prog) (w:=X.w) (I.ok.hd hc) it lo 1 n
  refine W.item i s _ _ hg st fun v h' tk hv st' kk=>?_
  obtain⟨t,rfl⟩:=hv
  have I1:zP X pins σ H { s with heap:=h',toks:=tk }:=I.turned (fun b o hb e=>kk b o (by simpa using hb) e) f0 f1 f3 f4 f5
  refine⟨_,rfl,zJ0 (s:={ s with heap:=h',toks:=tk }) (n:="range_iterator") st' rfl rfl (by decide) ⟨.int (lo+i),H,I1,⟨t,?_⟩,⟨rfl,rfl⟩,st',fun b hb=>(hf b hb).1⟩⟩
  rw[Int.mul_one]
 done:=by
  intro X hP hw hK hc i pins s σ H E I hf st hg
  subst hP hw hK
  obtain⟨f0,f1,f2,f3,f4,f5⟩:=hf it (by simp)
  exact wpAny_pyNext_range_end (I.ok.hd hc) st (by have:n≤i:=hg;(first|lia|omega)) fun h' eb=>⟨rfl,I.turned (t':=s.toks) (fun b o hb e=>eb b o hb e) f0 f1 f3 f4 f5⟩
 self:=fun u0 u0 u0 u0 u0 st h=>wpAny_pyIter_rangeiter st h
end L2
namespace L2
open PySem PySem.Spec PyProof.Rows
section
variable {X:Cx} {tg:Expr}
theorem zGK{pins:List (Addr×Obj)}{σ:St}{H:Hp}{s:Shared}{R:It→Hp→Prop}{E:Value→Shared→Prop}{lo hi:Int}{t u v:Tok}{tk:Nat}(I:zP X pins σ H s)(h1:-(2 ^ 62)≤lo)(h2:lo<2 ^ 62)(h3:-(2 ^ 62)≤hi)(h4:hi<2 ^ 62)
  (q:R (Itr lo (hi-lo).toNat) H):wpAny (model X.prog X.w) X.A (pyIter (.ref s.heap.objs.size)) (PIE X pins σ tg R) E { s with heap:=s.heap.push { cls:=.type "range",data:=.fields #[.int lo t,.int hi u,.int 1 v] },toks:=tk }:=by
 refine wpAny_pyIter_range (IsRange.new ..) (small_one h1 h2 h3 h4) ?_
 have I1:zP X pins σ H { s with heap:=s.heap.push { cls:=.type "range",data:=.fields #[.int lo t,.int hi u,.int 1 v] },toks:=tk }:=I.kept fun b o e=>Heap.get?_push_of_some _ e
 refine⟨(s.heap.push { cls:=.type "range",data:=.fields #[.int lo t,.int hi u,.int 1 v] }).objs.size,[(s.heap.push { cls:=.type "range",data:=.fields #[.int lo t,.int hi u,.int 1 v] }).objs.size],_,_,H,rfl,
  I1.kept (t':=tk) fun b o e=>Heap.get?_push_of_some _ e,zHI _ lo (hi-lo).toNat,?_,fun b hb=>?_,q⟩
 ·have e1:lo+((0:Nat):Int)*1=lo:=by simp
  have e2:(((hi-lo).toNat:Nat):Int)-((0:Nat):Int)=Builtin.Range.rangeSize lo hi 1:=by rw[rangeSize_one];split<;>(first|lia|omega)
  show IsRangeIter _ _ (lo+((0:Nat):Int)*1) ((((hi-lo).toNat:Nat):Int)-((0:Nat):Int)) 1
  rw[e1,e2]
  exact Heap.get?_push_size _ rfl
 ·have e:b=(s.heap.push { cls:=.type "range",data:=.fields #[.int lo t,.int hi u,.int 1 v] }).objs.size:=by simpa using hb
  subst e
  exact I1.fpOk (Nat.le_refl _) (I1.hok.fresh (Nat.le_refl _))
noncomputable def zOX(ta:TA):TI:=fun σ H R=>ta σ H fun vs H1=>∃ j:Int,vs=[.int j]∧-(2 ^ 62)≤j∧j<2 ^ 62∧R (Itr 0 j.toNat) H1
noncomputable def zOY(ta:TA):TI:=fun σ H R=>ta σ H fun vs H1=>∃ i j:Int,vs=[.int i,.int j]∧(-(2 ^ 62)≤i∧i<2 ^ 62∧-(2 ^ 62)≤j∧j<2 ^ 62)∧R (Itr i (j-i).toNat) H1
theorem zI4{a:Expr}{ta:TA}{p pos:Pos}(hg:Gl X "range")(hm:X.mg "range"=none)(ha:PA X [a] ta)(hs:starEach [a] X.env=[(false,eval a X.env)]:=by rfl):PI X tg (.Call (.Name "range" p) [a] [] pos) (zOX ta):=by
 intro pins s σ H R I h
 refine Call_ (zAj I hg hm boot_range (PyProof.Rows.callWith_type1 (yr (ha pos pins s σ H _ I h) fun us s1 ⟨vs,H1,I1,r1,q1⟩=>?_) hs rfl))
 obtain⟨j,e,q1,q2,q⟩:=q1
 subst e
 cases r1 with
 | cons r rr =>
  cases rr
  obtain⟨t,rfl⟩:=r
  exact call_range_1 (zGK I1 (by (first|lia|omega)) (by (first|lia|omega)) q1 q2 (by simpa using q))
theorem zI5{a b:Expr}{ta:TA}{p pos:Pos}(hg:Gl X "range")(hm:X.mg "range"=none)(ha:PA X [a,b] ta)(hs:starEach [a,b] X.env=[(false,eval a X.env),(false,eval b X.env)]:=by rfl)(hs2:starEach [b] X.env=[(false,eval b X.env)]:=by rfl) :
  PI X tg (.Call (.Name "range" p) [a,b] [] pos) (zOY ta):=by
 intro pins s σ H R I h
 refine Call_ (zAj I hg hm boot_range (PyProof.Rows.callWith_type1 (yr (ha pos pins s σ H _ I h) fun us s1 ⟨vs,H1,I1,r1,q1⟩=>?_) (by rw[hs,hs2]) (by rw[hs2];rfl)))
 obtain⟨i,j,e,⟨q1,q2,q3,q4⟩,q⟩:=q1
 subst e
 cases r1 with
 | cons r rr =>
  cases rr with
  | cons r' rr =>
   cases rr
   obtain⟨t,rfl⟩:=r
   obtain⟨t',rfl⟩:=r'
   exact call_range_2 (zGK I1 q1 q2 q3 q4 q)
noncomputable def zPM(wi:TI)(g:TG)(tb:TS):TS:=fun D σ H=>wi σ H fun J H1=>∃ W:Nat→Nat→St→Hp→Prop,(∃ m,W 0 m σ H1)∧∀ i m σ H,W i m σ H →
 (J.stop i H∧D.nx σ H)∨(J.go i H∧∃ N:St→Hp→Prop,(∀ σ' H',N σ' H'→∃ m',m'<m∧W (i+1) m' σ' H')∧∀ x H',J.yld i H x H'→g x σ H' fun σ2 H2=>tb { D with nx:=N,ct:=N,bk:=D.nx } σ2 H2)
noncomputable def zD0(fp:List Addr)(h:Heap):List (Addr×Obj):=fp.filterMap fun b=>(h.get? b).map fun o=>(b,o)
theorem zAx{fp:List Addr}{h:Heap}{b:Addr}{o:Obj}(hb:b∈fp)(e:h.get? b=some o):(b,o)∈zD0 fp h:=List.mem_filterMap.mpr ⟨b,hb,by rw[e];rfl⟩
theorem zI6{fp:List Addr}{h:Heap}{p:Addr×Obj}(hp:p∈zD0 fp h):p.1∈fp∧h.get? p.1=some p.2:=by
 obtain⟨b,hb,e⟩:=List.mem_filterMap.mp hp
 cases q:h.get? b with
 | none=>rw[q] at e;cases e
 | some o =>
  rw[q] at e
  have e':(b,o)=p:=Option.some.inj e
  subst e'
  exact⟨hb,q⟩
theorem zP.pinned{pins:List (Addr×Obj)}{σ:St}{H:Hp}{s:Shared}{fp:List Addr}(I:zP X pins σ H s)(hf:∀ b∈fp,zDz X pins H b)(ho:∀ b∈fp,∃ o,s.heap.get? b=some o∧∀ v,o.data≠.cell v):zP X (pins++zD0 fp s.heap) σ H s :=
 I.pins_of fun p hp=>(List.mem_append.mp hp).elim (fun z=>I.pin p (List.mem_append_right _ z)) fun z=>by
  obtain⟨hb,e⟩:=zI6 z
  obtain⟨f0,f1,f2,u0⟩:=hf p.1 hb
  obtain⟨o,e',d⟩:=ho p.1 hb
  rw[e] at e';cases e'
  exact⟨e,f0,f1,f2,d⟩
theorem zP.unpinned{pins pl:List (Addr×Obj)}{σ:St}{H:Hp}{s:Shared}(I:zP X (pins++pl) σ H s):zP X pins σ H s:=I.pins_of fun p hp=>I.pin p (List.mem_append_right _ (List.mem_append_left _ hp))
theorem zNM{iter:Expr}{body:List Stmt}{wi:TI}{g:TG}{tb:TS}{pos:Pos}(hp:PassesOwn (model X.prog X.w) X.A X.env X.xe)(hc:X.calm=true)(hi:PI X tg iter wi)(hg:PG X tg g)(hb:PSs X body tb)
  (hs:∀ x,foldedSetIterable iter X.env x=pure x:=by intro u0;rfl):PS X (.For tg iter body [] pos) (zPM wi g tb):=by
 intro pins s σ H D I h
 refine wpAny_For (yr (hi pins s σ H _ I h) fun v s1 h1=>yr h1 fun itv s2 h2=>?_) hs
 obtain⟨it,fp,tn,J,H2,e,I2,T,st2,f2,W,⟨m0,w0⟩,turn⟩:=h2
 subst e
 -- what stays true of the iterator's objects through the loop
 have stat:∀ {H':Hp},(∀ b∈fp,H' b=none)→∀ b∈fp,zDz X pins H' b:=fun hn b hb=>⟨hn b hb,(f2 b hb).2⟩
 refine codeAny_forLoop_any (fun n s'=>∃ i σ' H',zP X pins σ' H' s'∧tn i s'.heap∧(∀ b∈fp,H' b=none)∧W i n σ' H') ?_ m0 ⟨0,σ,H2,I2,st2,fun b hb=>(f2 b hb).1,w0⟩
 rintro n s3 ⟨i,σ3,H3,I3,st3,fr3,w3⟩
 rcases turn i n σ3 H3 w3 with ⟨stop,qn⟩ | ⟨go,N,hN,step⟩
 ·refine wpAny_passesOwn hp (yr (T.done X rfl rfl rfl hc i pins s3 σ3 H3 X.xe I3 (stat fr3) st3 stop) fun r s4 ⟨hr,I4⟩=>?_)
  subst hr
  exact wpAny_execs_nil ⟨σ3,H3,I4,qn⟩
 ·refine wpAny_passesOwn hp (yr (T.item X rfl rfl rfl hc i pins s3 σ3 H3 X.xe I3 (stat fr3) st3 go) fun r s4 ⟨u,hr,h4⟩=>?_)
  subst hr
  refine wpAny_passesOwn hp (yr h4 fun _ s5 ⟨x,H5,I5,r5,y5,st5,fr5⟩=>?_)
  have I5':=I5.pinned (stat fr5) (T.obj _ _ st5)
  refine wpAny_passesOwn hp (yr (hg _ s5 σ3 H5 x u _ I5' r5 (step x H5 y5)) fun _ s6 ⟨σ6,H6,I6,q6⟩=>?_)
  refine wpAny_passesOwn hp (yr (hb _ s6 σ6 H6 _ I6 q6) fun f s7 q7=>?_)
  have again:∀ {σ7:St} {H7:Hp},zP X (pins++zD0 fp s5.heap) σ7 H7 s7→N σ7 H7→∃ m,m<n∧∃ i σ' H',zP X pins σ' H' s7∧tn i s7.heap∧(∀ b∈fp,H' b=none)∧W i m σ' H':=fun {σ7 H7} I7 n7=>by
   obtain⟨m',hm,w7⟩:=hN σ7 H7 n7
   refine⟨m',hm,i+1,σ7,H7,I7.unpinned,T.keep _ _ _ st5 fun b hb o e=>(I7.pin (b,o) (List.mem_append_right _ (List.mem_append_right _ (zAx hb e)))).1,fun b hb=>?_,w7⟩
   obtain⟨o,e,d⟩:=T.obj _ _ st5 b hb
   exact(I7.pin (b,o) (List.mem_append_right _ (List.mem_append_right _ (zAx hb e)))).2.1
  cases f with
  | next=>obtain⟨σ7,H7,I7,n7⟩:=q7;exact again I7 n7
  | cont=>obtain⟨σ7,H7,I7,n7⟩:=q7;exact again I7 n7
  | brk=>obtain⟨σ7,H7,I7,q7⟩:=q7;exact⟨σ7,H7,I7.unpinned,q7⟩
  | ret v=>obtain⟨x7,σ7,H7,I7,r7,q7⟩:=q7;exact⟨x7,σ7,H7,I7.unpinned,r7,q7⟩
end
end L2
namespace L2
open PySem PySem.Spec PyProof.Rows
noncomputable abbrev R2:=V→V→Hp→VK→Prop
noncomputable def OpR(X:Cx)(f:Value→Value→Sem Value)(r:R2):Prop :=
 ∀(pins:List (Addr×Obj)) (s:Shared) (σ:St) (H:Hp) (x y:V) (v u:Value) (Q:VK),zP X pins σ H s→RelV x v→RelV y u→r x y H Q →
  wpAny (model X.prog X.w) X.A (f v u) (EP X pins σ Q) X.xe s
noncomputable def UnR(X:Cx)(f:Value→Sem Value)(r:V→Hp→VK→Prop):Prop :=
 ∀(pins:List (Addr×Obj)) (s:Shared) (σ:St) (H:Hp) (x:V) (v:Value) (Q:VK),zP X pins σ H s→RelV x v→r x H Q →
  wpAny (model X.prog X.w) X.A (f v) (EP X pins σ Q) X.xe s
noncomputable def yg(X:Cx)(f:Value)(r:List V→Hp→VK→Prop):Prop :=
 ∀(pins:List (Addr×Obj)) (s:Shared) (σ:St) (H:Hp) (xs:List V) (us:List Value) (Q:VK),zP X pins σ H s→zR xs us→r xs H Q →
  wpAny (model X.prog X.w) X.A (call f us) (EP X pins σ Q) X.xe s
noncomputable def tOp(r:R2)(ta tb:TE):TE:=fun σ H Q=>ta σ H fun x H1=>tb σ H1 fun y H2=>r x y H2 Q
noncomputable def tUn(r:V→Hp→VK→Prop)(ta:TE):TE:=fun σ H Q=>ta σ H fun x H1=>r x H1 Q
noncomputable def rI(C:Int→Int→Prop)(g:Int→Int→V):R2:=fun x y H Q=>∃ i j,x=.int i∧y=.int j∧C i j∧Q (g i j) H
noncomputable def rI0(g:Int→Int→V):R2:=fun x y H Q=>∃ i j,x=.int i∧y=.int j∧Q (g i j) H
noncomputable def rU(g:Int→V):V→Hp→VK→Prop:=fun x H Q=>∃ i,x=.int i∧Q (g i) H
section
variable {X:Cx} {a b c:Expr} {ta tb tc:TE} {pos:Pos}
theorem zNN(ha:PE X a ta)(hb:PE X b tb){pins:List (Addr×Obj)}{s:Shared}{σ:St}{H:Hp}{R:V→V→Hp→Prop}(I:zP X pins σ H s)
  (h:ta σ H fun x H1=>tb σ H1 fun y H2=>R x y H2) {Q:Value→Shared→Prop} {f:Value→Value→Sem Value}
  (hf:∀ v u s2 x y H2,zP X pins σ H2 s2→RelV x v→RelV y u→R x y H2→wpAny (model X.prog X.w) X.A (f v u) Q X.xe s2) :
  wpAny (model X.prog X.w) X.A (eval a X.env) (fun v s₁=>wpAny (model X.prog X.w) X.A (eval b X.env) (fun u s₂=>wpAny (model X.prog X.w) X.A (f v u) Q X.xe s₂) X.xe s₁) X.xe s:=by
 refine yr (ha pins s σ H _ I h) fun v s1 ⟨x,H1,I1,r1,q1⟩=>?_
 refine yr (hb pins s1 σ H1 _ I1 q1) fun u s2 ⟨y,H2,I2,r2,q2⟩=>?_
 exact hf v u s2 x y H2 I2 r1 r2 q2
theorem zJ1{op:Operator}{r:R2}(ho:OpR X (binaryOp op) r)(ha:PE X a ta)(hb:PE X b tb):PE X (.BinOp a op b pos) (tOp r ta tb):=by
 intro pins s σ H Q I h
 exact wpAny_BinOp (zNN ha hb I h fun v u s2 x y H2 I2 rx ry q=>ho pins s2 σ H2 x y v u Q I2 rx ry q)
theorem zOZ{op:UnaryOp}{r:V→Hp→VK→Prop}(ho:UnR X (unaryOp op) r)(ha:PE X a ta):PE X (.UnaryOp op a pos) (tUn r ta):=by
 intro pins s σ H Q I h
 exact UnaryOp_ (yr (ha pins s σ H _ I h) fun v s1 ⟨x,H1,I1,r1,q1⟩=>ho pins s1 σ H1 x v Q I1 r1 q1)
theorem opI{f:Value→Value→Sem Value}{C:Int→Int→Prop}{g:Int→Int→Int}
  (rule:∀(i j:Int) (t u:Tok) (s:Shared) (Q:Value→Shared→Prop) (E:Value→Shared→Prop),C i j→Q (.int (g i j) s.toks) { s with toks:=s.toks+1 }→wpAny (model X.prog X.w) X.A (f (.int i t) (.int j u)) Q E s) :
  OpR X f (rI C fun i j=>.int (g i j)):=by
 intro pins s σ H x y v u Q I rx ry h
 obtain⟨i,j,rfl,rfl,hc,q⟩:=h
 obtain⟨t,rfl⟩:=rx
 obtain⟨t',rfl⟩:=ry
 exact rule i j t t' s _ _ hc ⟨.int (g i j),H,I.tok _,⟨_,rfl⟩,q⟩
theorem zNO{f:Value→Value→Sem Value}{g:Int→Int→Int}
  (rule:∀(i j:Int) (t u:Tok) (s:Shared) (Q:Value→Shared→Prop) (E:Value→Shared→Prop),Q (.int (g i j) s.toks) { s with toks:=s.toks+1 }→wpAny (model X.prog X.w) X.A (f (.int i t) (.int j u)) Q E s) :
  OpR X f (rI0 fun i j=>.int (g i j)):=by
 intro pins s σ H x y v u Q I rx ry h
 obtain⟨i,j,rfl,rfl,q⟩:=h
 obtain⟨t,rfl⟩:=rx
 obtain⟨t',rfl⟩:=ry
 exact rule i j t t' s _ _ ⟨.int (g i j),H,I.tok _,⟨_,rfl⟩,q⟩
theorem zNP{f:Value→Value→Sem Value}{g:Int→Int→Bool}
  (rule:∀(i j:Int) (t u:Tok) (s:Shared) (Q:Value→Shared→Prop) (E:Value→Shared→Prop),Q (.bool (g i j)) s→wpAny (model X.prog X.w) X.A (f (.int i t) (.int j u)) Q E s) :
  OpR X f (rI0 fun i j=>.bl (g i j)):=by
 intro pins s σ H x y v u Q I rx ry h
 obtain⟨i,j,rfl,rfl,q⟩:=h
 obtain⟨t,rfl⟩:=rx
 obtain⟨t',rfl⟩:=ry
 exact rule i j t t' s _ _ ⟨.bl (g i j),H,I,rfl,q⟩
noncomputable def zJ2(i j:Int):Prop:=0<j∧j<1073741824
noncomputable def zDe(i j:Int):Prop:=0≤j∧j≤1000000∧i.natAbs<2 ^ 64
noncomputable def zEw(i j:Int):Prop:=(-(2 ^ 64)<i∧i<2 ^ 64)∨(-(2 ^ 64)<j∧j<2 ^ 64)
theorem zEw.ok{i j:Int}(h:zEw i j):IntMulOk i j:=by
 rcases h with ⟨h1,h2⟩ | ⟨h1,h2⟩
 ·exact .of_left (intBits_le_64 h1 h2)
 ·exact .of_right (intBits_le_64 h1 h2)
theorem zNQ:OpR X (binaryOp .Add) (rI0 fun i j=>.int (i+j)):=zNO fun u0 u0 u0 u0 u0 u0 u0 q=>add_int q
theorem zNR:OpR X (binaryOp .Sub) (rI0 fun i j=>.int (i-j)):=zNO fun u0 u0 u0 u0 u0 u0 u0 q=>sub_int q
theorem zNS:OpR X (binaryOp .Mult) (rI zEw fun i j=>.int (i*j)):=opI fun u0 u0 u0 u0 u0 u0 u0 hc q=>mul_int q hc.ok
theorem zLX:OpR X (binaryOp .FloorDiv) (rI zJ2 fun i j=>.int (i / j)):=opI fun i j u0 u0 u0 u0 u0 hc q=>by
 have h1:(0:Int)<j:=hc.1
 have h2:j<1073741824:=hc.2
 exact floordiv_int (by (first|lia|omega)) (by rw[Int.fdiv_eq_ediv_of_nonneg i (by (first|lia|omega))];exact q) (.inl (PyProof.noPylong_small (by (first|lia|omega))))
theorem zNT:OpR X (binaryOp .Mod) (rI (fun u0 j=>0<j) fun i j=>.int (i%j)):=opI fun i j u0 u0 u0 u0 u0 hc q=>by
 have h1:(0:Int)<j:=hc
 exact mod_int' (by (first|lia|omega)) (by rw[Int.fmod_eq_emod_of_nonneg i (by (first|lia|omega))];exact q)
theorem zNU:OpR X (binaryOp .Pow) (rI zDe fun i j=>.int (i ^ j.toNat)):=opI fun u0 u0 u0 u0 u0 u0 u0 hc q=>pow_int_small hc.1 hc.2.1 hc.2.2 q
theorem zNV:OpR X (binaryOp .LShift) (rI zDe fun i j=>.int (i*2 ^ j.toNat)):=opI fun u0 u0 u0 u0 u0 u0 u0 hc q=>lshift_int_small hc.1 hc.2.1 hc.2.2 q
theorem zNW:OpR X (binaryOp .BitXor) (rI0 fun i j=>.int (Builtin.bitXor i j)):=zNO fun u0 u0 u0 u0 u0 u0 u0 q=>xor_int q
theorem unI{f:Value→Sem Value}{g:Int→Int}
  (rule:∀(i:Int) (t:Tok) (s:Shared) (Q:Value→Shared→Prop) (E:Value→Shared→Prop),Q (.int (g i) s.toks) { s with toks:=s.toks+1 }→wpAny (model X.prog X.w) X.A (f (.int i t)) Q E s) :
  UnR X f (rU fun i=>.int (g i)):=by
 intro pins s σ H x v Q I rx h
 obtain⟨i,rfl,q⟩:=h
 obtain⟨t,rfl⟩:=rx
 exact rule i t s _ _ ⟨.int (g i),H,I.tok _,⟨_,rfl⟩,q⟩
theorem zNX:UnR X (unaryOp .USub) (rU fun i=>.int (-i)):=unI fun u0 u0 u0 u0 u0 q=>neg_int q
end
section
variable {X:Cx} {a b c:Expr} {ta tb tc:TE} {pos:Pos}
theorem zOa:OpR X (compareOp .Lt) (rI0 fun i j=>.bl (decide (i<j))):=zNP fun u0 u0 u0 u0 u0 u0 u0 q=>lt_int q
theorem zOb:OpR X (compareOp .Gt) (rI0 fun i j=>.bl (decide (j<i))):=zNP fun u0 u0 u0 u0 u0 u0 u0 q=>gt_int q
theorem zOc:OpR X (compareOp .GtE) (rI0 fun i j=>.bl (decide (j≤i))):=zNP fun u0 u0 u0 u0 u0 u0 u0 q=>ge_int q
theorem OpR.or{f:Value→Value→Sem Value}{r r':R2}(h:OpR X f r)(h':OpR X f r'):OpR X f (fun x y H Q=>r x y H Q∨r' x y H Q):=by
 intro pins s σ H x y v u Q I rx ry q
 rcases q with q | q
 ·exact h pins s σ H x y v u Q I rx ry q
 ·exact h' pins s σ H x y v u Q I rx ry q
theorem zD1(b:Expr){op:CmpOp}(h:op≠.In:=by decide)(h2:op≠.NotIn:=by decide):behindInMarks op b=false:=by
 have e1:(op==CmpOp.In)=false:=by cases op<;>first | rfl | exact absurd rfl h
 have e2:(op==CmpOp.NotIn)=false:=by cases op<;>first | rfl | exact absurd rfl h2
 cases b<;>simp[behindInMarks,e1,e2]
theorem zLY{op:CmpOp}{r:R2}(ho:OpR X (compareOp op) r)(ha:PE X a ta)(hb:PE X b tb)(hm:behindInMarks op b=false):PE X (.Compare a [op] [b] pos) (tOp r ta tb):=by
 intro pins s σ H Q I h
 exact wpAny_Compare1 (zNN ha hb I h fun v u s2 x y H2 I2 rx ry q=>ho pins s2 σ H2 x y v u Q I2 rx ry q) hm
noncomputable def zOd(t:TE):TT:=fun σ H Q=>t σ H fun x H'=>∃ k,x=.bl k∧Q k H'
theorem zLZ{op:CmpOp}{r:R2}(ho:OpR X (compareOp op) r)(ha:PE X a ta)(hb:PE X b tb)(hm:behindInMarks op b=false):PT X (.Compare a [op] [b] pos) (zOd (tOp r ta tb)):=by
 intro pins s σ H Q I h
 refine wpAny_isTrue_Compare1 (yr (ha pins s σ H _ I h) fun v s1 ⟨x,H1,I1,r1,q1⟩=>yr (hb pins s1 σ H1 _ I1 q1) fun u s2 ⟨y,H2,I2,r2,q2⟩ =>
  yr (ho pins s2 σ H2 x y v u _ I2 r1 r2 q2) fun c s3 ⟨z,H3,I3,r3,k,e,q3⟩=>?_) hm
 subst e
 cases r3
 exact wpAny_truthy_bool ⟨H3,I3,q3⟩
theorem zFj:(sizeLine:Nat)<2 ^ 63:=by rw[sizeLine_eq];decide
theorem vals1{x:V}{us:List Value}(r:zR [x] us):∃ u,us=[u]∧RelV x u:=by
 cases r with
 | cons r1 r2=>cases r2;exact⟨_,rfl,r1⟩
theorem vals2{x y:V}{us:List Value}(r:zR [x,y] us):∃ u w',us=[u,w']∧RelV x u∧RelV y w':=by
 cases r with
 | cons r1 r2 =>
  cases r2 with
  | cons r3 r4=>cases r4;exact⟨_,_,rfl,r1,r3⟩
theorem zI7(hc:X.calm=true):yg X (.builtin "max") (fun xs H Q=>∃ i j,xs=[.int i,.int j]∧Q (.int (if j>i then j else i)) H):=by
 intro pins s σ H xs us Q I r h
 obtain⟨i,j,rfl,q⟩:=h
 obtain⟨u,w',rfl,⟨t,rfl⟩,⟨t',rfl⟩⟩:=vals2 r
 refine max_two_ints (I.ok.hd hc) fun h' tk k=>⟨_,H,I.kept k,?_,q⟩
 by_cases hj:j>i
 ·rw[if_pos hj,if_pos hj];exact⟨_,rfl⟩
 ·rw[if_neg hj,if_neg hj];exact⟨_,rfl⟩
theorem zI8(hc:X.calm=true):yg X (.builtin "min") (fun xs H Q=>∃ i j,xs=[.int i,.int j]∧Q (.int (if j<i then j else i)) H):=by
 intro pins s σ H xs us Q I r h
 obtain⟨i,j,rfl,q⟩:=h
 obtain⟨u,w',rfl,⟨t,rfl⟩,⟨t',rfl⟩⟩:=vals2 r
 refine min_two_ints (I.ok.hd hc) fun h' tk k=>⟨_,H,I.kept k,?_,q⟩
 by_cases hj:j<i
 ·rw[if_pos hj,if_pos hj];exact⟨_,rfl⟩
 ·rw[if_neg hj,if_neg hj];exact⟨_,rfl⟩
end
end L2
namespace L2
open PySem PySem.Spec PyProof.Rows
structure zLa (h:Heap) (x dx C:Addr) (mA:Str→Option Value):Prop where
 obj:h.get? x=some (PySem.W.instObj C dx)
 ns:h.Ns1 dx mA
 ne:dx≠x
theorem zI9{h:Heap}{dx:Addr}{mA:Str→Option Value}(n:h.Ns1 dx mA):∃ od,h.get? dx=some od∧∀ name,PySem.W.lookIn name od=some (mA name):=by
 obtain⟨o,es,ep,ho,hd,hk,u0,hm⟩:=n
 refine⟨o,ho,fun name=>?_⟩
 have e:=hm name
 unfold nsFind findBy at e
 rw[← Array.find?_toList] at e
 unfold PySem.W.lookIn
 rw[hd]
 dsimp only
 split
 ·rename_i y q
  rw[q] at e
  exact congrArg some e
 ·rename_i q
  rw[q] at e
  have a:es.toList.any (·.refKey)=false:=by
   rw[List.any_eq_false]
   intro y hy
   obtain⟨z,t,hkey⟩:=hk y (Array.mem_toList_iff.mp hy)
   simp[DictEntry.refKey,hkey]
  have a':¬ es.toList.any (·.refKey)=true:=by rw[a];exact Bool.false_ne_true
  rw[if_neg a']
  exact congrArg some e
theorem zLa.look{h:Heap}{x dx C:Addr}{mA:Str→Option Value}(I:zLa h x dx C mA):∃ od,PySem.W.InstAt h x (PySem.W.instObj C dx) C (some od)∧∀ name,PySem.W.lookIn name od=some (mA name) :=
 let ⟨od,ho,hl⟩:=zI9 I.ns
 ⟨od,⟨I.obj,rfl,rfl,ho⟩,hl⟩
section
variable {prog:Program} {w:World} {A:Around} {E:Value→Shared→Prop} {s:Shared} {K:PySem.W.Frag} {x dx C f:Addr} {mA:Str→Option Value} {name:Str} {v:Value}
theorem zCV{expr:Bool}{Q:Value→Shared→Prop}(X:K.In s.heap)(I:zLa s.heap x dx C mA)(hg:PySem.W.plainGet K C name=true)(hh:PySem.W.hasDictIn K C=true)
  (ha:PySem.W.findIn K (.ref C) name=some none) (hv:mA name=some v) (hv':PySem.W.handedIn v=true) (h:Q v { s with toks:=s.toks+1 }) :
  wpAny (model prog w) A (getAttr (.ref x) name expr) Q E s:=by
 obtain⟨od,J,hl⟩:=I.look
 exact PySem.W.get_value X J (PySem.W.plainGet_of hg).1 (PySem.W.findObj_own hh ha rfl (by rw[hl,hv])) hv' h
end
section
variable {P:Program} {w:World} {H H':Hp} {h h':Heap} {a C dx:Addr} {fs fs':List (Str×V)}
theorem zLb(hok:HOk P w H h)(e:H a=some (.ins C dx fs)):∃ mA,zLa h a dx C mA∧(∀ f,zM9 (fs.lookup f) (mA f))∧PySem.Within mA (fs.map (·.1))∧fs.length≤1000∧H dx=some (.own a):=by
 obtain⟨d,z,ne,ob,mA,n,r,q⟩:=(show wA P w H h a (.ins C dx fs) from hok a _ e)
 exact⟨mA,⟨ob,n,ne⟩,r,q,z,d⟩
end
structure Cls (K:PySem.W.Frag) (C:Addr):Prop where
 pg:PySem.W.plainGet K C Str.empty=true
 hd:PySem.W.hasDictIn K C=true
 po:PySem.W.plainOver K C=true
 sa:PySem.W.findIn K (.ref C) "__setattr__"=some (some (.builtin "object.__setattr__"))
theorem Cls.get{K:PySem.W.Frag}{C:Addr}(c:Cls K C)(f:Str):PySem.W.plainGet K C f=true:=c.pg
section
variable {X:Cx} {pins:List (Addr×Obj)} {σ:St} {H:Hp} {s:Shared} {a C dx:Addr} {fs:List (Str×V)} {f:Str} {v:V} {A:Around} {E:Value→Shared→Prop}
theorem zP.made(I:zP X pins σ H s):zP X pins σ (yz (yz H s.heap.objs.size (.own (s.heap.objs.size+1))) (s.heap.objs.size+1) (.ins C s.heap.objs.size []))
  { s with heap:=(s.heap.push PySem.W.emptyDict).push (PySem.W.instObj C s.heap.objs.size) }:=by
 have e1:(s.heap.push PySem.W.emptyDict).get? s.heap.objs.size=some PySem.W.emptyDict:=Heap.get?_push_size s.heap rfl
 have e2:((s.heap.push PySem.W.emptyDict).push (PySem.W.instObj C s.heap.objs.size)).get? (s.heap.objs.size+1)=some (PySem.W.instObj C s.heap.objs.size):=by
  have:=Heap.get?_push_size (s.heap.push PySem.W.emptyDict) (o:=PySem.W.instObj C s.heap.objs.size) rfl
  rwa [Heap.size_push] at this
 have e3:(s.heap.push PySem.W.emptyDict).Ns s.heap.objs.size (fun u0=>none):=⟨PySem.W.emptyDict,#[],_,e1,rfl,(fun e he=>absurd he (by simp)),fun u0=>rfl⟩
 have I1:=I.laid (a:=s.heap.objs.size) (o:=.own (s.heap.objs.size+1)) (h':=s.heap.push PySem.W.emptyDict) (t':=s.toks) (fun b u q=>Heap.get?_push_of_some _ q) (Nat.le_refl _) ⟨_,e1⟩
 refine I1.laid (a:=s.heap.objs.size+1) (o:=.ins C s.heap.objs.size []) (t':=s.toks) (fun b u q=>Heap.get?_push_of_some _ q) (Nat.le_of_eq (Heap.size_push _ _)) ?_
 have ne:s.heap.objs.size≠s.heap.objs.size+1:=Nat.ne_of_lt (Nat.lt_succ_self _)
 refine⟨by rw[zv ne,zd],Nat.zero_le _,ne,e2,fun u0=>none,(Heap.Ns1.of_empty e3).at fun o q=>Heap.get?_push_of_some _ q,fun u0=>True.intro,fun y hy=>absurd rfl hy⟩
end
section
variable {X:Cx} {o e value:Expr} {f:Str} {pos pos' tpos:Pos} {ta tv:TE}
end
section
variable {X:Cx} {pins:List (Addr×Obj)} {σ:St} {H:Hp} {s:Shared} {A:Around} {E:Value→Shared→Prop} {Q:Value→Shared→Prop} {c:Value} {b:Bool}
inductive zDf (K:PySem.W.Frag) (H:Hp):V→Value→Prop where
 | non:zDf K H .non (.type "NoneType")
 | bl (x:Bool):zDf K H (.bl x) (.type "bool")
 | int (i:Int):zDf K H (.int i) (.type "int")
 | str (x:Str):zDf K H (.str x) (.type "str")
 | flt (x:UInt64):zDf K H (.flt x) (.type "float")
 | lst {a:Addr} {xs:List V} (e:H a=some (.lst xs)):zDf K H (.ref a) (.type "list")
 | frz {a:Addr} {o:Obj} {xs:List V} (e:H a=some (.frz o (.lst xs))):zDf K H (.ref a) (.type "list")
 | tup {a:Addr} {xs:List V} (e:H a=some (.tup xs)):zDf K H (.ref a) (.type "tuple")
 | dK {a:Addr} {kvs:List (Key×V)} (e:H a=some (.dK kvs)):zDf K H (.ref a) (.type "dict")
 | dT {a:Addr} {kvs:List (List Key×V)} (e:H a=some (.dT kvs)):zDf K H (.ref a) (.type "dict")
 | ins {a C dx:Addr} {fs:List (Str×V)} (e:H a=some (.ins C dx fs)) (cl:Cls K C) (ha:PySem.W.findIn K (.ref C) "__class__"=some (some (.builtin "object.__class__")))
   (hn:PySem.W.specialIn K (.builtin "object.__class__") "__get__"=some (some (.builtin "getset_descriptor.__get__"))) (htk:PySem.W.takesIn K (.builtin "object.__class__")=some true)
   (hm:PySem.W.mroIn K C (.type "object")=some true):zDf K H (.ref a) (.ref C)
theorem zBm{x:V}{u t:Value}(I:zP X pins σ H s)(rx:RelV x u)(ty:zDf X.K H x t)(e:PySem.W.kitOne X.K t c=some b)(h:∀ tk,Q (.bool b) { s with toks:=tk }) :
  wpAny (model X.prog X.w) A (call (.builtin "isinstance") [u,c]) Q E s:=by
 cases ty with
 | non=>cases (show u=Value.none from rx);exact PySem.W.kia_one PySem.W.kitx_none I.kIn True.intro e (fun z=>nomatch z) h
 | bl y=>cases (show u=Value.bool y from rx);exact PySem.W.kia_one PySem.W.kitx_bool I.kIn True.intro e (fun z=>nomatch z) h
 | int i=>obtain⟨t,q⟩:=(show ∃ t,u=Value.int i t from rx);cases q;exact PySem.W.kia_one PySem.W.kitx_int I.kIn True.intro e (fun z=>nomatch z) h
 | str y=>obtain⟨t,q⟩:=(show ∃ t,u=Value.str y t from rx);cases q;exact PySem.W.kia_one PySem.W.kitx_str I.kIn True.intro e (fun z=>nomatch z) h
 | flt y=>obtain⟨t,q⟩:=(show ∃ t,u=Value.float y t from rx);cases q;exact PySem.W.kia_one PySem.W.kitx_float I.kIn True.intro e (fun z=>nomatch z) h
 | @lst a xs ea =>
  cases (show u=Value.ref a from rx)
  obtain⟨u0,u0,n,u0,h1⟩:=(show wA X.prog X.w H s.heap a (.lst xs) from I.hok a _ ea)
  exact PySem.W.kia_one PySem.W.kitx_list I.kIn ⟨_,h1,rfl⟩ e (fun z=>nomatch z) h
 | @frz a ob xs ea =>
  cases (show u=Value.ref a from rx)
  obtain⟨u0,u0,u0,n,u0,h1⟩:=(show wA X.prog X.w H s.heap a (.frz ob (.lst xs)) from I.hok a _ ea)
  exact PySem.W.kia_one PySem.W.kitx_list I.kIn ⟨_,h1,rfl⟩ e (fun z=>nomatch z) h
 | @tup a xs ea =>
  cases (show u=Value.ref a from rx)
  obtain⟨u0,u0,u0,p⟩:=(show wA X.prog X.w H s.heap a (.tup xs) from I.hok a _ ea)
  obtain⟨o,h1,h2,u0⟩:=p
  exact PySem.W.kia_one PySem.W.kitx_tuple I.kIn ⟨o,h1,h2⟩ e (fun z=>nomatch z) h
 | @dK a kvs ea =>
  cases (show u=Value.ref a from rx)
  obtain⟨u0,u0,vs,u0,p⟩:=(show wA X.prog X.w H s.heap a (.dK kvs) from I.hok a _ ea)
  obtain⟨o,es,ep,h1,h2,u0⟩:=p
  exact PySem.W.kia_one PySem.W.kitx_dict I.kIn ⟨o,h1,h2.1⟩ e (fun z=>nomatch z) h
 | @dT a kvs ea =>
  cases (show u=Value.ref a from rx)
  obtain⟨u0,u0,xs,u0,o,es,ep,h1,h2,u0⟩:=(show wA X.prog X.w H s.heap a (.dT kvs) from I.hok a _ ea)
  exact PySem.W.kia_one PySem.W.kitx_dict I.kIn ⟨o,h1,h2.1⟩ e (fun z=>nomatch z) h
 | @ins a C dx fs ea cl ha hn htk hm =>
  cases (show u=Value.ref a from rx)
  obtain⟨mA,O,u0⟩:=zLb I.hok ea
  obtain⟨od,J,u0⟩:=O.look
  exact PySem.W.kia_one (PySem.W.kitx_own (cl.get _) cl.hd ha hn htk hm) I.kIn J e (fun z=>nomatch z) h
end
end L2
namespace L2
open PySem PySem.Spec PyProof.Rows
structure yo (k:Nat) (A:Around):Prop where
 hd:A.handled=none
 dp:A.depth+3*k+5<recursionLimit
 un:A.units+16*k+200<cLine
theorem yo.mono{j k:Nat}{A:Around}(r:yo k A)(h:j≤k):yo j A:=⟨r.hd,by have:=r.dp;(first|lia|omega),by have:=r.un;(first|lia|omega)⟩
theorem yo.deeper{k:Nat}{A:Around}(r:yo (k+1) A)(env:Env):yo k (A.deeper env) :=
 ⟨r.hd,by have:=r.dp;show A.depth+1+3*k+5<_;(first|lia|omega),by have:=r.un;show A.units+3+16*k+200<_;(first|lia|omega)⟩
theorem yo.in1{k:Nat}{A:Around}(r:yo (k+1) A):yo k A.in1 :=
 ⟨r.hd,by have:=r.dp;show A.depth+3*k+5<_;(first|lia|omega),by have:=r.un;show A.units+1+16*k+200<_;(first|lia|omega)⟩
theorem yo.depth{k:Nat}{A:Around}(r:yo k A):A.depth<recursionLimit:=by have:=r.dp;(first|lia|omega)
theorem yo.units{k:Nat}{A:Around}(r:yo k A):A.units+64<cLine:=by have:=r.un;(first|lia|omega)
noncomputable def zOe:TA:=fun u0 H Q=>Q [] H
noncomputable def zMk(ta:TE)(tr:TA):TA:=fun σ H Q=>ta σ H fun x H1=>tr σ H1 fun xs H2=>Q (x::xs) H2
section
variable {X:Cx} {e:Expr} {es:List Expr} {te:TE} {t:TA} {pos:Pos}
theorem zAy:PA X [] zOe:=fun u0 u0 u0 u0 H Q I h=>Calls.spliced_nil ⟨[],H,I,.nil,h⟩
theorem wk(ha:PE X e te)(hr:PA X es t)(hs:starEach (e::es) X.env=(false,eval e X.env)::starEach es X.env:=by rfl):PA X (e::es) (zMk te t):=by
 intro pos pins s σ H Q I h
 rw[hs]
 show wpAny _ _ (spliced ((false,eval e X.env)::backTo pos (starEach es X.env))) _ _ s
 refine Calls.spliced_cons (yr (ha pins s σ H _ I h) fun u s1 ⟨x,H1,I1,r1,q1⟩=>?_)
 exact yr (hr pos pins s1 σ H1 _ I1 q1) fun us s2 ⟨xs,H2,I2,r2,q2⟩=>⟨x::xs,H2,I2,.cons r1 r2,q2⟩
noncomputable def zPN(t:TA):TE:=fun σ H Q=>t σ H fun xs H1=>xs.length≤sizeLine∧∀ p,H1 p=none→Q (.ref p) (yz H1 p (.tup xs))
noncomputable def zPO(t:TA):TE:=fun σ H Q=>t σ H fun xs H1=>xs.length≤sizeLine∧∀ p,H1 p=none→Q (.ref p) (yz H1 p (.lst xs))
theorem zNY{x1}(h:PA X es t):PE X (.Tuple es x1 pos) (zPN t):=by
 intro pins s σ H Q I hq
 refine wpAny_Tuple_spliced (yr (h pos pins s σ H _ I hq) fun us s1 ⟨xs,H1,I1,r,z,q⟩=>⟨by rw[← r.length];exact z,?_⟩)
 have hf:H1 s1.heap.objs.size=none:=I1.hok.fresh (Nat.le_refl _)
 refine⟨.ref s1.heap.objs.size,yz H1 s1.heap.objs.size (.tup xs),I1.laid (t':=s1.toks) (fun b u e=>Heap.get?_push_of_some _ e) (Nat.le_refl _) ?_,rfl,q _ hf⟩
 exact⟨z,us,r,⟨_,Heap.get?_push_size _ rfl,rfl,⟨_,rfl⟩,rfl⟩⟩
theorem zNZ(h:PA X es t):PE X (.List es pos) (zPO t):=by
 intro pins s σ H Q I hq
 refine wpAny_List_spliced (yr (h pos pins s σ H _ I hq) fun us s1 ⟨xs,H1,I1,r,z,q⟩=>⟨by rw[← r.length];exact z,?_⟩)
 have hf:H1 s1.heap.objs.size=none:=I1.hok.fresh (Nat.le_refl _)
 refine⟨.ref s1.heap.objs.size,yz H1 s1.heap.objs.size (.lst xs),I1.laid (t':=s1.toks) (fun b u e=>Heap.get?_push_of_some _ e) (Nat.le_refl _) ?_,rfl,q _ hf⟩
 exact⟨z,us,0,r,Heap.get?_push_size _ rfl⟩
end
noncomputable abbrev Sp:=List V→Hp→VK→XK→Prop
noncomputable abbrev CXT:=List Env→Hp→Shared→XK→Value→Shared→Prop
structure zHJ (P:Program) (w:World) (K:PySem.W.Frag) (mg:Str→Option Value) (base:Heap) (A:Around) (outer:List Env) (s:Shared) (H:Hp):Prop where
 frames:A.frames=some outer
 mod:Mod K mg base
 bs:∀ b o,base.get? b=some o→s.heap.get? b=some o∧H b=none
 bsz:base.objs.size≤s.heap.objs.size
 funs:s.heap.FunFrames base outer
 frf:∀ b∈frs outer,H b=none
 hok:HOk P w H s.heap
 bare:AllBare s.gens
 tb:TabsOk K H
noncomputable def CE(outer:List Env)(P:Program)(w:World)(H:Hp)(s:Shared)(Q:VK)(u:Value)(s':Shared):Prop :=
 ∃ v H',s'.os=s.os∧AllBare s'.gens∧Un (frs outer) [] H H' s.heap s'.heap∧HOk P w H' s'.heap∧RelV v u∧Q v H'
noncomputable def CR(CX:CXT)(outer:List Env)(P:Program)(w:World)(H:Hp)(s:Shared)(Q:VK)(E:XK)(r:Result)(s':Shared):Prop :=
 match r with
 | .ok (.ret u)=>CE outer P w H s Q u s'
 | .ok _=>False
 | .error e=>CX outer H s E e s'
structure zBP (P:Program) (w:World) (K:PySem.W.Frag) (mg:Str→Option Value) (base:Heap) (CX:CXT) (k:Nat) (f:Addr) (fd:FuncData) (ps:List Str) (sp:Sp):Prop where
 len:∀ vs H Q E,sp vs H Q E→vs.length=ps.length
 run:∀(A:Around) (outer:List Env) (s:Shared) (H:Hp) (args:Args) (us:List Value) (vs:List V) (Q:VK) (E:XK),yo k A→zHJ P w K mg base A outer s H→BindsTo s fd args (ps.zip us)→zR vs us→sp vs H Q E →
  codeAny (model P w) A (.call (.ref f) args) (CR CX outer P w H s Q E) s
theorem zBP.mono{P:Program}{w:World}{K:PySem.W.Frag}{mg:Str→Option Value}{base:Heap}{CX:CXT}{j k:Nat}{f:Addr}{fd:FuncData}{ps:List Str}{sp:Sp}(F:zBP P w K mg base CX j f fd ps sp)(h:j≤k) :
  zBP P w K mg base CX k f fd ps sp:=⟨F.len,fun A outer s H args us vs Q E hr=>F.run A outer s H args us vs Q E (hr.mono h)⟩
theorem zBP.imp{P:Program}{w:World}{K:PySem.W.Frag}{mg:Str→Option Value}{base:Heap}{CX:CXT}{k:Nat}{f:Addr}{fd:FuncData}{ps:List Str}{sp sp':Sp}(F:zBP P w K mg base CX k f fd ps sp)
  (h:∀ vs H Q E,sp' vs H Q E→sp vs H Q E):zBP P w K mg base CX k f fd ps sp' :=
 ⟨fun vs H Q E q=>F.len vs H Q E (h _ _ _ _ q),fun A outer s H args us vs Q E hr he hb hv hs=>F.run A outer s H args us vs Q E hr he hb hv (h _ _ _ _ hs)⟩
theorem zHJ.in1{P:Program}{w:World}{K:PySem.W.Frag}{mg:Str→Option Value}{base:Heap}{A:Around}{outer:List Env}{s:Shared}{H:Hp}(e:zHJ P w K mg base A outer s H) :
  zHJ P w K mg base A.in1 outer s H:=⟨e.frames,e.mod,e.bs,e.bsz,e.funs,e.frf,e.hok,e.bare,e.tb⟩
section
variable {X:Cx} {pins:List (Addr×Obj)} {σ:St} {H:Hp} {s s':Shared}
theorem zP.env0(I:zP X pins σ H s):zHJ X.prog X.w X.K X.mg X.base X.A X.stack s H :=
 ⟨I.ok.frames,I.ok.mod,I.bs,Nat.le_trans I.ok.bsz I.sz,I.stack,I.stkFree,I.hok,I.bare,I.tabs⟩
theorem zP.after{Q:VK}{u:Value}(I:zP X pins σ H s)(h:CE X.stack X.prog X.w H s Q u s'):EP X pins σ Q u s':=by
 obtain⟨v,H',os,bare,un,hok,r,q⟩:=h
 obtain⟨hh,g,d,t,os'⟩:=s'
 obtain rfl:os'=s.os:=os
 exact⟨v,H',I.call (h':=hh) (g':=g) (d':=d) (t':=t) (ch:=[]) un hok bare (fun b z=>absurd z (by simp)),r,q⟩
end
noncomputable def zOf(sp:Sp)(dvs:List V)(E:XK)(t:TA):TE:=fun σ H Q=>t σ H fun vs H1=>sp (vs++dvs) H1 Q E
noncomputable def Binds(K:PySem.W.Frag)(fd:FuncData)(ps:List Str)(ds:List Value):Prop :=
 ∀(s:Shared) (us:List Value),K.In s.heap→(us++ds).length=ps.length→BindsTo s fd ⟨us,[]⟩ (ps.zip (us++ds))
theorem Binds.all{K:PySem.W.Frag}{fd:FuncData}{ps:List Str}(h:∀ us:List Value,us.length=ps.length→bindArgs fd ⟨us,[]⟩=pure (ps.zip us)):Binds K fd ps []:=fun s us u0 hl=>by
 rw[List.append_nil] at hl ⊢
 exact .of_eq (h us hl)
noncomputable def zHK(CX:CXT)(X:Cx)(E:XK):Prop:=∀(pins:List (Addr×Obj)) (σ:St) (H:Hp) (s:Shared) (e:Value) (s':Shared),zP X pins σ H s→CX X.stack H s E e s'→X.xe e s'
section
variable {X:Cx} {CX:CXT} {k:Nat} {f C:Addr} {fd:FuncData} {ps:List Str} {sp:Sp} {dvs:List V} {ds:List Value} {E:XK} {x m:Str} {p pos apos:Pos} {e o:Expr} {es:List Expr} {ta:TE} {t:TA}
theorem zNa{pins:List (Addr×Obj)}{σ:St}{H:Hp}{s:Shared}{Q:VK}{us:List Value}{vs:List V}(F:zBP X.prog X.w X.K X.mg X.base CX k f fd ps sp)(hr:yo k X.A)(hb:Binds X.K fd ps ds)(hd:zR dvs ds)(hx:zHK CX X E)
  (I:zP X pins σ H s) (r:zR vs us) (h:sp (vs++dvs) H Q E):wpAny (model X.prog X.w) X.A (call (.ref f) us) (EP X pins σ Q) X.xe s:=by
 have r2:zR (vs++dvs) (us++ds):=r.append hd
 have hl:(us++ds).length=ps.length:=by rw[← r2.length];exact F.len _ _ _ _ h
 refine wpAny_call (codeAny_mono (F.run X.A X.stack s H ⟨us,[]⟩ (us++ds) (vs++dvs) Q E hr I.env0 (hb s us I.kIn hl) r2 h) fun r s' hq=>?_)
 cases r with
 | error e=>exact hx pins σ H s e s' I hq
 | ok fl =>
  cases fl with
  | ret u=>exact I.after hq
  | next=>exact False.elim hq
  | brk=>exact False.elim hq
  | cont=>exact False.elim hq
theorem zIH(F:zBP X.prog X.w X.K X.mg X.base CX k f fd ps sp)(hr:yo k X.A)(hg:Gl X x)(hm:X.mg x=some (.ref f))(hk:PySem.W.keepIn X.K (.ref f)=true)(hb:Binds X.K fd ps ds)(hd:zR dvs ds)(hx:zHK CX X E)
  (ha:PA X (e::es) t) (hdb:(x==("__debug__":Str))=false:=by decide) (he:starEach (e::es) X.env=(false,eval e X.env)::starEach es X.env:=by rfl) (hpl:(backTo pos (starEach es X.env)).any (·.1)=false:=by rfl) :
  PE X (.Call (.Name x p) (e::es) [] pos) (zOf sp dvs E t):=by
 intro pins s σ H Q I h
 refine wpAny_Call_Name_kw (zIF I hg hm ?_ hdb)
 refine PySem.W.callWith_K (h₀:=X.base) I.ok.mod.kin hk (yr (ha pos pins s σ H _ I h) fun us s1 ⟨vs,H1,I1,r,q⟩=>⟨I1.kIn,?_⟩) he hpl
 exact zNa F hr hb hd hx I1 r q
end
section
variable {X:Cx} {CX:CXT} {k:Nat} {f C:Addr} {fd:FuncData} {ps ks:List Str} {sp:Sp} {E:XK} {x m:Str} {p pos apos kpos:Pos} {e o:Expr} {es:List Expr} {kws:List Keyword} {te ta:TE} {t tk:TA} {nm:Option Str}
variable {g:List Value→List Value→List Value} {gV:List V→List V→List V}
end
structure zc (N P:List Str) (sc:Scope):Prop where
 kind:sc.kind=.function
 co:sc.isCoroutine=false
 gen:sc.isGenerator=false
 nd:N.Nodup
 pre:N.take P.length=P
 par:∀ x∈P,sc.names.lookup x=some .local∨sc.names.lookup x=some .cell
 nofree:∀ y∈sc.names,y.2≠.free
theorem zFA{kindOf:Str→Option NameKind}{x:Str}:∀ {binds:List (Str×Value)} {m:Str→Option Value},(∀ v,(x,v)∉binds)→bindL kindOf binds m x=m x
 | [],_,_=>rfl
 | (n,v)::r,m,h=>by
  unfold bindL
  rw[zFA fun w hw=>h w (List.mem_cons_of_mem _ hw)]
  split
  ·have:x≠n:=by rintro rfl;exact h v List.mem_cons_self
   simp[this]
  ·rfl
theorem zFB{kindOf:Str→Option NameKind}{x:Str}:∀ {binds:List (Str×Value)} {m:Str→Option Value},(∀ v,(x,v)∉binds)→bindC kindOf binds m x=m x
 | [],_,_=>rfl
 | (n,v)::r,m,h=>by
  unfold bindC
  rw[zFB fun w hw=>h w (List.mem_cons_of_mem _ hw)]
  split
  ·rfl
  ·have:x≠n:=by rintro rfl;exact h v List.mem_cons_self
   simp[this]
theorem zFC{kindOf:Str→Option NameKind}{x:Str}{v:Value}:∀ {P:List Str} {vs:List Value} {i:Nat} {m:Str→Option Value},P.Nodup→P[i]?=some x→vs[i]?=some v→kindOf x=some .local →
  bindL kindOf (P.zip vs) m x=some v
 | [],_,_,_,_,h,_,_=>by simp at h
 | _::_,[],_,_,_,_,h,_=>by simp at h
 | p::P,w::vs,0,m,nd,h1,h2,hk=>by
  simp at h1 h2;subst h1;subst h2
  show bindL kindOf ((p,w)::P.zip vs) m p=_
  unfold bindL
  rw[zFA fun v hv=>(List.nodup_cons.mp nd).1 (List.of_mem_zip hv).1,if_pos hk]
  simp
 | p::P,w::vs,i+1,m,nd,h1,h2,hk=>by
  show bindL kindOf ((p,w)::P.zip vs) m x=_
  unfold bindL
  exact zFC (i:=i) (List.nodup_cons.mp nd).2 (by simpa using h1) (by simpa using h2) hk
theorem zFD{kindOf:Str→Option NameKind}{x:Str}{v:Value}:∀ {P:List Str} {vs:List Value} {i:Nat} {m:Str→Option Value},P.Nodup→P[i]?=some x→vs[i]?=some v→kindOf x≠some .local →
  bindC kindOf (P.zip vs) m x=some v
 | [],_,_,_,_,h,_,_=>by simp at h
 | _::_,[],_,_,_,_,h,_=>by simp at h
 | p::P,w::vs,0,m,nd,h1,h2,hk=>by
  simp at h1 h2;subst h1;subst h2
  show bindC kindOf ((p,w)::P.zip vs) m p=_
  unfold bindC
  rw[zFB fun v hv=>(List.nodup_cons.mp nd).1 (List.of_mem_zip hv).1,if_neg hk]
  simp
 | p::P,w::vs,i+1,m,nd,h1,h2,hk=>by
  show bindC kindOf ((p,w)::P.zip vs) m x=_
  unfold bindC
  exact zFD (i:=i) (List.nodup_cons.mp nd).2 (by simpa using h1) (by simpa using h2) hk
noncomputable def start(N:List Str)(vs:List V):St:=vs.map some++List.replicate (N.length-vs.length) none
noncomputable def zFk(CX:CXT)(P:Program)(w:World)(K:PySem.W.Frag)(mg:Str→Option Value)(base:Heap)(N:List Str)(qual:Str)(scope:Scope)(f:Addr)(cd:Value)(A:Around)(outer:List Env)(s:Shared)(H:Hp)(E:XK):Cx where
 prog:=P
 w:=w
 K:=K
 mg:=mg
 base:=base
 A:=A.deeper (envOfC qual scope s.heap.objs.size f cd)
 N:=N
 s₀:=s
 H₀:=H
 env:=envOfC qual scope s.heap.objs.size f cd
 outer:=outer
 stack:=envOfC qual scope s.heap.objs.size f cd::outer
 ex:=[]
 calm:=true
 fn:=fun u0=>true
 pn:=[]
 xe:=fun e s'=>wpAny (model P w) (A.deeper (envOfC qual scope s.heap.objs.size f cd)) (leaving (envOfC qual scope s.heap.objs.size f cd) e) (fun u0 s''=>CX outer H s E e s'') (fun e' s''=>CX outer H s E e' s'') s'
theorem zGL{sc:Scope}{n:Nat}{x:Str}(h:sc.names.lookup x=some .cell):∃ c,(cellsFrom n sc.names []).lookup x=some c:=by
 have q:=PySem.W.cellsFrom_some sc.names n [] (.inl h)
 exact Option.isSome_iff_exists.mp q
theorem zJA{CX:CXT}{P:Program}{w:World}{K:PySem.W.Frag}{mg:Str→Option Value}{base:Heap}{N ps:List Str}{qual:Str}{scope:Scope}{f:Addr}{cd:Value}{A:Around}{outer:List Env}{s s1:Shared}{H:Hp}{E:XK}{us:List Value}{vs:List V}
  (S:zc N ps scope) (hd:A.handled=none) (e0:zHJ P w K mg base A outer s H) (hl:vs.length=ps.length) (r:zR vs us)
  (x:InCallC s s.heap.objs.size (bindL (envOfC qual scope s.heap.objs.size f cd).kindOf (ps.zip us) fun u0=>none) (cellsFrom (s.heap.objs.size+1) scope.names []) (bindC (envOfC qual scope s.heap.objs.size f cd).kindOf (ps.zip us) fun u0=>none) s1) :
  zP (zFk CX P w K mg base N qual scope f cd A outer s H E) [] (start N vs) H s1:=by
 have hpl:ps.length≤N.length:=by have:=congrArg List.length S.pre;rw[List.length_take] at this;(first|lia|omega)
 obtain⟨h1,tk,rfl,hk⟩:=x.done
 have noA:∀ b:Addr,b∉(zFk CX P w K mg base N qual scope f cd A outer s H E).ex:=fun b z=>absurd (show b∈([]:List Addr) from z) (by simp)
 refine⟨⟨e0.mod,S.kind,rfl,rfl,Nat.le_refl _,fun y z c h1 h2=>?_,fun y hy=>?_,fun y c u0 h=>?_,fun u0=>hd,Around.frames_deeper e0.frames,.inr ⟨rfl,rfl⟩,fun b z=>absurd z (noA b),e0.bs,e0.bsz,fun b u0 u0=>noA b,fun b z=>absurd z (noA b),e0.funs,e0.frf,e0.tb⟩,
  rfl,e0.bare,Un.kept hk,⟨_,x.toInCall.ns,fun i y v h1 h2 h3=>?_⟩,fun y c h=>⟨_,x.cell y c h⟩,e0.hok.fresh (Nat.le_refl _),fun y c h=>?_,fun p hp=>absurd (show p∈([]:List (Addr×Obj)) from hp) (by simp),e0.hok.kept hk,?_⟩
 ·exact name_of_addr x.apart (PySem.mem_of_lookup h1) (PySem.mem_of_lookup h2)
 ·have hy:scope.names.lookup y=some .cell∨scope.names.lookup y=some .free:=hy
  rcases hy with hy | hy
  ·exact zGL hy
  ·exact absurd rfl (S.nofree _ (PySem.mem_of_lookup hy))
 ·exact Nat.le_of_lt (x.above y c (PySem.mem_of_lookup h))
 ·have hi:i<vs.length:=by
   unfold start at h2
   by_cases hi:i<vs.length
   ·exact hi
   ·rw[List.getElem?_append_right (by simpa using hi)] at h2
    rw[List.getElem?_replicate] at h2
    split at h2<;>cases h2
  have ha:vs[i]?=some v:=by
   unfold start at h2
   rw[List.getElem?_append_left (by simpa using hi),List.getElem?_map] at h2
   cases e:vs[i]? with
   | none=>rw[e] at h2;cases h2
   | some a=>rw[e] at h2;cases h2;rfl
  obtain⟨u,hu,rv⟩:=r.get ha
  have hp:ps[i]?=some y:=by
   rw[← S.pre,List.getElem?_take_of_lt (by (first|lia|omega))];exact h1
  have ndP:ps.Nodup:=by rw[← S.pre];exact S.nd.sublist (List.take_sublist _ _)
  refine⟨u,rv,?_⟩
  rcases S.par y (List.mem_of_getElem? hp) with k | k
  ·exact .inl ⟨k,zFC ndP hp hu k⟩
  ·obtain⟨c,e⟩:=zGL (n:=s.heap.objs.size+1) k
   refine .inr ⟨.inl k,c,e,?_⟩
   have q:=x.cell y c e
   rw[zFD ndP hp hu (by show scope.names.lookup y≠_;rw[k];decide)] at q
   exact q
 ·exact e0.hok.fresh (Nat.le_of_lt (x.above y c (PySem.mem_of_lookup h)))
 ·unfold start
  show _=N.length
  rw[List.length_append,List.length_map,List.length_replicate]
  (first|lia|omega)
theorem zOg{CX:CXT}{P:Program}{w:World}{K:PySem.W.Frag}{mg:Str→Option Value}{base:Heap}{k:Nat}{f:Addr}{name qual:Str}{params:Arguments}{body:List Stmt}{scope:Scope}{dV kV doc pm cdv ct oc:Value}{an od:Option Addr}
  {osl:Array (Option Value)} {N ps:List Str} {sp:Sp} (lk:K.lookup f=some ⟨oc,od,.func (PySem.W.fnOf name qual params body scope dV kV doc pm an cdv ct),osl⟩) (hcd:PySem.W.codeIn K cdv qual=true) (S:zc N ps scope)
  (len:∀ vs H Q E,sp vs H Q E→vs.length=ps.length)
  (hbody:∀(A:Around) (outer:List Env) (s:Shared) (H:Hp) (vs:List V) (Q:VK) (E:XK),yo k (A.deeper (envOfC qual scope s.heap.objs.size f cdv))→sp vs H Q E →
   ∃ t,PSs (zFk CX P w K mg base N qual scope f cdv A outer s H E) body t∧t { nx:=fun u0 H'=>Q .non H',rt:=Q } (start N vs) H) :
  zBP P w K mg base CX (k+1) f (PySem.W.fnOf name qual params body scope dV kV doc pm an cdv ct) ps sp:=by
 refine⟨len,fun A outer s H args us vs Q E hr e0 hb r hsp=>?_⟩
 have hl:=len _ _ _ _ hsp
 have KX:K.In s.heap:=e0.mod.kin.keeps fun b o e=>(e0.bs b o e).1
 have lim:s.heap.NoLimit:=e0.mod.nolimit.keeps fun b o e=>(e0.bs b o e).1
 have hkind:∀ y∈ps.zip us,scope.names.lookup y.1=some .local∨(scope.names.lookup y.1=some .cell∧((cellsFrom (s.heap.objs.size+1) scope.names []).lookup y.1).isSome=true):=fun⟨n,v⟩ hy=>by
  rcases S.par n (List.of_mem_zip hy).1 with q | q
  ·exact .inl q
  ·exact .inr ⟨q,PySem.W.cellsFrom_some _ _ _ (.inl q)⟩
 refine codeAny_call_function hr.depth (KX _ _ lk) rfl S.co S.gen rfl (PySem.W.codeRec_of KX hcd) (hb _ _ _ _ ?_)
 refine wpAny_newFunctionEnv_cells S.kind hkind fun env he s1 x=>?_
 subst he
 refine⟨lim.keeps x.toInCall.keep,codeAny_func ?_⟩
 obtain⟨t,ht,hq⟩:=hbody A outer s H vs Q E (hr.deeper _) hsp
 have I:zP (zFk CX P w K mg base N qual scope f cdv A outer s H E) [] (start N vs) H s1:=zJA S hr.hd e0 hl r x
 refine wpAny_mono (ht [] s1 (start N vs) H _ I hq) (fun fl s' hs=>?_) fun e s' hs=>hs
 have fin:∀ {σ':St} {H':Hp} {v:V} {u:Value},zP (zFk CX P w K mg base N qual scope f cdv A outer s H E) [] σ' H' s'→RelV v u→Q v H'→CE outer P w H s Q u s' :=
  fun {σ' H' v u} J rv q=>⟨v,H',J.os,J.bare,J.base,J.hok,rv,q⟩
 cases fl with
 | ret u =>
  obtain⟨v,σ',H',J,rv,q⟩:=hs
  exact fin J rv q
 | next =>
  obtain⟨σ',H',J,q⟩:=hs
  exact fin (v:=V.non) (u:=Value.none) J rfl q
 | brk =>
  obtain⟨u0,u0,u0,q⟩:=hs
  exact False.elim q
 | cont =>
  obtain⟨u0,u0,u0,q⟩:=hs
  exact False.elim q
end L2
namespace L2
open PySem PySem.Spec PyProof.Rows
section
variable {X:Cx} {x:Str} {p pos:Pos} {e:Expr} {es:List Expr} {t:TA} {id T:String} {r:List V→Hp→VK→Prop}
noncomputable def tCB(r:List V→Hp→VK→Prop)(t:TA):TE:=fun σ H Q=>t σ H fun vs H1=>r vs H1 Q
theorem zBQ(hc:yg X (.builtin id) r)(hg:Gl X x)(hm:X.mg x=none)(hv:bootBuiltins x=some (.builtin id))(ha:PA X (e::es) t)(hn:x≠"__name__":=by decide)(hdb:(x==("__debug__":Str))=false:=by decide)
  (he:starEach (e::es) X.env=(false,eval e X.env)::starEach es X.env:=by rfl) (hpl:(backTo pos (starEach es X.env)).any (·.1)=false:=by rfl):PE X (.Call (.Name x p) (e::es) [] pos) (tCB r t):=by
 intro pins s σ H Q I h
 refine wpAny_Call_Name_kw (zAj I hg hm hv ?_ hn hdb)
 exact PyProof.Rows.callWith_builtin1 (yr (ha pos pins s σ H _ I h) fun us s1 ⟨vs,H1,I1,r1,q1⟩=>hc pins s1 σ H1 vs us Q I1 r1 q1) he hpl
theorem zBn(hc:yg X (.type T) r)(hg:Gl X x)(hm:X.mg x=none)(hv:bootBuiltins x=some (.type T))(ha:PA X (e::es) t)(hn:x≠"__name__":=by decide)(hdb:(x==("__debug__":Str))=false:=by decide)
  (he:starEach (e::es) X.env=(false,eval e X.env)::starEach es X.env:=by rfl) (hpl:(backTo pos (starEach es X.env)).any (·.1)=false:=by rfl):PE X (.Call (.Name x p) (e::es) [] pos) (tCB r t):=by
 intro pins s σ H Q I h
 refine wpAny_Call_Name_kw (zAj I hg hm hv ?_ hn hdb)
 exact PyProof.Rows.callWith_type1 (yr (ha pos pins s σ H _ I h) fun us s1 ⟨vs,H1,I1,r1,q1⟩=>hc pins s1 σ H1 vs us Q I1 r1 q1) he hpl
end
end L2
namespace HT
open PySem PyProof.Rows
noncomputable def lexLt:List Int→List Int→Bool
 | [],[]=>false
 | [],_::_=>true
 | _::_,[]=>false
 | x::xs,y::ys=>if x=y then lexLt xs ys else decide (x<y)
theorem zAz(x y:Int)(xs ys:List Int):lexLt (x::xs) (y::ys)=if x=y then lexLt xs ys else decide (x<y):=rfl
theorem zEx:lexLt [] []=false:=rfl
theorem zAL(y:Int)(ys:List Int):lexLt [] (y::ys)=true:=rfl
theorem zD2(x:Int)(xs:List Int):lexLt (x::xs) []=false:=rfl
theorem zJ3(A:Around)(s:Shared)(a:Int)(t:Tok)(c:Int)(u:Tok):∃ e,SeqAt.EqAt A s (.int a t) (.int c u) e∧(e=true↔a=c) :=
 ⟨(a==c),SeqAt.EqAt.int_int a t c u,by simp⟩
theorem zJ4(A:Around)(s:Shared)(a:Int)(t:Tok)(c:Int)(u:Tok)(prog:Program)(w:World)(E:Value→Shared→Prop)(Q:Value→Shared→Prop)(h:Q (.bool (decide (a<c))) s) :
  wpAny (model prog w) A (richCompare .Lt (.int a t) (.int c u)) Q E s :=
 (PyProof.Rows.lt_int h:wpAny (model prog w) A (compareOp .Lt (.int a t) (.int c u)) Q E s)
section
open PySem.SeqAt
open PySem.MeetsSeq PySem.MeetsSeq2 PySem.MeetsSeq3
theorem zEy(l b:Addr)(items items2:Array Value)(n n2:Nat)(dd dd2:Option Addr)(sl sl2:Array (Option Value))(ns ms:List Int)(hi:IntsAre items.toList ns)(hj:IntsAre items2.toList ms) :
  Meets (Builtin.«tuple.__lt__» ⟨[.ref l,.ref b],[]⟩)
   (fun u0 R s=>s.heap.get? l=some { cls:=.type "tuple",dict:=dd,data:=.seq items n,slots:=sl }∧s.heap.get? b=some { cls:=.type "tuple",dict:=dd2,data:=.seq items2 n2,slots:=sl2 } ∧
    R (.ok (.ret (.bool (lexLt ns ms)))) s) :=
 .of_wp fun prog w A R s h=>by
  obtain⟨hp,g,d,tk,os⟩:=s;obtain⟨hl,hb,h⟩:=h
  have f2:=AutoSeq1.sub_tuple_tuple
  have z1:items.size=ns.length:=by rw[← hi.length];simp
  have z2:items2.size=ms.length:=by rw[← hj.length];simp
  wp_walk using wpAny_loadPart' hl,wpAny_loadPart' hb,wpAny_forIn_list _ (fun rest b s'=>b.1=none∧s'=⟨hp,g,d,tk,os⟩∧∃(vs ws:List Value) (ns' ms':List Int),rest=vs.zip ws ∧
   IntsAre vs ns'∧IntsAre ws ms'∧ns'.length+items2.size=ms'.length+items.size∧R (.ok (.ret (.bool (lexLt ns' ms')))) ⟨hp,g,d,tk,os⟩) _
  case turn =>
   rintro⟨y,x⟩ rest b s' ⟨hb',rfl,vs,ws,ns',ms',hz,hvi,hwi,hlen,hR⟩
   cases hvi with
   | nil=>rw[List.zip_nil_left] at hz;cases hz
   | cons a t hvi' =>
    cases hwi with
    | nil=>rw[List.zip_nil_right] at hz;cases hz
    | cons c u hwi' =>
     rw[List.zip_cons_cons] at hz
     injection hz with hyx hrest
     injection hyx with hy hx
     subst hy hx
     rw[zAz] at hR
     simp only[List.length_cons] at hlen
     obtain⟨e,he,hiff⟩:=zJ3 A.in1 ⟨hp,g,d,tk,os⟩ a t c u
     refine wpAny_bind (he prog w _ _ ?_)
     cases e with
     | true =>
      rw[if_pos (hiff.mp rfl)] at hR
      wp_walk
      exact⟨rfl,rfl,_,_,_,_,hrest,hvi',hwi',by (first|lia|omega),hR⟩
     | false =>
      rw[if_neg (fun q=>absurd (hiff.mpr q) Bool.false_ne_true)] at hR
      have hri:=zJ4 A.in1 ⟨hp,g,d,tk,os⟩ a t c u prog w
      wp_walk using hri
      exact⟨_,rfl,by simpa using hR⟩
  case fin =>
   rintro⟨b1,b2⟩ s' ⟨hb',rfl,vs,ws,ns',ms',hz,hvi,hwi,hlen,hR⟩
   simp only at hb'
   subst hb'
   have hv:lexLt ns' ms'=decide (items.size<items2.size):=by
    cases hvi with
    | nil =>
     cases hwi with
     | nil =>
      simp only[List.length_nil] at hlen
      rw[zEx]
      exact(decide_eq_false (by (first|lia|omega))).symm
     | cons c u hw =>
      simp only[List.length_nil,List.length_cons] at hlen
      rw[zAL]
      exact(decide_eq_true (by (first|lia|omega))).symm
    | cons a t hv =>
     cases hwi with
     | nil =>
      simp only[List.length_nil,List.length_cons] at hlen
      rw[zD2]
      exact(decide_eq_false (by (first|lia|omega))).symm
     | cons c u hw =>
      rw[List.zip_cons_cons] at hz
      cases hz
   rw[hv] at hR
   wp_walk
   exact⟨_,rfl,by simpa[Builtin.Tuple.tupleCompareSizes] using hR⟩
  case h =>
   exact⟨rfl,rfl,items.toList,items2.toList,ns,ms,rfl,hi,hj,by (first|lia|omega),h⟩
end
section
variable {prog:Program} {w:World} {A:Around} {E:Value→Shared→Prop} {s:Shared}
theorem zHL{l b:Addr}{items items2:Array Value}{ns ms:List Int}{Q:Value→Shared→Prop}(hl:IsTup s.heap l items)(hb:IsTup s.heap b items2)(hi:IntsAre items.toList ns)(hj:IntsAre items2.toList ms)
  (hu:A.units<cLine) (h:Q (.bool (lexLt ns ms)) s):wpAny (model prog w) A (compareOp .Lt (.ref l) (.ref b)) Q E s:=by
 obtain⟨⟨cls,dd,data,sl⟩,ho,hc,n,hd⟩:=id hl
 obtain⟨⟨cls2,dd2,data2,sl2⟩,ho2,hc2,n2,hd2⟩:=id hb
 simp only at hc hd hc2 hd2
 subst hc hd hc2 hd2
 exact richCompare_meets_room (op:=.Lt) ⟨_,ho,rfl⟩ ⟨_,ho2,rfl⟩ PySem.F.slot_tuple_lt PySem.F.entry_tuple_lt (PySem.F.args_tuple_lt_2 _ _) (zEy l b items items2 n n2 dd dd2 sl sl2 ns ms hi hj)
  ⟨ho,ho2,show Value.bool (lexLt ns ms)≠Value.notImplemented∧Q (.bool (lexLt ns ms)) s from⟨(fun x=>nomatch x),h⟩⟩ hu
theorem zLc{t b:Addr}{vs ws:List Value}{Q:Value→Shared→Prop}(ht:IsTup s.heap t vs.toArray)(hb:IsTup s.heap b ws.toArray)(hv:vs≠[])
  (h1:ws=[]→Q (.ref t) s) (h2:ws≠[]→Q (.ref s.heap.objs.size) { s with heap:=s.heap.push { cls:=.type "tuple",data:=.seq (vs++ws).toArray } })
  (hsz:vs.length+ws.length≤sizeLine):wpAny (model prog w) A (binaryOp .Add (.ref t) (.ref b)) Q E s:=by
 obtain⟨⟨cls,dd,data,sl⟩,ho,hc,n,hd⟩:=id ht
 obtain⟨⟨cls2,dd2,data2,sl2⟩,ho2,hc2,n2,hd2⟩:=id hb
 simp only at hc hd hc2 hd2
 subst hc hd hc2 hd2
 have e:vs.toArray++ws.toArray=(vs++ws).toArray:=by simp
 by_cases hw:ws=[]
 ·exact concat_meets ⟨_,ho,rfl⟩ ⟨_,ho2,rfl⟩ noFill_tuple_add seq_tuple_add PySem.F.slot_tuple_add PySem.F.entry_tuple_add (PySem.F.args_tuple_add_2 _ _)
   (tuple_addW1 t b vs.toArray ws.toArray n n2 dd dd2 sl sl2 (by simpa using hv) (by simp[hw])) ⟨ho,ho2,h1 hw⟩
 ·refine concat_meets ⟨_,ho,rfl⟩ ⟨_,ho2,rfl⟩ noFill_tuple_add seq_tuple_add PySem.F.slot_tuple_add PySem.F.entry_tuple_add (PySem.F.args_tuple_add_2 _ _)
   (tuple_addW2 t b vs.toArray ws.toArray n n2 dd dd2 sl sl2 (by simpa using hv) (by simpa using hw) (by rw[List.size_toArray,List.size_toArray];exact hsz)) ⟨ho,ho2,?_⟩
  rw[e]
  exact h2 hw
noncomputable def wW(n d:Nat):Option Int→Nat
 | none=>d
 | some v=>if v<0 then (v+(n:Int)).toNat else min v.toNat n
theorem zGM(n d:Nat):wW n d none=d:=rfl
theorem zDm(n d k:Nat):wW n d (some (k:Int))=min k n:=by
 show(if (k:Int)<0 then ((k:Int)+(n:Int)).toNat else min (k:Int).toNat n)=min k n
 rw[if_neg (by (first|lia|omega)),Int.toNat_natCast]
theorem zNb(n d:Nat)(hd:d≤n)(o:Option Int):wW n d o≤n:=by
 cases o with
 | none=>exact hd
 | some v =>
  show(if v<0 then (v+(n:Int)).toNat else min v.toNat n)≤n
  by_cases hv:v<0
  ·rw[if_pos hv];(first|lia|omega)
  ·rw[if_neg hv];exact Nat.min_le_right _ _
theorem zII(v:Int)(n d:Nat):(if v<0 then max (v+(n:Int)) 0 else min v (n:Int))=((wW n d (some v):Nat):Int):=by
 show(if v<0 then max (v+(n:Int)) 0 else min v (n:Int))=(((if v<0 then (v+(n:Int)).toNat else min v.toNat n):Nat):Int)
 by_cases hv:v<0
 ·simp only[if_pos hv];(first|lia|omega)
 ·simp only[if_neg hv];(first|lia|omega)
theorem zHM(lo hi:Option Int)(n:Nat):Builtin.Slice.sliceAdjust lo hi 1 (n:Int)=(((wW n 0 lo:Nat):Int),((wW n n hi:Nat):Int)):=by
 have h1:¬ ((1:Int)<0):=by (first|lia|omega)
 unfold Builtin.Slice.sliceAdjust
 simp only[h1,if_false]
 refine Prod.ext ?_ ?_
 ·cases lo with
  | none=>rfl
  | some v=>exact zII v n 0
 ·cases hi with
  | none=>rfl
  | some v=>exact zII v n n
theorem zHN(i j:Nat):Builtin.Slice.slicePlaces (i:Int) (j:Int) 1=j-i:=by
 unfold Builtin.Slice.slicePlaces
 have h1:(1:Int)>0:=by (first|lia|omega)
 simp only[h1,if_true,Int.ediv_one]
 split<;>(first|lia|omega)
theorem zD3{v:Value}{o:Option Int}{Q:Option Int→Shared→Prop}(p:IsPart v o)(h:Q o s):wpAny (model prog w) A (Builtin.Slice.slicePartIndex v) Q E s:=by
 cases p with
 | none=>exact slicePart_none h
 | int i t=>exact slicePart_int h
theorem zAl{sl:Addr}{vl vu:Value}{lo hi:Option Int}{n:Nat}{Q:Int×Int×Nat→Shared→Prop}(hs:s.heap.IsSliceOf sl vl vu .none)(pl:IsPart vl lo)(pu:IsPart vu hi)
  (h:Q (((wW n 0 lo:Nat):Int),1,wW n n hi-wW n 0 lo) s):wpAny (model prog w) A (Builtin.Slice.sliceApplied (.ref sl) (pure (n:Int))) Q E s:=by
 obtain⟨os,hos,hcs,hds⟩:=id hs
 unfold Builtin.Slice.sliceApplied Builtin.Slice.sliceFields
 refine wpAny_bind (wpAny_bind (wpAny_field hos hds (x:=vl) rfl (wpAny_bind (wpAny_field hos hds (x:=vu) rfl (wpAny_bind (wpAny_field hos hds (x:=.none) rfl (wpAny_pure ?_)))))))
 refine wpAny_bind (slicePart_none ?_)
 show wpAny _ _ (if ((1:Int)==0)=true then _ else _) _ _ s
 rw[if_neg (by decide)]
 refine wpAny_bind (zD3 pl (wpAny_bind (zD3 pu (wpAny_bind (wpAny_pure ?_)))))
 show wpAny _ _ (match Builtin.Slice.sliceAdjust lo hi 1 (n:Int) with | (lo,hi)=>pure (lo,(1:Int),Builtin.Slice.slicePlaces lo hi 1)) _ _ s
 rw[zHM lo hi n]
 show wpAny _ _ (pure (((wW n 0 lo:Nat):Int),(1:Int),Builtin.Slice.slicePlaces ((wW n 0 lo:Nat):Int) ((wW n n hi:Nat):Int) 1)) _ _ s
 rw[zHN]
 exact wpAny_pure h
theorem zJ5(xs:Array Value)(i k:Nat):((List.range k).filterMap fun(m:Nat)=>xs[((i:Int)+(m:Int)*1).toNat]?).toArray=((xs.toList.drop i).take k).toArray:=by
 have e:(fun(m:Nat)=>xs[((i:Int)+(m:Int)*1).toNat]?)=fun m=>xs[i+m]?:=by
  funext m
  have:((i:Int)+(m:Int)*1).toNat=i+m:=by (first|lia|omega)
  rw[this]
 rw[e]
 have:=pick_run xs i k
 rw[List.filterMap_map] at this
 have e2:((fun x=>xs[x]?)∘fun x=>i+x)=fun m=>xs[i+m]?:=rfl
 rw[e2] at this
 rw[this]
theorem zCW{t sl:Addr}{items:Array Value}{vl vu:Value}{lo hi:Option Int}{Q:Value→Shared→Prop}(ht:IsTup s.heap t items)(hs:s.heap.IsSliceOf sl vl vu .none)(pl:IsPart vl lo)(pu:IsPart vu hi)
  (hw:¬ (wW items.size 0 lo=0∧wW items.size items.size hi=items.size))
  (h:Q (.ref s.heap.objs.size) { s with heap:=s.heap.push { cls:=.type "tuple",data:=.seq ((items.toList.drop (wW items.size 0 lo)).take (wW items.size items.size hi-wW items.size 0 lo)).toArray } })
  (hsz:items.size≤sizeLine):wpAny (model prog w) A (getItem (.ref t) (.ref sl)) Q E s:=by
 have htake:sizeOk (.seq ((items.toList.drop (wW items.size 0 lo)).take (wW items.size items.size hi-wW items.size 0 lo)).toArray):=by
  show((items.toList.drop (wW items.size 0 lo)).take (wW items.size items.size hi-wW items.size 0 lo)).toArray.size≤sizeLine
  rw[List.size_toArray,List.length_take,List.length_drop,Array.length_toList]
  (first|lia|omega)
 have hj:wW items.size items.size hi≤items.size:=zNb _ _ (Nat.le_refl _) hi
 obtain⟨os,hos,hcs,hds⟩:=id hs
 have hTs:s.TypeIs (.ref sl) "slice":=⟨os,hos,hcs⟩
 unfold getItem
 try with_reducible refine wpAny_holding ?_
 first | refine wpAny_bind (wpAny_pure ?_) | skip
 refine wpAny_bind (wpAny_sequenceKey ht.typeIs (by decide) ?_)
 refine wpAny_bind (wpAny_callSpecial?_slot (name:=Str.ofString "__getitem__") ht.typeIs PyProof.Rows.slot_tuple_getitem
  (wpAny_call_entry PyProof.Rows.slot_tuple_getitem ht.typeIs entry_tuple_getitem ?_ (args_tuple_getitem _ _)))
 show wpAny _ _ (Builtin.Tuple.tupleItemsOf (.ref t)>>=_) _ _ s
 refine wpAny_bind (tupleItemsOf_ ht ?_)
 refine wpAny_bind (wpAny_typeOf hTs ?_)
 rw[if_pos (by decide)]
 refine wpAny_bind (zAl hs pl pu ?_)
 have hno:¬ ((((wW items.size 0 lo:Nat):Int)==0&&(1:Int)==1&&(wW items.size items.size hi-wW items.size 0 lo)==items.size)=true):=by
  intro q
  rw[Bool.and_eq_true,Bool.and_eq_true] at q
  have q1:((wW items.size 0 lo:Nat):Int)=0:=eq_of_beq q.1.1
  have q2:wW items.size items.size hi-wW items.size 0 lo=items.size:=eq_of_beq q.2
  exact hw ⟨by (first|lia|omega),by (first|lia|omega)⟩
 show wpAny _ _ (if (((wW items.size 0 lo:Nat):Int)==0&&(1:Int)==1&&(wW items.size items.size hi-wW items.size 0 lo)==items.size)=true then _ else _) _ _ s
 rw[if_neg hno,zJ5]
 first
  | exact wpAny_bind (m:=Builtin.Tuple.tupleExact _) (wpAny_newObj_type (wpAny_pure ⟨_,rfl,wpAny_pure h⟩) htake)
  | exact wpAny_bind (m:=Builtin.Tuple.tupleExact _) (wpAny_newObj_type (wpAny_bind (wpAny_pure (wpAny_pure ⟨_,rfl,wpAny_pure h⟩))) htake)
  | exact wpAny_bind (wpAny_bind (m:=Builtin.Tuple.tupleExact _) (wpAny_newObj_type (wpAny_pure (wpAny_pure ⟨_,rfl,wpAny_pure h⟩)) htake))
  | exact wpAny_bind (wpAny_bind (m:=Builtin.Tuple.tupleExact _) (wpAny_newObj_type (wpAny_pure ⟨_,rfl,wpAny_pure h⟩) htake))
end
end HT
namespace L2
open PySem PySem.Spec PyProof.Rows
noncomputable abbrev TO:=St→Hp→(Option Int→Hp→Prop)→Prop
noncomputable def PO(X:Cx)(e:Option Expr)(t:TO):Prop :=
 ∀(pins:List (Addr×Obj)) (s:Shared) (σ:St) (H:Hp) (Q:Option Int→Hp→Prop),zP X pins σ H s→t σ H Q →
  wpAny (model X.prog X.w) X.A (evalPart e X.env) (fun u s'=>∃ o H',zP X pins σ H' s'∧IsPart u o∧Q o H') X.xe s
noncomputable def zLd:TO:=fun u0 H Q=>Q none H
noncomputable def zOh(t:TE):TO:=fun σ H Q=>t σ H fun x H1=>∃ i,x=.int i∧Q (some i) H1
theorem intsAre_of{ns:List Int}:∀ {us:List Value},zR (ns.map V.int) us→IntsAre us ns:=by
 induction ns with
 | nil=>intro us r;rw[List.map_nil] at r;cases r;exact .nil
 | cons n ns ih =>
  intro us r
  rw[List.map_cons] at r
  cases r with
  | cons r1 r2 =>
   obtain⟨t,e⟩:=r1
   subst e
   exact .cons n t (ih r2)
section
variable {X:Cx} {e:Expr} {te:TE} {lo hi:Option Expr} {tl th:TO} {pos p2:Pos}
theorem zLe:PO X none zLd:=by
 intro pins s σ H Q I h
 rw[evalPart_none]
 exact wpAny_pure ⟨none,H,I,.none,h⟩
theorem zLf(h:PE X e te):PO X (some e) (zOh te):=by
 intro pins s σ H Q I hw
 rw[evalPart_some]
 refine yr (h pins s σ H _ I hw) fun u s1 ⟨x,H1,I1,r1,q1⟩=>?_
 obtain⟨i,rfl,q⟩:=q1
 obtain⟨t,rfl⟩:=r1
 exact⟨some i,H1,I1,.int i t,q⟩
noncomputable def SlR(X:Cx)(r:V→Option Int→Option Int→Hp→VK→Prop):Prop :=
 ∀(pins:List (Addr×Obj)) (s:Shared) (σ:St) (H:Hp) (x:V) (v vl vu:Value) (lo hi:Option Int) (sl:Addr) (Q:VK),zP X pins σ H s→RelV x v→s.heap.IsSliceOf sl vl vu .none→IsPart vl lo→IsPart vu hi→r x lo hi H Q →
  ∃ T id,typeLookup (.type T) "__getitem__"=pure (some (.builtin id))∧s.TypeIs v T∧wpAny (model X.prog X.w) X.A (getItem v (.ref sl)) (EP X pins σ Q) X.xe s
theorem SlR.or{r r':V→Option Int→Option Int→Hp→VK→Prop}(h:SlR X r)(h':SlR X r'):SlR X (fun x lo hi H Q=>r x lo hi H Q∨r' x lo hi H Q):=by
 intro pins s σ H x v vl vu lo hi sl Q I rx hs pl pu q
 rcases q with q | q
 ·exact h pins s σ H x v vl vu lo hi sl Q I rx hs pl pu q
 ·exact h' pins s σ H x v vl vu lo hi sl Q I rx hs pl pu q
noncomputable def tSl(r:V→Option Int→Option Int→Hp→VK→Prop)(te:TE)(tl th:TO):TE:=fun σ H Q=>te σ H fun x H1=>tl σ H1 fun l H2=>th σ H2 fun u H3=>r x l u H3 Q
theorem zJ6{r:V→Option Int→Option Int→Hp→VK→Prop}(hr:SlR X r)(he:PE X e te)(hl:PO X lo tl)(hu:PO X hi th):PE X (.Subscript e (.Slice lo hi none p2) pos) (tSl r te tl th):=by
 intro pins s σ H Q I h
 refine Subscript_ (yr (he pins s σ H _ I h) fun v s1 ⟨x,H1,I1,r1,q1⟩=>?_)
 refine wpAny_Slice (yr (hl pins s1 σ H1 _ I1 q1) fun vl s2 ⟨l,H2,I2,pl,q2⟩=>yr (hu pins s2 σ H2 _ I2 q2) fun vu s3 ⟨u,H3,I3,pu,q3⟩=>?_)
 rw[evalPart_none]
 refine wpAny_pure ?_
 have I4:zP X pins σ H3 { s3 with heap:=s3.heap.push { cls:=.type "slice",data:=.fields #[vl,vu,.none] } }:=I3.kept (t':=s3.toks) fun b ob q=>Heap.get?_push_of_some _ q
 obtain⟨T,id,hT,ht,hg⟩:=hr pins { s3 with heap:=s3.heap.push { cls:=.type "slice",data:=.fields #[vl,vu,.none] } } σ H3 x v vl vu l u s3.heap.objs.size Q I4 r1 (Heap.IsSliceOf.new ..) pl pu q3
 show wpAny (model X.prog X.w) X.A (subscriptTail e (.Slice lo hi none p2) v (.ref s3.heap.objs.size)) (EP X pins σ Q) X.xe { s3 with heap:=s3.heap.push { cls:=.type "slice",data:=.fields #[vl,vu,.none] } }
 exact tail_any (ops:=[.ref s3.heap.objs.size,v]) ht hT hg (by with_unfolding_all rfl)
noncomputable def zJ7(xs:List V)(lo hi:Option Int):List V:=(xs.drop (HT.wW xs.length 0 lo)).take (HT.wW xs.length xs.length hi-HT.wW xs.length 0 lo)
theorem zGN(xs:List V)(lo hi:Option Int):(zJ7 xs lo hi).length≤xs.length:=by
 unfold zJ7
 rw[List.length_take,List.length_drop]
 (first|lia|omega)
noncomputable def zPQ(K:PySem.W.Frag):V→Option Int→Option Int→Hp→VK→Prop:=fun x lo hi H Q=>∃ a xs,x=.ref a∧SqT K H a xs ∧
 ¬ (HT.wW xs.length 0 lo=0∧HT.wW xs.length xs.length hi=xs.length)∧∀ p,H p=none→Q (.ref p) (yz H p (.tup (zJ7 xs lo hi)))
theorem zNc:SlR X (zPQ X.K):=by
 intro pins s σ H x v vl vu lo hi sl Q I rx hs pl pu h
 obtain⟨a,xs,rfl,hx,hw,q⟩:=h
 cases rx
 obtain⟨its,r,ht,hz⟩:=I.tuple hx
 have hlen:its.toArray.size=xs.length:=by rw[List.size_toArray];exact r.length.symm
 refine⟨"tuple",_,PyProof.Rows.slot_tuple_getitem.lookup,ht.typeIs,?_⟩
 refine HT.zCW ht hs pl pu (by rw[hlen];exact hw) ?_ (by rw[hlen];exact hz)
 rw[hlen]
 refine⟨.ref s.heap.objs.size,_,I.laid (t':=s.toks) (o:=.tup (zJ7 xs lo hi)) (fun b ob q=>Heap.get?_push_of_some _ q) (Nat.le_refl _) ?_,rfl,q _ (I.hok.fresh (Nat.le_refl _))⟩
 exact⟨Nat.le_trans (zGN xs lo hi) hz,_,(r.drop (HT.wW xs.length 0 lo)).take (HT.wW xs.length xs.length hi-HT.wW xs.length 0 lo),zC4.new _ _⟩
noncomputable def zMl(K:PySem.W.Frag):R2:=fun x y H Q=>∃ a b xs ys,x=.ref a∧y=.ref b∧SqT K H a xs∧SqT K H b ys∧xs≠[]∧xs.length+ys.length≤sizeLine ∧
 (ys=[]→Q (.ref a) H)∧(ys≠[]→∀ p,H p=none→Q (.ref p) (yz H p (.tup (xs++ys))))
theorem zR.nil_iff{xs:List V}{us:List Value}(r:zR xs us):us=[]↔xs=[]:=by
 cases r with
 | nil=>simp
 | cons _ _=>simp
theorem zLg:OpR X (binaryOp .Add) (zMl X.K):=by
 intro pins s σ H x y v u Q I rx ry h
 obtain⟨a,b,xs,ys,rfl,rfl,ha,hb,hx,hz,q1,q2⟩:=h
 cases rx
 cases ry
 obtain⟨its,r1,p1,u0⟩:=I.tuple ha
 obtain⟨its2,r2,p2,u0⟩:=I.tuple hb
 refine HT.zLc p1 p2 (fun z=>hx (r1.nil_iff.mp z)) (fun z=>⟨.ref a,H,I,rfl,q1 (r2.nil_iff.mp z)⟩) (fun z=>?_) (by rw[← r1.length,← r2.length];exact hz)
 refine⟨.ref s.heap.objs.size,_,I.laid (t':=s.toks) (o:=.tup (xs++ys)) (fun b ob q=>Heap.get?_push_of_some _ q) (Nat.le_refl _) ?_,rfl,q2 (fun w=>z (r2.nil_iff.mpr w)) _ (I.hok.fresh (Nat.le_refl _))⟩
 exact⟨by rw[List.length_append];exact hz,_,r1.append r2,zC4.new _ _⟩
end
end L2
namespace L2
open PySem PySem.Spec PyProof.Rows
noncomputable def ixN(n:Nat)(i:Int):Option Nat:=if 0≤i then (if i<n then some i.toNat else none) else if -(n:Int)≤i then some (i+n).toNat else none
noncomputable def atI{α:Type}(xs:List α)(i:Int):Option α:=(ixN xs.length i).bind fun j=>xs[j]?
theorem zIJ{n:Nat}{i:Int}{j:Nat}(h:ixN n i=some j):seqIndex? i n=some j∧j<n∧-(n:Int)≤i∧i<n:=by
 unfold ixN at h
 by_cases h0:0≤i
 ·rw[if_pos h0] at h
  by_cases h1:i<n
  ·rw[if_pos h1] at h
   have e:i.toNat=j:=Option.some.inj h
   exact⟨by rw[seqIndex_of h0 h1,e],by (first|lia|omega),by (first|lia|omega),h1⟩
  ·rw[if_neg h1] at h;cases h
 ·rw[if_neg h0] at h
  by_cases h1:-(n:Int)≤i
  ·rw[if_pos h1] at h
   have e:(i+n).toNat=j:=Option.some.inj h
   exact⟨by rw[seqIndex_neg (by (first|lia|omega)) h1,e],by (first|lia|omega),h1,by (first|lia|omega)⟩
  ·rw[if_neg h1] at h;cases h
theorem zIK{α:Type}{xs:List α}{i:Int}{v:α}(h:atI xs i=some v):∃ j,seqIndex? i xs.length=some j∧xs[j]?=some v∧j<xs.length∧-(xs.length:Int)≤i∧i<xs.length:=by
 unfold atI at h
 cases e:ixN xs.length i with
 | none=>rw[e] at h;cases h
 | some j =>
  rw[e] at h
  obtain⟨h1,h2,h3,h4⟩:=zIJ e
  exact⟨j,h1,h,h2,h3,h4⟩
theorem zCX{α:Type}{xs:List α}{j:Nat}{v:α}(h:xs[j]?=some v):atI xs (j:Int)=some v:=by
 have hj:j<xs.length:=(List.getElem?_eq_some_iff.mp h).1
 have e:ixN xs.length (j:Int)=some j:=by
  unfold ixN
  rw[if_pos (by (first|lia|omega)),if_pos (by (first|lia|omega))];simp
 unfold atI;rw[e];exact h
noncomputable def zIL(b:Expr):Prop:=∀ o i,subscripted b false o i=operate [o,i] (getItem o i)
noncomputable def IxR(X:Cx)(r:R2):Prop :=
 ∀(value slice:Expr) (pins:List (Addr×Obj)) (s:Shared) (σ:St) (H:Hp) (x y:V) (v u:Value) (Q:VK),zP X pins σ H s→RelV x v→RelV y u→r x y H Q →
  subscripted slice false v u=operate [v,u] (getItem v u)→wpAny (model X.prog X.w) X.A (subscriptTail value slice v u) (EP X pins σ Q) X.xe s
noncomputable def MtR(X:Cx)(id:String)(r:V→List V→Hp→VK→Prop):Prop :=
 ∀(pins:List (Addr×Obj)) (s:Shared) (σ:St) (H:Hp) (x:V) (xs:List V) (v:Value) (us:List Value) (Q:VK),zP X pins σ H s→RelV x v→zR xs us→r x xs H Q →
  wpAny (model X.prog X.w) X.A (call (.builtin id) (v::us)) (EP X pins σ Q) X.xe s
section
variable {X:Cx} {a b:Expr} {ta tb:TE} {pos:Pos}
theorem IxR.or{r r':R2}(h:IxR X r)(h':IxR X r'):IxR X (fun x y H Q=>r x y H Q∨r' x y H Q):=by
 intro value slice pins s σ H x y v u Q I rx ry q hs
 rcases q with q | q
 ·exact h value slice pins s σ H x y v u Q I rx ry q hs
 ·exact h' value slice pins s σ H x y v u Q I rx ry q hs
theorem MtR.or{id:String}{r r':V→List V→Hp→VK→Prop}(h:MtR X id r)(h':MtR X id r'):MtR X id (fun x xs H Q=>r x xs H Q∨r' x xs H Q):=by
 intro pins s σ H x xs v us Q I rx rs q
 rcases q with q | q
 ·exact h pins s σ H x xs v us Q I rx rs q
 ·exact h' pins s σ H x xs v us Q I rx rs q
theorem zOi{r:R2}(hr:IxR X r)(ha:PE X a ta)(hb:PE X b tb)(hs:zIL b):PE X (.Subscript a b pos) (tOp r ta tb):=by
 intro pins s σ H Q I h
 exact Subscript_ (zNN ha hb I h fun v u s2 x y H2 I2 rx ry q=>hr a b pins s2 σ H2 x y v u Q I2 rx ry q (hs _ _))
noncomputable def zOj(K:PySem.W.Frag):R2:=fun x y H Q=>∃ p xs i v,x=.ref p∧y=.int i∧SqL K H p xs∧atI xs i=some v∧Q v H
noncomputable def zOk(K:PySem.W.Frag):R2:=fun x y H Q=>∃ p xs i v,x=.ref p∧y=.int i∧SqT K H p xs∧atI xs i=some v∧Q v H
theorem zLh:IxR X (zOj X.K):=by
 intro value slice pins s σ H x y v u Q I rx ry h hs
 obtain⟨p,xs,i,z,rfl,rfl,hq,he,q⟩:=h
 cases rx
 obtain⟨t,rfl⟩:=ry
 obtain⟨its,r,pl,hz⟩:=I.list hq
 obtain⟨j,h1,h2,h3,h4,h5⟩:=zIK he
 obtain⟨w,ew,rw'⟩:=r.get h2
 have hl:=r.length
 have hn:=zFj
 have fin:EP X pins σ Q w s:=⟨z,H,I,rw',q⟩
 by_cases h0:0≤i
 ·have hj:i.toNat=j:=by
   rw[seqIndex_of h0 h5] at h1
   exact Option.some.inj h1
  exact item_listR pl.isList h0 (by (first|lia|omega)) (by rw[hj];simpa using ew) fin hs
 ·have hj:(i+(its.toArray.size:Int)).toNat=j:=by
   rw[seqIndex_neg (by (first|lia|omega)) h4] at h1
   rw[List.size_toArray,← hl]
   exact Option.some.inj h1
  exact subscriptTail_builtinR (x:=w) pl.isList.typeIs slot_list_getitem.lookup
   (wpAny_getItem_list_neg (Q:=fun r s'=>r=w∧EP X pins σ Q r s') pl.isList (by (first|lia|omega)) (by rw[List.size_toArray]<;>(first|lia|omega)) (by (first|lia|omega)) (by rw[hj];simpa using ew) ⟨rfl,fin⟩) hs
theorem zNd:IxR X (zOk X.K):=by
 intro value slice pins s σ H x y v u Q I rx ry h hs
 obtain⟨p,xs,i,z,rfl,rfl,hq,he,q⟩:=h
 cases rx
 obtain⟨t,rfl⟩:=ry
 obtain⟨its,r,pl,hz⟩:=I.tuple hq
 obtain⟨j,h1,h2,h3,h4,h5⟩:=zIK he
 obtain⟨w,ew,rw'⟩:=r.get h2
 have hl:=r.length
 have hn:=zFj
 have fin:EP X pins σ Q w s:=⟨z,H,I,rw',q⟩
 exact subscriptTail_builtinR (x:=w) pl.typeIs slot_tuple_getitem.lookup
  (getItem_tuple (j:=j) (Q:=fun r s'=>r=w∧EP X pins σ Q r s') pl (by (first|lia|omega)) (by (first|lia|omega)) (by rw[List.size_toArray,← hl];exact h1) (by simpa using ew) ⟨rfl,fin⟩) hs
theorem zHO(its:List Value)(n j:Nat)(u:Value):Obj.mapSeq (·.setIfInBounds j u) { cls:=.type "list",data:=.seq its.toArray n }={ cls:=.type "list",data:=.seq (its.set j u).toArray n }:=by
 simp[Obj.mapSeq]
theorem zP.lst{pins:List (Addr×Obj)}{σ:St}{H:Hp}{s:Shared}{p:Addr}{xs:List V}(I:zP X pins σ H s)(h:H p=some (.lst xs)) :
  ∃(its:List Value) (n:Nat),zR xs its∧s.heap.get? p=some { cls:=.type "list",data:=.seq its.toArray n }∧xs.length≤sizeLine:=by
 obtain⟨z,its,n,r,e⟩:=I.hok p _ h
 exact⟨its,n,r,e,z⟩
theorem zP.lstUpd{pins:List (Addr×Obj)}{σ:St}{H:Hp}{s:Shared}{p:Addr}{xs ys:List V}{its its':List Value}{n n':Nat}{f:Obj→Obj}(I:zP X pins σ H s)(h:H p=some (.lst xs))
  (ho:s.heap.get? p=some { cls:=.type "list",data:=.seq its.toArray n }) (hf:f { cls:=.type "list",data:=.seq its.toArray n }={ cls:=.type "list",data:=.seq its'.toArray n' }) (r:zR ys its') (hz:ys.length≤sizeLine) (t:Nat) :
  zP X pins σ (yz H p (.lst ys)) { s with heap:=s.heap.update p f,toks:=t }:=by
 have e:(s.heap.update p f).get? p=some { cls:=.type "list",data:=.seq its'.toArray n' }:=by
  rw[Heap.get?_update_self f ho (by rw[hf]<;>rfl),hf]
 refine I.write (x:=p) (e:=p) (by rw[h];trivial) (.inl rfl) (fun b u hb q=>(Heap.get?_update_other _ _ (Ne.symm hb)).trans q) ⟨_,e⟩ ?_
 exact⟨hz,its',n',r,e⟩
noncomputable def zOl:V→V→V→Hp→(Hp→Prop)→Prop:=fun o i v H Q=>∃ p xs k j,o=.ref p∧i=.int k∧H p=some (.lst xs)∧ixN xs.length k=some j∧Q (yz H p (.lst (xs.set j v)))
theorem set_list:zOW X zOl:=by
 intro pins s σ H o i v ov iv u Q I ro ri rv h
 obtain⟨p,xs,k,j,rfl,rfl,hp,hj,q⟩:=h
 cases ro
 obtain⟨t,rfl⟩:=ri
 obtain⟨its,n,r,ho,hz⟩:=I.lst hp
 obtain⟨h1,h2,h3,h4⟩:=zIJ hj
 have hl:=r.length
 have hn:=zFj
 have I':zP X pins σ (yz H p (.lst (xs.set j v))) { s with heap:=s.heap.update p (Obj.mapSeq (·.setIfInBounds j u)) } :=
  I.lstUpd hp ho (zHO its n j u) (r.set rv j) (by rw[List.length_set];exact hz) s.toks
 by_cases h0:0≤k
 ·have hk:k.toNat=j:=by
   rw[seqIndex_of h0 h4] at h1
   exact Option.some.inj h1
  exact PySem.W.ki_setAt ho h0 (by (first|lia|omega)) (by rw[List.size_toArray,← hl];exact h4) (by rw[hk];exact⟨_,I',q⟩)
 ·have hk:(k+(its.toArray.size:Int)).toNat=j:=by
   rw[seqIndex_neg (by (first|lia|omega)) h3] at h1
   rw[List.size_toArray,← hl]
   exact Option.some.inj h1
  exact PySem.W.ki_setBack ho (by (first|lia|omega)) (by rw[List.size_toArray,← hl];exact h3) (by (first|lia|omega)) (by rw[hk];exact⟨_,I',q⟩)
noncomputable def zIM:V→Bool
 | .non=>true
 | .bl _=>true
 | .int _=>true
 | .str _=>true
 | _=>false
noncomputable def eqV:V→V→Bool
 | .non,.non=>true
 | .bl a,.bl b=>a==b
 | .bl a,.int b=>(if a then 1 else 0)==b
 | .int a,.bl b=>a==(if b then 1 else 0)
 | .int a,.int b=>a==b
 | .str a,.str b=>a==b
 | _,_=>false
theorem zJ8{A:Around}{s:Shared}{y x:V}{u v:Value}(ry:RelV y u)(rx:RelV x v)(fy:zIM y=true)(fx:zIM x=true):SeqAt.EqAt A s u v (eqV y x):=by
 cases y with
 | non =>
  cases ry
  cases x with
  | non=>cases rx;exact SeqAt.EqAt.same _
  | bl b=>cases rx;exact SeqAt.EqAt.none_bool b
  | int b=>obtain⟨t,rfl⟩:=rx;exact SeqAt.EqAt.none_int b t
  | str b=>obtain⟨t,rfl⟩:=rx;exact SeqAt.EqAt.none_str b t
  | _=>exact absurd (show false=true from fx) Bool.false_ne_true
 | bl a =>
  cases ry
  cases x with
  | non=>cases rx;exact SeqAt.EqAt.bool_none a
  | bl b=>cases rx;exact SeqAt.EqAt.bool_bool a b
  | int b=>obtain⟨t,rfl⟩:=rx;exact SeqAt.EqAt.bool_int a b t
  | str b=>obtain⟨t,rfl⟩:=rx;exact SeqAt.EqAt.bool_str a b t
  | _=>exact absurd (show false=true from fx) Bool.false_ne_true
 | int a =>
  obtain⟨t',rfl⟩:=ry
  cases x with
  | non=>cases rx;exact SeqAt.EqAt.int_none a t'
  | bl b=>cases rx;exact SeqAt.EqAt.int_bool a t' b
  | int b=>obtain⟨t,rfl⟩:=rx;exact SeqAt.EqAt.int_int a t' b t
  | str b=>obtain⟨t,rfl⟩:=rx;exact SeqAt.EqAt.int_str a t' b t
  | _=>exact absurd (show false=true from fx) Bool.false_ne_true
 | str a =>
  obtain⟨t',rfl⟩:=ry
  cases x with
  | non=>cases rx;exact SeqAt.EqAt.str_none a t'
  | bl b=>cases rx;exact SeqAt.EqAt.str_bool a t' b
  | int b=>obtain⟨t,rfl⟩:=rx;exact SeqAt.EqAt.str_int a t' b t
  | str b=>obtain⟨t,rfl⟩:=rx;exact SeqAt.EqAt.str_str a t' b t
  | _=>exact absurd (show false=true from fx) Bool.false_ne_true
 | _=>exact absurd (show false=true from fy) Bool.false_ne_true
theorem zFl:yg X (.builtin "len") (fun xs H Q=>∃ p ys,xs=[.ref p]∧(SqL X.K H p ys∨SqT X.K H p ys)∧Q (.int ys.length) H):=by
 intro pins s σ H xs us Q I r h
 obtain⟨p,ys,rfl,hq,q⟩:=h
 obtain⟨u,rfl,rx⟩:=vals1 r
 cases rx
 have hn:=zFj
 rcases hq with hq | hq
 ·obtain⟨its,r',pl,hz⟩:=I.list hq
  have hlen:=r'.length
  exact Calls.call_len_list pl.isList (by simp only[List.size_toArray]<;>(first|lia|omega)) ⟨.int ys.length,H,I.tok _,⟨s.toks+1,by rw[List.size_toArray,hlen]⟩,q⟩
 ·obtain⟨its,r',pl,hz⟩:=I.tuple hq
  have hlen:=r'.length
  exact len_tuple pl (by simp only[List.size_toArray]<;>(first|lia|omega)) ⟨.int ys.length,H,I.tok _,⟨s.toks+1,by rw[List.size_toArray,hlen]⟩,q⟩
theorem yg.or{f:Value}{r r':List V→Hp→VK→Prop}(h:yg X f r)(h':yg X f r'):yg X f (fun xs H Q=>r xs H Q∨r' xs H Q):=by
 intro pins s σ H xs us Q I rs q
 rcases q with q | q
 ·exact h pins s σ H xs us Q I rs q
 ·exact h' pins s σ H xs us Q I rs q
theorem zB8:yg X (.type "tuple") (fun xs H Q=>∃ p ys,xs=[.ref p]∧((SqL X.K H p ys∧∀ l,H l=none→Q (.ref l) (yz H l (.tup ys)))∨(SqT X.K H p ys∧Q (.ref p) H))):=by
 intro pins s σ H xs us Q I r h
 obtain⟨p,ys,rfl,h⟩:=h
 obtain⟨u,rfl,rx⟩:=vals1 r
 cases rx
 rcases h with ⟨hq,q⟩ | ⟨hq,q⟩
 ·obtain⟨its,r',pl,hz⟩:=I.list hq
  have hlen:=r'.length
  refine call_tuple_list pl.isList (fun h' kp=>?_) (by simp only[List.size_toArray]<;>(first|lia|omega))
  have I1:zP X pins σ H { s with heap:=h' }:=I.kept (t':=s.toks) kp
  have I2:zP X pins σ (yz H h'.objs.size (.tup ys)) { s with heap:=h'.push { cls:=.type "tuple",data:=.seq its.toArray } } :=
   I1.laid (t':=s.toks) (fun b o e=>Heap.get?_push_of_some _ e) (Nat.le_refl _) (show wA X.prog X.w _ _ _ (.tup ys) from⟨hz,its,r',zC4.new _ _⟩)
  exact⟨.ref h'.objs.size,_,I2,rfl,q _ (I1.hok.fresh (Nat.le_refl _))⟩
 ·obtain⟨its,r',pl,hz⟩:=I.tuple hq
  exact call_tuple_same pl ⟨.ref p,H,I,rfl,q⟩
noncomputable def tyV(K:PySem.W.Frag)(T:String)(x:V)(H:Hp):Prop:=match x with
 | .str _=>T="str"
 | .int _=>T="int"
 | .ref p=>(T="list"∧∃ xs,SqL K H p xs)∨(T="tuple"∧∃ xs,SqT K H p xs) ∨
   (T="dict"∧((∃ kvs,H p=some (.dK kvs))∨∃ kvs,H p=some (.dT kvs)))∨(T="set"∧∃ S n,H p=some (.set S n))
 | _=>False
theorem zNe{pins:List (Addr×Obj)}{σ:St}{H:Hp}{s:Shared}{T:String}{x:V}{v:Value}(I:zP X pins σ H s)(r:RelV x v)(ty:tyV X.K T x H) :
  s.TypeIs v T∧∀ a,v=.ref a→∃ ob,s.heap.get? a=some ob∧ob.dict=none:=by
 cases x with
 | str z =>
  obtain⟨t,rfl⟩:=r
  cases (show T="str" from ty)
  exact⟨typeIs_str s z t,fun u0 e=>nomatch e⟩
 | int i =>
  obtain⟨t,rfl⟩:=r
  cases (show T="int" from ty)
  exact⟨typeIs_int s i t,fun u0 e=>nomatch e⟩
 | ref p =>
  cases r
  rcases ty with ⟨rfl,xs,hq⟩ | ⟨rfl,xs,hq⟩ | ⟨rfl,hk⟩ | ⟨rfl,S,n,hk⟩
  ·obtain⟨its,u0,pl,u0⟩:=I.list hq
   refine⟨pl.isList.typeIs,fun a e=>?_⟩
   cases e
   obtain⟨o,n,e,c,hd,u0⟩:=pl
   exact⟨o,e,hd⟩
  ·obtain⟨h1,o,h2,h3⟩:=I.noDict hq
   refine⟨h1,fun a e=>?_⟩
   cases e
   exact⟨o,h2,h3⟩
  ·have z:∃ o,s.heap.get? p=some o∧o.ExactDict:=by
    rcases hk with ⟨kvs,hk⟩ | ⟨kvs,hk⟩
    ·obtain⟨u0,u0,u0,u0,o,u0,u0,e,ex,u0⟩:=I.hok p _ hk
     exact⟨o,e,ex⟩
    ·obtain⟨u0,u0,u0,u0,o,u0,u0,e,ex,u0⟩:=I.hok p _ hk
     exact⟨o,e,ex⟩
   obtain⟨o,e,ex⟩:=z
   refine⟨⟨o,e,ex.1⟩,fun a e2=>?_⟩
   cases e2
   exact⟨o,e,ex.2.1⟩
  ·obtain⟨o,u0,u0,u0,e,ex,u0⟩:=I.hok p _ hk
   refine⟨⟨o,e,ex.1⟩,fun a e2=>?_⟩
   cases e2
   exact⟨o,e,ex.2.1⟩
 | _=>exact False.elim ty
noncomputable def tBM(K:PySem.W.Frag)(T:String)(r:V→List V→Hp→VK→Prop)(to:TE)(t:TA):TE:=fun σ H Q=>to σ H fun x H1=>tyV K T x H1∧t σ H1 fun xs H2=>r x xs H2 Q
variable {o e:Expr} {es:List Expr} {to:TE} {t:TA} {name:Str} {apos cpos:Pos} {T id:String} {r:V→List V→Hp→VK→Prop}
theorem zJ9(pa:PlainAttrs T)(slot:Slot T name id)(hty:typeOf (.builtin id)=pure (.type "method_descriptor"))(hm:MtR X id r)(ho:PE X o to)(ha:PA X (e::es) t)
  (hbase:attributeBase o name X.env (eval o X.env)=eval o X.env:=by rfl)
  (hfew:((backTo cpos (starEach (e::es) X.env)).all (fun x=>!x.1)&&(backToKw cpos (keywordEach [] X.env)).all (fun x=>x.1.isSome)
   && decide ((e::es).length+([]:List Keyword).length+(if ([]:List Keyword).isEmpty then 0 else 1)<30))=true:=by rfl)
  (hline:(apos.endLine==cpos.line)=true:=by rfl) (hs:starEach (e::es) X.env=(false,eval e X.env)::starEach es X.env:=by rfl) (hplain:(backTo cpos (starEach es X.env)).any (·.1)=false:=by rfl) :
  PE X (.Call (.Attribute o name apos) (e::es) [] cpos) (tBM X.K T r to t):=by
 intro pins s σ H Q I h
 refine wpAny_Call_method_late hbase hfew hline rfl (yr (ho pins s σ H _ I h) fun v s1 ⟨x,H1,I1,r1,ty,q1⟩=>?_)
 obtain⟨h1,h2⟩:=zNe I1 r1 ty
 refine⟨T,id,pa,slot,hty,h1,h2,?_⟩
 have hA:=ha cpos pins s1 σ H1 _ I1 q1
 rw[hs] at hA ⊢
 refine Calls.callWith_builtin (by show(false||(backTo cpos (starEach es X.env)).any (·.1))=false;rw[hplain]<;>rfl) (Calls.evalArgs_plain ?_)
 exact yr hA fun us s2 ⟨vs,H2,I2,r2,q2⟩=>hm pins s2 σ H2 x vs v us Q I2 r1 r2 q2
end
end L2
namespace L2
open PySem PySem.Spec PyProof.Rows
noncomputable def MtM(X:Cx)(id:String)(r:V→List V→Hp→VK→Prop):Prop :=
 ∀(pins:List (Addr×Obj)) (s:Shared) (σ:St) (H:Hp) (x:V) (xs:List V) (v:Value) (us:List Value) (Q:VK),zP X pins σ H s→RelV x v→zR xs us→r x xs H Q →
  wpAny (model X.prog X.w) X.A (call (.builtin id) (v::us)) (EP X pins σ Q) X.xe s
theorem zR.one:∀ {x:V} {us:List Value},zR [x] us→∃ u,us=[u]∧RelV x u
 | _,_,.cons r .nil=>⟨_,rfl,r⟩
theorem zR.zero:∀ {us:List Value},zR [] us→us=[]
 | _,.nil=>rfl
theorem zR.eraseIdx:∀ {xs:List V} {us:List Value} (i:Nat),zR xs us→zR (xs.eraseIdx i) (us.eraseIdx i)
 | _,_,_,.nil=>.nil
 | _,_,0,.cons _ t=>t
 | _,_,i+1,.cons r t=>.cons r (zR.eraseIdx i t)
theorem zR.reverse{xs:List V}{us:List Value}(h:zR xs us):zR xs.reverse us.reverse:=by
 induction h with
 | nil=>exact .nil
 | cons r t ih=>rw[List.reverse_cons,List.reverse_cons];exact zR.append ih (.cons r .nil)
theorem zR.rep{xs:List V}{us:List Value}(h:zR xs us):∀ k:Nat,zR (List.replicate k xs).flatten (List.replicate k us).flatten
 | 0=>.nil
 | k+1=>by
  rw[List.replicate_succ,List.replicate_succ,List.flatten_cons,List.flatten_cons]
  exact zR.append h (zR.rep h k)
theorem zFE{α:Type}:∀(l:List α) (i:Nat),(l.eraseIdx i).length≤l.length
 | [],_=>Nat.le_refl _
 | _::_,0=>Nat.le_succ _
 | _::r,i+1=>Nat.succ_le_succ (zFE r i)
theorem foldl_rep(its:List Value):∀(k:Nat) (acc:List Value),
  List.foldl (fun x1 x2=>x1++x2) acc.toArray (List.replicate k its.toArray)=(acc++(List.replicate k its).flatten).toArray
 | 0,acc=>by simp
 | k+1,acc=>by
  have e:acc.toArray++its.toArray=(acc++its).toArray:=by simp
  have e2:(acc++its)++(List.replicate k its).flatten=acc++(List.replicate (k+1) its).flatten:=by
   rw[List.replicate_succ,List.flatten_cons,List.append_assoc]
  rw[← e2,← foldl_rep its k (acc++its),← e,List.replicate_succ,List.foldl_cons]
section
variable {X:Cx} {pins:List (Addr×Obj)} {σ:St} {H:Hp} {s:Shared} {l b:Addr} {xs ys zs:List V}
theorem zP.lset{its its':List Value}{n:Nat}{f:Array Value→Array Value}{t':Nat}(I:zP X pins σ H s)(hH:H l=some (.lst xs))
  (e:s.heap.get? l=some { cls:=.type "list",data:=.seq its.toArray n }) (hf:f its.toArray=its'.toArray) (hv:zR ys its') (hz:ys.length≤sizeLine) :
  zP X pins σ (yz H l (.lst ys)) { s with heap:=s.heap.update l (Obj.mapSeq f),toks:=t' }:=by
 have q:=PySem.IsL.update e f
 rw[hf] at q
 refine I.write (x:=l) (e:=l) (by rw[hH];exact trivial) (.inl rfl) (fun b' u hb hu=>(Heap.get?_update_other s.heap (Obj.mapSeq f) (Ne.symm hb)).trans hu) ⟨_,q⟩ ?_
 exact⟨hz,its',_,hv,q⟩
theorem zP.lnew{its:List Value}{t':Nat}(I:zP X pins σ H s)(hv:zR ys its)(hz:ys.length≤sizeLine) :
  zP X pins σ (yz H s.heap.objs.size (.lst ys)) { s with heap:=s.heap.push { cls:=.type "list",data:=.seq its.toArray },toks:=t' } :=
 I.laid (fun u0 u0 q=>Heap.get?_push_of_some _ q) (Nat.le_refl _) ⟨hz,its,0,hv,Heap.get?_push_size _ rfl⟩
theorem zP.fresh(I:zP X pins σ H s):H s.heap.objs.size=none:=I.hok.fresh (Nat.le_refl _)
theorem zP.lstM(I:zP X pins σ H s)(hH:H l=some (.lst xs)):xs.length≤sizeLine∧∃(its:List Value) (n:Nat),zR xs its∧xs.length=its.length∧s.heap.get? l=some { cls:=.type "list",data:=.seq its.toArray n }:=by
 obtain⟨z,its,n,r,e⟩:=I.hok l _ hH
 exact⟨z,its,n,r,r.length,e⟩
theorem zCY{n:Nat}(h:n≤sizeLine):Builtin.List.listTooLong n=false:=by
 unfold Builtin.List.listTooLong
 exact decide_eq_false (by (first|lia|omega))
end
section
variable {X:Cx}
noncomputable def zLi:V→List V→Hp→VK→Prop:=fun x vs H Q=>∃ l xs y,x=.ref l∧vs=[y]∧H l=some (.lst xs)∧xs.length<sizeLine∧Q .non (yz H l (.lst (xs++[y])))
theorem zFF:MtM X "list.append" zLi:=by
 intro pins s σ H x vs v us Q I rx rv h
 obtain⟨l,xs,y,rfl,rfl,hH,hz,q⟩:=h
 cases rx
 obtain⟨u,rfl,ru⟩:=rv.one
 obtain⟨z,its,n,r,hl,e⟩:=I.lstM hH
 refine call_meets F.slot_list_append ⟨_,e,rfl⟩ F.entry_list_append (F.args_list_append_2 _ _) (PySem.list_append l its.toArray n u (by rw[List.size_toArray];(first|lia|omega))) ⟨e,?_⟩
 refine⟨.non,_,I.lset (its':=its++[u]) hH e (by simp) (r.append (.cons ru .nil)) ?_,rfl,q⟩
 rw[List.length_append,List.length_singleton]
 (first|lia|omega)
noncomputable def zLj:V→List V→Hp→VK→Prop:=fun x vs H Q=>∃ l b xs zs,x=.ref l∧vs=[.ref b]∧H l=some (.lst xs)∧H b=some (.lst zs)∧xs.length+zs.length≤sizeLine∧Q .non (yz H l (.lst (xs++zs)))
theorem zJB:MtM X "list.extend" zLj:=by
 intro pins s σ H x vs v us Q I rx rv h
 obtain⟨l,b,xs,zs,rfl,rfl,hH,hB,hz,q⟩:=h
 cases rx
 obtain⟨u,rfl,ru⟩:=rv.one
 cases ru
 obtain⟨z,its,n,r,hl,e⟩:=I.lstM hH
 obtain⟨z2,its2,n2,r2,hl2,e2⟩:=I.lstM hB
 have hsz:its.toArray.size+its2.toArray.size≤sizeLine:=by rw[List.size_toArray,List.size_toArray];(first|lia|omega)
 have hlong:¬ (!its.toArray.isEmpty&&Builtin.List.listTooLong (its.toArray.size+its2.toArray.size))=true:=by
  rw[zCY hsz,Bool.and_false]
  exact Bool.false_ne_true
 refine call_meets F.slot_list_extend ⟨_,e,rfl⟩ F.entry_list_extend (F.args_list_extend_2 _ _)
  (AutoSeq1.list_extend_list_list_0 l its.toArray n b its2.toArray n2 hlong (by rw[List.size_toArray];(first|lia|omega)) (by (first|lia|omega))) ⟨e,e2,?_⟩
 refine⟨.non,_,I.lset (its':=its++its2) hH e (by simp) (r.append r2) ?_,rfl,q⟩
 rw[List.length_append]
 (first|lia|omega)
noncomputable def zNf:V→List V→Hp→VK→Prop:=fun x vs H Q=>∃ l xs i k y,x=.ref l∧vs=[.int i]∧H l=some (.lst xs)∧-(2 ^ 63)≤i∧i<2 ^ 63∧seqIndex? i xs.length=some k∧xs[k]?=some y∧Q y (yz H l (.lst (xs.eraseIdx k)))
theorem zKA:MtM X "list.pop" zNf:=by
 intro pins s σ H x vs v us Q I rx rv h
 obtain⟨l,xs,i,k,y,rfl,rfl,hH,h1,h2,hk,hy,q⟩:=h
 cases rx
 obtain⟨u,rfl,ru⟩:=rv.one
 obtain⟨t,rfl⟩:=ru
 obtain⟨z,its,n,r,hl,e⟩:=I.lstM hH
 obtain⟨w,hw,rw'⟩:=r.get hy
 refine call_meets F.slot_list_pop ⟨_,e,rfl⟩ F.entry_list_pop (F.args_list_pop_2 _ _)
  (MeetsSeq.list_pop_at l its.toArray n i t k w (fitsIndex_both h1 h2) (by rw[List.size_toArray,← hl];exact hk) (by rw[← Array.getElem?_toList];exact hw) (by rw[List.size_toArray];(first|lia|omega))) ⟨e,?_⟩
 refine⟨y,_,I.lset (its':=its.eraseIdx k) hH e ?_ (r.eraseIdx k) ?_,rw',q⟩
 ·show its.toArray.eraseIdxIfInBounds k=(its.eraseIdx k).toArray
  rw[List.eraseIdxIfInBounds_toArray]
 ·have:=zFE xs k
  (first|lia|omega)
noncomputable def zPR:R2:=fun x y H Q=>∃ l b xs zs,x=.ref l∧y=.ref b∧H l=some (.lst xs)∧H b=some (.lst zs)∧xs.length+zs.length≤sizeLine∧∀ p,H p=none→Q (.ref p) (yz H p (.lst (xs++zs)))
theorem zNg:OpR X (binaryOp .Add) zPR:=by
 intro pins s σ H x y v u Q I rx ry h
 obtain⟨l,b,xs,zs,rfl,rfl,hH,hB,hz,q⟩:=h
 cases rx
 cases ry
 obtain⟨z,its,n,r,hl,e⟩:=I.lstM hH
 obtain⟨z2,its2,n2,r2,hl2,e2⟩:=I.lstM hB
 refine PySem.P.add_list e e2 ?_ (by rw[List.size_toArray,List.size_toArray];(first|lia|omega))
 have ea:its.toArray++its2.toArray=(its++its2).toArray:=by simp
 rw[ea]
 exact⟨.ref _,_,I.lnew (t':=s.toks) (r.append r2) (by rw[List.length_append];(first|lia|omega)),rfl,q _ I.fresh⟩
noncomputable def zPS:R2:=fun x y H Q=>∃ l k xs,x=.ref l∧y=.int k∧H l=some (.lst xs)∧-(2 ^ 63)≤k∧k<2 ^ 63∧xs.length*k.toNat≤sizeLine ∧
 ∀ p,H p=none→Q (.ref p) (yz H p (.lst (List.replicate k.toNat xs).flatten))
theorem len_rep{α:Type}(xs:List α)(k:Nat):(List.replicate k xs).flatten.length=k*xs.length:=by
 induction k with
 | zero=>simp
 | succ k ih=>rw[List.replicate_succ,List.flatten_cons,List.length_append,ih,Nat.succ_mul,Nat.add_comm]
theorem zNh:OpR X (binaryOp .Mult) zPS:=by
 intro pins s σ H x y v u Q I rx ry h
 obtain⟨l,k,xs,rfl,rfl,hH,h1,h2,hz,q⟩:=h
 cases rx
 obtain⟨t,rfl⟩:=ry
 obtain⟨z,its,n,r,hl,e⟩:=I.lstM hH
 have hlen:its.toArray.size*k.toNat≤sizeLine:=by rw[List.size_toArray,← hl];exact hz
 have hcap:¬ its.toArray.size*k.toNat>(2 ^ 63-1) / 8:=by
  have:(sizeLine:Nat)≤(2 ^ 63-1) / 8:=by decide
  (first|lia|omega)
 have hfit:¬ (!Builtin.List.listFitsIndex k)=true:=by
  rw[fitsIndex_both h1 h2]
  exact Bool.false_ne_true
 have hlong:¬ Builtin.List.listTooLong (its.toArray.size*k.toNat)=true:=by
  rw[zCY hlen]
  exact Bool.false_ne_true
 have hnew:List.foldl (fun x1 x2=>x1++x2) #[] (List.replicate (if its.toArray.isEmpty=true then 0 else k.toNat) its.toArray)=(List.replicate k.toNat its).flatten.toArray:=by
  have f0:∀ m:Nat,List.foldl (fun x1 x2=>x1++x2) #[] (List.replicate m its.toArray)=(List.replicate m its).flatten.toArray:=fun m=>by
   have:=foldl_rep its m []
   rw[List.nil_append] at this
   exact this
  rw[f0]
  cases its with
  | nil=>simp
  | cons a r'=>rw[if_neg (by simp)]
 refine wpAny_binaryOp_repeat_ref (T:="list") (U:="int") (by decide) ⟨_,e,rfl⟩ (fun s'=>typeIs_int s' k t) noFill_list_mul F.fills_int_mul F.slot_int_rmul repeat_list F.slot_int_index.lookup
  (call_meets F.slot_int_rmul (typeIs_int s k t) F.entry_int_rmul (F.args_int_rmul_2 _ _) (int___rmul___int_list k t l its.toArray n)
   ⟨e,rfl,⟨_,e,rfl⟩,call_meets F.slot_list_mul ⟨_,e,rfl⟩ F.entry_list_mul (F.args_list_mul_2 _ _) (AutoListH.list___mul___list_int_3 l its.toArray n k t hfit hcap hlong) ⟨e,?_⟩⟩)
 rw[hnew]
 exact⟨.ref _,_,I.lnew (t':=s.toks) (r.rep k.toNat) (by rw[len_rep,Nat.mul_comm];exact hz),rfl,q _ I.fresh⟩
end
section
variable {prog:Program} {w:World} {A:Around} {E:Value→Shared→Prop} {s:Shared}
end
section
variable {X:Cx}
end
end L2
namespace Att
open PySem PySem.W PySem.Calls PyProof.Rows
theorem zDg{P:Params}{h:Heap}:∀(ns:List Int) (vs:List Value),WellAll P h vs (ns.map WData.int)→IntsAre vs ns:=by
 intro ns
 induction ns with
 | nil =>
  intro vs w
  rw[List.map_nil] at w
  cases w
  exact .nil
 | cons n ns ih =>
  intro vs w
  rw[List.map_cons] at w
  cases w with
  | cons a b =>
   cases a
   exact .cons _ _ (ih _ b)
theorem zJC{l:OpenLaw}{n:Nat}(hn:l.most=some n){P:Params}{h:Heap}{args:List WData}{vals:List Value}
  (hpre:l.row.toRowW.claim.pre args=true) (hwl:WellAll P h vals args) :
  ∃ a vs ns,vals=[Value.ref a]∧args=[WData.list (ns.map WData.int)]∧h.get? a=some { cls:=.type "list",data:=.seq vs.toArray }∧IntsAre vs ns∧ns.length≤n:=by
 have hsh:WShape.hasAll [] args [.list .int]=true:=(pre_splitW hpre).1
 have hc:l.pre.holds [] { args:=args }=true:=(pre_splitW hpre).2
 obtain⟨d,r,rfl,h1,h2⟩:=hasAllW_cons hsh
 obtain rfl:=hasAllW_nil h2
 obtain⟨xs,rfl,h3⟩:=hasW_list h1
 obtain⟨ns,rfl⟩:=items_int h3
 have hlen:ns.length≤n:=by
  unfold OpenLaw.pre at hc
  have h4:(WTm.not (.lt (.lit (.int (n:Int))) (.len (.arg 0)))).holds [] { args:=[.list (ns.map .int)] }=true:=by
   have h4:=(holds_andW hc).1
   rw[hn] at h4
   exact h4
  have h5:=condW_of h4 (w_not (w_lt w_lit (w_len_list (w_arg rfl))))
  rw[List.length_map] at h5
  refine Nat.le_of_not_lt fun q=>?_
  have q':(n:Int)<((ns.length:Nat):Int):=by (first|lia|omega)
  first
   | (rw[decide_eq_true q'] at h5;exact absurd h5 (by decide))
   | (simp at h5;(first|lia|omega))
 cases hwl with
 | cons w1 w2 =>
  cases w2
  cases w1 with
  | list ho hall=>exact⟨_,_,ns,rfl,rfl,ho,zDg ns _ hall,hlen⟩
theorem zJD(l:OpenLaw)(args:List WData):l.row.toRowW.claim.post args (.bool true) args=true :=
 postW_of (r:=l.row.toRowW) (X:=(true==true))
  (show WShape.has [] (.bool true) .bool=true by first | rfl | decide | simp[WShape.has,WShape.arms,WShape.armsAll])
  (show(WTm.eq .res (.lit (.bool true))).value [] { args:=args,res:=some (.bool true),after:=args }=some (.bool (true==true)) from w_eq_bool (w_res rfl) w_lit) rfl
theorem zGO{l:OpenLaw}{n:Nat}{q:Program}{loose:List Str}{XP:(Str→Option Value)→Heap→Prop}{YP:World→Heap→Prop}{d:DefRec}
  (hn:l.most=some n) (hdf:d.params.defaults=[])
  (call:∀(w:World) (s₀ s₁:Shared) (mg mb:Str→Option Value) (fa:Addr) (o:Obj) (pm cd doc:Value) (a:Addr) (vs:List Value) (ns:List Int),
   Ground q loose [] XP w s₀ mg mb s₁.heap→YP w s₁.heap →
   s₁.heap.get? fa=some o→o.data=.func (docDef d.name d.params d.body d.scope pm cd doc)→s₁.heap.CodeRec cd d.name→mg d.name=some (.ref fa) →
   s₁.heap.get? a=some { cls:=.type "list",data:=.seq vs.toArray }→IntsAre vs ns→ns.length≤n→s₁.gens=#[] →
   codeAny (model l.prog w) callerA (.call (.ref fa) ⟨[.ref a],[]⟩) (fun r s'=>r=.ok (.ret (.bool true))∧OldK s₁.heap s'.heap∧s'.os=s₁.os∧AllBare s'.gens) s₁) :
  WalkO q loose XP YP l.row.toRowW d [] (fun f vs=>PySem.call f vs):=by
 intro w s₀ s₁ mg mb G Y fa o pm cd doc dV kV ho hd hcd hD hmg hg args vals as hpre hlay hrd hwl hlo
 obtain rfl:dV=.none:=Dflts.none hD hdf
 obtain rfl:kV=.none:=Dflts.noKw hD
 obtain⟨a,vs,ns,rfl,rfl,hobj,hints,hlen⟩:=zJC hn hpre hwl
 refine enter_call (codeAny_mono (call w s₀ s₁ mg mb fa o pm cd doc a vs ns G Y ho (fd_plain hd) hcd hmg hobj hints hlen hg) fun r s' hq=>?_)
 obtain⟨rfl,h2,h3,h4⟩:=hq
 exact⟨.inl ⟨.bool true,.bool true,[],rfl,fun u0=>rfl,.bool true,zJD l _,fun u0=>⟨List.Pairwise.nil,fun u0 hm=>(nomatch hm)⟩⟩,h2,h3,h4⟩
section
variable {prog:Program} {w:World} {A:Around} {E:Value→Shared→Prop} {s:Shared} {K:Frag}
end
end Att
namespace L2
open PySem PySem.Spec PyProof.Rows
theorem zBo:∀ {vs:List Value} {ns:List Int},IntsAre vs ns→zR (ns.map V.int) vs
 | _,_,.nil=>.nil
 | _,_,.cons n t h=>.cons ⟨t,rfl⟩ (zBo h)
noncomputable def zLk(H:Hp):Prop:=∀ b,H b=none∨(∃ o xs,H b=some (.frz o (.lst xs)))∨∃ ps,H b=some (.tbl ps)
structure TabsAt (K:PySem.W.Frag) (h:Heap) (ts:List Addr) (qn:Addr→Str):Prop where
 obj:∀ P∈ts,h.get? P=some (PySem.W.tabObj #[])
 out:∀ P∈ts,K.lookup P=none
 code:∀ P∈ts,isCodeTable h P
 name:∀ x∈zIE,∀ c b,PySem.W.tabIn K x=some (c,b)→b∈ts∧qn b=x++".<locals>.<lambda>"
theorem zKB{P':Program}{w:World}{K:PySem.W.Frag}{mg mb:Str→Option Value}{CX:CXT}{k:Nat}{fa a:Addr}{fd:FuncData}{x:Str}{sp:Sp}{s₁:Shared}{vs:List Value}{ns:List Int}{ts:List Addr}{qn:Addr→Str}
  (TB:TabsAt K s₁.heap ts qn) (KX:K.In s₁.heap) (hns:s₁.heap.Ns mainGlobals mg) (hb:s₁.heap.Ns builtinsNs mb) (hbb:∀ x:Str,x≠"__name__"→mb x=bootBuiltins x) (hlim:s₁.heap.NoLimit) (hg:s₁.gens=#[])
  (ha:s₁.heap.get? a=some { cls:=.type "list",data:=.seq vs.toArray }) (hi:IntsAre vs ns) (hl:ns.length≤sizeLine) (hr:yo k callerA)
  (F:∀ base:Heap,K.In base→base.Ns mainGlobals mg→zBP P' w K mg base CX k fa fd [x] sp) (hbind:∀(s:Shared) (u:Value),BindsTo s fd ⟨[u],[]⟩ [(x,u)])
  (hsp:∀ H:Hp,zLk H→SqL K H a (ns.map V.int)→sp [.ref a] H (fun v u0=>v=.bl true) fun u0 u0 u0=>False)
  (hCX:∀ H e s',CX [] H s₁ (fun u0 u0 u0=>False) e s'→False) :
  codeAny (model P' w) callerA (.call (.ref fa) ⟨[.ref a],[]⟩) (fun r s'=>r=.ok (.ret (.bool true))∧OldK s₁.heap s'.heap∧s'.os=s₁.os∧AllBare s'.gens) s₁:=by
 have rv:=zBo hi
 have lenV:=hi.length
 -- from an abstract heap in which nothing but the script may be tracked
 have core:∀ H:Hp,zLk H→SqL K H a (ns.map V.int)→HOk P' w H s₁.heap→(∀ b,H b≠none→b=a∨b∈ts)→(H a≠none→K.lookup a=none)→(∀ P∈ts,H P=some (.tbl #[.str (qn P) 0])) →
   codeAny (model P' w) callerA (.call (.ref fa) ⟨[.ref a],[]⟩) (fun r s'=>r=.ok (.ret (.bool true))∧OldK s₁.heap s'.heap∧s'.os=s₁.os∧AllBare s'.gens) s₁:=by
  intro H hO hS hok hA hK hT
  have base_of:∀ {b:Addr} {o:Obj},s₁.heap.get? b=some o→H b=none→(zFi s₁.heap H).get? b=some o:=fun e n=>zJu e n
  have noA:∀ {b:Addr} {o:Obj} {es:Array DictEntry} {ep:Nat},s₁.heap.get? b=some o→o.data=.dict es ep→H b=none:=fun {b o es ep} e d=>by
   cases q:H b with
   | none=>rfl
   | some u =>
    rcases hA b (by rw[q];simp) with e' | e'
    ·subst e'
     rw[ha] at e;cases e
     have d':Data.seq vs.toArray _=Data.dict es ep:=d
     cases d'
    ·rw[TB.obj b e'] at e;cases e
     have d':Data.fields #[]=Data.dict es ep:=d
     cases d'
  have nsK:∀ {b:Addr} {m:Str→Option Value},s₁.heap.Ns b m→(zFi s₁.heap H).Ns b m:=fun {b m} ⟨o,es,ep,e,d,r⟩=>⟨o,es,ep,base_of e (noA e d),d,r⟩
  have hKb:K.In (zFi s₁.heap H):=fun b o e=>base_of (KX b o e) (by
   cases q:H b with
   | none=>rfl
   | some u =>
    rcases hA b (by rw[q];simp) with e' | e'
    ·subst e'
     rw[hK (by rw[q];simp)] at e;cases e
    ·rw[TB.out b e'] at e;cases e)
  have hM:Mod K mg (zFi s₁.heap H):=⟨hKb,nsK hns,⟨mb,nsK hb,hbb⟩,let ⟨mc,h1,h2⟩:=hlim;⟨mc,nsK h1,h2⟩⟩
  have e0:zHJ P' w K mg (zFi s₁.heap H) callerA [] s₁ H:=⟨rfl,hM,fun b o e=>zLP e,Nat.le_of_eq (zI2 _ _),trivial,fun b hb=>absurd (show b∈([]:List Addr) from hb) (by simp),hok,.of_eq hg,fun x hx c b e=>by
   obtain⟨z1,z2⟩:=TB.name x hx c b e
   exact⟨0,by rw[← z2];exact hT b z1⟩⟩
  refine codeAny_mono ((F _ hKb (nsK hns)).run callerA [] s₁ H ⟨[.ref a],[]⟩ [.ref a] [.ref a] _ _ hr e0 (hbind s₁ (.ref a)) (.cons rfl .nil) (hsp H hO hS)) fun r s' h=>?_
  cases r with
  | error e=>exact(hCX H e s' h).elim
  | ok fl =>
   cases fl with
   | next=>exact False.elim h
   | brk=>exact False.elim h
   | cont=>exact False.elim h
   | ret u =>
    obtain⟨v,H',os,bare,un,hok',r',q⟩:=h
    have q':v=.bl true:=q
    subst q'
    obtain rfl:u=Value.bool true:=r'
    have K1:∀ b o,b∉ts→s₁.heap.get? b=some o→s'.heap.get? b=some o:=fun b o hb e=>by
     cases q:H b with
     | none=>exact un.keep b o e q (by intro z;exact absurd (show b∈([]:List Addr) from z) (by simp)) (by simp)
     | some u =>
      rcases hO b with z | ⟨ob,xs,z⟩ | ⟨ps,z⟩
      ·rw[q] at z;cases z
      ·have z2:=un.frzs b ob _ z
       obtain⟨e1,u0⟩:=hok b _ z
       obtain⟨e2,u0⟩:=hok' b _ z2
       rw[e] at e1;cases e1
       exact e2
      ·rcases hA b (by rw[q];simp) with e' | e'
       ·obtain⟨u0,u0,u0,u0,w1,u0⟩:=hok b _ z
        rw[e',ha] at w1;cases w1
       ·exact absurd e' hb
    have K2:∀ b,b∈ts→∃ vs,s'.heap.get? b=some (PySem.W.tabObj vs):=fun b hb=>by
     have z2:=un.tbls b _ (hT b hb)
     obtain⟨u0,u0,vs,u0,w1,u0⟩:=hok' b _ z2
     exact⟨vs,w1⟩
    refine⟨rfl,⟨fun b o e=>?_,fun b o e=>?_⟩,os,bare⟩
    ·by_cases hb:b∈ts
     ·obtain⟨vs,w1⟩:=K2 b hb
      rw[TB.obj b hb] at e
      cases e
      exact .inr (.inl ⟨TB.code b hb,rfl,#[],vs,rfl,by simpa using w1⟩)
     ·exact .inl (K1 b o hb e)
    ·by_cases hb:b∈ts
     ·obtain⟨vs,w1⟩:=K2 b hb
      exact⟨_,w1⟩
     ·exact⟨o,K1 b o hb e⟩
 have naT:∀ P∈ts,P≠a:=fun P hP z=>by
  have e:=TB.obj P hP
  rw[z,ha] at e;cases e
 have tok:∀(H:Hp),∀ P∈ts,wA P' w H s₁.heap P (.tbl #[.str (qn P) 0]):=fun H P hP=>⟨qn P,0,#[],rfl,TB.obj P hP,trivial,fun pos cv e=>by cases e⟩
 cases hk:K.lookup a with
 | some o =>
  -- the script is one of the module's own objects
  have e:=KX a o hk
  rw[ha] at e
  cases e
  refine core (fun b=>if b∈ts then some (.tbl #[.str (qn b) 0]) else none) (fun b=>?_) (.inr ⟨_,vs.toArray,_,hk,rfl,rfl,rfl,by rw[List.size_toArray,lenV];exact hl,by simpa using rv⟩) (fun b u z=>?_) (fun b z=>?_) (fun z=>?_) fun P hP=>if_pos hP
  ·by_cases hb:b∈ts
   ·exact .inr (.inr ⟨_,if_pos hb⟩)
   ·exact .inl (if_neg hb)
  ·by_cases hb:b∈ts
   ·have z':=(if_pos hb).symm.trans z
    cases z'
    exact tok _ b hb
   ·have z':=(if_neg hb).symm.trans z
    cases z'
  ·by_cases hb:b∈ts
   ·exact .inr hb
   ·exact absurd (if_neg hb) z
  ·by_cases hb:a∈ts
   ·exact absurd rfl (naT a hb)
   ·exact absurd (if_neg hb) z
 | none =>
  refine core (fun b=>if b=a then some (.frz { cls:=.type "list",data:=.seq vs.toArray } (.lst (ns.map V.int))) else if b∈ts then some (.tbl #[.str (qn b) 0]) else none) (fun b=>?_) (.inl (.inr ⟨{ cls:=.type "list",data:=.seq vs.toArray },if_pos rfl⟩)) (fun b u z=>?_) (fun b z=>?_) (fun u0=>hk) fun P hP=>?_
  ·by_cases hb:b=a
   ·exact .inr (.inl ⟨_,_,if_pos hb⟩)
   ·by_cases hb2:b∈ts
    ·exact .inr (.inr ⟨_,(if_neg hb).trans (if_pos hb2)⟩)
    ·exact .inl ((if_neg hb).trans (if_neg hb2))
  ·by_cases hb:b=a
   ·have z':=(if_pos hb).symm.trans z
    cases z'
    subst hb
    exact⟨ha,by rw[List.length_map];exact hl,vs,_,rv,ha⟩
   ·by_cases hb2:b∈ts
    ·have z':=((if_neg hb).trans (if_pos hb2)).symm.trans z
     cases z'
     exact tok _ b hb2
    ·have z':=((if_neg hb).trans (if_neg hb2)).symm.trans z
     cases z'
  ·by_cases hb:b=a
   ·exact .inl hb
   ·by_cases hb2:b∈ts
    ·exact .inr hb2
    ·exact absurd ((if_neg hb).trans (if_neg hb2)) z
  ·exact(if_neg (naT P hP)).trans (if_pos hP)
end L2
namespace L2
open PySem PySem.Spec PyProof.Rows
theorem zLl{l:PySem.W.OpenLaw}{n k:Nat}{q:Program}{loose:List Str}{XP:(Str→Option Value)→Heap→Prop}{YP:World→Heap→Prop}{d:DefRec}{K:Params→PySem.W.Frag}{CX:World→CXT}{sp:World→Sp}{x:Str}
  (hn:l.most=some n) (hn2:n≤sizeLine) (hdf:d.params.defaults=[]) (hr:yo k callerA)
  (hY:∀(w:World) (h:Heap),YP w h→(K w.params).In h∧∃ ts qn,TabsAt (K w.params) h ts qn)
  (F:∀(w:World) (mg:Str→Option Value) (fa:Addr) (h:Heap),(K w.params).In h→h.Ns mainGlobals mg→mg d.name=some (.ref fa) →
   ∃ fd:FuncData,(∀(s:Shared) (u:Value),BindsTo s fd ⟨[u],[]⟩ [(x,u)]) ∧
    ∀ base:Heap,(K w.params).In base→base.Ns mainGlobals mg→zBP l.prog w (K w.params) mg base (CX w) k fa fd [x] (sp w))
  (hsp:∀(w:World) (H:Hp) (a:Addr) (ns:List Int),ns.length≤n→zLk H→SqL (K w.params) H a (ns.map V.int)→sp w [.ref a] H (fun v u0=>v=.bl true) fun u0 u0 u0=>False)
  (hCX:∀(w:World) (H:Hp) (s:Shared) (e:Value) (s':Shared),CX w [] H s (fun u0 u0 u0=>False) e s'→False) :
  PySem.W.WalkO q loose XP YP l.row.toRowW d [] (fun f vs=>PySem.call f vs):=by
 refine Att.zGO hn hdf fun w s₀ s₁ mg mb fa o pm cd doc a vs ns G Y ho hd hcd hmg hobj hints hlen hg=>?_
 obtain⟨KX,ts,qn,TB⟩:=hY w _ Y
 obtain⟨fd,hb,hF⟩:=F w mg fa _ KX G.T.g hmg
 exact zKB TB KX G.T.g G.T.b G.T.builtins G.T.nolimit hg hobj hints (Nat.le_trans hlen hn2) hr hF hb (fun H hO hS=>hsp w H a ns hlen hO hS) fun H e s'=>hCX w H s₁ e s'
end L2
namespace L2
open PySem PySem.Spec PyProof.Rows
noncomputable def ze(s:Stmt):Arguments:=match s with
 | .FunctionDef _ a _ _ _ _ _ _ _ _=>a
 | _=>{ posonlyargs:=[],args:=[],vararg:=none,kwonlyargs:=[],kw_defaults:=[],kwarg:=none,defaults:=[] }
noncomputable def zY(s:Stmt):List Stmt:=match s with
 | .FunctionDef _ _ b _ _ _ _ _ _ _=>b
 | _=>[]
noncomputable def zF(s:Stmt):Scope:=match s with
 | .FunctionDef _ _ _ _ _ _ sc _ _ _=>sc
 | _=>{ kind:=.function,names:=[],isGenerator:=false,isCoroutine:=false }
noncomputable abbrev CX0:CXT:=fun u0 u0 u0 u0 u0 u0=>False
noncomputable abbrev E0:XK:=fun u0 u0 u0=>False
theorem zMm{X:Cx}:zHK CX0 X E0:=fun u0 u0 u0 u0 u0 u0 u0 h=>h.elim
structure Fun (K:PySem.W.Frag) (x qual:Str) (st:Stmt) (f:Addr) (fd:FuncData):Prop where
 ex:∃(oc:Value) (od:Option Addr) (kV doc pm:Value) (an:Option Addr) (cdv ct:Value) (osl:Array (Option Value)),
  fd=PySem.W.fnOf x qual (ze st) (zY st) (zF st) .none kV doc pm an cdv ct∧K.lookup f=some ⟨oc,od,.func fd,osl⟩∧PySem.W.codeIn K cdv qual=true
 kp:PySem.W.keepIn K (.ref f)=true
section
variable {P:Program} {w:World} {K:PySem.W.Frag} {mg:Str→Option Value} {base:Heap}
theorem Fun.ok{x qual:Str}{st:Stmt}{f:Addr}{fd:FuncData}{N ps:List Str}{k:Nat}{sp:Sp}(F:Fun K x qual st f fd)(S:zc N ps (zF st))(len:∀ vs H Q E,sp vs H Q E→vs.length=ps.length)
  (hbody:∀(cdv:Value) (A:Around) (outer:List Env) (s:Shared) (H:Hp) (vs:List V) (Q:VK) (E:XK),yo k (A.deeper (envOfC qual (zF st) s.heap.objs.size f cdv))→sp vs H Q E →
   ∃ t,PSs (zFk CX0 P w K mg base N qual (zF st) f cdv A outer s H E).nox (zY st) t∧t { nx:=fun u0 H'=>Q .non H',rt:=Q } (start N vs) H):zBP P w K mg base CX0 (k+1) f fd ps sp:=by
 obtain⟨oc,od,kV,doc,pm,an,cdv,ct,osl,rfl,lk,hcd⟩:=F.ex
 refine zOg lk hcd S len fun A outer s H vs Q E hr hsp=>?_
 obtain⟨t,h,q⟩:=hbody cdv A outer s H vs Q E hr hsp
 exact⟨t,h.nox,q⟩
theorem Fun.binds{x qual:Str}{st:Stmt}{f:Addr}{fd:FuncData}{ps:List Str}(F:Fun K x qual st f fd)
  (h:∀(kV doc pm:Value) (an:Option Addr) (cdv ct:Value) (us:List Value),us.length=ps.length→bindArgs (PySem.W.fnOf x qual (ze st) (zY st) (zF st) .none kV doc pm an cdv ct) ⟨us,[]⟩=pure (ps.zip us)):Binds K fd ps []:=by
 obtain⟨oc,od,kV,doc,pm,an,cdv,ct,osl,rfl,lk,hcd⟩:=F.ex
 exact .all (h kV doc pm an cdv ct)
theorem yG{x qual:Str}{st:Stmt}{f:Addr}{oc:Value}{od an:Option Addr}{osl:Array (Option Value)}{kV doc pm cdv ct:Value}(l:K.lookup f=some ⟨oc,od,.func (PySem.W.fnOf x qual (ze st) (zY st) (zF st) .none kV doc pm an cdv ct),osl⟩)
  (c:PySem.W.codeIn K cdv qual=true) (k:PySem.W.keepIn K (.ref f)=true):Fun K x qual st f (PySem.W.fnOf x qual (ze st) (zY st) (zF st) .none kV doc pm an cdv ct):=⟨⟨oc,od,kV,doc,pm,an,cdv,ct,osl,rfl,l,c⟩,k⟩
end
section
variable {X:Cx}
theorem pv(i:Nat){x:Str}{pos:Pos}(hN:X.N[i]?=some x:=by rfl)(hv:Vis X.env.scope x:=by first | exact Or.inl rfl | exact Or.inr (Or.inl rfl) | exact Or.inr (Or.inr rfl))(hd:(x==("__debug__":Str))=false:=by decide)
  (hcd:(x==("__classdict__":Str))=false:=by decide):PE X (.Name x pos) (zOQ i):=zJv hN hv hd hcd
end
end L2
namespace K
end K
namespace K
end K
set_option maxHeartbeats 4000000
namespace L2
open PySem PySem.Spec PyProof.Rows
noncomputable def zC5(env:Env):List (Str×NameKind)→List (Str×Addr)→List (Str×Addr)
 | [],cs=>cs
 | (n,k)::r,cs=>zC5 env r (if k==.free then match env.cells.lookup n with | some a=>(n,a)::cs | none=>cs else cs)
noncomputable def zJE(sc:Scope)(env:Env):List (Str×Addr):=zC5 env sc.names []
theorem zFG{env:Env}:∀ {ns:List (Str×NameKind)} {cs:List (Str×Addr)} {x:Str} {c:Addr},(∀ y a,cs.lookup y=some a→env.cells.lookup y=some a)→(zC5 env ns cs).lookup x=some c→env.cells.lookup x=some c
 | [],_,_,_,h,e=>h _ _ e
 | (n,k)::r,cs,x,c,h,e=>by
  unfold zC5 at e
  refine zFG (ns:=r) (fun y a q=>?_) e
  by_cases hk:(k==NameKind.free)=true
  ·rw[if_pos hk] at q
   cases hc:env.cells.lookup n with
   | none=>rw[hc] at q;exact h y a q
   | some d =>
    rw[hc] at q
    cases hy:y==n with
    | true =>
     simp only[List.lookup_cons,hy] at q
     have:y=n:=by simpa using hy
     rw[this,hc];exact q
    | false =>
     simp only[List.lookup_cons,hy] at q
     exact h y a q
  ·rw[if_neg hk] at q;exact h y a q
theorem zJF{sc:Scope}{env:Env}{x:Str}{c:Addr}(e:(zJE sc env).lookup x=some c):env.cells.lookup x=some c :=
 zFG (fun u0 u0 q=>by simp at q) e
theorem zD4{env:Env}:∀ {ns:List (Str×NameKind)} {cs:List (Str×Addr)} {x:Str},(∀ y∈ns,y.2=.free→∃ c,env.cells.lookup y.1=some c)→((∃ c,cs.lookup x=some c)∨(x,NameKind.free)∈ns)→∃ c,(zC5 env ns cs).lookup x=some c
 | [],cs,x,_,h=>by
  rcases h with h | h
  ·exact h
  ·cases h
 | (n,k)::r,cs,x,hh,h=>by
  unfold zC5
  refine zD4 (ns:=r) (fun y hy=>hh y (List.mem_cons_of_mem _ hy)) ?_
  by_cases hk:k=.free
  ·subst hk
   obtain⟨c,hc⟩:=hh (n,.free) List.mem_cons_self rfl
   have hc':env.cells.lookup n=some c:=hc
   simp only[beq_self_eq_true,if_true,hc']
   cases hx:x==n with
   | true=>exact .inl ⟨c,by simp[List.lookup_cons,hx]⟩
   | false =>
    rcases h with ⟨d,h⟩ | h
    ·exact .inl ⟨d,by simp[List.lookup_cons,hx,h]⟩
    ·rcases List.mem_cons.mp h with e | h
     ·injection e with e1 _
      subst e1;simp at hx
     ·exact .inr h
  ·have hb:(k==NameKind.free)=false:=by simpa using hk
   simp only[hb,Bool.false_eq_true,if_false]
   rcases h with h | h
   ·exact .inl h
   ·rcases List.mem_cons.mp h with e | h
    ·injection e with _ e2
     exact absurd e2.symm hk
    ·exact .inr h
theorem zGP{env:Env}:∀ {ns:List (Str×NameKind)} {cs:List (Str×Addr)},(∀ y∈ns,y.2=.free→∃ c,env.cells.lookup y.1=some c) →
  (forIn ns cs fun(x:Str×NameKind) (r:List (Str×Addr))=>if (x.2==NameKind.free)=true then (do let a ← cellOf env x.1;pure (ForInStep.yield ((x.1,a)::r)):Sem _) else pure (ForInStep.yield r))=(pure (zC5 env ns cs):Sem _)
 | [],_,_=>rfl
 | (n,k)::r,cs,hh=>by
  rw[List.forIn_cons]
  have ih:=fun cs'=>zGP (env:=env) (ns:=r) (cs:=cs') fun y hy=>hh y (List.mem_cons_of_mem _ hy)
  by_cases hk:k=.free
  ·subst hk
   obtain⟨c,hc⟩:=hh (n,.free) List.mem_cons_self rfl
   have hc':env.cells.lookup n=some c:=hc
   have e:cellOf env n=pure c:=by unfold cellOf;rw[hc']
   simp only[beq_self_eq_true,if_true,e,pure_bind]
   rw[ih]
   have q:zC5 env ((n,NameKind.free)::r) cs=zC5 env r ((n,c)::cs):=by simp only[zC5,beq_self_eq_true,if_true,hc']
   rw[q]
  ·have hb:(k==NameKind.free)=false:=by simpa using hk
   simp only[hb,Bool.false_eq_true,if_false,pure_bind]
   rw[ih]
   have q:zC5 env ((n,k)::r) cs=zC5 env r cs:=by simp only[zC5,hb,Bool.false_eq_true,if_false]
   rw[q]
theorem zB9{sc:Scope}{env:Env}(hh:∀ y∈sc.names,y.2=.free→∃ c,env.cells.lookup y.1=some c):closureFor sc env=pure (zJE sc env):=by
 have e:=zGP (env:=env) (ns:=sc.names) (cs:=[]) hh
 unfold closureFor
 show(forIn sc.names [] (fun(x:Str×NameKind) (r:List (Str×Addr))=>(match x with | (name,kind)=>if (kind==NameKind.free)=true then (do let a ← cellOf env name;pure (ForInStep.yield ((name,a)::r))) else pure (ForInStep.yield r):Sem (ForInStep (List (Str×Addr)))))>>=fun s=>pure s)=_
 have hb:(fun(x:Str×NameKind) (r:List (Str×Addr))=>(match x with | (name,kind)=>if (kind==NameKind.free)=true then (do let a ← cellOf env name;pure (ForInStep.yield ((name,a)::r))) else pure (ForInStep.yield r):Sem (ForInStep (List (Str×Addr))))) =
   fun(x:Str×NameKind) (r:List (Str×Addr))=>if (x.2==NameKind.free)=true then (do let a ← cellOf env x.1;pure (ForInStep.yield ((x.1,a)::r)):Sem _) else pure (ForInStep.yield r):=by
  funext x r
  obtain⟨n,k⟩:=x
  rfl
 rw[hb,e]
 rfl
noncomputable def Cx.comp(X:Cx)(N':List Str)(sc:Scope)(C:Addr)(s:Shared)(H:Hp)(fp:List Addr)(pins:List (Addr×Obj)):Cx :=
 { X with N:=N',s₀:=s,H₀:=H,env:=compEnvC sc (zJE sc X.env) C X.env,outer:=X.stack,ex:=fp,fn:=fun u0=>false,pn:=X.pn++pins,xe:=fun u0 u0=>False }
noncomputable def PTs(X:Cx)(ifs:List Expr)(t:TT):Prop :=
 ∀(pins:List (Addr×Obj)) (s:Shared) (σ:St) (H:Hp) (Q:Bool→Hp→Prop),zP X pins σ H s→t σ H Q →
  wpAny (model X.prog X.w) X.A (forIn ifs true fun c r=>if r=true then do let ok ← isTrue c X.env (eval c X.env);pure (ForInStep.yield ok) else pure (ForInStep.yield r)) (TP X pins σ Q) X.xe s
noncomputable def zPT:TT:=fun u0 H Q=>Q true H
theorem zLm{X:Cx}:PTs X [] zPT:=fun u0 u0 u0 H u0 I h=>wpAny_tests_nil ⟨H,I,h⟩
theorem zLn{X:Cx}{c:Expr}{t:TT}(h:PT X c t):PTs X [c] t:=fun pins s σ H Q I hq=>wpAny_tests_one (h pins s σ H Q I hq)
noncomputable def zKC(n0:Nat)(wi:TI)(g:TG)(tc:TT)(te:TE):TE:=fun σ H Q=>wi σ H fun J H1=>∀ D,H1 D=none→∃ W:Nat→Nat→Hp→Prop,(∃ m,W 0 m (yz H1 D (.lst []))) ∧
 ∀ i m H2,W i m H2→(J.stop i H2∧Q (.ref D) H2) ∨
  (J.go i H2∧∀ x H3,J.yld i H2 x H3→g x (σ++List.replicate n0 none) H3 fun σ4 H4=>σ4.take σ.length=σ∧σ4.length=σ.length+n0∧tc σ4 H4 fun b H5 =>
   if b=true then te σ4 H5 fun v H6=>∃ acc,H6 D=some (.lst acc)∧acc.length<sizeLine∧∃ m',m'<m∧W (i+1) m' (yz H6 D (.lst (acc++[v]))) else ∃ m',m'<m∧W (i+1) m' H5)
theorem PE.mono{X:Cx}{e:Expr}{t t':TE}(h:PE X e t)(hm:∀ σ H Q,t' σ H Q→t σ H Q):PE X e t':=fun pins s σ H Q I q=>h pins s σ H Q I (hm σ H Q q)
theorem PT.mono{X:Cx}{e:Expr}{t t':TT}(h:PT X e t)(hm:∀ σ H Q,t' σ H Q→t σ H Q):PT X e t':=fun pins s σ H Q I q=>h pins s σ H Q I (hm σ H Q q)
theorem PS.mono{X:Cx}{e:Stmt}{t t':TS}(h:PS X e t)(hm:∀ D σ H,t' D σ H→t D σ H):PS X e t':=fun pins s σ H D I q=>h pins s σ H D I (hm D σ H q)
section
variable {X:Cx} {tg elt iter:Expr} {ifs:List Expr} {sc:Scope} {pos:Pos} {N0 own:List Str} {wi:TI} {g:TG} {tc:TT} {te:TE}
structure zCH (X:Cx) (sc:Scope) (N0:List Str):Prop where
 kind:sc.kind=.function
 cell:∀ y∈sc.names,y.2≠.cell
 names:∀ y∈sc.names,y.2=.local→sc.names.lookup y.1=some .local
 cap:∀ y∈sc.names,y.2=.free→X.env.kindOf y.1=some .cell∨X.env.kindOf y.1=some .free
 len:N0.length=X.N.length
 vis:∀(i:Nat) (x:Str),N0[i]?=some x→Vis (relabel sc X.env) x→X.N[i]?=some x∧sc.names.lookup x=some .free
theorem zAZ{env:Env}:∀ {names:List (Str×NameKind)} {x:Str},(∀ y∈names,y.2≠.cell) →
    ((names.map fun(n,k)=>if (k==NameKind.free&&env.scope.kind==.function&&env.kindOf n==some .cell) then (n,NameKind.cell) else (n,k)).lookup x=some .cell ∨
     (names.map fun(n,k)=>if (k==NameKind.free&&env.scope.kind==.function&&env.kindOf n==some .cell) then (n,NameKind.cell) else (n,k)).lookup x=some .free)→names.lookup x=some .free
  | [],_,_,h=>by rcases h with h | h<;>simp at h
  | (n,k)::r,x,hc,h=>by
    have ih:=@zAZ env r x fun y hy=>hc y (List.mem_cons_of_mem _ hy)
    have hk:k≠.cell:=hc (n,k) List.mem_cons_self
    have hd:∀(z:NameKind),(((n,k)::r).map fun(n,k)=>if (k==NameKind.free&&env.scope.kind==.function&&env.kindOf n==some .cell) then (n,NameKind.cell) else (n,k)).lookup x=some z →
        if (x==n)=true then (if (k==NameKind.free&&env.scope.kind==.function&&env.kindOf n==some .cell)=true then z=.cell else z=k) else (r.map fun(n,k)=>if (k==NameKind.free&&env.scope.kind==.function&&env.kindOf n==some .cell) then (n,NameKind.cell) else (n,k)).lookup x=some z:=by
      intro z e
      have e':List.lookup x ((if (k==NameKind.free&&env.scope.kind==.function&&env.kindOf n==some .cell)=true then (n,NameKind.cell) else (n,k))::(r.map fun(n,k)=>if (k==NameKind.free&&env.scope.kind==.function&&env.kindOf n==some .cell) then (n,NameKind.cell) else (n,k)))=some z:=e
      cases hx:x==n with
      | true =>
        rw[if_pos rfl]
        by_cases hq:(k==NameKind.free&&env.scope.kind==.function&&env.kindOf n==some .cell)=true
        · rw[if_pos hq] at e' ⊢
          simp only[List.lookup_cons,hx] at e'
          exact(Option.some.inj e').symm
        · rw[if_neg hq] at e' ⊢
          simp only[List.lookup_cons,hx] at e'
          exact(Option.some.inj e').symm
      | false =>
        rw[if_neg (by simp)]
        by_cases hq:(k==NameKind.free&&env.scope.kind==.function&&env.kindOf n==some .cell)=true
        · rw[if_pos hq] at e';simpa only[List.lookup_cons,hx] using e'
        · rw[if_neg hq] at e';simpa only[List.lookup_cons,hx] using e'
    cases hx:x==n with
    | true =>
      simp only[List.lookup_cons,hx]
      rcases h with h | h
      · have q:=hd _ h
        rw[if_pos hx] at q
        by_cases hq:(k==NameKind.free&&env.scope.kind==.function&&env.kindOf n==some .cell)=true
        · have:(k==NameKind.free)=true:=by
            cases hk':k==NameKind.free with
            | true=>rfl
            | false=>simp[hk'] at hq
          have:k=.free:=by simpa using this
          rw[this]
        · rw[if_neg hq] at q;exact absurd q.symm hk
      · have q:=hd _ h
        rw[if_pos hx] at q
        by_cases hq:(k==NameKind.free&&env.scope.kind==.function&&env.kindOf n==some .cell)=true
        · rw[if_pos hq] at q;cases q
        · rw[if_neg hq] at q;rw[← q]
    | false =>
      simp only[List.lookup_cons,hx]
      refine ih ?_
      rcases h with h | h
      · have q:=hd _ h
        rw[if_neg (by simp[hx])] at q;exact .inl q
      · have q:=hd _ h
        rw[if_neg (by simp[hx])] at q;exact .inr q
theorem zD5{pins:List (Addr×Obj)}{σ:St}{s₂:Shared}{itv:Value}{Q:VK}{E:Value→Shared→Prop}(hc:X.calm=true)(T:zCH X sc N0)
  (hg:∀ C s H fp pins,PG (X.comp (N0++own) sc C s H fp pins) tg g) (ht:∀ C s H fp pins,PTs (X.comp (N0++own) sc C s H fp pins) ifs tc) (he:∀ C s H fp pins,PE (X.comp (N0++own) sc C s H fp pins) elt te)
  (h:PIE X pins σ tg (fun J H1=>∀ D,H1 D=none→∃ W:Nat→Nat→Hp→Prop,(∃ m,W 0 m (yz H1 D (.lst []))) ∧
   ∀ i m H2,W i m H2→(J.stop i H2∧Q (.ref D) H2) ∨
    (J.go i H2∧∀ x H3,J.yld i H2 x H3→g x (σ++List.replicate own.length none) H3 fun σ4 H4=>σ4.take σ.length=σ∧σ4.length=σ.length+own.length∧tc σ4 H4 fun b H5 =>
     if b=true then te σ4 H5 fun v H6=>∃ acc,H6 D=some (.lst acc)∧acc.length<sizeLine∧∃ m',m'<m∧W (i+1) m' (yz H6 D (.lst (acc++[v]))) else ∃ m',m'<m∧W (i+1) m' H5)) itv s₂) :
  wpAny (model X.prog X.w) X.A (newList []) (fun acc s₃=>wpAny (model X.prog X.w) X.A (newFunctionEnv sc X.env.globals (zJE sc X.env) [] X.env.qual none .none (some X.env)) (fun cenv s₄ =>
   codeAny (model X.prog X.w) X.A (.compStart (.ListComp elt [⟨tg,iter,ifs,0⟩] sc pos) 0 itv acc { cenv with scope:=relabel sc X.env })
    (fun r s'=>∃ D H' m,r=.ok .next∧acc=.ref D∧zP X pins σ H' s'∧zDz X pins H' cenv.locals∧s'.heap.Ns cenv.locals m∧Q (.ref D) H') s₄) E s₃) E s₂:=by
 obtain⟨it,fp,tn,J,H1,rfl,I2,Tn,st2,f2,hR⟩:=h
 refine wpAny_newObj_type (wpAny_newFunctionEnv T.cell (by intro y hy;simp at hy) (fun h₁ hns₁ hsb₁=>?_) T.kind)
 dsimp only at hns₁ hsb₁ ⊢
 generalize hH2:s₂.heap.push { cls:=.type "list",dict:=none,data:=.seq ([]:List Value).toArray }=h3 at hns₁ hsb₁ ⊢
 have hC:h3.objs.size=s₂.heap.objs.size+1:=by rw[← hH2,Heap.size_push]
 -- the list
 have I3:zP X pins σ (yz H1 s₂.heap.objs.size (.lst [])) { s₂ with heap:=h3 }:=by
  rw[← hH2]
  exact I2.laid (t':=s₂.toks) (fun b u e=>Heap.get?_push_of_some _ e) (Nat.le_refl _) ⟨by simp,[],0,.nil,Heap.get?_push_size _ rfl⟩
 have fD:H1 s₂.heap.objs.size=none:=I2.hok.fresh (Nat.le_refl _)
 obtain⟨W,⟨m0,w0⟩,turn⟩:=hR _ fD
 have kp:∀ b o,h3.get? b=some o→h₁.get? b=some o:=fun b o e=>hsb₁.extBut b o (Nat.ne_of_lt (Heap.lt_size e)) (Heap.get?_push_of_some _ e)
 have fp2:∀ b∈fp,b<s₂.heap.objs.size:=fun b hb=>by
  obtain⟨o,e,u0⟩:=Tn.obj _ _ st2 b hb
  exact Heap.lt_size e
 -- the block's context
 have CK:∀ x c,(zJE sc X.env).lookup x=some c→X.env.cells.lookup x=some c:=fun x c e=>zJF e
 have nofs:∀ {b:Addr},h3.objs.size≤b→b∉frs X.stack:=fun {b} hb z=>by
  rcases List.mem_cons.mp (I3.stkSub b z) with e | z
  ·exact absurd (Nat.lt_of_lt_of_le I3.lt (show h3.objs.size≤X.env.locals by rw[← e];exact hb)) (Nat.lt_irrefl _)
  ·exact I3.nofs (a:=b) hb z
 have fpS:∀ b∈fp,b∉frs X.stack:=fun b hb z=>by
  rcases List.mem_cons.mp (I3.stkSub b z) with e | z
  ·exact(f2 b hb).2.1 e
  ·exact(f2 b hb).2.2.1 z
 have fpD:∀ b∈fp,yz H1 s₂.heap.objs.size (.lst []) b=none:=fun b hb=>by rw[zv (Nat.ne_of_lt (fp2 b hb))];exact(f2 b hb).1
 have pinS:∀ p∈X.pn++pins,p.1∉frs X.stack:=fun p hp z=>by
  obtain⟨u0,u0,n1,n2,u0⟩:=I3.pin p hp
  rcases List.mem_cons.mp (I3.stkSub p.1 z) with e | z
  ·exact n1 e
  ·exact n2 z
 let X':=X.comp (N0++own) sc h3.objs.size { s₂ with heap:=h3 } (yz H1 s₂.heap.objs.size (.lst [])) fp pins
 have cells':∀ x,(X'.env.kindOf x=some .cell∨X'.env.kindOf x=some .free)→sc.names.lookup x=some .free:=fun x hx=>zAZ T.cell hx
 have hfree:∀ y∈sc.names,y.2=.free→∃ c,X.env.cells.lookup y.1=some c:=fun y hy hf=>I2.ok.has _ (T.cap y hy hf)
 have ok':X'.Ok:=by
  refine⟨I3.ok.mod,?_,I3.ok.glob,I3.ok.blt,Nat.le_refl _,fun x y c e1 e2=>I3.ok.inj x y c (CK _ _ e1) (CK _ _ e2),fun x hx=>?_,fun x c z=>(by cases z),I3.ok.hd,I3.ok.frames,.inl rfl,fun b hb=>⟨?_,fun x c e=>?_⟩,I3.bs,Nat.le_trans I3.ok.bsz I3.sz,fun b o e hb=>?_,fpS,I3.stack,I3.stkFree,I3.tabs⟩
  ·exact T.kind
  ·have hx':=cells' x hx
   exact zD4 hfree (.inr (PySem.mem_of_lookup hx'))
  ·exact Nat.ne_of_lt (Nat.lt_of_lt_of_le (fp2 b hb) (by show s₂.heap.objs.size≤h3.objs.size;rw[hC];exact Nat.le_succ _))
  ·exact(f2 b hb).2.2.2.2.1 x c (CK x c e)
  ·have:=(I3.bs b o e).1
   rcases(f2 b hb).2.2.2.1 with z | z
   ·exact I3.ok.noex b o e z
   ·have:=Nat.lt_of_lt_of_le (Heap.lt_size e) I3.ok.bsz
    exact absurd (Nat.lt_of_lt_of_le this z) (Nat.lt_irrefl _)
 have hlook:∀(i:Nat) (x:Str) (v:V),(N0++own)[i]?=some x→(σ++List.replicate own.length none)[i]?=some (some v)→Vis (relabel sc X.env) x→∃ c u,RelV v u∧X'.env.cells.lookup x=some c∧(X'.env.kindOf x=some .cell∨X'.env.kindOf x=some .free)∧h3.IsCell c (some u):=by
  intro i x v e1 e2 e3
  have hi:i<σ.length:=by
   by_cases hi:i<σ.length
   ·exact hi
   ·rw[List.getElem?_append_right (by (first|lia|omega)),List.getElem?_replicate] at e2
    split at e2<;>cases e2
  have e2':σ[i]?=some (some v):=by rw[List.getElem?_append_left hi] at e2;exact e2
  have hi0:i<N0.length:=by rw[T.len,← I3.len];exact hi
  have e1':N0[i]?=some x:=by rw[List.getElem?_append_left hi0] at e1;exact e1
  obtain⟨n1,n2⟩:=T.vis i x e1' e3
  have cp:=T.cap _ (PySem.mem_of_lookup n2) rfl
  obtain⟨m,hn,hl⟩:=I3.loc
  have vis:Vis X.env.scope x:=by
   rcases cp with z | z
   ·exact .inr (.inl z)
   ·exact .inr (.inr z)
  obtain⟨u,r,l⟩:=hl i x v n1 e2' vis
  obtain⟨c',hc'⟩:=zD4 (env:=X.env) (ns:=sc.names) (cs:=[]) (x:=x) hfree (.inr (PySem.mem_of_lookup n2))
  have hc2:(zJE sc X.env).lookup x=some c':=hc'
  rcases l with ⟨z,u0⟩ | ⟨u0,c,e,q⟩
  ·rcases cp with z' | z'<;>(rw[z] at z';cases z')
  ·have:c=c':=by
    have:=CK _ _ hc2
    rw[e] at this;exact Option.some.inj this
   subst this
   refine⟨c,u,r,hc2,?_,q⟩
   rcases e3 with z | z | z
   ·exfalso
    have:=lookup_relabel_local (env:=X.env) (names:=sc.names) (x:=x)
    -- a free name is not relabelled local
    have nl:∀ {names:List (Str×NameKind)},names.lookup x=some .free→(names.map fun(n,k)=>if (k==NameKind.free&&X.env.scope.kind==.function&&X.env.kindOf n==some .cell) then (n,NameKind.cell) else (n,k)).lookup x≠some .local:=by
     intro names
     induction names with
     | nil=>intro h;simp at h
     | cons p r ih =>
      obtain⟨n,k⟩:=p
      intro h
      show List.lookup x ((if (k==NameKind.free&&X.env.scope.kind==.function&&X.env.kindOf n==some .cell)=true then (n,NameKind.cell) else (n,k))::_)≠_
      cases hx:x==n with
      | true =>
       simp only[List.lookup_cons,hx] at h
       cases h
       by_cases hq:(NameKind.free==NameKind.free&&X.env.scope.kind==.function&&X.env.kindOf n==some .cell)=true
       ·rw[if_pos hq];simp[List.lookup_cons,hx]
       ·rw[if_neg hq];simp[List.lookup_cons,hx]
      | false =>
       simp only[List.lookup_cons,hx] at h
       by_cases hq:(k==NameKind.free&&X.env.scope.kind==.function&&X.env.kindOf n==some .cell)=true
       ·rw[if_pos hq];simp only[List.lookup_cons,hx];exact ih h
       ·rw[if_neg hq];simp only[List.lookup_cons,hx];exact ih h
    exact nl n2 z
   ·exact .inl z
   ·exact .inr z
 have σl:(σ++List.replicate own.length none).length=(N0++own).length:=by
  rw[List.length_append,List.length_append,List.length_replicate,T.len,← I3.len]
 have I4:zP X' [] (σ++List.replicate own.length none) (yz H1 s₂.heap.objs.size (.lst [])) { s₂ with heap:=h₁,toks:=s₂.toks+([]:List (Str×Value)).length }:=by
  refine⟨ok',rfl,I3.bare,Un.kept kp,⟨_,hns₁,fun i x v e1 e2 e3=>?_⟩,fun x c e=>?_,I3.hok.fresh (Nat.le_refl _),fun x c e=>I3.freeC x c (CK x c e),fun p hp=>?_,I3.hok.kept kp,σl⟩
  ·obtain⟨c,u,r,q1,q2,q3⟩:=hlook i x v e1 e2 e3
   obtain⟨o,ho,hd⟩:=q3
   exact⟨u,r,.inr ⟨q2,c,q1,o,kp c o ho,hd⟩⟩
  ·obtain⟨v,o,ho,hd⟩:=I3.cell x c (CK x c e)
   exact⟨v,o,kp c o ho,hd⟩
  ·have hp':p∈X.pn++pins:=by
    have:p∈(X.pn++pins)++[]:=hp
    simpa using this
   obtain⟨e,n,ne,nf,d⟩:=I3.pin p hp'
   exact⟨kp _ _ e,n,Nat.ne_of_lt (Heap.lt_size e),pinS p hp',d⟩
 have fpX:∀ {H:Hp},(∀ b∈fp,H b=none)→∀ b∈fp,zDz X' [] H b:=fun {H} hn b hb=>by
  refine⟨hn b hb,(ok'.exf b hb).1,fpS b hb,.inl hb,(ok'.exf b hb).2,fun p hp=>?_⟩
  have hp':p∈X.pn++pins:=by
   have:p∈(X.pn++pins)++[]:=hp
   simpa using this
  exact(f2 b hb).2.2.2.2.2 p hp'
 have st4:tn 0 h₁:=Tn.keep 0 s₂.heap h₁ st2 fun b hb o e=>kp b o (hH2▸Heap.get?_push_of_some _ e)
 -- back to the context around
 have back:∀ {σ':St} {H':Hp} {s':Shared},zP X' [] σ' H' s'→zP X pins σ H' s'∧zDz X pins H' h3.objs.size∧∃ m,s'.heap.Ns h3.objs.size m:=fun {σ' H' s'} J=>by
  have u:Un (frs X.stack) fp (yz H1 s₂.heap.objs.size (.lst [])) H' h3 s'.heap:=J.base
  have J3:zP X pins σ H' s':=I3.call' J.os u J.hok J.bare fun b hb=>⟨(f2 b hb).2.2.2.1,(f2 b hb).2.1,(f2 b hb).2.2.2.2.1,(f2 b hb).2.2.2.2.2⟩
  obtain⟨m,hn,u0⟩:=J.loc
  refine⟨J3,?_,m,hn⟩
  refine⟨J.free,Nat.ne_of_gt I3.lt,I3.nofs (Nat.le_refl _),.inr I3.sz,fun x c e z=>?_,fun p hp z=>?_⟩
  ·obtain⟨v,q⟩:=I3.cell x c e
   exact absurd (Nat.lt_of_lt_of_le q.lt (by rw[z];exact Nat.le_refl _)) (Nat.lt_irrefl _)
  ·exact absurd (Nat.lt_of_lt_of_le (Heap.lt_size (I3.pin p hp).1) (by rw[z];exact Nat.le_refl _)) (Nat.lt_irrefl _)
 have loop:∀ s₅:Shared,s₅={ s₂ with heap:=h₁,toks:=s₂.toks+([]:List (Str×Value)).length } →
   codeAny (model X.prog X.w) X.A (.compLoop (.ListComp elt [⟨tg,iter,ifs,0⟩] sc pos) 0 (.ref it) (.ref s₂.heap.objs.size) X'.env)
    (fun r s'=>∃ D H' m,r=.ok .next∧Value.ref s₂.heap.objs.size=.ref D∧zP X pins σ H' s'∧zDz X pins H' h3.objs.size∧s'.heap.Ns h3.objs.size m∧Q (.ref D) H') s₅:=by
  rintro s₅ rfl
  refine codeAny_loop rfl (fun n s'=>∃ i H',zP X' [] (σ++List.replicate own.length none) H' s'∧tn i s'.heap∧(∀ b∈fp,H' b=none)∧W i n H') (fun n s6=>?_) m0 ⟨0,_,I4,st4,fpD,w0⟩
  rintro⟨i,H6,I6,st6,fr6,w6⟩
  show wpAny _ X.A ((compTurn (.ListComp elt [⟨tg,iter,ifs,0⟩] sc pos) 0 (.ref it) (.ref s₂.heap.objs.size) X'.env).onRaise (fun x=>do noteFrame x X'.env;theTreesLotGoes x)) _ _ s6
  refine wpAny_noted ?_
  rw[compTurn_list]
  have nox:∀ {α:Type} {t:Sem α} {Q:α→Shared→Prop} {E':Value→Shared→Prop} {s:Shared},wpAny (model X.prog X.w) X.A t Q (fun u0 u0=>False) s→wpAny (model X.prog X.w) X.A t Q E' s:=fun h=>wpAny_mono h (fun u0 u0 q=>q) fun u0 u0 z=>z.elim
  refine wpAny_bind (wpAny_standAt (wpAny_bind ?_))
  rcases turn i n H6 w6 with ⟨stop,qn⟩ | ⟨go,step⟩
  ·refine nox (yr (Tn.done X' rfl rfl rfl hc i [] s6 _ H6 _ I6 (fpX fr6) st6 stop) fun r s7 ⟨hr,I7⟩=>?_)
   subst hr
   obtain⟨b1,b2,m,b3⟩:=back I7
   exact wpAny_pure ⟨_,H6,m,rfl,rfl,b1,b2,b3,qn⟩
  ·refine nox (yr (Tn.item X' rfl rfl rfl hc i [] s6 _ H6 _ I6 (fpX fr6) st6 go) fun r s7 ⟨u,hr,h7⟩=>?_)
   subst hr
   refine wpAny_bind (nox (yr h7 fun _ s8 ⟨x,H8,I8,r8,y8,st8,fr8⟩=>?_))
   have I8':=I8.pinned (fpX fr8) (Tn.obj _ _ st8)
   refine wpAny_bind (nox (yr (hg _ _ _ _ _ _ s8 _ H8 x u _ I8' r8 (step x H8 y8)) fun _ s9 ⟨σ9,H9,I9,q1,q2,q9⟩=>?_))
   have again:∀ {s':Shared} {H':Hp},zP X' ([]++zD0 fp s8.heap) σ9 H' s'→(∃ m',m'<n∧W (i+1) m' H')→∃ m,m<n∧∃ i H',zP X' [] (σ++List.replicate own.length none) H' s'∧tn i s'.heap∧(∀ b∈fp,H' b=none)∧W i m H':=by
    intro s' H' J ⟨m',hm,w'⟩
    refine⟨m',hm,i+1,H',?_,Tn.keep _ _ _ st8 fun b hb o e=>(J.pin (b,o) (List.mem_append_right _ (List.mem_append_right _ (zAx hb e)))).1,fun b hb=>?_,w'⟩
    ·refine(J.unpinned).weak ?_ fun j v e=>?_
     ·rw[q2,List.length_append,List.length_replicate]
     ·have hj:j<σ.length:=by
       by_cases hj:j<σ.length
       ·exact hj
       ·rw[List.getElem?_append_right (by (first|lia|omega)),List.getElem?_replicate] at e
        split at e<;>cases e
      rw[List.getElem?_append_left hj] at e
      rw[← q1,List.getElem?_take_of_lt hj] at e
      exact e
    ·obtain⟨o,e,d⟩:=Tn.obj _ _ st8 b hb
     exact(J.pin (b,o) (List.mem_append_right _ (List.mem_append_right _ (zAx hb e)))).2.1
   refine wpAny_bind (nox (yr (ht _ _ _ _ _ _ s9 σ9 H9 _ I9 q9) fun ok s10 ⟨H10,I10,q10⟩=>?_))
   cases ok with
   | false=>exact wpAny_pure ⟨rfl,again I10 q10⟩
   | true =>
    refine wpAny_bind (wpAny_bind (nox (yr (he _ _ _ _ _ _ s10 σ9 H10 _ I10 q10) fun uv s11 ⟨v,H11,I11,r11,acc,hD11,hz,q11⟩=>?_)))
    refine wpAny_bind (nox (yr (zFF _ s11 σ9 H11 (.ref s₂.heap.objs.size) [v] (.ref s₂.heap.objs.size) [uv] (fun u0 H12=>H12=yz H11 s₂.heap.objs.size (.lst (acc++[v]))) I11 rfl (.cons r11 .nil) ⟨_,acc,v,rfl,rfl,hD11,hz,rfl⟩) fun _ s12 ⟨_,H12,I12,_,q12⟩=>?_))
    subst q12
    exact wpAny_pure (wpAny_pure ⟨rfl,again I12 q11⟩)
 exact codeAny_compStart_list (loop _ rfl) (Tn.self _ 0 _ _ _ st4 (loop _ rfl))
theorem zIN(hc:X.calm=true)(T:zCH X sc N0)(hi:PI X tg iter wi)
  (hg:∀ C s H fp pins,PG (X.comp (N0++own) sc C s H fp pins) tg g) (ht:∀ C s H fp pins,PTs (X.comp (N0++own) sc C s H fp pins) ifs tc) (he:∀ C s H fp pins,PE (X.comp (N0++own) sc C s H fp pins) elt te)
  (hs:∀ x,foldedSetIterable iter X.env x=pure x:=by intro u0;rfl):PE X (.ListComp elt [⟨tg,iter,ifs,0⟩] sc pos) (zKC own.length wi g tc te):=by
 intro pins s σ H Q I h
 rw[eval_ListComp]
 refine wpAny_comprehension_free (use:=none) rfl hs (zB9 fun y hy hf=>I.ok.has _ (T.cap y hy hf)) T.kind T.names ?_
 refine yr (hi pins s σ H _ I h) fun xv s₁ h₁=>yr h₁ fun it s₂ h₂=>?_
 refine yr (zD5 (iter:=iter) (pos:=pos) (E:=X.xe) (Q:=Q) hc T hg ht he h₂) fun acc s₃ h₃=>yr h₃ fun cenv s₄ h₄=>codeAny_mono h₄ fun r s' hr=>?_
 obtain⟨D,H',m,rfl,rfl,J,f,hn,q⟩:=hr
 refine⟨m,hn,fun h' hs'=>⟨.ref D,H',?_,rfl,q⟩⟩
 exact J.turned (t':=s'.toks) (fun b o hb e=>(hs'.2 b hb).trans e) f.1 f.2.1 f.2.2.2.1 f.2.2.2.2.1 f.2.2.2.2.2
theorem zHQ{i:Nat}{y:Str}{py spos:Pos}(hc:X.calm=true)(T:zCH X sc N0)(hi:PI X tg iter wi)
  (hg:∀ C s H fp pins,PG (X.comp (N0++own) sc C s H fp pins) tg g) (ht:∀ C s H fp pins,PTs (X.comp (N0++own) sc C s H fp pins) ifs tc) (he:∀ C s H fp pins,PE (X.comp (N0++own) sc C s H fp pins) elt te)
  (hN:X.N.Nodup) (hy:X.N[i]?=some y) (hl:X.env.scope.names.lookup y=some .local)
  (hsw:swapsWith (.ListComp elt [⟨tg,iter,ifs,0⟩] sc pos) (some (.Name y py)) spos.line X.env=pure true)
  (hs:∀ x,foldedSetIterable iter X.env x=pure x:=by intro u0;rfl):PS X (.Assign [.Name y py] (.ListComp elt [⟨tg,iter,ifs,0⟩] sc pos) spos) (fun D σ H=>zKC own.length wi g tc te σ H fun v H1=>D.nx (σ.set i (some v)) H1):=by
 intro pins s σ H D I h
 rw[exec_Assign_Name_used _ _ _ _ hsw]
 refine wpAny_bind (wpAny_standAt (wpAny_bind ?_))
 show wpAny _ X.A (do let _ ← comprehension (.ListComp elt [⟨tg,iter,ifs,0⟩] sc pos) sc X.env _ (newList []) false (eval iter X.env) (some (assign (.Name y py) X.env))) _ _ s
 refine wpAny_bind (wpAny_mono (wpAny_comprehension_free (use:=some (assign (.Name y py) X.env)) (Q:=fun u0 s'=>SP X pins D .next s') rfl hs (zB9 fun y hy hf=>I.ok.has _ (T.cap y hy hf)) T.kind T.names
  (yr (hi pins s σ H _ I h) fun xv s₁ h₁=>yr h₁ fun it s₂ h₂=>?_)) (fun u0 s' hq=>wpAny_pure (wpAny_pure hq)) fun u0 u0 e=>e)
 refine yr (zD5 (iter:=iter) (pos:=pos) (E:=X.xe) (Q:=fun v H1=>D.nx (σ.set i (some v)) H1) hc T hg ht he h₂) fun acc s₃ h₃=>yr h₃ fun cenv s₄ h₄=>codeAny_mono h₄ fun r s' hr=>?_
 obtain⟨A,H',m,rfl,rfl,J,f,hn,q⟩:=hr
 show wpAny _ X.A (assign (.Name y py) X.env (.ref A)) _ _ _
 refine wpAny_assign_Name (zE9 J hN hy (.inl hl) (v:=.ref A) rfl (fun s'' J' ⟨a,sb,ha⟩=>?_) (.inr hl))
 have hCa:cenv.locals≠a:=by
  rcases ha with z | z
  ·rw[z];exact f.2.1
  ·exact fun e=>f.2.2.2.2.1 y a z e.symm
 refine⟨m,hn.sameBut sb hCa,fun h' hs'=>⟨_,H',?_,q⟩⟩
 exact J'.turned (t':=s''.toks) (fun b o hb e=>(hs'.2 b hb).trans e) f.1 f.2.1 f.2.2.2.1 f.2.2.2.2.1 f.2.2.2.2.2
end
end L2
namespace L3
open PySem PySem.Spec PyProof.Rows L2
inductive D where
 | non | bl (b:Bool) | int (i:Int) | str (x:Str) | tup (ds:List D) | adr (a:Addr) | dic (a:Addr)
mutual
noncomputable def zN(K:PySem.W.Frag)(H:Hp):D→V→Prop
 | .non,v=>v=V.non
 | .bl b,v=>v=V.bl b
 | .int i,v=>v=V.int i
 | .str x,v=>v=V.str x
 | .adr a,v=>v=V.ref a
 | .dic a,v=>v=V.ref a∧∃ o x,H a=some (.frz o (.own x))∧o.cls=.type "dict"
 | .tup ds,v=>∃ a xs,v=V.ref a∧SqT K H a xs∧Dens K H ds xs
noncomputable def Dens(K:PySem.W.Frag)(H:Hp):List D→List V→Prop
 | [],xs=>xs=[]
 | d::ds,xs=>∃ x r,xs=x::r∧zN K H d x∧Dens K H ds r
end
structure Gp where
 m:Addr→Option (List D)
 ro:Addr→Option (List D)
noncomputable def zS(G:Gp)(a:Addr)(o:List D):Gp:={ G with m:=fun b=>if b=a then some o else G.m b }
theorem zG{G:Gp}{a:Addr}{o:List D}:(zS G a o).m a=some o:=if_pos rfl
theorem zV{G:Gp}{a b:Addr}{o:List D}(h:b≠a):(zS G a o).m b=G.m b:=if_neg h
theorem zBp{G:Gp}{a:Addr}{o u:List D}:zS (zS G a o) a u=zS G a u:=by
 unfold zS
 congr 1
 funext b;by_cases h:b=a
 ·simp only[if_pos h]
 ·simp only[if_neg h]
theorem gne{G:Gp}{a b:Addr}{o:List D}(h:G.m a=some o)(h':G.m b=none):a≠b:=fun e=>by rw[e,h'] at h;cases h
structure Sub (G G':Gp):Prop where
 m:∀ a o,G.m a=some o→G'.m a=some o
 ro:∀ a o,G.ro a=some o→G'.ro a=some o
theorem Sub.refl(G:Gp):Sub G G:=⟨fun u0 u0 h=>h,fun u0 u0 h=>h⟩
theorem Sub.trans{G G1 G2:Gp}(h:Sub G G1)(h':Sub G1 G2):Sub G G2:=⟨fun a o e=>h'.m a o (h.m a o e),fun a o e=>h'.ro a o (h.ro a o e)⟩
theorem Sub.new{G:Gp}{p:Addr}{o:List D}(h:G.m p=none):Sub G (zS G p o):=⟨fun a u e=>by rw[zV (gne e h)];exact e,fun u0 u0 e=>e⟩
noncomputable def Ls(G:Gp)(a:Addr)(ds:List D):Prop:=G.m a=some ds∨G.ro a=some ds
theorem Ls.sub{G G':Gp}{a:Addr}{ds:List D}(h:Ls G a ds)(s:Sub G G'):Ls G' a ds:=by
 rcases h with h | h
 ·exact .inl (s.m a ds h)
 ·exact .inr (s.ro a ds h)
theorem Ls.own{G:Gp}{a:Addr}{ds:List D}:Ls (zS G a ds) a ds:=.inl zG
noncomputable def RoL(K:PySem.W.Frag)(H:Hp)(a:Addr)(xs:List V):Prop :=
 (∃ o,H a=some (.frz o (.lst xs)))∨∃(o:Obj) (its:Array Value) (n:Nat),K.lookup a=some o∧o.cls=.type "list"∧o.dict=none∧o.data=.seq its n∧its.size≤sizeLine∧zR xs its.toList
theorem RoL.sq{K:PySem.W.Frag}{H:Hp}{a:Addr}{xs:List V}(h:RoL K H a xs):SqL K H a xs:=by
 rcases h with h | h
 ·exact .inl (.inr h)
 ·exact .inr h
structure yH (K:PySem.W.Frag) (G:Gp) (H:Hp):Prop where
 m:∀ a ds,G.m a=some ds→∃ xs,H a=some (.lst xs)∧Dens K H ds xs
 ro:∀ a ds,G.ro a=some ds→∃ xs,RoL K H a xs∧Dens K H ds xs
structure yA (H H':Hp):Prop where
 tups:∀ a xs,H a=some (.tup xs)→H' a=some (.tup xs)
 frzs:∀ a o u,H a=some (.frz o u)→H' a=some (.frz o u)
section
variable {K:PySem.W.Frag} {H H' H'':Hp} {G G':Gp}
theorem yA.refl(H:Hp):yA H H:=⟨fun u0 u0 h=>h,fun u0 u0 u0 h=>h⟩
theorem yA.trans(a:yA H H')(b:yA H' H''):yA H H'':=⟨fun c xs h=>b.tups c xs (a.tups c xs h),fun c o u h=>b.frzs c o u (a.frzs c o u h)⟩
theorem yA.fresh{p:Addr}{o:HO}(h:H p=none):yA H (yz H p o):=⟨fun a xs e=>by rw[zv (yU e h)];exact e,fun a o u e=>by rw[zv (yU e h)];exact e⟩
theorem yA.lst{p:Addr}{xs:List V}{o:HO}(h:H p=some (.lst xs)):yA H (yz H p o) :=
 ⟨fun a ys e=>by rw[zv (zMj e h (by intro z;cases z))];exact e,fun a o u e=>by rw[zv (zMj e h (by intro z;cases z))];exact e⟩
theorem yA.sqT(g:yA H H'){a:Addr}{xs:List V}(h:SqT K H a xs):SqT K H' a xs:=by
 rcases h with (h | ⟨o,h⟩) | h
 ·exact .inl (.inl (g.tups _ _ h))
 ·exact .inl (.inr ⟨o,g.frzs _ _ _ h⟩)
 ·exact .inr h
theorem yA.roL(g:yA H H'){a:Addr}{xs:List V}(h:RoL K H a xs):RoL K H' a xs:=by
 rcases h with ⟨o,h⟩ | h
 ·exact .inl ⟨o,g.frzs _ _ _ h⟩
 ·exact .inr h
mutual
theorem zN.grow(g:yA H H'):∀ {d:D} {v:V},zN K H d v→zN K H' d v
 | .non,_,h=>by unfold zN at h ⊢;exact h
 | .bl _,_,h=>by unfold zN at h ⊢;exact h
 | .int _,_,h=>by unfold zN at h ⊢;exact h
 | .str _,_,h=>by unfold zN at h ⊢;exact h
 | .adr _,_,h=>by unfold zN at h ⊢;exact h
 | .dic _,_,h=>by unfold zN at h ⊢;obtain⟨e,o,x,q,c⟩:=h;exact⟨e,o,x,g.frzs _ _ _ q,c⟩
 | .tup ds,v,h=>by
  unfold zN at h ⊢
  obtain⟨a,xs,e,s,r⟩:=h
  exact⟨a,xs,e,g.sqT s,Dens.grow g r⟩
theorem Dens.grow(g:yA H H'):∀ {ds:List D} {xs:List V},Dens K H ds xs→Dens K H' ds xs
 | [],_,h=>by unfold Dens at h ⊢;exact h
 | d::ds,xs,h=>by
  unfold Dens at h ⊢
  obtain⟨x,r,e,h1,h2⟩:=h
  exact⟨x,r,e,zN.grow g h1,Dens.grow g h2⟩
end
theorem Dens.length:∀ {ds:List D} {xs:List V},Dens K H ds xs→ds.length=xs.length
 | [],xs,h=>by unfold Dens at h;rw[h];rfl
 | d::ds,xs,h=>by
  unfold Dens at h
  obtain⟨x,r,rfl,u0,h2⟩:=h
  simp[Dens.length h2]
theorem Dens.get:∀ {ds:List D} {xs:List V} {i:Nat} {d:D},Dens K H ds xs→ds[i]?=some d→∃ x,xs[i]?=some x∧zN K H d x
 | [],_,_,_,_,e=>by simp at e
 | d::ds,xs,0,d',h,e=>by
  unfold Dens at h
  obtain⟨x,r,rfl,h1,u0⟩:=h
  simp at e;subst e
  exact⟨x,rfl,h1⟩
 | d::ds,xs,i+1,d',h,e=>by
  unfold Dens at h
  obtain⟨x,r,rfl,u0,h2⟩:=h
  obtain⟨y,e1,e2⟩:=Dens.get (i:=i) (d:=d') h2 (by simpa using e)
  exact⟨y,by simpa using e1,e2⟩
theorem Dens.got:∀ {ds:List D} {xs:List V} {i:Nat} {x:V},Dens K H ds xs→xs[i]?=some x→∃ d,ds[i]?=some d∧zN K H d x
 | ds,xs,i,x,h,e=>by
  have hl:=h.length
  have hi:i<ds.length:=by rw[hl];exact(List.getElem?_eq_some_iff.mp e).1
  obtain⟨y,e1,e2⟩:=h.get (i:=i) (d:=ds[i]) (by simp[hi])
  rw[e] at e1;cases e1
  exact⟨ds[i],by simp[hi],e2⟩
theorem Dens.nil:Dens K H [] []:=by unfold Dens;rfl
theorem Dens.cons{d:D}{ds:List D}{x:V}{xs:List V}(h:zN K H d x)(h':Dens K H ds xs):Dens K H (d::ds) (x::xs):=by unfold Dens;exact⟨x,xs,rfl,h,h'⟩
theorem Dens.append:∀ {ds es:List D} {xs ys:List V},Dens K H ds xs→Dens K H es ys→Dens K H (ds++es) (xs++ys)
 | [],_,xs,_,h,h'=>by unfold Dens at h;rw[h];exact h'
 | d::ds,_,xs,_,h,h'=>by
  unfold Dens at h
  obtain⟨x,r,rfl,h1,h2⟩:=h
  exact Dens.cons h1 (Dens.append h2 h')
theorem Dens.of_get:∀ {ds:List D} {xs:List V},ds.length=xs.length→(∀(i:Nat) d x,ds[i]?=some d→xs[i]?=some x→zN K H d x)→Dens K H ds xs
 | [],[],_,_=>.nil
 | [],_::_,h,_=>by simp at h
 | _::_,[],h,_=>by simp at h
 | d::ds,x::xs,h,g=>.cons (g 0 d x rfl rfl) (Dens.of_get (by simpa using h) fun i d' x' e1 e2=>g (i+1) d' x' (by simpa using e1) (by simpa using e2))
theorem Dens.take{n:Nat}{ds:List D}{xs:List V}(h:Dens K H ds xs):Dens K H (ds.take n) (xs.take n) :=
 .of_get (by simp[h.length]) fun i d x e1 e2=>by
  rw[List.getElem?_take] at e1 e2
  split at e1
  ·rename_i hi
   rw[if_pos hi] at e2
   obtain⟨y,e,r⟩:=h.get e1
   rw[e2] at e;cases e;exact r
  ·cases e1
theorem Dens.drop{n:Nat}{ds:List D}{xs:List V}(h:Dens K H ds xs):Dens K H (ds.drop n) (xs.drop n) :=
 .of_get (by simp[h.length]) fun i d x e1 e2=>by
  rw[List.getElem?_drop] at e1 e2
  obtain⟨y,e,r⟩:=h.get e1
  rw[e2] at e;cases e;exact r
theorem Dens.set{ds:List D}{xs:List V}{d:D}{x:V}(i:Nat)(h:Dens K H ds xs)(hd:zN K H d x):Dens K H (ds.set i d) (xs.set i x) :=
 .of_get (by simp[h.length]) fun j d' x' e1 e2=>by
  by_cases hj:i=j
  ·subst hj
   have hi:i<ds.length:=by
    have:=(List.getElem?_eq_some_iff.mp e1).1;simpa using this
   rw[List.getElem?_set_self hi] at e1
   rw[List.getElem?_set_self (by rw[← h.length];exact hi)] at e2
   cases e1;cases e2;exact hd
  ·rw[List.getElem?_set_ne hj] at e1 e2
   obtain⟨y,e,r⟩:=h.get e1
   rw[e2] at e;cases e;exact r
theorem Dens.eraseIdx:∀ {ds:List D} {xs:List V} (i:Nat),Dens K H ds xs→Dens K H (ds.eraseIdx i) (xs.eraseIdx i)
 | [],xs,i,h=>by unfold Dens at h;subst h;exact .nil
 | d::ds,xs,0,h=>by
  unfold Dens at h
  obtain⟨x,r,rfl,h1,h2⟩:=h
  exact h2
 | d::ds,xs,i+1,h=>by
  unfold Dens at h
  obtain⟨x,r,rfl,h1,h2⟩:=h
  exact .cons h1 (Dens.eraseIdx i h2)
theorem Dens.reverse:∀ {ds:List D} {xs:List V},Dens K H ds xs→Dens K H ds.reverse xs.reverse
 | [],xs,h=>by unfold Dens at h;subst h;exact .nil
 | d::ds,xs,h=>by
  unfold Dens at h
  obtain⟨x,r,rfl,h1,h2⟩:=h
  rw[List.reverse_cons,List.reverse_cons]
  exact(Dens.reverse h2).append (.cons h1 .nil)
theorem Dens.ints(ns:List Int):Dens K H (ns.map D.int) (ns.map V.int):=by
 induction ns with
 | nil=>exact .nil
 | cons n r ih=>exact .cons (by unfold zN;rfl) ih
theorem yH.fresh{p:Addr}{o:HO}(h:H p=none)(r:yH K G H):yH K G (yz H p o) :=
  ⟨fun a ds e=>by
    obtain⟨xs,e1,e2⟩:=r.m a ds e
    exact⟨xs,by rw[zv (yU e1 h)];exact e1,e2.grow (.fresh h)⟩,
   fun a ds e=>by
    obtain⟨xs,e1,e2⟩:=r.ro a ds e
    exact⟨xs,(yA.fresh h).roL e1,e2.grow (.fresh h)⟩⟩
theorem yH.free{p:Addr}(r:yH K G H)(h:H p=none):G.m p=none:=by
 cases q:G.m p with
 | none=>rfl
 | some ds=>obtain⟨xs,e1,u0⟩:=r.m p _ q;rw[h] at e1;cases e1
theorem yH.own{l:Addr}{ds:List D}{xs:List V}(r:yH K G H)(e:H l=some (.lst xs))(d:Dens K H ds xs):yH K (zS G l ds) H :=
  ⟨fun b u q=>by
    by_cases hb:b=l
    · subst hb;rw[zG] at q;cases q;exact⟨xs,e,d⟩
    · rw[zV hb] at q;exact r.m b u q,
   r.ro⟩
theorem yH.new{p:Addr}{ds:List D}{xs:List V}(h:H p=none)(r:yH K G H)(d:Dens K H ds xs):yH K (zS G p ds) (yz H p (.lst xs)) :=
 (r.fresh h).own zd (d.grow (.fresh h))
theorem yH.put{p:Addr}{ds':List D}{xs xs':List V}(h:H p=some (.lst xs))(r:yH K G H)(d:Dens K H ds' xs'):yH K (zS G p ds') (yz H p (.lst xs')) :=
  ⟨fun a u e=>by
    by_cases ha:a=p
    · subst ha
      rw[zG] at e;cases e
      exact⟨xs',zd,d.grow (.lst h)⟩
    · rw[zV ha] at e
      obtain⟨ys,e1,e2⟩:=r.m a u e
      exact⟨ys,by rw[zv ha];exact e1,e2.grow (.lst h)⟩,
   fun a u e=>by
    obtain⟨ys,e1,e2⟩:=r.ro a u e
    exact⟨ys,(yA.lst h).roL e1,e2.grow (.lst h)⟩⟩
theorem yH.sub(s:Sub G G')(r:yH K G' H):yH K G H:=⟨fun a u e=>r.m a u (s.m a u e),fun a u e=>r.ro a u (s.ro a u e)⟩
theorem yH.sq{a:Addr}{ds:List D}(r:yH K G H)(e:Ls G a ds):∃ xs,SqL K H a xs∧Dens K H ds xs:=by
 rcases e with e | e
 ·obtain⟨xs,e1,e2⟩:=r.m a _ e
  exact⟨xs,.of e1,e2⟩
 ·obtain⟨xs,e1,e2⟩:=r.ro a _ e
  exact⟨xs,e1.sq,e2⟩
end
noncomputable abbrev S2:=List (Option D)
noncomputable abbrev zh:=S2→Gp→(D→Gp→Prop)→Prop
noncomputable abbrev TT2:=S2→Gp→(Bool→Gp→Prop)→Prop
noncomputable abbrev wL:=S2→Gp→(List D→Gp→Prop)→Prop
structure yM where
 nx:S2→Gp→Prop
 rt:D→Gp→Prop
 bk:S2→Gp→Prop:=fun u0 u0=>False
 ct:S2→Gp→Prop:=fun u0 u0=>False
noncomputable abbrev wK:=yM→S2→Gp→Prop
noncomputable def look:S2→Nat→Option D
 | [],_=>none
 | o::_,0=>o
 | _::r,i+1=>look r i
theorem zGQ:∀ {σ:S2} {i:Nat} {d:D},look σ i=some d→σ[i]?=some (some d)
 | [],_,_,e=>by cases e
 | o::_,0,d,e=>by simp[look] at e;simp[e]
 | _::r,i+1,d,e=>by simpa using zGQ (σ:=r) (i:=i) (d:=d) e
structure Rel (K:PySem.W.Frag) (σ:S2) (G:Gp) (σ1:L2.St) (H:Hp):Prop where
 g:yH K G H
 len:σ.length=σ1.length
 val:∀(i:Nat) d,σ[i]?=some (some d)→∃ v,σ1[i]?=some (some v)∧zN K H d v
theorem Rel.to{K:PySem.W.Frag}{σ:S2}{G G':Gp}{σ1:L2.St}{H H':Hp}(r:Rel K σ G σ1 H)(g:yA H H')(r':yH K G' H'):Rel K σ G' σ1 H' :=
 ⟨r',r.len,fun i d e=>by obtain⟨v,e1,e2⟩:=r.val i d e;exact⟨v,e1,e2.grow g⟩⟩
theorem Rel.set{K:PySem.W.Frag}{σ:S2}{G:Gp}{σ1:L2.St}{H:Hp}(r:Rel K σ G σ1 H)(i:Nat){d:D}{v:V}(h:zN K H d v):Rel K (σ.set i (some d)) G (σ1.set i (some v)) H :=
 ⟨r.g,by simp[r.len],fun j d' e=>by
  by_cases hj:i=j
  ·subst hj
   have hi:i<σ.length:=by
    have:=(List.getElem?_eq_some_iff.mp e).1;simpa using this
   rw[List.getElem?_set_self hi] at e
   cases e
   exact⟨v,by rw[List.getElem?_set_self (by rw[← r.len];exact hi)],h⟩
  ·rw[List.getElem?_set_ne hj] at e
   obtain⟨u,e1,e2⟩:=r.val j d' e
   exact⟨u,by rw[List.getElem?_set_ne hj];exact e1,e2⟩⟩
noncomputable def lE(K:PySem.W.Frag)(t:zh):TE:=fun σ1 H Q=>∃ σ G R,Rel K σ G σ1 H∧t σ G R∧∀ d G',R d G'→∀ v H',yA H H'→yH K G' H'→zN K H' d v→Q v H'
noncomputable def lT(K:PySem.W.Frag)(t:TT2):TT:=fun σ1 H Q=>∃ σ G R,Rel K σ G σ1 H∧t σ G R∧∀ b G',R b G'→∀ H',yA H H'→yH K G' H'→Q b H'
noncomputable def lA(K:PySem.W.Frag)(t:wL):TA:=fun σ1 H Q=>∃ σ G R,Rel K σ G σ1 H∧t σ G R∧∀ ds G',R ds G'→∀ vs H',yA H H'→yH K G' H'→Dens K H' ds vs→Q vs H'
structure ER (K:PySem.W.Frag) (H:Hp) (D2:yM) (E:Ends):Prop where
 nx:∀ σ G,D2.nx σ G→∀ σ1 H',yA H H'→Rel K σ G σ1 H'→E.nx σ1 H'
 bk:∀ σ G,D2.bk σ G→∀ σ1 H',yA H H'→Rel K σ G σ1 H'→E.bk σ1 H'
 ct:∀ σ G,D2.ct σ G→∀ σ1 H',yA H H'→Rel K σ G σ1 H'→E.ct σ1 H'
 rt:∀ d G,D2.rt d G→∀ v H',yA H H'→yH K G H'→zN K H' d v→E.rt v H'
theorem ER.to{K:PySem.W.Frag}{H H':Hp}{D2:yM}{E:Ends}(e:ER K H D2 E)(g:yA H H'):ER K H' D2 E :=
 ⟨fun σ G h σ1 H1 g1=>e.nx σ G h σ1 H1 (g.trans g1),fun σ G h σ1 H1 g1=>e.bk σ G h σ1 H1 (g.trans g1),fun σ G h σ1 H1 g1=>e.ct σ G h σ1 H1 (g.trans g1),fun d G h v H1 g1=>e.rt d G h v H1 (g.trans g1)⟩
noncomputable def lS(K:PySem.W.Frag)(t:wK):TS:=fun E σ1 H=>∃ σ G D2,Rel K σ G σ1 H∧t D2 σ G∧ER K H D2 E
noncomputable def E2(X:Cx)(e:Expr)(t:zh):Prop:=PE X e (lE X.K t)
noncomputable def T2(X:Cx)(e:Expr)(t:TT2):Prop:=PT X e (lT X.K t)
noncomputable def A2(X:Cx)(es:List Expr)(t:wL):Prop:=PA X es (lA X.K t)
noncomputable def P2(X:Cx)(st:Stmt)(t:wK):Prop:=PS X st (lS X.K t)
noncomputable def Ps2(X:Cx)(st:List Stmt)(t:wK):Prop:=PSs X st (lS X.K t)
section
variable {X:Cx} {a b c e o:Expr} {es:List Expr} {pos p:Pos} {ta tb tc te:zh}
noncomputable def zB(i:Nat):zh:=fun σ G R=>match look σ i with | some d=>R d G | none=>False
noncomputable def xC(d:D):zh:=fun u0 G R=>R d G
theorem zC(i:Nat){x:Str}(hN:X.N[i]?=some x:=by rfl)(hv:Vis X.env.scope x:=by first | exact Or.inl rfl | exact Or.inr (Or.inl rfl) | exact Or.inr (Or.inr rfl))(hd:(x==("__debug__":Str))=false:=by decide)
  (hcd:(x==("__classdict__":Str))=false:=by decide):E2 X (.Name x pos) (zB i):=by
 refine PE.mono (zJv hN hv hd hcd) ?_
 rintro σ1 H Q ⟨σ,G,R,r,t,k⟩
 unfold zB at t
 cases q:look σ i with
 | none=>rw[q] at t;exact t.elim
 | some d =>
  rw[q] at t
  obtain⟨v,e1,e2⟩:=r.val i d (zGQ q)
  exact⟨v,e1,k d G t v H (.refl H) r.g e2⟩
theorem zO{i j}:E2 X (.Constant (.int i) j pos) (xC (.int i)):=by
 refine PE.mono zJw ?_
 rintro σ1 H Q ⟨σ,G,R,r,t,k⟩
 exact k _ G t _ H (.refl H) r.g (by unfold zN;rfl)
theorem zKD{i j}:E2 X (.Constant (.bool i) j pos) (xC (.bl i)):=by
 refine PE.mono zOR ?_
 rintro σ1 H Q ⟨σ,G,R,r,t,k⟩
 exact k _ G t _ H (.refl H) r.g (by unfold zN;rfl)
noncomputable abbrev Q2:=D→Gp→Prop
noncomputable def Fit(K:PySem.W.Frag)(r:R2)(f:D→D→Gp→Q2→Prop):Prop :=
 ∀ dx dy G R x y H Q,f dx dy G R→yH K G H→zN K H dx x→zN K H dy y→(∀ d G',R d G'→∀ v H',yA H H'→yH K G' H'→zN K H' d v→Q v H')→r x y H Q
noncomputable def zX(f:D→D→Gp→Q2→Prop)(ta tb:zh):zh:=fun σ G R=>ta σ G fun x G1=>tb σ G1 fun y G2=>f x y G2 R
theorem zIO{K:PySem.W.Frag}{r:R2}{f:D→D→Gp→Q2→Prop}(hf:Fit K r f){σ1:L2.St}{H:Hp}{Q:VK}(h:lE K (zX f ta tb) σ1 H Q):tOp r (lE K ta) (lE K tb) σ1 H Q:=by
 obtain⟨σ,G,R,rl,t,k⟩:=h
 refine⟨σ,G,_,rl,t,fun dx G1 t1 x H1 g1 r1 d1=>?_⟩
 refine⟨σ,G1,_,rl.to g1 r1,t1,fun dy G2 t2 y H2 g2 r2 d2=>?_⟩
 exact hf dx dy G2 R x y H2 Q t2 r2 (d1.grow g2) d2 fun d G' q v H' g' r' d'=>k d G' q v H' ((g1.trans g2).trans g') r' d'
theorem zGR{op:Operator}{r:R2}{f:D→D→Gp→Q2→Prop}(ho:OpR X (binaryOp op) r)(hf:Fit X.K r f)(ha:E2 X a ta)(hb:E2 X b tb):E2 X (.BinOp a op b pos) (zX f ta tb) :=
 PE.mono (zJ1 ho ha hb) fun σ1 H Q h=>zIO hf h
theorem zOm{op:CmpOp}{r:R2}{f:D→D→Gp→Q2→Prop}(ho:OpR X (compareOp op) r)(hf:Fit X.K r f)(ha:E2 X a ta)(hb:E2 X b tb)(hm:behindInMarks op b=false):E2 X (.Compare a [op] [b] pos) (zX f ta tb) :=
 PE.mono (zLY ho ha hb hm) fun σ1 H Q h=>zIO hf h
noncomputable def xB(t:zh):TT2:=fun σ G R=>t σ G fun d G1=>match d with | .bl b=>R b G1 | _=>False
theorem zFH{op:CmpOp}{r:R2}{f:D→D→Gp→Q2→Prop}(ho:OpR X (compareOp op) r)(hf:Fit X.K r f)(ha:E2 X a ta)(hb:E2 X b tb)(hm:behindInMarks op b=false):T2 X (.Compare a [op] [b] pos) (xB (zX f ta tb)):=by
 refine PT.mono (zLZ ho ha hb hm) ?_
 rintro σ1 H Q ⟨σ,G,R,rl,t,k⟩
 refine zIO hf ⟨σ,G,_,rl,t,fun d G' q v H' g' r' d'=>?_⟩
 cases d with
 | bl b =>
  unfold zN at d'
  exact⟨b,d',k b G' q H' g' r'⟩
 | _=>exact q.elim
noncomputable def fII(g:Int→Int→D):D→D→Gp→Q2→Prop:=fun x y G R=>match x,y with | .int i,.int j=>R (g i j) G | _,_=>False
noncomputable def zKE:D→Bool
 | .tup _=>false
 | .adr _=>false
 | .dic _=>false
 | _=>true
noncomputable def vOf:D→V
 | .non=>.non | .bl b=>.bl b | .int i=>.int i | .str x=>.str x | .tup _=>.non | .adr a=>.ref a | .dic a=>.ref a
theorem zIP{K:PySem.W.Frag}{H:Hp}{d:D}(h:zKE d=true):zN K H d (vOf d):=by
 cases d<;>first | (cases h;done) | (unfold zN;rfl)
theorem zD6{K:PySem.W.Frag}{gv:Int→Int→V}{g:Int→Int→D}(hg:∀ i j,zKE (g i j)=true∧gv i j=vOf (g i j)):Fit K (rI0 gv) (fII g):=by
 intro dx dy G R x y H Q h r d1 d2 k
 unfold fII at h
 cases dx with
 | int i =>
  cases dy with
  | int j =>
   unfold zN at d1 d2
   subst d1 d2
   exact⟨i,j,rfl,rfl,k _ G h _ H (.refl H) r (by rw[(hg i j).2];exact zIP (hg i j).1)⟩
  | _=>exact h.elim
 | _=>exact h.elim
noncomputable def yh(C:Int→Int→Prop)(g:Int→Int→D):D→D→Gp→Q2→Prop:=fun x y G R=>match x,y with | .int i,.int j=>C i j∧R (g i j) G | _,_=>False
theorem zCZ{K:PySem.W.Frag}{C:Int→Int→Prop}{gv:Int→Int→V}{g:Int→Int→D}(hg:∀ i j,zKE (g i j)=true∧gv i j=vOf (g i j)):Fit K (rI C gv) (yh C g):=by
 intro dx dy G R x y H Q h r d1 d2 k
 unfold yh at h
 cases dx with
 | int i =>
  cases dy with
  | int j =>
   unfold zN at d1 d2
   subst d1 d2
   exact⟨i,j,rfl,rfl,h.1,k _ G h.2 _ H (.refl H) r (by rw[(hg i j).2];exact zIP (hg i j).1)⟩
  | _=>exact h.elim
 | _=>exact h.elim
end
end L3
namespace L3
open PySem PySem.Spec PyProof.Rows L2
section
variable {X:Cx} {a b c e o:Expr} {es:List Expr} {pos p:Pos} {ta tb tc te:zh}
noncomputable abbrev TL2:=S2→Gp→(List D→Gp→Prop)→Prop
noncomputable def lL(K:PySem.W.Frag)(t:TL2):TE:=fun σ1 H Q=>∃ σ G R,Rel K σ G σ1 H∧t σ G R∧∀ ds G',R ds G'→∀ l xs H',yA H H'→yH K G' H'→G'.m l=none→H' l=some (.lst xs)→Dens K H' ds xs→Q (.ref l) H'
noncomputable def F2(X:Cx)(e:Expr)(t:TL2):Prop:=PE X e (lL X.K t)
noncomputable def zq(t:TL2):zh:=fun σ G R=>t σ G fun ds G'=>∀ l,G'.m l=none→R (.adr l) (zS G' l ds)
theorem yB{t:TL2}(h:F2 X e t):E2 X e (zq t):=by
 refine PE.mono h ?_
 rintro σ1 H Q ⟨σ,G,R,r,q,k⟩
 exact⟨σ,G,_,r,q,fun ds G' q' l xs H' g r' n e' d=>k _ _ (q' l n) _ H' g (r'.own e' d) (by unfold zN;rfl)⟩
noncomputable def zI:wL:=fun u0 G R=>R [] G
noncomputable def zA(ta:zh)(tr:wL):wL:=fun σ G R=>ta σ G fun x G1=>tr σ G1 fun xs G2=>R (x::xs) G2
theorem zJ:A2 X [] zI:=by
 intro pos pins s σ1 H Q I h
 refine zAy pos pins s σ1 H Q I ?_
 obtain⟨σ,G,R,r,q,k⟩:=h
 exact k [] G q [] H (.refl H) r.g .nil
theorem zD{tr:wL}(ha:E2 X e ta)(hr:A2 X es tr)(hs:starEach (e::es) X.env=(false,eval e X.env)::starEach es X.env:=by rfl):A2 X (e::es) (zA ta tr):=by
 intro pos pins s σ1 H Q I h
 refine wk ha hr hs pos pins s σ1 H Q I ?_
 obtain⟨σ,G,R,r,q,k⟩:=h
 refine⟨σ,G,_,r,q,fun d G1 q1 v H1 g1 r1 d1=>?_⟩
 refine⟨σ,G1,_,r.to g1 r1,q1,fun ds G2 q2 vs H2 g2 r2 d2=>?_⟩
 exact k _ G2 q2 _ H2 (g1.trans g2) r2 (.cons (d1.grow g2) d2)
noncomputable def yV(t:wL):zh:=fun σ G R=>t σ G fun ds G1=>ds.length≤sizeLine∧R (.tup ds) G1
theorem wX{t:wL}{x1}(h:A2 X es t):E2 X (.Tuple es x1 pos) (yV t):=by
 refine PE.mono (zNY h) ?_
 rintro σ1 H Q ⟨σ,G,R,r,q,k⟩
 refine⟨σ,G,_,r,q,fun ds G1 q1 vs H1 g1 r1 d1=>⟨by rw[← d1.length];exact q1.1,fun p hp=>?_⟩⟩
 refine k _ G1 q1.2 _ _ (g1.trans (.fresh hp)) (r1.fresh hp) ?_
 unfold zN
 exact⟨p,vs,rfl,.of zd,d1.grow (.fresh hp)⟩
noncomputable def wV(t:wL):TL2:=fun σ G R=>t σ G fun ds G1=>ds.length≤sizeLine∧R ds G1
theorem zAA{t:wL}(h:A2 X es t):F2 X (.List es pos) (wV t):=by
 refine PE.mono (zNZ h) ?_
 rintro σ1 H Q ⟨σ,G,R,r,q,k⟩
 refine⟨σ,G,_,r,q,fun ds G1 q1 vs H1 g1 r1 d1=>⟨by rw[← d1.length];exact q1.1,fun p hp=>?_⟩⟩
 exact k ds G1 q1.2 p vs _ (g1.trans (.fresh hp)) (r1.fresh hp) (r1.free hp) zd (d1.grow (.fresh hp))
noncomputable abbrev Sp2:=List D→Gp→Q2→Prop
noncomputable def lSp(K:PySem.W.Frag)(sp:Sp2):Sp:=fun vs H Q u0=>∃ ds G R,Dens K H ds vs∧yH K G H∧sp ds G R∧∀ d G',R d G'→∀ v H',yA H H'→yH K G' H'→zN K H' d v→Q v H'
noncomputable def Df(P:Program)(w:World)(K:PySem.W.Frag)(mg:Str→Option Value)(base:Heap)(k:Nat)(x:Str)(ps:List Str)(sp:Sp2):Prop :=
 ∃ f fd,zBP P w K mg base CX0 k f fd ps (lSp K sp)∧mg x=some (.ref f)∧PySem.W.keepIn K (.ref f)=true∧Binds K fd ps []
noncomputable def zM(sp:Sp2)(t:wL):zh:=fun σ G R=>t σ G fun ds G1=>sp ds G1 R
theorem yc{sp:Sp2}{t:wL}{k k':Nat}{x:Str}{ps:List Str}(F:Df X.prog X.w X.K X.mg X.base k x ps sp)(hr:yo k' X.A)(hk:k≤k')(hg:Gl X x)(ha:A2 X (e::es) t)
  (hdb:(x==("__debug__":Str))=false:=by decide) (he:starEach (e::es) X.env=(false,eval e X.env)::starEach es X.env:=by rfl) (hpl:(backTo pos (starEach es X.env)).any (·.1)=false:=by rfl) :
  E2 X (.Call (.Name x p) (e::es) [] pos) (zM sp t):=by
 obtain⟨f,fd,F,hm,hkp,hb⟩:=F
 refine PE.mono (zIH (dvs:=[]) F (hr.mono hk) hg hm hkp hb .nil zMm ha hdb he hpl) ?_
 rintro σ1 H Q ⟨σ,G,R,r,q,kk⟩
 refine⟨σ,G,_,r,q,fun ds G1 q1 vs H1 g1 r1 d1=>?_⟩
 show lSp X.K _ (vs++[]) H1 Q E0
 rw[List.append_nil]
 exact⟨ds,G1,R,d1,r1,q1,fun d G' q' v H' g'=>kk d G' q' v H' (g1.trans g')⟩
noncomputable def spL(sp:List D→Gp→(List D→Gp→Prop)→Prop):Sp2:=fun ds G R=>sp ds G fun ls G'=>∀ l,G'.m l=none→R (.adr l) (zS G' l ls)
noncomputable def zj(sp:List D→Gp→(List D→Gp→Prop)→Prop)(t:wL):TL2:=fun σ G R=>t σ G fun ds G1=>sp ds G1 R
theorem ww{sp:List D→Gp→(List D→Gp→Prop)→Prop}{t:wL}{k k':Nat}{x:Str}{ps:List Str}(F:Df X.prog X.w X.K X.mg X.base k x ps (spL sp))(hmono:∀ ds G R R',(∀ ls G',R ls G'→R' ls G')→sp ds G R→sp ds G R')(hr:yo k' X.A)(hk:k≤k')(hg:Gl X x)(ha:A2 X (e::es) t)
  (hdb:(x==("__debug__":Str))=false:=by decide) (he:starEach (e::es) X.env=(false,eval e X.env)::starEach es X.env:=by rfl) (hpl:(backTo pos (starEach es X.env)).any (·.1)=false:=by rfl) :
  F2 X (.Call (.Name x p) (e::es) [] pos) (zj sp t):=by
 obtain⟨f,fd,F,hm,hkp,hb⟩:=F
 refine PE.mono (zIH (dvs:=[]) F (hr.mono hk) hg hm hkp hb .nil zMm ha hdb he hpl) ?_
 rintro σ1 H Q ⟨σ,G,R,r,q,kk⟩
 refine⟨σ,G,_,r,q,fun ds G1 q1 vs H1 g1 r1 d1=>?_⟩
 show lSp X.K _ (vs++[]) H1 Q E0
 rw[List.append_nil]
 refine⟨ds,G1,fun d G'=>∃ l ls G0,d=.adr l∧G0.m l=none∧G'=zS G0 l ls∧R ls G0,d1,r1,hmono _ _ _ _ (fun ls G' q l n=>⟨l,ls,G',rfl,n,rfl,q⟩) q1,?_⟩
 rintro d G' ⟨l,ls,G0,rfl,n,rfl,q'⟩ v H' g' r' dv
 unfold zN at dv
 subst dv
 obtain⟨xs,e1,e2⟩:=r'.m l ls zG
 exact kk ls G0 q' l xs H' (g1.trans g') (r'.sub (.new n)) n e1 e2
section
variable {st:Stmt} {rest:List Stmt} {t u:wK}
noncomputable def ye:wK:=fun E σ G=>E.nx σ G
noncomputable def zZ(t u:wK):wK:=fun E σ G=>t { E with nx:=u E } σ G
theorem wZ:Ps2 X [] ye:=by
 intro pins s σ1 H E I h
 refine zLU pins s σ1 H E I ?_
 obtain⟨σ,G,D2,r,q,k⟩:=h
 exact k.nx σ G q σ1 H (.refl H) r
theorem zL(h1:P2 X st t)(h2:Ps2 X rest u):Ps2 X (st::rest) (zZ t u):=by
 intro pins s σ1 H E I h
 refine zJy h1 h2 pins s σ1 H E I ?_
 obtain⟨σ,G,D2,r,q,k⟩:=h
 refine⟨σ,G,_,r,q,⟨fun σ' G' q' σ1' H' g' r'=>⟨σ',G',D2,r',q',k.to g'⟩,k.bk,k.ct,k.rt⟩⟩
theorem zQ(h1:P2 X st t):Ps2 X [st] t:=zLV h1
noncomputable def yN(te:zh):wK:=fun E σ G=>te σ G E.rt
theorem yO(he:E2 X e te):P2 X (.Return (some e) pos) (yN te):=by
 refine PS.mono (L2.zNE he) ?_
 rintro E σ1 H ⟨σ,G,D2,r,q,k⟩
 exact⟨σ,G,_,r,q,fun d G' q' v H' g' r' d'=>k.rt d G' q' v H' g' r' d'⟩
noncomputable def wB(te:zh):wK:=fun E σ G=>te σ G fun u0 G1=>E.nx σ G1
theorem zBR(he:E2 X e te)(hs:swapsWith e none pos.line X.env=pure false:=by rfl):P2 X (.Expr e pos) (wB te):=by
 refine PS.mono (L2.zLW he hs) ?_
 rintro E σ1 H ⟨σ,G,D2,r,q,k⟩
 exact⟨σ,G,_,r,q,fun d G' q' v H' g' r' d'=>k.nx σ G' q' σ1 H' g' (r.to g' r')⟩
noncomputable def xIf(c:TT2)(t u:wK):wK:=fun E σ G=>c σ G fun b G1=>if b=true then t E σ G1 else u E σ G1
theorem zC6{x y:List Stmt}{tc:TT2}(hc:T2 X c tc)(ha:Ps2 X x t)(hb:Ps2 X y u):P2 X (.If c x y pos) (xIf tc t u):=by
 refine PS.mono (L2.zOV hc ha hb) ?_
 rintro E σ1 H ⟨σ,G,D2,r,q,k⟩
 refine⟨σ,G,_,r,q,fun b G' q' H' g' r'=>?_⟩
 cases b with
 | true=>exact⟨σ,G',D2,r.to g' r',q',k.to g'⟩
 | false=>exact⟨σ,G',D2,r.to g' r',q',k.to g'⟩
noncomputable abbrev TG2:=D→S2→Gp→(S2→Gp→Prop)→Prop
noncomputable def lG(K:PySem.W.Frag)(g:TG2):TG:=fun v σ1 H Q=>∃ σ G d R,Rel K σ G σ1 H∧zN K H d v∧g d σ G R∧∀ σ' G',R σ' G'→∀ σ1' H',yA H H'→Rel K σ' G' σ1' H'→Q σ1' H'
noncomputable def G2(X:Cx)(tg:Expr)(g:TG2):Prop:=PG X tg (lG X.K g)
theorem PG.mono{tg:Expr}{t t':TG}(h:PG X tg t)(hm:∀ v σ H Q,t' v σ H Q→t v σ H Q):PG X tg t':=fun pins s σ H v u Q I r q=>h pins s σ H v u Q I r (hm v σ H Q q)
noncomputable def gN(i:Nat):TG2:=fun d σ G R=>R (σ.set i (some d)) G
theorem wa(i:Nat){x:Str}(hN:X.N.Nodup)(hi:X.N[i]?=some x:=by rfl)(hx:Loc X.env.scope x:=by first | exact Or.inl rfl | exact Or.inr rfl)(hf:X.fn x=true∨X.env.scope.names.lookup x=some .local:=by first | exact .inl rfl | exact .inr rfl | assumption):G2 X (.Name x pos) (gN i):=by
 refine PG.mono (zAw hN hi hx hf) ?_
 rintro v σ1 H Q ⟨σ,G,d,R,r,dv,q,k⟩
 exact k _ G q _ H (.refl H) (r.set i dv)
noncomputable def gNN(i j:Nat):TG2:=fun d σ G R=>match d with | .tup [a,b]=>R ((σ.set i (some a)).set j (some b)) G | _=>False
theorem zOn(i j:Nat){x y:Str}{px py:Pos}{kk:Nat}(hc:X.calm=true)(hN:X.N.Nodup)(hi:X.N[i]?=some x:=by rfl)(hj:X.N[j]?=some y:=by rfl)(hx:Loc X.env.scope x:=by first | exact Or.inl rfl | exact Or.inr rfl)(hy:Loc X.env.scope y:=by first | exact Or.inl rfl | exact Or.inr rfl)
  (hf:X.fn x=true∨X.env.scope.names.lookup x=some .local:=by first | exact .inl rfl | exact .inr rfl | assumption) (hf':X.fn y=true∨X.env.scope.names.lookup y=some .local:=by first | exact .inl rfl | exact .inr rfl | assumption) :
  G2 X (.Tuple [.Name x px,.Name y py] kk pos) (gNN i j):=by
 refine PG.mono (zJz (n:=2) hc (zCU (zAw hN hi hx hf) (zCU (zAw hN hj hy hf') zIG))) ?_
 rintro v σ1 H Q ⟨σ,G,d,R,r,dv,q,k⟩
 unfold gNN at q
 split at q
 ·rename_i d1 d2
  unfold zN at dv
  obtain⟨a,xs,rfl,hs,hd⟩:=dv
  unfold Dens at hd
  obtain⟨x1,r1,rfl,h1,hd⟩:=hd
  unfold Dens at hd
  obtain⟨x2,r2,rfl,h2,hd⟩:=hd
  unfold Dens at hd
  subst hd
  exact⟨a,[x1,x2],rfl,hs,rfl,x1,[x2],rfl,x2,[],rfl,rfl,k _ G q _ H (.refl H) ((r.set i h1).set j h2)⟩
 ·exact q.elim
noncomputable def zf(te:zh)(g:TG2):wK:=fun E σ G=>te σ G fun d G1=>g d σ G1 E.nx
theorem zKF{g:TG2}{E:Ends}{σ1:L2.St}{H:Hp}{K:PySem.W.Frag}(h:lS K (zf te g) E σ1 H):zNJ (lE K te) (lG K g) E σ1 H:=by
 obtain⟨σ,G,D2,r,q,k⟩:=h
 refine⟨σ,G,_,r,q,fun d G' q' v H' g' r' d'=>⟨σ,G',d,_,r.to g' r',d',q',fun σ' G'' q'' σ1' H'' g'' r''=>k.nx σ' G'' q'' σ1' H'' (g'.trans g'') r''⟩⟩
theorem zi(i:Nat){x:Str}{pos':Pos}(hN:X.N.Nodup)(he:E2 X e te)(hi:X.N[i]?=some x:=by rfl)(hx:Loc X.env.scope x:=by first | exact Or.inl rfl | exact Or.inr rfl)(hs:swapsWith e (some (.Name x pos')) pos.line X.env=pure false:=by rfl)(hf:X.fn x=true∨X.env.scope.names.lookup x=some .local:=by first | exact .inl rfl | exact .inr rfl | assumption) :
  P2 X (.Assign [.Name x pos'] e pos) (zf te (gN i)):=by
 refine PS.mono (L2.zNL hN hi hx he hs hf) fun E σ1 H h=>?_
 obtain⟨σ,G,D2,r,q,k⟩:=h
 refine⟨σ,G,_,r,q,fun d G' q' v H' g' r' d'=>?_⟩
 exact k.nx _ G' q' _ H' g' ((r.to g' r').set i d')
theorem zMn{tg:Expr}{g:TG2}(he:E2 X e te)(hg:G2 X tg g)(hs:swapsWithSole [tg] e pos.line X.env=pure false:=by rfl)(hw:swappedStores [tg] e X.env=pure none:=by rfl)
  (h1:(assignEach [tg] X.env).map (·.2)=[assign tg X.env]:=by rfl):P2 X (.Assign [tg] e pos) (zf te g) :=
 PS.mono (L2.zNK he hg hs hw h1) fun u0 u0 u0 h=>zKF h
noncomputable def gIx(to ti:zh):TG2:=fun d σ G R=>to σ G fun o G1=>ti σ G1 fun i G2=>match o,i with
 | .adr l,.int k=>match G2.m l with
  | some ds=>match ixN ds.length k with | some j=>R σ (zS G2 l (ds.set j d)) | none=>False
  | none=>False
 | _,_=>False
theorem zOo{i:Expr}{to ti:zh}(ho:E2 X o to)(hi:E2 X i ti)
  (ha:∀ v,assign (.Subscript o i pos) X.env v=(do
   let ov ← holding [v] (eval o X.env)
   let iv ← holding [v,ov] (eval i X.env)
   standAt pos
   holding [v,ov,iv] (setItem ov iv v)
   release [v,ov,iv] []):=by intro u0;rfl):G2 X (.Subscript o i pos) (gIx to ti):=by
 refine PG.mono (zNI ho hi set_list ha) ?_
 rintro v σ1 H Q ⟨σ,G,d,R,r,dv,q,k⟩
 refine⟨σ,G,_,r,q,fun dx G1 q1 x H1 g1 r1 d1=>⟨σ,G1,_,r.to g1 r1,q1,fun dy G2' q2 y H2 g2 r2 d2=>?_⟩⟩
 cases dx with
 | adr l =>
  cases dy with
  | int j =>
   dsimp only at q2
   cases e1:G2'.m l with
   | none=>rw[e1] at q2;exact q2.elim
   | some ds =>
    rw[e1] at q2
    dsimp only at q2
    cases e2:ixN ds.length j with
    | none=>rw[e2] at q2;exact q2.elim
    | some jj =>
     rw[e2] at q2
     dsimp only at q2
     have d1':=d1.grow g2
     unfold zN at d1' d2
     subst d1' d2
     obtain⟨xs,h1,h2⟩:=r2.m l ds e1
     refine⟨l,xs,j,jj,rfl,rfl,h1,by rw[← h2.length];exact e2,?_⟩
     have g3:yA H2 (yz H2 l (.lst (xs.set jj v))):=.lst h1
     exact k _ _ q2 _ _ ((g1.trans g2).trans g3) ((r.to (g1.trans g2) r2).to g3 (r2.put h1 (h2.set jj (dv.grow (g1.trans g2)))))
  | _=>exact q2.elim
 | _=>exact q2.elim
end
end
end L3
namespace L3
open PySem PySem.Spec PyProof.Rows L2
noncomputable abbrev TI2:=S2→Gp→(List D→(Gp→Prop)→Gp→Prop)→Prop
structure Walk (K:PySem.W.Frag) (H0:Hp) (ds:List D) (gd:Gp→Prop) (J:It):Prop where
 go:∀ i G H,gd G→yH K G H→yA H0 H→i<ds.length→J.go i H
 stop:∀ G H,gd G→yH K G H→yA H0 H→J.stop ds.length H
 yld:∀ i G H x H',gd G→yH K G H→yA H0 H→i<ds.length→J.yld i H x H'→yA H H'∧yH K G H'∧∃ d,ds[i]?=some d∧zN K H' d x
noncomputable def lI(K:PySem.W.Frag)(wi:TI2):TI:=fun σ1 H R=>∃ σ G R2,Rel K σ G σ1 H∧wi σ G R2∧∀ ds gd G',R2 ds gd G'→∀ J H',yA H H'→yH K G' H'→Walk K H' ds gd J→ds.length≤sizeLine→R J H'
noncomputable def I2(X:Cx)(tg iter:Expr)(wi:TI2):Prop:=PI X tg iter (lI X.K wi)
theorem PI.mono{X:Cx}{tg iter:Expr}{t t':TI}(h:PI X tg iter t)(hm:∀ σ H R,t' σ H R→t σ H R):PI X tg iter t':=fun pins s σ H R I q=>h pins s σ H R I (hm σ H R q)
section
variable {X:Cx} {tg:Expr} {a b c e o l iter elt:Expr} {es:List Expr} {pos p:Pos} {ta tb te:zh}
theorem zKG{l:Expr}{tl:TE}(hl:PE X l tl):PI X tg l (fun σ H R=>tl σ H fun x H1=>∃ a xs,x=.ref a∧((SqL X.K H1 a xs∧(xs.length≤sizeLine→R (Itl X.K a) H1))∨(SqT X.K H1 a xs∧(xs.length≤sizeLine→R (Itt X.K a) H1)))):=by
 intro pins s σ H R I h
 refine yr (hl pins s σ H _ I h) fun v s1 ⟨x,H1,I1,r1,q1⟩=>?_
 obtain⟨a,xs,e,q⟩:=q1
 subst e
 cases r1
 have fpk:∀ b∈[s1.heap.objs.size],zDz X pins H1 b:=fun b hb=>by
  have e:b=s1.heap.objs.size:=by simpa using hb
  subst e
  exact I1.fpOk (Nat.le_refl _) (I1.hok.fresh (Nat.le_refl _))
 rcases q with ⟨hq,q⟩ | ⟨hq,q⟩
 ·obtain⟨its,rv,p,hz⟩:=I1.list hq
  refine wpAny_pyIter_list p.isList ?_
  exact⟨s1.heap.objs.size,[s1.heap.objs.size],_,_,H1,rfl,I1.kept (t':=s1.toks) fun b o e=>Heap.get?_push_of_some _ e,zI3 a _,⟨_,Heap.get?_push_size _ rfl,rfl,rfl⟩,fpk,q hz⟩
 ·obtain⟨its,rv,p,hz⟩:=I1.tuple hq
  refine wpAny_pyIter_tuple (show s1.heap.IsTuple a its.toArray from p) ?_
  exact⟨s1.heap.objs.size,[s1.heap.objs.size],_,_,H1,rfl,I1.kept (t':=s1.toks) fun b o e=>Heap.get?_push_of_some _ e,zHH a _,⟨_,Heap.get?_push_size _ rfl,rfl,rfl⟩,fpk,q hz⟩
theorem zFI{K:PySem.W.Frag}{H0:Hp}{a:Addr}{ds:List D}:Walk K H0 ds (fun G=>Ls G a ds) (Itl K a) where
 go:=fun i G H g r u0 hi=>by
  obtain⟨xs,h1,h2⟩:=r.sq g
  exact⟨xs,xs[i]'(by rw[← h2.length];exact hi),h1,by simp⟩
 stop:=fun G H g r u0=>by
  obtain⟨xs,h1,h2⟩:=r.sq g
  exact⟨xs,h1,Nat.le_of_eq h2.length.symm⟩
 yld:=fun i G H x H' g r u0 hi y=>by
  obtain⟨xs,h1,h2⟩:=r.sq g
  obtain⟨e,y⟩:=y
  subst e
  obtain⟨d,e1,e2⟩:=h2.got (y xs h1)
  exact⟨.refl _,r,d,e1,e2⟩
theorem zKH{K:PySem.W.Frag}{H0:Hp}{a:Addr}{xs:List V}{ds:List D}(h:SqT K H0 a xs)(hd:Dens K H0 ds xs):Walk K H0 ds (fun u0=>True) (Itt K a) where
 go:=fun i G H u0 r g hi=>⟨xs,xs[i]'(by rw[← hd.length];exact hi),g.sqT h,by simp⟩
 stop:=fun G H u0 r g=>⟨xs,g.sqT h,Nat.le_of_eq hd.length.symm⟩
 yld:=fun i G H x H' u0 r g hi y=>by
  obtain⟨e,y⟩:=y
  subst e
  obtain⟨d,e1,e2⟩:=(hd.grow g).got (y xs (g.sqT h))
  exact⟨.refl _,r,d,e1,e2⟩
noncomputable def zr(lo:Int)(n:Nat):List D:=(List.range n).map fun(k:Nat)=>D.int (lo+(k:Int))
theorem zAM(lo:Int)(n:Nat):(zr lo n).length=n:=by simp[zr]
theorem zHR{lo:Int}{n i:Nat}(h:i<n):(zr lo n)[i]?=some (.int (lo+i)):=by simp[zr,h]
theorem zD7{K:PySem.W.Frag}{H0:Hp}{lo:Int}{n:Nat}:Walk K H0 (zr lo n) (fun u0=>True) (Itr lo n) where
 go:=fun i G H u0 u0 u0 hi=>by rw[zAM] at hi;exact hi
 stop:=fun G H u0 u0 u0=>by rw[zAM];exact Nat.le_refl _
 yld:=fun i G H x H' u0 r u0 hi y=>by
  rw[zAM] at hi
  obtain⟨e,rfl⟩:=y
  subst e
  exact⟨.refl _,r,_,zHR hi,by unfold zN;rfl⟩
noncomputable def iV(t:zh):TI2:=fun σ G R=>t σ G fun d G1=>match d with
 | .tup ds=>R ds (fun u0=>True) G1
 | .adr a=>∃ ds,Ls G1 a ds∧R ds (fun G=>Ls G a ds) G1
 | _=>False
theorem zBJ(h:E2 X l ta):I2 X tg l (iV ta):=by
 refine PI.mono (zKG h) ?_
 rintro σ1 H R ⟨σ,G,R2,r,q,k⟩
 refine⟨σ,G,_,r,q,fun d G1 q1 v H1 g1 r1 d1=>?_⟩
 cases d with
 | tup ds =>
  unfold zN at d1
  obtain⟨a,xs,rfl,h1,h2⟩:=d1
  exact⟨a,xs,rfl,.inr ⟨h1,fun hz=>k ds _ G1 q1 _ H1 g1 r1 (zKH h1 h2) (by rw[h2.length];exact hz)⟩⟩
 | adr a =>
  unfold zN at d1
  subst d1
  obtain⟨ds,e,q1⟩:=q1
  obtain⟨xs,h1,h2⟩:=r1.sq e
  exact⟨a,xs,rfl,.inl ⟨h1,fun hz=>k ds _ G1 q1 _ H1 g1 r1 zFI (by rw[h2.length];exact hz)⟩⟩
 | _=>exact q1.elim
noncomputable def iF(t:TL2):TI2:=fun σ G R=>t σ G fun ds G1=>∀ a,G1.m a=none→R ds (fun G=>Ls G a ds) (zS G1 a ds)
theorem zKI{t:TL2}(h:F2 X l t):I2 X tg l (iF t):=by
 refine PI.mono (zKG h) ?_
 rintro σ1 H R ⟨σ,G,R2,r,q,k⟩
 refine⟨σ,G,_,r,q,fun ds G1 q1 a xs H1 g1 r1 n e1 d1=>?_⟩
 exact⟨a,xs,rfl,.inl ⟨.of e1,fun hz=>k ds _ _ (q1 a n) _ H1 g1 (r1.own e1 d1) zFI (by rw[d1.length];exact hz)⟩⟩
noncomputable def iR1(t:wL):TI2:=fun σ G R=>t σ G fun ds G1=>match ds with | [.int j]=>(-1000000≤j∧j≤1000000)∧R (zr 0 j.toNat) (fun u0=>True) G1 | _=>False
noncomputable def iR2(t:wL):TI2:=fun σ G R=>t σ G fun ds G1=>match ds with | [.int i,.int j]=>((-1000000≤i∧i≤1000000)∧-1000000≤j∧j≤1000000)∧R (zr i (j-i).toNat) (fun u0=>True) G1 | _=>False
theorem zBS{t:wL}(hg:Gl X "range")(hm:X.mg "range"=none)(ha:A2 X [a] t)(hs:starEach [a] X.env=[(false,eval a X.env)]:=by rfl):I2 X tg (.Call (.Name "range" p) [a] [] pos) (iR1 t):=by
 refine PI.mono (zI4 hg hm ha hs) ?_
 rintro σ1 H R ⟨σ,G,R2,r,q,k⟩
 refine⟨σ,G,_,r,q,fun ds G1 q1 vs H1 g1 r1 d1=>?_⟩
 split at q1
 ·rename_i j
  unfold Dens at d1
  obtain⟨x,r',rfl,d1,d2⟩:=d1
  unfold zN at d1
  unfold Dens at d2
  subst d1 d2
  refine⟨j,rfl,by (first|lia|omega),by (first|lia|omega),k _ _ G1 q1.2 _ H1 g1 r1 zD7 ?_⟩
  rw[zAM,sizeLine_eq];(first|lia|omega)
 ·exact q1.elim
theorem zAN{t:wL}(hg:Gl X "range")(hm:X.mg "range"=none)(ha:A2 X [a,b] t)(hs:starEach [a,b] X.env=[(false,eval a X.env),(false,eval b X.env)]:=by rfl)(hs2:starEach [b] X.env=[(false,eval b X.env)]:=by rfl):I2 X tg (.Call (.Name "range" p) [a,b] [] pos) (iR2 t):=by
 refine PI.mono (zI5 hg hm ha hs hs2) ?_
 rintro σ1 H R ⟨σ,G,R2,r,q,k⟩
 refine⟨σ,G,_,r,q,fun ds G1 q1 vs H1 g1 r1 d1=>?_⟩
 split at q1
 ·rename_i i j
  unfold Dens at d1
  obtain⟨x,r',rfl,d1,d2⟩:=d1
  unfold Dens at d2
  obtain⟨y,r',rfl,d2,d3⟩:=d2
  unfold zN at d1 d2
  unfold Dens at d3
  subst d1 d2 d3
  refine⟨i,j,rfl,⟨by (first|lia|omega),by (first|lia|omega),by (first|lia|omega),by (first|lia|omega)⟩,k _ _ G1 q1.2 _ H1 g1 r1 zD7 ?_⟩
  rw[zAM,sizeLine_eq];(first|lia|omega)
 ·exact q1.elim
structure wq (σ σ':S2):Prop where
 len:σ.length=σ'.length
 val:∀(i:Nat) d,σ[i]?=some (some d)→σ'[i]?=some (some d)
theorem wq.refl(σ:S2):wq σ σ:=⟨rfl,fun u0 u0 h=>h⟩
noncomputable def Fg(P:S2→Gp→Prop):S2→Gp→Prop:=fun σ G=>∃ σ' G',wq σ' σ∧Sub G' G∧P σ' G'
theorem Fg.of{P:S2→Gp→Prop}{σ:S2}{G:Gp}(h:P σ G):Fg P σ G:=⟨σ,G,.refl σ,.refl G,h⟩
theorem Rel.sub{K:PySem.W.Frag}{σ σ':S2}{G G':Gp}{σ1:L2.St}{H:Hp}(r:Rel K σ G σ1 H)(s:wq σ' σ)(g:Sub G' G):Rel K σ' G' σ1 H :=
 ⟨r.g.sub g,s.len.trans r.len,fun i d e=>r.val i d (s.val i d e)⟩
noncomputable def zOp(wi:TI2)(g:TG2)(tb:wK):wK:=fun E σ G=>wi σ G fun ds gd G1=>∃ Pv:Nat→S2→Gp→Prop,Pv 0 σ G1∧(∀ i σ G,i≤ds.length→Pv i σ G→gd G) ∧
 (∀ i x σ G,ds[i]?=some x→Pv i σ G→g x σ G fun σ2 G2=>tb { E with nx:=Fg (Pv (i+1)),ct:=Fg (Pv (i+1)),bk:=E.nx } σ2 G2)∧∀ σ G,Pv ds.length σ G→E.nx σ G
theorem zOq{wi:TI2}{g:TG2}{tb:wK}{body:List Stmt}(hp:PassesOwn (model X.prog X.w) X.A X.env X.xe)(hc:X.calm=true)(hi:I2 X tg iter wi)(hg:G2 X tg g)(hb:Ps2 X body tb)
  (hs:∀ x,foldedSetIterable iter X.env x=pure x:=by intro u0;rfl):P2 X (.For tg iter body [] pos) (zOp wi g tb):=by
 refine PS.mono (L2.zNM hp hc hi hg hb hs) ?_
 rintro E σ1 H ⟨σ,G,D2,r,q,k⟩
 refine⟨σ,G,_,r,q,fun ds gd G1 q1 J H1 g1 r1 W hz=>?_⟩
 obtain⟨Pv,p0,pg,pt,pd⟩:=q1
 refine⟨fun i m σ1' H'=>m=ds.length-i∧i≤ds.length∧yA H1 H'∧∃ σ' G',Rel X.K σ' G' σ1' H'∧Pv i σ' G',⟨ds.length,by simp,Nat.zero_le _,.refl _,σ,G1,r.to g1 r1,p0⟩,?_⟩
 rintro i m σ1' H' ⟨rfl,hi',g',σ',G',r',p'⟩
 have gd':=pg i σ' G' hi' p'
 by_cases hlt:i<ds.length
 ·refine .inr ⟨W.go i G' H' gd' r'.g g' hlt,fun σ1'' H''=>yA H1 H''∧∃ σ'' G'',Rel X.K σ'' G'' σ1'' H''∧Pv (i+1) σ'' G'',fun σ1'' H'' ⟨a1,σ'',G'',a2,a3⟩=>⟨ds.length-(i+1),by (first|lia|omega),rfl,hlt,a1,σ'',G'',a2,a3⟩,fun x H'' y=>?_⟩
  obtain⟨gy,ry,d,e1,e2⟩:=W.yld i G' H' x H'' gd' r'.g g' hlt y
  replace g':=g'.trans gy
  refine⟨σ',G',d,_,r'.to gy ry,e2,pt i d σ' G' e1 p',fun σ2 G2 q2 σ12 H2 g2 r2=>⟨σ2,G2,_,r2,q2,?_⟩⟩
  have back:∀ σ3 G3,Fg (Pv (i+1)) σ3 G3→∀ σ13 H3,yA H2 H3→Rel X.K σ3 G3 σ13 H3→yA H1 H3∧∃ σ'' G'',Rel X.K σ'' G'' σ13 H3∧Pv (i+1) σ'' G'':=by
   rintro σ3 G3 ⟨σ4,G4,a1,a2,a3⟩ σ13 H3 g3 r3
   exact⟨(g'.trans g2).trans g3,σ4,G4,r3.sub a1 a2,a3⟩
  exact⟨back,fun σ3 G3 q3 σ13 H3 g3 r3=>k.nx σ3 G3 q3 σ13 H3 (((g1.trans g').trans g2).trans g3) r3,back,fun d3 G3 q3 v3 H3 g3 r3 dv=>k.rt d3 G3 q3 v3 H3 (((g1.trans g').trans g2).trans g3) r3 dv⟩
 ·have e:i=ds.length:=by (first|lia|omega)
  subst e
  exact .inl ⟨W.stop G' H' gd' r'.g g',k.nx σ' G' (pd σ' G' p') σ1' H' (g1.trans g') r'⟩
noncomputable def FgG(P:Gp→Prop):Gp→Prop:=fun G=>∃ G',Sub G' G∧P G'
theorem FgG.of{P:Gp→Prop}{G:Gp}(h:P G):FgG P G:=⟨G,.refl G,h⟩
noncomputable def yL(wi:TI2)(bd:D→Option (List D))(tc:TT2)(te:zh):TL2:=fun σ G R=>wi σ G fun ds gd G1=>∀ A,G1.m A=none→∃ Pv:Nat→List D→Gp→Prop,Pv 0 [] (zS G1 A [])∧(∀ i acc G,i≤ds.length→Pv i acc G→gd G∧G.m A=some acc∧acc.length≤i) ∧
 (∀ i x acc G,ds[i]?=some x→Pv i acc G→match bd x with
  | some us=>tc (σ++us.map some) G fun b G3=>if b=true then te (σ++us.map some) G3 fun d G4=>G4.m A=some acc∧FgG (Pv (i+1) (acc++[d])) (zS G4 A (acc++[d])) else FgG (Pv (i+1) acc) G3
  | none=>False)∧∀ acc G,Pv ds.length acc G→∃ G',G'.m A=none∧Sub G' G∧R acc G'
noncomputable def Ts2(X:Cx)(ifs:List Expr)(t:TT2):Prop:=PTs X ifs (lT X.K t)
noncomputable def zCa:TT2:=fun u0 G R=>R true G
theorem zC7:Ts2 X [] zCa:=by
 intro pins s σ1 H Q I h
 refine zLm pins s σ1 H Q I ?_
 obtain⟨σ,G,R,r,q,k⟩:=h
 exact k true G q H (.refl H) r.g
theorem zCI{t:TT2}(h:T2 X c t):Ts2 X [c] t:=zLn h
theorem Rel.app{K:PySem.W.Frag}{σ:S2}{G:Gp}{σ1:L2.St}{H:Hp}(r:Rel K σ G σ1 H){ds:List D}{vs:List V}(h:Dens K H ds vs):Rel K (σ++ds.map some) G (σ1++vs.map some) H :=
 ⟨r.g,by simp[r.len,h.length],fun i d e=>by
  by_cases hi:i<σ.length
  ·rw[List.getElem?_append_left hi] at e
   obtain⟨v,e1,e2⟩:=r.val i d e
   exact⟨v,by rw[List.getElem?_append_left (by rw[← r.len];exact hi)];exact e1,e2⟩
  ·rw[List.getElem?_append_right (by (first|lia|omega)),List.getElem?_map] at e
   cases q:ds[i-σ.length]? with
   | none=>rw[q] at e;cases e
   | some d' =>
    rw[q] at e;cases e
    obtain⟨v,e1,e2⟩:=h.get q
    exact⟨v,by rw[List.getElem?_append_right (by rw[← r.len];(first|lia|omega)),List.getElem?_map,← r.len,e1];rfl,e2⟩⟩
theorem zC8{K:PySem.W.Frag}{wi:TI2}{bd:D→Option (List D)}{tc:TT2}{te:zh}{n:Nat}{g:TG}{N:Nat}
  (hb:∀(σ1:L2.St) (H:Hp) (d:D) (v:V) (us:List D) (Q:L2.St→Hp→Prop),σ1.length=N→zN K H d v→bd d=some us→us.length=n→(∀ vs,Dens K H us vs→Q (σ1++vs.map some) H)→g v (σ1++List.replicate n none) H Q)
  (hn:∀ d us,bd d=some us→us.length=n)
  {σ1:L2.St} {H:Hp} {Q:VK} (hl:σ1.length=N) (h:lL K (yL wi bd tc te) σ1 H Q):zKC n (lI K wi) g (lT K tc) (lE K te) σ1 H Q:=by
 obtain⟨σ,G,R,r,q,k⟩:=h
 refine⟨σ,G,_,r,q,fun ds gd G1 q1 J H1 g1 r1 W hz A hA=>?_⟩
 obtain⟨Pv,p0,pg,pt,pd⟩:=q1 A (r1.free hA)
 refine⟨fun i m H2=>m=ds.length-i∧i≤ds.length∧yA H1 H2∧∃ as G2,yH K G2 H2∧Pv i as G2,⟨ds.length,by simp,Nat.zero_le _,.fresh hA,[],zS G1 A [],r1.new hA .nil,p0⟩,?_⟩
 rintro i m H2 ⟨rfl,hi',g2,as,G2,r2,p2⟩
 obtain⟨gd2,al,hlen⟩:=pg i as G2 hi' p2
 by_cases hlt:i<ds.length
 ·refine .inr ⟨W.go i G2 H2 gd2 r2 g2 hlt,fun x H3 y=>?_⟩
  obtain⟨gy,ry,d,e3,dv⟩:=W.yld i G2 H2 x H3 gd2 r2 g2 hlt y
  replace g2:=g2.trans gy
  replace r2:=ry
  have q3:=pt i d as G2 e3 p2
  cases eb:bd d with
  | none=>rw[eb] at q3;exact q3.elim
  | some us =>
   rw[eb] at q3
   dsimp only at q3
   have hus:=hn d us eb
   refine hb σ1 H3 d x us _ hl dv eb hus fun vs hv=>⟨?_,?_,?_⟩
   ·rw[List.take_append_of_le_length (Nat.le_refl _),List.take_length]
   ·rw[List.length_append,List.length_map,← hv.length,hus]
   ·have rr:Rel K (σ++us.map some) G2 (σ1++vs.map some) H3:=(r.to (g1.trans g2) r2).app hv
    refine⟨σ++us.map some,G2,_,rr,q3,fun b G4 q4 H4 g4 r4=>?_⟩
    cases b with
    | false =>
     obtain⟨G5,s5,p5⟩:=q4
     exact⟨ds.length-(i+1),by (first|lia|omega),rfl,hlt,g2.trans g4,as,G5,r4.sub s5,p5⟩
    | true =>
     refine⟨σ++us.map some,G4,_,rr.to g4 r4,q4,fun d5 G5 q5 v H5 g5 r5 d5v=>?_⟩
     obtain⟨a5,G6,s6,p6⟩:=q5
     obtain⟨acc,e6,d6⟩:=r5.m A as a5
     refine⟨acc,e6,by rw[← d6.length];(first|lia|omega),ds.length-(i+1),by (first|lia|omega),rfl,hlt,((g2.trans g4).trans g5).trans (.lst e6),as++[d5],G6,?_,p6⟩
     exact(r5.put e6 (d6.append (.cons d5v .nil))).sub s6
 ·have e:i=ds.length:=by (first|lia|omega)
  subst e
  obtain⟨G',n',s',q'⟩:=pd as G2 p2
  obtain⟨acc,e6,d6⟩:=r2.m A as al
  exact .inl ⟨W.stop G2 H2 gd2 r2 g2,k as G' q' A acc H2 (g1.trans g2) (r2.sub s') n' e6 d6⟩
noncomputable def bd1:D→Option (List D):=fun d=>some [d]
noncomputable def bd2:D→Option (List D):=fun d=>match d with | .tup [a,b]=>some [a,b] | _=>none
section
variable {ifs:List Expr} {sc:Scope} {N0:List Str} {wi:TI2} {tc:TT2}
theorem PE.at{t t':TE}(h:PE X e t)(hm:∀ σ H Q,σ.length=X.N.length→t' σ H Q→t σ H Q):PE X e t':=fun pins s σ H Q I q=>h pins s σ H Q I (hm σ H Q I.len q)
theorem PS.at{st:Stmt}{t t':TS}(h:PS X st t)(hm:∀ E σ H,σ.length=X.N.length→t' E σ H→t E σ H):PS X st t':=fun pins s σ H E I q=>h pins s σ H E I (hm E σ H I.len q)
theorem zGS(s t:List (Option V))(x:Option V):List.set (s++t) (List.length s) x=s++t.set 0 x:=by
 rw[List.set_append_right _ _ (Nat.le_refl _),Nat.sub_self]
theorem zKJ(s t:List (Option V))(x:Option V):List.set (s++t) (List.length s+1) x=s++t.set 1 x:=by
 rw[List.set_append_right _ _ (show s.length≤s.length+1 by (first|lia|omega)),Nat.add_sub_cancel_left]
theorem bind1{K:PySem.W.Frag}{N:Nat}(σ1:L2.St)(H:Hp)(d:D)(v:V)(us:List D)(Q:L2.St→Hp→Prop)(hl:σ1.length=N)(dv:zN K H d v)(eb:bd1 d=some us)(hus:us.length=1)(h:∀ vs,Dens K H us vs→Q (σ1++vs.map some) H):zCT N v (σ1++List.replicate 1 none) H Q:=by
 cases eb
 have:=h [v] (.cons dv .nil)
 show Q (List.set (σ1++[none]) N (some v)) H
 rw[← hl,zGS]
 exact this
theorem zOr{K:PySem.W.Frag}{N:Nat}(σ1:L2.St)(H:Hp)(d:D)(v:V)(us:List D)(Q:L2.St→Hp→Prop)(hl:σ1.length=N)(dv:zN K H d v)(eb:bd2 d=some us)(hus:us.length=2)(h:∀ vs,Dens K H us vs→Q (σ1++vs.map some) H):zNH K 2 (zGJ (zCT N) (zGJ (zCT (N+1)) zNG)) v (σ1++List.replicate 2 none) H Q:=by
 unfold bd2 at eb
 split at eb
 ·rename_i d1 d2
  cases eb
  unfold zN at dv
  obtain⟨a,xs,rfl,hs,hd⟩:=dv
  have hd0:=hd
  unfold Dens at hd
  obtain⟨x1,r1,rfl,h1,hd⟩:=hd
  unfold Dens at hd
  obtain⟨x2,r2,rfl,h2,hd⟩:=hd
  unfold Dens at hd
  subst hd
  refine⟨a,[x1,x2],rfl,hs,rfl,x1,[x2],rfl,x2,[],rfl,rfl,?_⟩
  have:=h [x1,x2] hd0
  rw[← hl]
  have e1:List.set (σ1++List.replicate 2 none) (List.length σ1) (some x1)=σ1++[some x1,none]:=zGS σ1 _ _
  rw[e1,zKJ]
  exact this
 ·cases eb
theorem zLo(x:Str){px:Pos}(hc:X.calm=true)(T:zCH X sc N0)(hi:I2 X (.Name x px) iter wi)
  (hnd:(N0++[x]).Nodup) (hx:(relabel sc X.env).names.lookup x=some .local)
  (ht:∀ C s H fp pins,Ts2 (X.comp (N0++[x]) sc C s H fp pins) ifs tc) (he:∀ C s H fp pins,E2 (X.comp (N0++[x]) sc C s H fp pins) elt te)
  (hs:∀ x,foldedSetIterable iter X.env x=pure x:=by intro u0;rfl):F2 X (.ListComp elt [⟨.Name x px,iter,ifs,0⟩] sc pos) (yL wi bd1 tc te):=by
 refine PE.at (zIN (own:=[x]) (g:=zCT X.N.length) (tc:=lT X.K tc) (te:=lE X.K te) hc T hi (fun C s H fp pins=>zAw (X:=X.comp (N0++[x]) sc C s H fp pins) hnd (by
  show(N0++[x])[X.N.length]?=some x
  rw[← T.len];simp) (.inl hx) (.inr hx)) ht he hs) fun σ H Q hl h=>?_
 exact zC8 (n:=1) (N:=X.N.length) bind1 (fun d us e=>by cases e;rfl) hl h
theorem zLp(x y:Str){px py pt:Pos}{kk:Nat}(hc:X.calm=true)(T:zCH X sc N0)(hi:I2 X (.Tuple [.Name x px,.Name y py] kk pt) iter wi)
  (hnd:(N0++[x,y]).Nodup) (hx:(relabel sc X.env).names.lookup x=some .local) (hy:(relabel sc X.env).names.lookup y=some .local)
  (ht:∀ C s H fp pins,Ts2 (X.comp (N0++[x,y]) sc C s H fp pins) ifs tc) (he:∀ C s H fp pins,E2 (X.comp (N0++[x,y]) sc C s H fp pins) elt te)
  (hs:∀ x,foldedSetIterable iter X.env x=pure x:=by intro u0;rfl):F2 X (.ListComp elt [⟨.Tuple [.Name x px,.Name y py] kk pt,iter,ifs,0⟩] sc pos) (yL wi bd2 tc te):=by
 refine PE.at (zIN (own:=[x,y]) (g:=zNH X.K 2 (zGJ (zCT X.N.length) (zGJ (zCT (X.N.length+1)) zNG))) (tc:=lT X.K tc) (te:=lE X.K te) hc T hi (fun C s H fp pins=>?_) ht he hs) fun σ H Q hl h=>?_
 ·have e1:(X.comp (N0++[x,y]) sc C s H fp pins).N[X.N.length]?=some x:=by
   show(N0++[x,y])[X.N.length]?=some x
   rw[← T.len];simp
  have e2:(X.comp (N0++[x,y]) sc C s H fp pins).N[X.N.length+1]?=some y:=by
   show(N0++[x,y])[X.N.length+1]?=some y
   rw[← T.len];simp
  exact zJz (X:=X.comp (N0++[x,y]) sc C s H fp pins) (n:=2) hc (zCU (zAw hnd e1 (.inl hx) (.inr hx)) (zCU (zAw hnd e2 (.inl hy) (.inr hy)) zIG))
 ·refine zC8 (n:=2) (N:=X.N.length) zOr (fun d us e=>?_) hl h
  unfold bd2 at e
  split at e<;>first | (cases e;rfl) | (cases e;done)
noncomputable def zDS(i:Nat)(t:TL2):wK:=fun E σ G=>t σ G fun ds G'=>∀ l,G'.m l=none→E.nx (σ.set i (some (.adr l))) (zS G' l ds)
theorem zHS(i:Nat)(x:Str){y:Str}{px py spos:Pos}(hc:X.calm=true)(T:zCH X sc N0)(hi:I2 X (.Name x px) iter wi)
  (hnd:(N0++[x]).Nodup) (hx:(relabel sc X.env).names.lookup x=some .local)
  (ht:∀ C s H fp pins,Ts2 (X.comp (N0++[x]) sc C s H fp pins) ifs tc) (he:∀ C s H fp pins,E2 (X.comp (N0++[x]) sc C s H fp pins) elt te)
  (hN:X.N.Nodup) (hy:X.N[i]?=some y) (hl:X.env.scope.names.lookup y=some .local)
  (hsw:swapsWith (.ListComp elt [⟨.Name x px,iter,ifs,0⟩] sc pos) (some (.Name y py)) spos.line X.env=pure true)
  (hs:∀ x,foldedSetIterable iter X.env x=pure x:=by intro u0;rfl):P2 X (.Assign [.Name y py] (.ListComp elt [⟨.Name x px,iter,ifs,0⟩] sc pos) spos) (zDS i (yL wi bd1 tc te)):=by
 refine PS.at (zHQ (own:=[x]) (g:=zCT X.N.length) (tc:=lT X.K tc) (te:=lE X.K te) hc T hi (fun C s H fp pins=>zAw (X:=X.comp (N0++[x]) sc C s H fp pins) hnd (by
  show(N0++[x])[X.N.length]?=some x
  rw[← T.len];simp) (.inl hx) (.inr hx)) ht he hN hy hl hsw hs) fun E σ1 H hl h=>?_
 obtain⟨σ,G,D2,r,q,k⟩:=h
 refine zC8 (n:=1) (N:=X.N.length) bind1 (fun d us e=>by cases e;rfl) hl ⟨σ,G,_,r,q,fun ds G' q' l xs H' g' r' n e d=>?_⟩
 exact k.nx _ _ (q' l n) _ H' g' ((r.to g' (r'.own e d)).set i (by unfold zN;rfl))
end
end
end L3
namespace L3
open PySem PySem.Spec PyProof.Rows L2
section
variable {X:Cx} {a b c e o:Expr} {es:List Expr} {pos p:Pos} {ta tb te:zh}
theorem zIQ(h:E2 X e te)(he:∀ whole,isTrue e X.env whole=(do let v ← whole;standAt e.pos;holding [v] (truthy v)):=by intro u0;rfl):T2 X e (xB te):=by
 refine PT.mono (zNA h he) ?_
 rintro σ1 H Q ⟨σ,G,R,r,q,k⟩
 refine⟨σ,G,_,r,q,fun d G1 q1 v H1 g1 r1 d1=>?_⟩
 cases d with
 | bl c =>
  unfold zN at d1
  exact⟨c,d1,k _ G1 q1 H1 g1 r1⟩
 | _=>exact q1.elim
section
variable {t u:TT2} {rest:List Expr}
noncomputable def W2(X:Cx)(e:Expr)(t:TT2):Prop:=PW X e (lT X.K t)
theorem W2.test(h:W2 X e t):T2 X e t:=PW.pt h
noncomputable def zCb(t u:TT2):TT2:=fun σ G R=>t σ G fun c G1=>if c=true then u σ G1 R else R false G1
noncomputable def zCc(t u:TT2):TT2:=fun σ G R=>t σ G fun c G1=>if c=true then R true G1 else u σ G1 R
noncomputable def zBT(t:TT2):TT2:=fun σ G R=>t σ G fun c G1=>R (!c) G1
theorem PW.mono{t t':TT}(h:PW X e t)(hm:∀ σ H Q,t' σ H Q→t σ H Q):PW X e t':=fun w pins s σ H Q I q=>h w pins s σ H Q I (hm σ H Q q)
theorem zNi(ha:T2 X a t):W2 X (.BoolOp .And [a] pos) t:=zLT ha
theorem zMo(ha:T2 X a t):W2 X (.BoolOp .Or [a] pos) t:=zNB ha
theorem w_and(ha:T2 X a t)(hb:W2 X (.BoolOp .And (b::rest) pos) u):W2 X (.BoolOp .And (a::b::rest) pos) (zCb t u):=by
 refine PW.mono (zNC ha hb) ?_
 rintro σ1 H Q ⟨σ,G,R,r,q,k⟩
 refine⟨σ,G,_,r,q,fun c G1 q1 H1 g1 r1=>?_⟩
 cases c with
 | true=>exact⟨σ,G1,R,r.to g1 r1,q1,fun b G' q' H' g'=>k b G' q' H' (g1.trans g')⟩
 | false=>exact k _ G1 q1 H1 g1 r1
theorem w_or(ha:T2 X a t)(hb:W2 X (.BoolOp .Or (b::rest) pos) u):W2 X (.BoolOp .Or (a::b::rest) pos) (zCc t u):=by
 refine PW.mono (zOS ha hb) ?_
 rintro σ1 H Q ⟨σ,G,R,r,q,k⟩
 refine⟨σ,G,_,r,q,fun c G1 q1 H1 g1 r1=>?_⟩
 cases c with
 | true=>exact k _ G1 q1 H1 g1 r1
 | false=>exact⟨σ,G1,R,r.to g1 r1,q1,fun b G' q' H' g'=>k b G' q' H' (g1.trans g')⟩
theorem zMp(ha:T2 X a t):T2 X (.UnaryOp .Not a pos) (zBT t):=by
 refine PT.mono (zND ha) ?_
 rintro σ1 H Q ⟨σ,G,R,r,q,k⟩
 exact⟨σ,G,_,r,q,fun c G1 q1 H1 g1 r1=>k _ G1 q1 H1 g1 r1⟩
end
theorem zIR(ha:E2 X a ta)(hb:E2 X b tb):E2 X (.BinOp a .Sub b pos) (zX (fII fun i j=>.int (i-j)) ta tb):=zGR zNR (zD6 fun u0 u0=>⟨rfl,rfl⟩) ha hb
theorem zC9(ha:E2 X a ta)(hb:E2 X b tb):E2 X (.BinOp a .Mult b pos) (zX (yh zEw fun i j=>.int (i*j)) ta tb):=zGR zNS (zCZ fun u0 u0=>⟨rfl,rfl⟩) ha hb
theorem zHT(ha:E2 X a ta)(hb:E2 X b tb):E2 X (.BinOp a .FloorDiv b pos) (zX (yh zJ2 fun i j=>.int (i / j)) ta tb):=zGR zLX (zCZ fun u0 u0=>⟨rfl,rfl⟩) ha hb
theorem zFJ(ha:E2 X a ta)(hb:E2 X b tb):E2 X (.BinOp a .Mod b pos) (zX (yh (fun u0 j=>0<j) fun i j=>.int (i%j)) ta tb):=zGR zNT (zCZ fun u0 u0=>⟨rfl,rfl⟩) ha hb
theorem zMq(ha:E2 X a ta)(hb:E2 X b tb):E2 X (.BinOp a .Pow b pos) (zX (yh zDe fun i j=>.int (i ^ j.toNat)) ta tb):=zGR zNU (zCZ fun u0 u0=>⟨rfl,rfl⟩) ha hb
theorem zNj(ha:E2 X a ta)(hb:E2 X b tb):T2 X (.Compare a [.Lt] [b] pos) (xB (zX (fII fun i j=>.bl (decide (i<j))) ta tb)):=zFH zOa (zD6 fun u0 u0=>⟨rfl,rfl⟩) ha hb (zD1 _)
theorem zOs(ha:E2 X a ta)(hb:E2 X b tb):T2 X (.Compare a [.Gt] [b] pos) (xB (zX (fII fun i j=>.bl (decide (j<i))) ta tb)):=zFH zOb (zD6 fun u0 u0=>⟨rfl,rfl⟩) ha hb (zD1 _)
theorem zPU(ha:E2 X a ta)(hb:E2 X b tb):T2 X (.Compare a [.GtE] [b] pos) (xB (zX (fII fun i j=>.bl (decide (j≤i))) ta tb)):=zFH zOc (zD6 fun u0 u0=>⟨rfl,rfl⟩) ha hb (zD1 _)
mutual
noncomputable def wU:D→D→Bool
 | .non,.non=>true
 | .bl a,.bl b=>a==b
 | .int a,.int b=>a==b
 | .bl a,.int b=>(if a then 1 else 0)==b
 | .int a,.bl b=>a==(if b then 1 else 0)
 | .str a,.str b=>a==b
 | .tup a,.tup b=>eqDs a b
 | _,_=>false
noncomputable def eqDs:List D→List D→Bool
 | [],[]=>true
 | x::xs,y::ys=>wU x y&&eqDs xs ys
 | _,_=>false
end
noncomputable def flat:Nat→D→Bool
 | _,.non=>true
 | _,.bl _=>true
 | _,.int _=>true
 | _,.str _=>true
 | _,.adr _=>false
 | _,.dic _=>false
 | 0,.tup _=>false
 | n+1,.tup ds=>ds.all (flat n)
theorem zD8:∀(xs ys:List D),eqDs xs ys=((List.range (min xs.length ys.length)).all (fun j=>wU (xs.getD j .non) (ys.getD j .non))&&xs.length==ys.length)
 | [],[]=>by simp[eqDs]
 | [],y::ys=>by simp[eqDs]
 | x::xs,[]=>by simp[eqDs]
 | x::xs,y::ys=>by
  unfold eqDs
  rw[zD8 xs ys]
  have e1:min (x::xs).length (y::ys).length=min xs.length ys.length+1:=by simp only[List.length_cons];(first|lia|omega)
  rw[e1,List.range_succ_eq_map,List.all_cons,List.all_map]
  have e2:((x::xs).length==(y::ys).length)=(xs.length==ys.length):=by
   rw[Bool.eq_iff_iff];simp
  rw[e2,Bool.and_assoc]
  rfl
mutual
theorem zGT:∀ d:D,(∀ n,flat n d=true→wU d d=true)
 | .non,_,_=>by simp[wU]
 | .bl _,_,_=>by simp[wU]
 | .int _,_,_=>by simp[wU]
 | .str _,_,_=>by simp[wU]
 | .adr _,n,h=>by cases n<;>simp[flat] at h
 | .dic _,n,h=>by cases n<;>simp[flat] at h
 | .tup ds,0,h=>by simp[flat] at h
 | .tup ds,n+1,h=>by
  unfold wU
  exact eqDs_refl ds n (by simpa[flat] using h)
theorem eqDs_refl:∀ ds:List D,(∀ n,(∀ d∈ds,flat n d=true)→eqDs ds ds=true)
 | [],_,_=>by simp[eqDs]
 | d::ds,n,h=>by
  unfold eqDs
  rw[zGT d n (h d List.mem_cons_self),eqDs_refl ds n fun x hx=>h x (List.mem_cons_of_mem _ hx)]
  rfl
end
section
variable {pins:List (Addr×Obj)} {σ1:L2.St} {H:Hp} {s:Shared}
mutual
theorem zN.inj(I:zP X pins σ1 H s):∀ {d d':D} {v:V} {n n':Nat},zN X.K H d v→zN X.K H d' v→flat n d=true→flat n' d'=true→d=d' 
 | .non,d',v,n,n',h,h',f,f'=>by
  unfold zN at h;subst h
  cases d' with
  | tup _=>unfold zN at h';obtain⟨u0,u0,e,u0⟩:=h';cases e
  | dic _=>unfold zN at h';cases h'.1
  | _=>unfold zN at h';first | rfl | cases h'
 | .bl b,d',v,n,n',h,h',f,f'=>by
  unfold zN at h;subst h
  cases d' with
  | tup _=>unfold zN at h';obtain⟨u0,u0,e,u0⟩:=h';cases e
  | dic _=>unfold zN at h';cases h'.1
  | _=>unfold zN at h';first | cases h';rfl | cases h'
 | .int b,d',v,n,n',h,h',f,f'=>by
  unfold zN at h;subst h
  cases d' with
  | tup _=>unfold zN at h';obtain⟨u0,u0,e,u0⟩:=h';cases e
  | dic _=>unfold zN at h';cases h'.1
  | _=>unfold zN at h';first | cases h';rfl | cases h'
 | .str b,d',v,n,n',h,h',f,f'=>by
  unfold zN at h;subst h
  cases d' with
  | tup _=>unfold zN at h';obtain⟨u0,u0,e,u0⟩:=h';cases e
  | dic _=>unfold zN at h';cases h'.1
  | _=>unfold zN at h';first | cases h';rfl | cases h'
 | .adr _,d',v,n,n',h,h',f,f'=>by cases n<;>simp[flat] at f
 | .dic _,d',v,n,n',h,h',f,f'=>by cases n<;>simp[flat] at f
 | .tup ds,d',v,n,n',h,h',f,f'=>by
  unfold zN at h
  obtain⟨a,xs,rfl,hs,hd⟩:=h
  cases d' with
  | tup ds' =>
   unfold zN at h'
   obtain⟨a',xs',e,hs',hd'⟩:=h'
   cases e
   have:=I.tuple_inj hs hs'
   subst this
   cases n with
   | zero=>simp[flat] at f
   | succ n =>
    cases n' with
    | zero=>simp[flat] at f'
    | succ n'=>rw[Dens.inj I hd hd' (by simpa[flat] using f) (by simpa[flat] using f')]
  | adr _=>cases n'<;>simp[flat] at f'
  | dic _=>cases n'<;>simp[flat] at f'
  | _=>unfold zN at h';cases h'
theorem Dens.inj(I:zP X pins σ1 H s):∀ {ds ds':List D} {xs:List V} {n n':Nat},Dens X.K H ds xs→Dens X.K H ds' xs→(∀ d∈ds,flat n d=true)→(∀ d∈ds',flat n' d=true)→ds=ds'
 | [],ds',xs,n,n',h,h',f,f'=>by
  unfold Dens at h;subst h
  cases ds' with
  | nil=>rfl
  | cons _ _=>unfold Dens at h';obtain⟨u0,u0,e,u0⟩:=h';cases e
 | d::ds,ds',xs,n,n',h,h',f,f'=>by
  unfold Dens at h
  obtain⟨x,r,rfl,h1,h2⟩:=h
  cases ds' with
  | nil=>unfold Dens at h';cases h'
  | cons d' ds' =>
   unfold Dens at h'
   obtain⟨x',r',e,h1',h2'⟩:=h'
   cases e
   rw[zN.inj I h1 h1' (f d List.mem_cons_self) (f' d' List.mem_cons_self),Dens.inj I h2 h2' (fun z hz=>f z (List.mem_cons_of_mem _ hz)) fun z hz=>f' z (List.mem_cons_of_mem _ hz)]
end
theorem in1_units{A:Around}:A.in1.units=A.units+1:=rfl
theorem zKK(I:zP X pins σ1 H s):∀(n:Nat) (d d':D) (v v':V) (u u':Value) (A:Around),zN X.K H d v→zN X.K H d' v'→RelV v u→RelV v' u'→flat n d=true→flat n d'=true→A.units+n<cLine→SeqAt.EqAt A s u u' (wU d d'):=by
 intro n
 induction n with
 | zero =>
  intro d d' v v' u u' A h h' r r' f f' hu
  have fv:∀ {d:D} {v:V},flat 0 d=true→zN X.K H d v→zIM v=true∧v=vOf d:=fun {d v} f h=>by
   cases d<;>first | (simp[flat] at f;done) | (unfold zN at h;subst h;exact⟨rfl,rfl⟩)
  obtain⟨f1,e1⟩:=fv f h
  obtain⟨f2,e2⟩:=fv f' h'
  have q:=zJ8 (A:=A) (s:=s) r r' f1 f2
  have e:eqV v v'=wU d d':=by
   rw[e1,e2]
   cases d<;>first | (simp[flat] at f;done) | (cases d'<;>first | (simp[flat] at f';done) | rfl)
  rw[← e];exact q
 | succ n ih =>
  intro d d' v v' u u' A h h' r r' f f' hu
  by_cases hs:flat 0 d=true∧flat 0 d'=true
  ·have fv:∀ {d:D} {v:V},flat 0 d=true→zN X.K H d v→zIM v=true∧v=vOf d:=fun {d v} f h=>by
    cases d<;>first | (simp[flat] at f;done) | (unfold zN at h;subst h;exact⟨rfl,rfl⟩)
   obtain⟨f1,e1⟩:=fv hs.1 h
   obtain⟨f2,e2⟩:=fv hs.2 h'
   have q:=zJ8 (A:=A) (s:=s) r r' f1 f2
   have e:eqV v v'=wU d d':=by
    rw[e1,e2]
    cases d<;>first | (simp[flat] at hs;done) | (cases d'<;>first | (simp[flat] at hs;done) | rfl)
   rw[← e];exact q
  ·have hu0:A.units<cLine:=by (first|lia|omega)
   cases d with
   | tup ds =>
    unfold zN at h
    obtain⟨a,xs,rfl,hsq,hd⟩:=h
    cases r
    obtain⟨its,rv,tp,u0⟩:=I.tuple hsq
    have tp':s.heap.IsTuple a its.toArray:=tp
    cases d' with
    | tup ds' =>
     unfold zN at h'
     obtain⟨a',xs',rfl,hsq',hd'⟩:=h'
     cases r'
     obtain⟨its',rv',tp2,u0⟩:=I.tuple hsq'
     by_cases ha:a=a'
     ·subst ha
      have:=I.tuple_inj hsq hsq'
      subst this
      have hds:ds=ds':=Dens.inj I hd hd' (by simpa[flat] using f) (by simpa[flat] using f')
      subst hds
      have e:wU (.tup ds) (.tup ds)=true:=zGT _ _ f
      rw[e]
      exact SeqAt.EqAt.same _
     ·have q:=SeqAt.EqAt.of_refs ha (SeqAt.RcAt.tuples (A:=A) (s:=s) (e:=fun j=>wU (ds.getD j .non) (ds'.getD j .non)) tp' (show s.heap.IsTuple a' its'.toArray from tp2) hu0 fun j h1 h2=>by
       have h1':j<its.length:=by simpa using h1
       have h2':j<its'.length:=by simpa using h2
       have l1:=hd.length
       have l2:=rv.length
       have l3:=hd'.length
       have l4:=rv'.length
       obtain⟨x,ex,dx⟩:=hd.get (i:=j) (d:=ds[j]'(by (first|lia|omega))) (by simp)
       obtain⟨y,ey,dy⟩:=hd'.get (i:=j) (d:=ds'[j]'(by (first|lia|omega))) (by simp)
       obtain⟨ux,eux,rx⟩:=rv.get ex
       obtain⟨uy,euy,ry⟩:=rv'.get ey
       have e1:its.toArray[j]=ux:=by
        have:=(List.getElem?_eq_some_iff.mp eux).2
        simpa using this
       have e2:its'.toArray[j]=uy:=by
        have:=(List.getElem?_eq_some_iff.mp euy).2
        simpa using this
       have g1:ds.getD j .non=ds[j]'(by (first|lia|omega)):=by simp[List.getD,(show j<ds.length by (first|lia|omega))]
       have g2:ds'.getD j .non=ds'[j]'(by (first|lia|omega)):=by simp[List.getD,(show j<ds'.length by (first|lia|omega))]
       rw[e1,e2]
       show SeqAt.EqAt A.in1 s ux uy (wU (ds.getD j .non) (ds'.getD j .non))
       rw[g1,g2]
       refine ih _ _ x y ux uy A.in1 dx dy rx ry ?_ ?_ (by rw[in1_units];(first|lia|omega))
       ·have:∀ d∈ds,flat n d=true:=by simpa[flat] using f
        exact this _ (List.getElem_mem _)
       ·have:∀ d∈ds',flat n d=true:=by simpa[flat] using f'
        exact this _ (List.getElem_mem _))
      have e:wU (.tup ds) (.tup ds')=((List.range (min its.toArray.size its'.toArray.size)).all (fun j=>wU (ds.getD j .non) (ds'.getD j .non))&&its.toArray.size==its'.toArray.size):=by
       show eqDs ds ds'=_
       rw[zD8]
       simp[hd.length,rv.length,hd'.length,rv'.length]
      rw[e];exact q
    | adr _=>simp[flat] at f'
    | dic _=>simp[flat] at f'
    | non=>unfold zN at h';subst h';cases r';exact SeqAt.EqAt.tuple_none tp' hu0
    | bl _=>unfold zN at h';subst h';cases r';exact SeqAt.EqAt.tuple_bool _ tp' hu0
    | int _=>unfold zN at h';subst h';obtain⟨t,rfl⟩:=r';exact SeqAt.EqAt.tuple_int _ _ tp' hu0
    | str _=>unfold zN at h';subst h';obtain⟨t,rfl⟩:=r';exact SeqAt.EqAt.tuple_str _ _ tp' hu0
   | adr _=>simp[flat] at f
   | dic _=>simp[flat] at f
   | non =>
    cases d' with
    | tup ds' =>
     unfold zN at h h';subst h;cases r
     obtain⟨a',xs',rfl,hsq',hd'⟩:=h'
     cases r'
     obtain⟨its',rv',tp2,u0⟩:=I.tuple hsq'
     exact SeqAt.EqAt.none_tuple (show s.heap.IsTuple a' its'.toArray from tp2) hu0
    | adr _=>simp[flat] at f'
    | dic _=>simp[flat] at f'
    | _=>exact absurd ⟨rfl,rfl⟩ hs
   | bl _ =>
    cases d' with
    | tup ds' =>
     unfold zN at h h';subst h;cases r
     obtain⟨a',xs',rfl,hsq',hd'⟩:=h'
     cases r'
     obtain⟨its',rv',tp2,u0⟩:=I.tuple hsq'
     exact SeqAt.EqAt.bool_tuple _ (show s.heap.IsTuple a' its'.toArray from tp2) hu0
    | adr _=>simp[flat] at f'
    | dic _=>simp[flat] at f'
    | _=>exact absurd ⟨rfl,rfl⟩ hs
   | int _ =>
    cases d' with
    | tup ds' =>
     unfold zN at h h';subst h;obtain⟨t,rfl⟩:=r
     obtain⟨a',xs',rfl,hsq',hd'⟩:=h'
     cases r'
     obtain⟨its',rv',tp2,u0⟩:=I.tuple hsq'
     exact SeqAt.EqAt.int_tuple _ _ (show s.heap.IsTuple a' its'.toArray from tp2) hu0
    | adr _=>simp[flat] at f'
    | dic _=>simp[flat] at f'
    | _=>exact absurd ⟨rfl,rfl⟩ hs
   | str _ =>
    cases d' with
    | tup ds' =>
     unfold zN at h h';subst h;obtain⟨t,rfl⟩:=r
     obtain⟨a',xs',rfl,hsq',hd'⟩:=h'
     cases r'
     obtain⟨its',rv',tp2,u0⟩:=I.tuple hsq'
     exact SeqAt.EqAt.str_tuple _ _ (show s.heap.IsTuple a' its'.toArray from tp2) hu0
    | adr _=>simp[flat] at f'
    | dic _=>simp[flat] at f'
    | _=>exact absurd ⟨rfl,rfl⟩ hs
end
end
end L3
namespace L3
open PySem PySem.Spec PyProof.Rows L2
section
variable {X:Cx} {pins:List (Addr×Obj)} {σ1:L2.St} {H:Hp} {s:Shared} {A:Around}
theorem zDn(I:zP X pins σ1 H s){n:Nat}{ds ds':List D}{xs xs':List V}{its its':List Value}(hd:Dens X.K H ds xs)(hd':Dens X.K H ds' xs')(rv:zR xs its)(rv':zR xs' its')
  (f:∀ d∈ds,flat n d=true) (f':∀ d∈ds',flat n d=true) (hu:A.units+n<cLine) (j:Nat) (h1:j<its.toArray.size) (h2:j<its'.toArray.size) :
  SeqAt.EqAt A s its.toArray[j] its'.toArray[j] (wU (ds.getD j .non) (ds'.getD j .non)):=by
 have h1':j<its.length:=by simpa using h1
 have h2':j<its'.length:=by simpa using h2
 have l1:=hd.length
 have l2:=rv.length
 have l3:=hd'.length
 have l4:=rv'.length
 obtain⟨x,ex,dx⟩:=hd.get (i:=j) (d:=ds[j]'(by (first|lia|omega))) (by simp)
 obtain⟨y,ey,dy⟩:=hd'.get (i:=j) (d:=ds'[j]'(by (first|lia|omega))) (by simp)
 obtain⟨ux,eux,rx⟩:=rv.get ex
 obtain⟨uy,euy,ry⟩:=rv'.get ey
 have e1:its.toArray[j]=ux:=by
  have:=(List.getElem?_eq_some_iff.mp eux).2
  simpa using this
 have e2:its'.toArray[j]=uy:=by
  have:=(List.getElem?_eq_some_iff.mp euy).2
  simpa using this
 have g1:ds.getD j .non=ds[j]'(by (first|lia|omega)):=by simp[List.getD,(show j<ds.length by (first|lia|omega))]
 have g2:ds'.getD j .non=ds'[j]'(by (first|lia|omega)):=by simp[List.getD,(show j<ds'.length by (first|lia|omega))]
 rw[e1,e2,g1,g2]
 exact zKK I n _ _ x y ux uy A dx dy rx ry (f _ (List.getElem_mem _)) (f' _ (List.getElem_mem _)) hu
theorem zA0{ds ds':List D}{n n':Nat}(h:ds.length=n)(h':ds'.length=n'):eqDs ds ds'=((List.range (min n n')).all (fun j=>wU (ds.getD j .non) (ds'.getD j .non))&&n==n'):=by
 rw[zD8,h,h']
theorem zNk(I:zP X pins σ1 H s){n:Nat}{d d':D}{v v':V}{u u':Value}(h:zN X.K H d v)(h':zN X.K H d' v')(r:RelV v u)(r':RelV v' u')(f:flat n d=true)(f':flat n d'=true)(hu:A.units+n+1<cLine) :
  SeqAt.RcAt A s u u' (wU d d'):=by
 have hu0:A.units<cLine:=by (first|lia|omega)
 have tupI:∀ {d:D} {v:V} {u:Value} {ds:List D},d=.tup ds→zN X.K H d v→RelV v u→∃ a xs its,u=.ref a∧Dens X.K H ds xs∧zR xs its∧s.heap.IsTuple a its.toArray:=fun {d v u ds} e h r=>by
  subst e
  unfold zN at h
  obtain⟨a,xs,rfl,hs,hd⟩:=h
  cases r
  obtain⟨its,rv,tp,u0⟩:=I.tuple hs
  exact⟨a,xs,its,rfl,hd,rv,tp⟩
 cases d with
 | tup ds =>
  obtain⟨a,xs,its,rfl,hd,rv,tp⟩:=tupI rfl h r
  cases d' with
  | tup ds' =>
   obtain⟨a',xs',its',rfl,hd',rv',tp'⟩:=tupI rfl h' r'
   cases n with
   | zero=>simp[flat] at f
   | succ n =>
    have q:=SeqAt.RcAt.tuples (A:=A) (s:=s) tp tp' hu0 (zDn (A:=A.in1) I hd hd' rv rv' (by simpa[flat] using f) (by simpa[flat] using f') (by rw[in1_units];(first|lia|omega)))
    have e:wU (.tup ds) (.tup ds')=((List.range (min its.toArray.size its'.toArray.size)).all (fun j=>wU (ds.getD j .non) (ds'.getD j .non))&&its.toArray.size==its'.toArray.size) :=
     zA0 (by simp[hd.length,rv.length]) (by simp[hd'.length,rv'.length])
    rw[e];exact q
  | adr _=>cases n<;>simp[flat] at f'
  | dic _=>cases n<;>simp[flat] at f'
  | non=>unfold zN at h';subst h';cases r';exact SeqAt.RcAt.tuple_none tp hu0
  | bl _=>unfold zN at h';subst h';cases r';exact SeqAt.RcAt.tuple_bool _ tp hu0
  | int _=>unfold zN at h';subst h';obtain⟨t,rfl⟩:=r';exact SeqAt.RcAt.tuple_int _ _ tp hu0
  | str _=>unfold zN at h';subst h';obtain⟨t,rfl⟩:=r';exact SeqAt.RcAt.tuple_str _ _ tp hu0
 | adr _=>cases n<;>simp[flat] at f
 | dic _=>cases n<;>simp[flat] at f
 | non =>
  unfold zN at h;subst h;cases r
  cases d' with
  | tup ds'=>obtain⟨a',xs',its',rfl,hd',rv',tp'⟩:=tupI rfl h' r';exact SeqAt.RcAt.none_tuple tp' hu0
  | adr _=>cases n<;>simp[flat] at f'
  | dic _=>cases n<;>simp[flat] at f'
  | non=>unfold zN at h';subst h';cases r';exact SeqAt.RcAt.none_none
  | bl _=>unfold zN at h';subst h';cases r';exact SeqAt.RcAt.none_bool _
  | int _=>unfold zN at h';subst h';obtain⟨t,rfl⟩:=r';exact SeqAt.RcAt.none_int _ _
  | str _=>unfold zN at h';subst h';obtain⟨t,rfl⟩:=r';exact SeqAt.RcAt.none_str _ _
 | bl _ =>
  unfold zN at h;subst h;cases r
  cases d' with
  | tup ds'=>obtain⟨a',xs',its',rfl,hd',rv',tp'⟩:=tupI rfl h' r';exact SeqAt.RcAt.bool_tuple _ tp' hu0
  | adr _=>cases n<;>simp[flat] at f'
  | dic _=>cases n<;>simp[flat] at f'
  | non=>unfold zN at h';subst h';cases r';exact SeqAt.RcAt.bool_none _
  | bl _=>unfold zN at h';subst h';cases r';exact SeqAt.RcAt.bool_bool _ _
  | int _=>unfold zN at h';subst h';obtain⟨t,rfl⟩:=r';exact SeqAt.RcAt.bool_int _ _ _
  | str _=>unfold zN at h';subst h';obtain⟨t,rfl⟩:=r';exact SeqAt.RcAt.bool_str _ _ _
 | int _ =>
  unfold zN at h;subst h;obtain⟨t,rfl⟩:=r
  cases d' with
  | tup ds'=>obtain⟨a',xs',its',rfl,hd',rv',tp'⟩:=tupI rfl h' r';exact SeqAt.RcAt.int_tuple _ _ tp' hu0
  | adr _=>cases n<;>simp[flat] at f'
  | dic _=>cases n<;>simp[flat] at f'
  | non=>unfold zN at h';subst h';cases r';exact SeqAt.RcAt.int_none _ _
  | bl _=>unfold zN at h';subst h';cases r';exact SeqAt.RcAt.int_bool _ _ _
  | int _=>unfold zN at h';subst h';obtain⟨t,rfl⟩:=r';exact SeqAt.RcAt.int_int _ _ _ _
  | str _=>unfold zN at h';subst h';obtain⟨t,rfl⟩:=r';exact SeqAt.RcAt.int_str _ _ _ _
 | str _ =>
  unfold zN at h;subst h;obtain⟨t,rfl⟩:=r
  cases d' with
  | tup ds'=>obtain⟨a',xs',its',rfl,hd',rv',tp'⟩:=tupI rfl h' r';exact SeqAt.RcAt.str_tuple _ _ tp' hu0
  | adr _=>cases n<;>simp[flat] at f'
  | dic _=>cases n<;>simp[flat] at f'
  | non=>unfold zN at h';subst h';cases r';exact SeqAt.RcAt.str_none _ _
  | bl _=>unfold zN at h';subst h';cases r';exact SeqAt.RcAt.str_bool _ _ _
  | int _=>unfold zN at h';subst h';obtain⟨t,rfl⟩:=r';exact SeqAt.RcAt.str_int _ _ _ _
  | str _=>unfold zN at h';subst h';obtain⟨t,rfl⟩:=r';exact SeqAt.RcAt.str_str _ _ _ _
theorem zNl(I:zP X pins σ1 H s){n:Nat}{ds ds':List D}{xs xs':List V}{a a':Addr}(hs:SqL X.K H a xs)(hd:Dens X.K H ds xs)(hs':SqL X.K H a' xs')(hd':Dens X.K H ds' xs')(f:∀ d∈ds,flat n d=true)(f':∀ d∈ds',flat n d=true)(hu:A.units+n+1<cLine) :
  SeqAt.RcAt A s (.ref a) (.ref a') (eqDs ds ds'):=by
 have hu0:A.units<cLine:=by (first|lia|omega)
 obtain⟨its,rv,pl,u0⟩:=I.list hs
 obtain⟨its',rv',pl',u0⟩:=I.list hs'
 have e:=zA0 (ds:=ds) (ds':=ds') (n:=its.toArray.size) (n':=its'.toArray.size) (by simp[hd.length,rv.length]) (by simp[hd'.length,rv'.length])
 by_cases hl:its.toArray.size=its'.toArray.size
 ·have q:=SeqAt.RcAt.lists (A:=A) (s:=s) pl.isList pl'.isList hl hu0 (zDn (A:=A.in1) I hd hd' rv rv' f f' (by rw[in1_units];(first|lia|omega)))
  have e':eqDs ds ds'=(List.range its.toArray.size).all (fun j=>wU (ds.getD j .non) (ds'.getD j .non)):=by
   rw[e,← hl];simp
  rw[e'];exact q
 ·have e':eqDs ds ds'=false:=by
   rw[e]
   have:(its.toArray.size==its'.toArray.size)=false:=by simpa using hl
   rw[this,Bool.and_false]
  rw[e']
  exact SeqAt.RcAt.lists_lengths pl.isList pl'.isList (by simpa using hl) hu0
noncomputable def zNm(K:PySem.W.Frag)(ng:Bool):R2:=fun x y H Q=>(∃ d d',zN K H d x∧zN K H d' y∧flat 8 d=true∧flat 8 d'=true∧Q (.bl (if ng then !wU d d' else wU d d')) H) ∨
 (∃ a a' xs xs' ds ds',x=.ref a∧y=.ref a'∧SqL K H a xs∧SqL K H a' xs'∧Dens K H ds xs∧Dens K H ds' xs'∧(∀ d∈ds,flat 8 d=true)∧(∀ d∈ds',flat 8 d=true)∧Q (.bl (if ng then !eqDs ds ds' else eqDs ds ds')) H)
theorem zNn(hu:X.A.units+10<cLine):OpR X (compareOp .Eq) (zNm X.K false):=by
 intro pins s σ H x y v u Q I rx ry h
 rcases h with ⟨d,d',h1,h2,f1,f2,q⟩ | ⟨a,a',xs,xs',ds,ds',rfl,rfl,h1,h2,h3,h4,f1,f2,q⟩
 ·exact zNk (A:=X.A) I h1 h2 rx ry f1 f2 (by (first|lia|omega)) X.prog X.w X.xe _ ⟨.bl _,H,I,rfl,q⟩
 ·cases rx;cases ry
  exact zNl (A:=X.A) I h1 h3 h2 h4 f1 f2 (by (first|lia|omega)) X.prog X.w X.xe _ ⟨.bl _,H,I,rfl,q⟩
end
section
variable {X:Cx} {pins:List (Addr×Obj)} {σ1:L2.St} {H:Hp} {s:Shared} {A:Around}
theorem zNo(I:zP X pins σ1 H s){n:Nat}{d d':D}{v v':V}{u u':Value}(h:zN X.K H d v)(h':zN X.K H d' v')(r:RelV v u)(r':RelV v' u')(f:flat n d=true)(f':flat n d'=true)(hu:A.units+n+1<cLine) :
  SeqAt.RcNeAt A s u u' (!wU d d'):=by
 have hu0:A.units<cLine:=by (first|lia|omega)
 have tupI:∀ {d:D} {v:V} {u:Value} {ds:List D},d=.tup ds→zN X.K H d v→RelV v u→∃ a xs its,u=.ref a∧Dens X.K H ds xs∧zR xs its∧s.heap.IsTuple a its.toArray:=fun {d v u ds} e h r=>by
  subst e
  unfold zN at h
  obtain⟨a,xs,rfl,hs,hd⟩:=h
  cases r
  obtain⟨its,rv,tp,u0⟩:=I.tuple hs
  exact⟨a,xs,its,rfl,hd,rv,tp⟩
 cases d with
 | tup ds =>
  obtain⟨a,xs,its,rfl,hd,rv,tp⟩:=tupI rfl h r
  cases d' with
  | tup ds' =>
   obtain⟨a',xs',its',rfl,hd',rv',tp'⟩:=tupI rfl h' r'
   cases n with
   | zero=>simp[flat] at f
   | succ n =>
    have q:=SeqAt.RcNeAt.tuples (A:=A) (s:=s) tp tp' hu0 (zDn (A:=A.in1) I hd hd' rv rv' (by simpa[flat] using f) (by simpa[flat] using f') (by rw[in1_units];(first|lia|omega)))
    have e:wU (.tup ds) (.tup ds')=((List.range (min its.toArray.size its'.toArray.size)).all (fun j=>wU (ds.getD j .non) (ds'.getD j .non))&&its.toArray.size==its'.toArray.size) :=
     zA0 (by simp[hd.length,rv.length]) (by simp[hd'.length,rv'.length])
    rw[e];exact q
  | adr _=>cases n<;>simp[flat] at f'
  | dic _=>cases n<;>simp[flat] at f'
  | non=>unfold zN at h';subst h';cases r';exact SeqAt.RcNeAt.tuple_none tp hu0
  | bl _=>unfold zN at h';subst h';cases r';exact SeqAt.RcNeAt.tuple_bool _ tp hu0
  | int _=>unfold zN at h';subst h';obtain⟨t,rfl⟩:=r';exact SeqAt.RcNeAt.tuple_int _ _ tp hu0
  | str _=>unfold zN at h';subst h';obtain⟨t,rfl⟩:=r';exact SeqAt.RcNeAt.tuple_str _ _ tp hu0
 | adr _=>cases n<;>simp[flat] at f
 | dic _=>cases n<;>simp[flat] at f
 | non =>
  unfold zN at h;subst h;cases r
  cases d' with
  | tup ds'=>obtain⟨a',xs',its',rfl,hd',rv',tp'⟩:=tupI rfl h' r';exact SeqAt.RcNeAt.none_tuple tp' hu0
  | adr _=>cases n<;>simp[flat] at f'
  | dic _=>cases n<;>simp[flat] at f'
  | non=>unfold zN at h';subst h';cases r';exact SeqAt.RcNeAt.none_none
  | bl _=>unfold zN at h';subst h';cases r';exact SeqAt.RcNeAt.none_bool _
  | int _=>unfold zN at h';subst h';obtain⟨t,rfl⟩:=r';exact SeqAt.RcNeAt.none_int _ _
  | str _=>unfold zN at h';subst h';obtain⟨t,rfl⟩:=r';exact SeqAt.RcNeAt.none_str _ _
 | bl _ =>
  unfold zN at h;subst h;cases r
  cases d' with
  | tup ds'=>obtain⟨a',xs',its',rfl,hd',rv',tp'⟩:=tupI rfl h' r';exact SeqAt.RcNeAt.bool_tuple _ tp' hu0
  | adr _=>cases n<;>simp[flat] at f'
  | dic _=>cases n<;>simp[flat] at f'
  | non=>unfold zN at h';subst h';cases r';exact SeqAt.RcNeAt.bool_none _
  | bl _=>unfold zN at h';subst h';cases r';exact SeqAt.RcNeAt.bool_bool _ _
  | int _=>unfold zN at h';subst h';obtain⟨t,rfl⟩:=r';exact SeqAt.RcNeAt.bool_int _ _ _
  | str _=>unfold zN at h';subst h';obtain⟨t,rfl⟩:=r';exact SeqAt.RcNeAt.bool_str _ _ _
 | int _ =>
  unfold zN at h;subst h;obtain⟨t,rfl⟩:=r
  cases d' with
  | tup ds'=>obtain⟨a',xs',its',rfl,hd',rv',tp'⟩:=tupI rfl h' r';exact SeqAt.RcNeAt.int_tuple _ _ tp' hu0
  | adr _=>cases n<;>simp[flat] at f'
  | dic _=>cases n<;>simp[flat] at f'
  | non=>unfold zN at h';subst h';cases r';exact SeqAt.RcNeAt.int_none _ _
  | bl _=>unfold zN at h';subst h';cases r';exact SeqAt.RcNeAt.int_bool _ _ _
  | int _=>unfold zN at h';subst h';obtain⟨t,rfl⟩:=r';exact SeqAt.RcNeAt.int_int _ _ _ _
  | str _=>unfold zN at h';subst h';obtain⟨t,rfl⟩:=r';exact SeqAt.RcNeAt.int_str _ _ _ _
 | str _ =>
  unfold zN at h;subst h;obtain⟨t,rfl⟩:=r
  cases d' with
  | tup ds'=>obtain⟨a',xs',its',rfl,hd',rv',tp'⟩:=tupI rfl h' r';exact SeqAt.RcNeAt.str_tuple _ _ tp' hu0
  | adr _=>cases n<;>simp[flat] at f'
  | dic _=>cases n<;>simp[flat] at f'
  | non=>unfold zN at h';subst h';cases r';exact SeqAt.RcNeAt.str_none _ _
  | bl _=>unfold zN at h';subst h';cases r';exact SeqAt.RcNeAt.str_bool _ _ _
  | int _=>unfold zN at h';subst h';obtain⟨t,rfl⟩:=r';exact SeqAt.RcNeAt.str_int _ _ _ _
  | str _=>unfold zN at h';subst h';obtain⟨t,rfl⟩:=r';exact SeqAt.RcNeAt.str_str _ _ _ _
theorem zNp(I:zP X pins σ1 H s){n:Nat}{ds ds':List D}{xs xs':List V}{a a':Addr}(hs:SqL X.K H a xs)(hd:Dens X.K H ds xs)(hs':SqL X.K H a' xs')(hd':Dens X.K H ds' xs')(f:∀ d∈ds,flat n d=true)(f':∀ d∈ds',flat n d=true)(hu:A.units+n+1<cLine) :
  SeqAt.RcNeAt A s (.ref a) (.ref a') (!eqDs ds ds'):=by
 have hu0:A.units<cLine:=by (first|lia|omega)
 obtain⟨its,rv,pl,u0⟩:=I.list hs
 obtain⟨its',rv',pl',u0⟩:=I.list hs'
 have e:=zA0 (ds:=ds) (ds':=ds') (n:=its.toArray.size) (n':=its'.toArray.size) (by simp[hd.length,rv.length]) (by simp[hd'.length,rv'.length])
 by_cases hl:its.toArray.size=its'.toArray.size
 ·have q:=SeqAt.RcNeAt.lists (A:=A) (s:=s) pl.isList pl'.isList hl hu0 (zDn (A:=A.in1) I hd hd' rv rv' f f' (by rw[in1_units];(first|lia|omega)))
  have e':eqDs ds ds'=(List.range its.toArray.size).all (fun j=>wU (ds.getD j .non) (ds'.getD j .non)):=by
   rw[e,← hl];simp
  rw[e'];exact q
 ·have e':eqDs ds ds'=false:=by
   rw[e]
   have:(its.toArray.size==its'.toArray.size)=false:=by simpa using hl
   rw[this,Bool.and_false]
  rw[e']
  exact SeqAt.RcNeAt.lists_lengths pl.isList pl'.isList (by simpa using hl) hu0
theorem zNq(hu:X.A.units+10<cLine):OpR X (compareOp .NotEq) (zNm X.K true):=by
 intro pins s σ H x y v u Q I rx ry h
 rcases h with ⟨d,d',h1,h2,f1,f2,q⟩ | ⟨a,a',xs,xs',ds,ds',rfl,rfl,h1,h2,h3,h4,f1,f2,q⟩
 ·exact zNo (A:=X.A) I h1 h2 rx ry f1 f2 (by (first|lia|omega)) X.prog X.w X.xe _ ⟨.bl _,H,I,rfl,q⟩
 ·cases rx;cases ry
  exact zNp (A:=X.A) I h1 h3 h2 h4 f1 f2 (by (first|lia|omega)) X.prog X.w X.xe _ ⟨.bl _,H,I,rfl,q⟩
end
section
variable {X:Cx} {pins:List (Addr×Obj)} {σ1:L2.St} {H:Hp} {s:Shared} {A:Around}
noncomputable def zOt(K:PySem.W.Frag)(ng:Bool):R2:=fun x y H Q=>∃ d ds a xs,zN K H d x∧y=.ref a∧(SqL K H a xs∨SqT K H a xs)∧Dens K H ds xs∧flat 8 d=true∧(∀ z∈ds,flat 8 z=true)∧Q (.bl (if ng then !ds.any fun z=>wU z d else ds.any fun z=>wU z d)) H
theorem zJG{its:List Value}{ds:List D}(g:D→Bool)(hl:its.length=ds.length)(hinj:∀(i j:Nat) (u:Value) (z z':D),its[i]?=some u→its[j]?=some u→ds[i]?=some z→ds[j]?=some z'→z=z') :
  ∃ e:Value→Bool,(∀(j:Nat) (u:Value) (z:D),its[j]?=some u→ds[j]?=some z→e u=g z)∧its.any e=ds.any g:=by
 classical
 have key:∀(j:Nat) (u:Value) (z:D),its[j]?=some u→ds[j]?=some z→decide (∃(j:Nat) (z:D),its[j]?=some u∧ds[j]?=some z∧g z=true)=g z:=by
  intro j u z h1 h2
  cases hg:g z with
  | true=>exact decide_eq_true ⟨j,z,h1,h2,hg⟩
  | false =>
   refine decide_eq_false ?_
   rintro⟨j',z',h3,h4,h5⟩
   rw[hinj j j' u z z' h1 h3 h2 h4,h5] at hg
   cases hg
 refine⟨fun u=>decide (∃(j:Nat) (z:D),its[j]?=some u∧ds[j]?=some z∧g z=true),key,?_⟩
 rw[Bool.eq_iff_iff,List.any_eq_true,List.any_eq_true]
 constructor
 ·rintro⟨u,hu,he⟩
  obtain⟨j,z,h1,h2,h3⟩:=of_decide_eq_true he
  exact⟨z,List.mem_of_getElem? h2,h3⟩
 ·rintro⟨z,hz,hg⟩
  obtain⟨j,hj⟩:=List.getElem?_of_mem hz
  have hj':j<ds.length:=(List.getElem?_eq_some_iff.mp hj).1
  refine⟨its[j]'(by (first|lia|omega)),List.getElem_mem _,decide_eq_true ⟨j,z,by simp,hj,hg⟩⟩
theorem zIS(I:zP X pins σ1 H s){n:Nat}{ds:List D}{xs:List V}{its:List Value}{d:D}{v:V}{u:Value}(hd:Dens X.K H ds xs)(rv:zR xs its)(h:zN X.K H d v)(r:RelV v u)(f:∀ z∈ds,flat n z=true)(f':flat n d=true)(hu:A.units+n<cLine) :
  ∃ e:Value→Bool,(∀ y,y∈its.toArray→SeqAt.EqAt A s y u (e y))∧its.toArray.any e=ds.any fun z=>wU z d:=by
 have l1:=hd.length
 have l2:=rv.length
 obtain⟨e,h1,h2⟩:=zJG (its:=its) (ds:=ds) (fun z=>wU z d) (by (first|lia|omega)) (by
  intro i j w z z' a1 a2 a3 a4
  obtain⟨x,b1,b2⟩:=hd.get a3
  obtain⟨x',b3,b4⟩:=hd.get a4
  obtain⟨w1,c1,c2⟩:=rv.get b1
  obtain⟨w2,c3,c4⟩:=rv.get b3
  rw[a1] at c1;cases c1
  rw[a2] at c3;cases c3
  have:=c2.inj c4
  subst this
  exact zN.inj I b2 b4 (f z (List.mem_of_getElem? a3)) (f z' (List.mem_of_getElem? a4)))
 refine⟨e,fun y hy=>?_,by simpa using h2⟩
 have hy':y∈its:=by simpa using hy
 obtain⟨j,hj⟩:=List.getElem?_of_mem hy'
 have hjl:j<its.length:=(List.getElem?_eq_some_iff.mp hj).1
 obtain⟨x,b1,b2⟩:=hd.get (i:=j) (d:=ds[j]'(by (first|lia|omega))) (by simp)
 obtain⟨w1,c1,c2⟩:=rv.get b1
 rw[hj] at c1;cases c1
 rw[h1 j _ (ds[j]'(by (first|lia|omega))) hj (by simp)]
 exact zKK I n _ _ x v _ u A b2 h c2 r (f _ (List.getElem_mem _)) f' hu
theorem zKL(hu:X.A.units+10<cLine):OpR X (compareOp .In) (zOt X.K false):=by
 intro pins s σ H x y v u Q I rx ry h
 obtain⟨d,ds,a,xs,h1,rfl,h2,h3,f1,f2,q⟩:=h
 cases ry
 rcases h2 with h2 | h2
 ·obtain⟨its,rv,pl,u0⟩:=I.list h2
  obtain⟨e,e1,e2⟩:=zIS (A:=X.A.in1) I h3 rv h1 rx f2 f1 (by rw[in1_units];(first|lia|omega))
  exact SeqAt.in_listAt e pl.isList e1 ⟨.bl _,H,I,rfl,by rw[e2];exact q⟩
 ·obtain⟨its,rv,tp,u0⟩:=I.tuple h2
  obtain⟨e,e1,e2⟩:=zIS (A:=X.A.in1) I h3 rv h1 rx f2 f1 (by rw[in1_units];(first|lia|omega))
  exact SeqAt.in_tupleAt e (show s.heap.IsTuple a its.toArray from tp) e1 ⟨.bl _,H,I,rfl,by rw[e2];exact q⟩
end
section
variable {X:Cx} {a b c e o:Expr} {es:List Expr} {pos p:Pos} {ta tb te:zh}
noncomputable def fEq(ng:Bool):D→D→Gp→Q2→Prop:=fun x y G R=>match x,y with
 | .adr l,.adr l'=>∃ ds ds',Ls G l ds∧Ls G l' ds'∧(∀ d∈ds,flat 8 d=true)∧(∀ d∈ds',flat 8 d=true)∧R (.bl (if ng then !eqDs ds ds' else eqDs ds ds')) G
 | x,y=>flat 8 x=true∧flat 8 y=true∧R (.bl (if ng then !wU x y else wU x y)) G
theorem zKM{K:PySem.W.Frag}{ng:Bool}:Fit K (zNm K ng) (fEq ng):=by
 intro dx dy G R x y H Q h r d1 d2 k
 unfold fEq at h
 split at h
 ·rename_i l l'
  obtain⟨ds,ds',e1,e2,f1,f2,h⟩:=h
  obtain⟨xs,s1,t1⟩:=r.sq e1
  obtain⟨xs',s2,t2⟩:=r.sq e2
  unfold zN at d1 d2
  exact .inr ⟨l,l',xs,xs',ds,ds',d1,d2,s1,s2,t1,t2,f1,f2,k _ G h _ H (.refl H) r (by unfold zN;rfl)⟩
 ·obtain⟨f1,f2,h⟩:=h
  exact .inl ⟨_,_,d1,d2,f1,f2,k _ G h _ H (.refl H) r (by unfold zN;rfl)⟩
noncomputable def fIn(ng:Bool):D→D→Gp→Q2→Prop:=fun x y G R=>match y with
 | .adr l=>∃ ds,Ls G l ds∧flat 8 x=true∧(∀ d∈ds,flat 8 d=true)∧R (.bl (if ng then !ds.any fun z=>wU z x else ds.any fun z=>wU z x)) G
 | .tup ds=>flat 8 x=true∧(∀ d∈ds,flat 8 d=true)∧R (.bl (if ng then !ds.any fun z=>wU z x else ds.any fun z=>wU z x)) G
 | _=>False
theorem zKN{K:PySem.W.Frag}{ng:Bool}:Fit K (zOt K ng) (fIn ng):=by
 intro dx dy G R x y H Q h r d1 d2 k
 unfold fIn at h
 split at h
 ·rename_i l
  obtain⟨ds,e1,f1,f2,h⟩:=h
  obtain⟨xs,s1,t1⟩:=r.sq e1
  unfold zN at d2
  exact⟨dx,ds,l,xs,d1,d2,.inl s1,t1,f1,f2,k _ G h _ H (.refl H) r (by unfold zN;rfl)⟩
 ·rename_i ds
  obtain⟨f1,f2,h⟩:=h
  unfold zN at d2
  obtain⟨l,xs,e,s1,t1⟩:=d2
  exact⟨dx,ds,l,xs,d1,e,.inr s1,t1,f1,f2,k _ G h _ H (.refl H) r (by unfold zN;rfl)⟩
 ·exact h.elim
theorem zPV{k:Nat}(hr:yo k X.A)(ha:E2 X a ta)(hb:E2 X b tb)(hm:behindInMarks .In b=false:=by rfl):E2 X (.Compare a [.In] [b] pos) (zX (fIn false) ta tb):=zOm (zKL (by have:=hr.units;(first|lia|omega))) zKN ha hb hm
theorem zHU{k:Nat}(hr:yo k X.A)(ha:E2 X a ta)(hb:E2 X b tb):T2 X (.Compare a [.Eq] [b] pos) (xB (zX (fEq false) ta tb)):=zFH (zNn (by have:=hr.units;(first|lia|omega))) zKM ha hb (zD1 _)
theorem zKO{k:Nat}(hr:yo k X.A)(ha:E2 X a ta)(hb:E2 X b tb):T2 X (.Compare a [.NotEq] [b] pos) (xB (zX (fEq true) ta tb)):=zFH (zNq (by have:=hr.units;(first|lia|omega))) zKM ha hb (zD1 _)
theorem zNr{k:Nat}(hr:yo k X.A)(ha:E2 X a ta)(hb:E2 X b tb)(hm:behindInMarks .In b=false:=by rfl):T2 X (.Compare a [.In] [b] pos) (xB (zX (fIn false) ta tb)):=zFH (zKL (by have:=hr.units;(first|lia|omega))) zKN ha hb hm
noncomputable def fIx:D→D→Gp→Q2→Prop:=fun x y G R=>match x,y with
 | .adr l,.int k=>∃ ds d,Ls G l ds∧atI ds k=some d∧R d G
 | .tup ds,.int k=>match atI ds k with | some d=>R d G | none=>False
 | _,_=>False
theorem zGU{K:PySem.W.Frag}{H:Hp}{ds:List D}{xs:List V}{k:Int}{d:D}(h:Dens K H ds xs)(e:atI ds k=some d):∃ x,atI xs k=some x∧zN K H d x:=by
 unfold atI at e ⊢
 rw[h.length] at e
 cases q:ixN xs.length k with
 | none=>rw[q] at e;cases e
 | some j =>
  rw[q] at e
  exact h.get e
theorem zNs{K:PySem.W.Frag}:Fit K (fun x y H Q=>zOj K x y H Q∨zOk K x y H Q) fIx:=by
 intro dx dy G R x y H Q h r d1 d2 k
 unfold fIx at h
 split at h
 ·rename_i l i
  obtain⟨ds,d,e1,e2,h⟩:=h
  obtain⟨xs,s1,t1⟩:=r.sq e1
  obtain⟨z,e3,t2⟩:=zGU t1 e2
  unfold zN at d1 d2
  exact .inl ⟨l,xs,i,z,d1,d2,s1,e3,k _ G h _ H (.refl H) r t2⟩
 ·rename_i ds i
  split at h
  ·rename_i d e2
   unfold zN at d1 d2
   obtain⟨l,xs,e,s1,t1⟩:=d1
   obtain⟨z,e3,t2⟩:=zGU t1 e2
   exact .inr ⟨l,xs,i,z,e,d2,s1,e3,k _ G h _ H (.refl H) r t2⟩
  ·exact h.elim
 ·exact h.elim
theorem zAO(ha:E2 X a ta)(hb:E2 X b tb)(hs:zIL b:=by intro u0 u0;rfl):E2 X (.Subscript a b pos) (zX fIx ta tb) :=
 PE.mono (zOi (zLh.or zNd) ha hb hs) fun σ1 H Q h=>zIO zNs h
noncomputable def zJH(K:PySem.W.Frag)(r:List V→Hp→VK→Prop)(f:Sp2):Prop :=
 ∀ ds G R vs H Q,f ds G R→yH K G H→Dens K H ds vs→(∀ d G',R d G'→∀ v H',yA H H'→yH K G' H'→zN K H' d v→Q v H')→r vs H Q
theorem zFK{K:PySem.W.Frag}{r:List V→Hp→VK→Prop}{f:Sp2}{t:wL}(hf:zJH K r f){σ1:L2.St}{H:Hp}{Q:VK}(h:lE K (zM f t) σ1 H Q):tCB r (lA K t) σ1 H Q:=by
 obtain⟨σ,G,R,rl,q,k⟩:=h
 exact⟨σ,G,_,rl,q,fun ds G1 q1 vs H1 g1 r1 d1=>hf ds G1 R vs H1 Q q1 r1 d1 fun d G' q' v H' g'=>k d G' q' v H' (g1.trans g')⟩
theorem zDo{id:String}{x:Str}{r:List V→Hp→VK→Prop}{f:Sp2}{t:wL}(hc:yg X (.builtin id) r)(hf:zJH X.K r f)(hg:Gl X x)(hm:X.mg x=none)(hv:bootBuiltins x=some (.builtin id))(ha:A2 X (e::es) t)(hn:x≠"__name__":=by decide)(hdb:(x==("__debug__":Str))=false:=by decide)
  (he:starEach (e::es) X.env=(false,eval e X.env)::starEach es X.env:=by rfl) (hpl:(backTo pos (starEach es X.env)).any (·.1)=false:=by rfl):E2 X (.Call (.Name x p) (e::es) [] pos) (zM f t) :=
 PE.mono (zBQ hc hg hm hv ha hn hdb he hpl) fun σ1 H Q h=>zFK hf h
theorem zKP{T:String}{x:Str}{r:List V→Hp→VK→Prop}{f:Sp2}{t:wL}(hc:yg X (.type T) r)(hf:zJH X.K r f)(hg:Gl X x)(hm:X.mg x=none)(hv:bootBuiltins x=some (.type T))(ha:A2 X (e::es) t)(hn:x≠"__name__":=by decide)(hdb:(x==("__debug__":Str))=false:=by decide)
  (he:starEach (e::es) X.env=(false,eval e X.env)::starEach es X.env:=by rfl) (hpl:(backTo pos (starEach es X.env)).any (·.1)=false:=by rfl):E2 X (.Call (.Name x p) (e::es) [] pos) (zM f t) :=
 PE.mono (zBn hc hg hm hv ha hn hdb he hpl) fun σ1 H Q h=>zFK hf h
noncomputable def zDT(G:Gp):D→List D→Prop
 | .tup es,ds=>es=ds
 | .adr l,ds=>Ls G l ds
 | _,_=>False
theorem zFm{K:PySem.W.Frag}{G:Gp}{H:Hp}{d:D}{v:V}{ds:List D}(r:yH K G H)(h:zN K H d v)(e:zDT G d ds):∃ l xs,v=.ref l∧(SqL K H l xs∨SqT K H l xs)∧Dens K H ds xs:=by
 cases d with
 | tup _ =>
  have e:_=ds:=e
  subst e
  unfold zN at h
  obtain⟨l,xs,e,s1,t1⟩:=h
  exact⟨l,xs,e,.inr s1,t1⟩
 | adr l =>
  unfold zN at h
  obtain⟨xs,s1,t1⟩:=r.sq (show Ls G l ds from e)
  exact⟨l,xs,h,.inl s1,t1⟩
 | _=>exact e.elim
theorem zCd{K:PySem.W.Frag}{H:Hp}{d:D}{vs:List V}(h:Dens K H [d] vs):∃ v,vs=[v]∧zN K H d v:=by
 unfold Dens at h
 obtain⟨v,r,e,h1,h2⟩:=h
 unfold Dens at h2
 subst h2
 exact⟨v,e,h1⟩
theorem zOu{K:PySem.W.Frag}{H:Hp}{d d':D}{vs:List V}(h:Dens K H [d,d'] vs):∃ v v',vs=[v,v']∧zN K H d v∧zN K H d' v':=by
 unfold Dens at h
 obtain⟨v,r,e,h1,h2⟩:=h
 obtain⟨v',e2,h3⟩:=zCd h2
 subst e2
 exact⟨v,v',e,h1,h3⟩
noncomputable def yD:Sp2:=fun ds G R=>match ds with | [d]=>∃ l,zDT G d l∧R (.int l.length) G | _=>False
theorem zLq:zJH X.K (fun xs H Q=>∃ p ys,xs=[.ref p]∧(SqL X.K H p ys∨SqT X.K H p ys)∧Q (.int ys.length) H) yD:=by
 intro ds G R vs H Q h r d k
 unfold yD at h
 split at h
 ·rename_i d0
  obtain⟨v,rfl,d1⟩:=zCd d
  obtain⟨l,e,h⟩:=h
  obtain⟨a,xs,rfl,s1,t1⟩:=zFm r d1 e
  exact⟨a,xs,rfl,s1,k _ G h _ H (.refl H) r (by rw[← t1.length];unfold zN;rfl)⟩
 ·exact h.elim
theorem zAm{t:wL}(hg:Gl X "len")(hm:X.mg "len"=none)(ha:A2 X [e] t)(he:starEach [e] X.env=(false,eval e X.env)::starEach [] X.env:=by rfl)(hpl:(backTo pos (starEach [] X.env)).any (·.1)=false:=by rfl):E2 X (.Call (.Name "len" p) [e] [] pos) (zM yD t):=zDo zFl zLq hg hm PySem.boot_len ha (by decide) (by decide) he hpl
noncomputable def zAa:Sp2:=fun ds G R=>match ds with | [.int i,.int j]=>R (.int (if j<i then j else i)) G | _=>False
noncomputable def zAn:Sp2:=fun ds G R=>match ds with | [.int i,.int j]=>R (.int (if j>i then j else i)) G | _=>False
theorem zKQ{f:Int→Int→Int}{sp:Sp2}(hs:∀ ds G R,sp ds G R→∃ i j,ds=[.int i,.int j]∧R (.int (f i j)) G):zJH X.K (fun xs H Q=>∃ i j,xs=[.int i,.int j]∧Q (.int (f i j)) H) sp:=by
 intro ds G R vs H Q h r d k
 obtain⟨i,j,rfl,h'⟩:=hs ds G R h
 obtain⟨v,v',rfl,d1,d2⟩:=zOu d
 unfold zN at d1 d2
 subst d1 d2
 exact⟨i,j,rfl,k _ G h' _ H (.refl H) r (by unfold zN;rfl)⟩
theorem zMr{t:wL}{e':Expr}(hc:X.calm=true)(hg:Gl X "min")(hm:X.mg "min"=none)(ha:A2 X [e,e'] t)(he:starEach [e,e'] X.env=(false,eval e X.env)::starEach [e'] X.env:=by rfl)(hpl:(backTo pos (starEach [e'] X.env)).any (·.1)=false:=by rfl):E2 X (.Call (.Name "min" p) [e,e'] [] pos) (zM zAa t):=zDo (zI8 hc) (zKQ fun ds G R h=>by unfold zAa at h;split at h;exact⟨_,_,rfl,h⟩;exact h.elim) hg hm (by decide +kernel) ha (by decide) (by decide) he hpl
theorem zMs{t:wL}{e':Expr}(hc:X.calm=true)(hg:Gl X "max")(hm:X.mg "max"=none)(ha:A2 X [e,e'] t)(he:starEach [e,e'] X.env=(false,eval e X.env)::starEach [e'] X.env:=by rfl)(hpl:(backTo pos (starEach [e'] X.env)).any (·.1)=false:=by rfl):E2 X (.Call (.Name "max" p) [e,e'] [] pos) (zM zAn t):=zDo (zI7 hc) (zKQ fun ds G R h=>by unfold zAn at h;split at h;exact⟨_,_,rfl,h⟩;exact h.elim) hg hm (by decide +kernel) ha (by decide) (by decide) he hpl
end
end L3
namespace L3
open PySem PySem.Spec PyProof.Rows L2
section
variable {X:Cx} {a b c e o:Expr} {es:List Expr} {pos p p2:Pos} {ta tb te to:zh} {tl:TL2}
noncomputable def zLr(K:PySem.W.Frag)(r:List V→Hp→VK→Prop)(g:Sp2):Prop :=
 ∀ ds G R l xs H Q,g ds G R→yH K G H→H l=some (.lst xs)→Dens K H ds xs→(∀ d G',R d G'→∀ v H',yA H H'→yH K G' H'→zN K H' d v→Q v H')→r [.ref l] H Q
noncomputable def zk(g:Sp2)(t:TL2):zh:=fun σ G R=>t σ G fun ds G1=>g ds G1 R
theorem zD9{K:PySem.W.Frag}{r:List V→Hp→VK→Prop}{g:Sp2}(hf:zLr K r g){σ1:L2.St}{H:Hp}{Q:VK}(h:lE K (zk g tl) σ1 H Q):tCB r (zMk (lL K tl) zOe) σ1 H Q:=by
 obtain⟨σ,G,R,rl,q,k⟩:=h
 exact⟨σ,G,_,rl,q,fun ds G1 q1 l xs H1 g1 r1 n e d1=>hf ds G1 R l xs H1 Q q1 r1 e d1 fun d G' q' v H' g'=>k d G' q' v H' (g1.trans g')⟩
theorem zJI{T:String}{x:Str}{r:List V→Hp→VK→Prop}{g:Sp2}(hc:yg X (.type T) r)(hf:zLr X.K r g)(hg:Gl X x)(hm:X.mg x=none)(hv:bootBuiltins x=some (.type T))(ha:F2 X e tl)(hn:x≠"__name__":=by decide)(hdb:(x==("__debug__":Str))=false:=by decide)
  (he:starEach [e] X.env=(false,eval e X.env)::starEach [] X.env:=by rfl) (hpl:(backTo pos (starEach [] X.env)).any (·.1)=false:=by rfl):E2 X (.Call (.Name x p) [e] [] pos) (zk g tl) :=
 PE.mono (zBn hc hg hm hv (wk ha zAy he) hn hdb he hpl) fun σ1 H Q h=>zD9 hf h
theorem zEA{id:String}{x:Str}{r:List V→Hp→VK→Prop}{g:Sp2}(hc:yg X (.builtin id) r)(hf:zLr X.K r g)(hg:Gl X x)(hm:X.mg x=none)(hv:bootBuiltins x=some (.builtin id))(ha:F2 X e tl)(hn:x≠"__name__":=by decide)(hdb:(x==("__debug__":Str))=false:=by decide)
  (he:starEach [e] X.env=(false,eval e X.env)::starEach [] X.env:=by rfl) (hpl:(backTo pos (starEach [] X.env)).any (·.1)=false:=by rfl):E2 X (.Call (.Name x p) [e] [] pos) (zk g tl) :=
 PE.mono (zBQ hc hg hm hv (wk ha zAy he) hn hdb he hpl) fun σ1 H Q h=>zD9 hf h
noncomputable def yt:Sp2:=fun ds G R=>R (.tup ds) G
theorem zHV{K:PySem.W.Frag}:zLr K (fun xs H Q=>∃ p ys,xs=[.ref p]∧((SqL K H p ys∧∀ l,H l=none→Q (.ref l) (yz H l (.tup ys)))∨(SqT K H p ys∧Q (.ref p) H))) yt:=by
 intro ds G R l xs H Q h r e d k
 refine⟨l,xs,rfl,.inl ⟨.of e,fun l' n=>k _ G h _ _ (.fresh n) (r.fresh n) ?_⟩⟩
 unfold zN
 exact⟨l',xs,rfl,.of zd,d.grow (.fresh n)⟩
theorem zFn(hg:Gl X "tuple")(hm:X.mg "tuple"=none)(ha:F2 X e tl)(he:starEach [e] X.env=(false,eval e X.env)::starEach [] X.env:=by rfl)(hpl:(backTo pos (starEach [] X.env)).any (·.1)=false:=by rfl) :
  E2 X (.Call (.Name "tuple" p) [e] [] pos) (zk yt tl):=zJI zB8 zHV hg hm (by decide +kernel) ha (by decide) (by decide) he hpl
noncomputable def zDp:Sp2:=fun ds G R=>match ds with | [d]=>∃ l,zDT G d l∧R (.tup l) G | _=>False
theorem zJJ{K:PySem.W.Frag}:zJH K (fun xs H Q=>∃ p ys,xs=[.ref p]∧((SqL K H p ys∧∀ l,H l=none→Q (.ref l) (yz H l (.tup ys)))∨(SqT K H p ys∧Q (.ref p) H))) zDp:=by
 intro ds G R vs H Q h r d k
 unfold zDp at h
 split at h
 ·rename_i d0
  obtain⟨v,rfl,d1⟩:=zCd d
  obtain⟨l,e,h⟩:=h
  obtain⟨a,xs,rfl,s1,t1⟩:=zFm r d1 e
  rcases s1 with s1 | s1
  ·refine⟨a,xs,rfl,.inl ⟨s1,fun l' n=>k _ G h _ _ (.fresh n) (r.fresh n) ?_⟩⟩
   unfold zN
   exact⟨l',xs,rfl,.of zd,t1.grow (.fresh n)⟩
  ·refine⟨a,xs,rfl,.inr ⟨s1,k _ G h _ H (.refl H) r ?_⟩⟩
   unfold zN
   exact⟨a,xs,rfl,s1,t1⟩
 ·exact h.elim
theorem zLs{t:wL}(hg:Gl X "tuple")(hm:X.mg "tuple"=none)(ha:A2 X [e] t)(he:starEach [e] X.env=(false,eval e X.env)::starEach [] X.env:=by rfl)(hpl:(backTo pos (starEach [] X.env)).any (·.1)=false:=by rfl) :
  E2 X (.Call (.Name "tuple" p) [e] [] pos) (zM zDp t):=zKP zB8 zJJ hg hm (by decide +kernel) ha (by decide) (by decide) he hpl
theorem zBU:∀ {xs:List V} {us:List Value},xs.length=us.length→(∀(i:Nat) (x:V) (u:Value),xs[i]?=some x→us[i]?=some u→RelV x u)→zR xs us
 | [],[],_,_=>.nil
 | [],_::_,h,_=>by cases h
 | _::_,[],h,_=>by cases h
 | x::xs,u::us,h,g=>.cons (g 0 x u rfl rfl) (zBU (by simpa using h) fun i y w e1 e2=>g (i+1) y w (by simpa using e1) (by simpa using e2))
theorem zFo:yg X (.builtin "sorted") (fun xs H Q=>∃(p:Addr) (ns:List Int),xs=[.ref p]∧SqL X.K H p (ns.map V.int)∧ns.length<64∧∀(l:Addr) (ns':List Int),H l=none→ns'.Perm ns→ns'.Pairwise (·≤·)→Q (.ref l) (yz H l (.lst (ns'.map V.int)))):=by
 intro pins s σ H xs us Q I r h
 obtain⟨p,ns,rfl,hq,hz,q⟩:=h
 obtain⟨u,rfl,rx⟩:=vals1 r
 cases rx
 obtain⟨its,rv,pl,u0⟩:=I.list hq
 have hl:=rv.length
 rw[List.length_map] at hl
 refine sorted_ints (vs:=its) (ns:=ns) pl.isList (intsAre_of rv) (by (first|lia|omega)) fun out ns' i1 i2 i3=>?_
 obtain⟨e,he⟩:=sortedAll_at s.heap its out
 have hn:H (s.heap.objs.size+1)=none:=I.hok.fresh (Nat.le_succ _)
 refine⟨.ref (s.heap.objs.size+1),_,I.laid (t':=s.toks) (o:=.lst (ns'.map V.int)) (fun b u q=>sortedAll_old q) (Nat.le_succ _) ?_,rfl,q _ ns' hn i2 i3⟩
 have hp:=i2.length_eq
 refine⟨?_,out.toList,e,zBo i1,?_⟩
 ·rw[List.length_map,hp,sizeLine_eq];(first|lia|omega)
 ·rw[he]<;>rfl
noncomputable def intsOf:List D→Option (List Int)
 | []=>some []
 | .int i::r=>(intsOf r).map (i::·)
 | _::_=>none
theorem zEB:∀ ns:List Int,intsOf (ns.map D.int)=some ns
 | []=>rfl
 | n::r=>by simp[intsOf,zEB r]
theorem zFL:∀ {ds:List D} {ns:List Int},intsOf ds=some ns→ds=ns.map D.int
 | [],ns,h=>by simp[intsOf] at h;subst h;rfl
 | d::r,ns,h=>by
  cases d with
  | int i =>
   unfold intsOf at h
   cases q:intsOf r with
   | none=>rw[q] at h;cases h
   | some ms =>
    rw[q] at h
    cases h
    rw[zFL q];rfl
  | _=>simp[intsOf] at h
theorem Dens.ints_inv{K:PySem.W.Frag}{H:Hp}:∀ {ns:List Int} {xs:List V},Dens K H (ns.map D.int) xs→xs=ns.map V.int
 | [],xs,h=>by unfold Dens at h;exact h
 | n::r,xs,h=>by
  rw[List.map_cons] at h
  unfold Dens at h
  obtain⟨x,y,rfl,h1,h2⟩:=h
  unfold zN at h1
  rw[h1,Dens.ints_inv h2];rfl
noncomputable def zEC(t:TL2):TL2:=fun σ G R=>t σ G fun ds G1=>match intsOf ds with | some ns=>ns.length<64∧∀(ns':List Int),ns'.Perm ns→ns'.Pairwise (·≤·)→R (ns'.map D.int) G1 | none=>False
theorem zJK(hg:Gl X "sorted")(hm:X.mg "sorted"=none)(ha:F2 X e tl)(he:starEach [e] X.env=(false,eval e X.env)::starEach [] X.env:=by rfl)(hpl:(backTo pos (starEach [] X.env)).any (·.1)=false:=by rfl) :
  F2 X (.Call (.Name "sorted" p) [e] [] pos) (zEC tl):=by
 refine PE.mono (zBQ zFo hg hm boot_sorted (wk ha zAy he) (by decide) (by decide) he hpl) ?_
 rintro σ1 H Q ⟨σ,G,R,rl,q,k⟩
 refine⟨σ,G,_,rl,q,fun ds G1 q1 l xs H1 g1 r1 n e1 d1=>?_⟩
 cases q2:intsOf ds with
 | none=>rw[q2] at q1;exact q1.elim
 | some ns =>
  rw[q2] at q1
  have hds:=zFL q2
  subst hds
  have hxs:=d1.ints_inv
  subst hxs
  refine⟨l,ns,rfl,.of e1,q1.1,fun l' ns' n' h1 h2=>?_⟩
  exact k _ G1 (q1.2 ns' h1 h2) l' _ _ (g1.trans (.fresh n')) (r1.fresh n') (r1.free n') zd (Dens.ints ns')
theorem zFM{t:TA}(hg:Gl X "range")(hm:X.mg "range"=none)(ha:PA X [a] t)(hs:starEach [a] X.env=[(false,eval a X.env)]:=by rfl) :
  PE X (.Call (.Name "range" p) [a] [] pos) (fun σ H Q=>t σ H fun vs H1=>∃ j:Int,vs=[.int j]∧∀ l,H1 l=none→Q (.ref l) (yz H1 l (.rng 0 j))):=by
 intro pins s σ H Q I h
 refine Call_ (zAj I hg hm boot_range (PyProof.Rows.callWith_type1 (yr (ha pos pins s σ H _ I h) fun us s1 ⟨vs,H1,I1,r1,q1⟩=>?_) hs rfl))
 obtain⟨j,e,q⟩:=q1
 subst e
 cases r1 with
 | cons r rr =>
  cases rr
  obtain⟨t,rfl⟩:=r
  refine call_range_1 ?_
  have hn:H1 s1.heap.objs.size=none:=I1.hok.fresh (Nat.le_refl _)
  exact⟨.ref s1.heap.objs.size,_,I1.laid (o:=.rng 0 j) (fun b u e=>Heap.get?_push_of_some _ e) (Nat.le_refl _) ⟨_,_,_,Heap.get?_push_size _ rfl⟩,rfl,q _ hn⟩
theorem zHW(hc:X.calm=true):yg X (.type "list") (fun xs H Q=>∃ p j,xs=[.ref p]∧H p=some (.rng 0 j)∧(0≤j∧j≤1000000)∧∀ l,H l=none→Q (.ref l) (yz H l (.lst ((List.range j.toNat).map fun(k:Nat)=>V.int k)))):=by
 intro pins s σ H xs us Q I r h
 obtain⟨p,j,rfl,hp,⟨h0,h1⟩,q⟩:=h
 obtain⟨u,rfl,rx⟩:=vals1 r
 cases rx
 obtain⟨t1,t2,t3,ho⟩:∃ t u v,s.heap.get? p=some { cls:=.type "range",data:=.fields #[.int 0 t,.int j u,.int 1 v] }:=I.hok p _ hp
 have hsz:Builtin.Range.rangeSize 0 j 1=((j.toNat:Nat):Int):=by rw[rangeSize_one];split<;>(first|lia|omega)
 refine call_list_range (I.ok.hd hc) (show IsRange s.heap p 0 j 1 t1 t2 t3 from ho) (small_one (by (first|lia|omega)) (by (first|lia|omega)) (by (first|lia|omega)) (by (first|lia|omega))) hsz (by (first|lia|omega)) fun h' tk acc' c' kp e hacc=>?_
 have hn:H s.heap.objs.size=none:=I.hok.fresh (Nat.le_refl _)
 refine⟨.ref s.heap.objs.size,_,I.laid (o:=.lst ((List.range j.toNat).map fun(k:Nat)=>V.int k)) kp (Nat.le_refl _) ?_,rfl,q _ hn⟩
 refine⟨?_,acc'.toList,c',?_,by rw[e]⟩
 ·rw[List.length_map,List.length_range,sizeLine_eq];(first|lia|omega)
 ·refine zBU (by simp[hacc.1]) fun i x v e1 e2=>?_
  have e2':acc'[i]?=some v:=by simpa using e2
  obtain⟨t,rfl⟩:=hacc.2 i v e2'
  rw[List.getElem?_map] at e1
  cases q':(List.range j.toNat)[i]? with
  | none=>rw[q'] at e1;cases e1
  | some k =>
   rw[q'] at e1
   cases e1
   have hk:k=i:=by
    have:=(List.getElem?_eq_some_iff.mp q').2
    simpa using this.symm
   subst hk
   refine⟨t,?_⟩
   congr 1
   (first|lia|omega)
noncomputable def zHX(t:wL):TL2:=fun σ G R=>t σ G fun ds G1=>match ds with | [.int j]=>(0≤j∧j≤1000000)∧R (zr 0 j.toNat) G1 | _=>False
theorem zLt{t:wL}{pos':Pos}(hc:X.calm=true)(hg:Gl X "list")(hm:X.mg "list"=none)(hg2:Gl X "range")(hm2:X.mg "range"=none)(ha:A2 X [a] t)(hs:starEach [a] X.env=[(false,eval a X.env)]:=by rfl)
  (he:starEach [.Call (.Name "range" p2) [a] [] pos] X.env=(false,eval (.Call (.Name "range" p2) [a] [] pos) X.env)::starEach [] X.env:=by rfl) (hpl:(backTo pos' (starEach [] X.env)).any (·.1)=false:=by rfl) :
  F2 X (.Call (.Name "list" p) [.Call (.Name "range" p2) [a] [] pos] [] pos') (zHX t):=by
 refine PE.mono (zBn (zHW hc) hg hm (by decide +kernel) (wk (zFM hg2 hm2 ha hs) zAy he) (by decide) (by decide) he hpl) ?_
 rintro σ1 H Q ⟨σ,G,R,rl,q,k⟩
 refine⟨σ,G,_,rl,q,fun ds G1 q1 vs H1 g1 r1 d1=>?_⟩
 split at q1
 ·rename_i j
  obtain⟨v,rfl,d2⟩:=zCd d1
  unfold zN at d2
  subst d2
  refine⟨j,rfl,fun l n=>⟨l,j,rfl,zd,q1.1,fun l' n'=>?_⟩⟩
  have g2:yA H1 (yz H1 l (.rng 0 j)):=.fresh n
  have r2:=r1.fresh (o:=.rng 0 j) n
  refine k _ G1 q1.2 l' _ _ ((g1.trans g2).trans (.fresh n')) (r2.fresh n') (r2.free n') zd ?_
  have:(List.range j.toNat).map (fun(k:Nat)=>V.int k)=((List.range j.toNat).map fun(k:Nat)=>(k:Int)).map V.int:=by simp
  rw[this]
  have e2:zr 0 j.toNat=((List.range j.toNat).map fun(k:Nat)=>(k:Int)).map D.int:=by simp[zr]
  rw[e2]
  exact Dens.ints _
 ·exact q1.elim
noncomputable def zNt(ta tb:zh):TL2:=fun σ G R=>ta σ G fun x G1=>tb σ G1 fun y G2=>match x,y with
 | .adr l,.int k=>match G2.m l with
  | some ds=>(0≤k∧k≤1000)∧ds.length≤1000∧R ((List.replicate k.toNat ds).flatten) G2
  | none=>False
 | _,_=>False
theorem Dens.rep{K:PySem.W.Frag}{H:Hp}{ds:List D}{xs:List V}(h:Dens K H ds xs):∀ n:Nat,Dens K H (List.replicate n ds).flatten (List.replicate n xs).flatten
 | 0=>.nil
 | n+1=>by
  rw[List.replicate_succ,List.flatten_cons,List.replicate_succ,List.flatten_cons]
  exact h.append (Dens.rep h n)
theorem zOv(ha:E2 X a ta)(hb:E2 X b tb):F2 X (.BinOp a .Mult b pos) (zNt ta tb):=by
 refine PE.mono (zJ1 zNh ha hb) ?_
 rintro σ1 H Q ⟨σ,G,R,rl,q,k⟩
 refine⟨σ,G,_,rl,q,fun dx G1 q1 x H1 g1 r1 d1=>⟨σ,G1,_,rl.to g1 r1,q1,fun dy G2 q2 y H2 g2 r2 d2=>?_⟩⟩
 split at q2
 ·rename_i l i
  split at q2
  ·rename_i ds e
   obtain⟨⟨h0,h1⟩,hz,q3⟩:=q2
   have d1':=d1.grow g2
   unfold zN at d1' d2
   subst d1' d2
   obtain⟨xs,e1,e2⟩:=r2.m l ds e
   have hlen:=e2.length
   refine⟨l,i,xs,rfl,rfl,e1,by (first|lia|omega),by (first|lia|omega),?_,fun l' n'=>?_⟩
   ·have h3:i.toNat≤1000:=by (first|lia|omega)
    have h4:xs.length≤1000:=by (first|lia|omega)
    have:=Nat.mul_le_mul h4 h3
    rw[sizeLine_eq];(first|lia|omega)
   ·exact k _ G2 q3 l' _ _ ((g1.trans g2).trans (.fresh n')) (r2.fresh n') (r2.free n') zd ((e2.rep i.toNat).grow (.fresh n'))
  ·exact q2.elim
 ·exact q2.elim
noncomputable def zFp(to:zh)(t:wL):zh:=fun σ G R=>to σ G fun x G1=>match x with
 | .adr l=>match G1.m l with
  | some _=>t σ G1 fun ds G2=>match ds with
   | [d]=>(match G2.m l with | some xs=>xs.length≤1000000∧R .non (zS G2 l (xs++[d])) | none=>False)
   | _=>False
  | none=>False
 | _=>False
theorem zCe{t:wL}{apos:Pos}(ho:E2 X o to)(ha:A2 X [e] t)
  (hbase:attributeBase o "append" X.env (eval o X.env)=eval o X.env:=by rfl)
  (hfew:((backTo pos (starEach [e] X.env)).all (fun x=>!x.1)&&(backToKw pos (keywordEach [] X.env)).all (fun x=>x.1.isSome)
   && decide ([e].length+([]:List Keyword).length+(if ([]:List Keyword).isEmpty then 0 else 1)<30))=true:=by rfl)
  (hline:(apos.endLine==pos.line)=true:=by rfl) (hs:starEach [e] X.env=(false,eval e X.env)::starEach [] X.env:=by rfl) (hplain:(backTo pos (starEach [] X.env)).any (·.1)=false:=by rfl) :
  E2 X (.Call (.Attribute o "append" apos) [e] [] pos) (zFp to t):=by
 refine PE.mono (zJ9 PySem.F.plainAttrs_list PySem.F.slot_list_append PySem.F.type_list_append zFF ho ha hbase hfew hline hs hplain) ?_
 rintro σ1 H Q ⟨σ,G,R,rl,q,k⟩
 refine⟨σ,G,_,rl,q,fun dx G1 q1 x H1 g1 r1 d1=>?_⟩
 split at q1
 ·rename_i l
  split at q1
  ·rename_i ds0 e0
   unfold zN at d1
   subst d1
   obtain⟨xs0,a1,a2⟩:=r1.m l ds0 e0
   refine⟨.inl ⟨rfl,xs0,.of a1⟩,σ,G1,_,rl.to g1 r1,q1,fun ds G2 q2 vs H2 g2 r2 d2=>?_⟩
   split at q2
   ·rename_i d
    split at q2
    ·rename_i xs e1
     obtain⟨v,rfl,d3⟩:=zCd d2
     obtain⟨ys,b1,b2⟩:=r2.m l xs e1
     have hlen:=b2.length
     refine⟨l,ys,v,rfl,rfl,b1,by rw[sizeLine_eq];(first|lia|omega),?_⟩
     exact k _ _ q2.2 _ _ ((g1.trans g2).trans (.lst b1)) (r2.put b1 (b2.append (.cons d3 .nil))) (by unfold zN;rfl)
    ·exact q2.elim
   ·exact q2.elim
  ·exact q1.elim
 ·exact q1.elim
noncomputable def zJL(to:zh)(t:TL2):zh:=fun σ G R=>to σ G fun x G1=>match x with
 | .adr l=>match G1.m l with
  | some _=>t σ G1 fun zs G2=>match G2.m l with | some xs=>xs.length+zs.length≤1000000∧R .non (zS G2 l (xs++zs)) | none=>False
  | none=>False
 | _=>False
theorem zED{apos:Pos}(ho:E2 X o to)(ha:F2 X e tl)
  (hbase:attributeBase o "extend" X.env (eval o X.env)=eval o X.env:=by rfl)
  (hfew:((backTo pos (starEach [e] X.env)).all (fun x=>!x.1)&&(backToKw pos (keywordEach [] X.env)).all (fun x=>x.1.isSome)
   && decide ([e].length+([]:List Keyword).length+(if ([]:List Keyword).isEmpty then 0 else 1)<30))=true:=by rfl)
  (hline:(apos.endLine==pos.line)=true:=by rfl) (hs:starEach [e] X.env=(false,eval e X.env)::starEach [] X.env:=by rfl) (hplain:(backTo pos (starEach [] X.env)).any (·.1)=false:=by rfl) :
  E2 X (.Call (.Attribute o "extend" apos) [e] [] pos) (zJL to tl):=by
 refine PE.mono (zJ9 PySem.F.plainAttrs_list PySem.F.slot_list_extend PySem.F.type_list_extend zJB ho (wk ha zAy hs) hbase hfew hline hs hplain) ?_
 rintro σ1 H Q ⟨σ,G,R,rl,q,k⟩
 refine⟨σ,G,_,rl,q,fun dx G1 q1 x H1 g1 r1 d1=>?_⟩
 split at q1
 ·rename_i l
  split at q1
  ·rename_i ds0 e0
   unfold zN at d1
   subst d1
   obtain⟨xs0,a1,a2⟩:=r1.m l ds0 e0
   refine⟨.inl ⟨rfl,xs0,.of a1⟩,σ,G1,_,rl.to g1 r1,q1,fun zs G2 q2 l2 ys H2 g2 r2 n2 e2 d2=>?_⟩
   split at q2
   ·rename_i xs e1
    obtain⟨ws,b1,b2⟩:=r2.m l xs e1
    have hl1:=b2.length
    have hl2:=d2.length
    refine⟨l,l2,ws,ys,rfl,rfl,b1,e2,by rw[sizeLine_eq];(first|lia|omega),?_⟩
    exact k _ _ q2.2 _ _ ((g1.trans g2).trans (.lst b1)) (r2.put b1 (b2.append d2)) (by unfold zN;rfl)
   ·exact q2.elim
  ·exact q1.elim
 ·exact q1.elim
noncomputable def zLu(to:zh)(t:wL):zh:=fun σ G R=>to σ G fun x G1=>match x with
 | .adr l=>match G1.m l with
  | some _=>t σ G1 fun ds G2=>match ds with
   | [.int i]=>(match G2.m l with
    | some xs=>(0≤i∧i<xs.length∧i≤1000000)∧(match xs[i.toNat]? with | some d=>R d (zS G2 l (xs.eraseIdx i.toNat)) | none=>False)
    | none=>False)
   | _=>False
  | none=>False
 | _=>False
theorem zOw{t:wL}{apos:Pos}(ho:E2 X o to)(ha:A2 X [e] t)
  (hbase:attributeBase o "pop" X.env (eval o X.env)=eval o X.env:=by rfl)
  (hfew:((backTo pos (starEach [e] X.env)).all (fun x=>!x.1)&&(backToKw pos (keywordEach [] X.env)).all (fun x=>x.1.isSome)
   && decide ([e].length+([]:List Keyword).length+(if ([]:List Keyword).isEmpty then 0 else 1)<30))=true:=by rfl)
  (hline:(apos.endLine==pos.line)=true:=by rfl) (hs:starEach [e] X.env=(false,eval e X.env)::starEach [] X.env:=by rfl) (hplain:(backTo pos (starEach [] X.env)).any (·.1)=false:=by rfl) :
  E2 X (.Call (.Attribute o "pop" apos) [e] [] pos) (zLu to t):=by
 refine PE.mono (zJ9 PySem.F.plainAttrs_list PySem.F.slot_list_pop PySem.F.type_list_pop zKA ho ha hbase hfew hline hs hplain) ?_
 rintro σ1 H Q ⟨σ,G,R,rl,q,k⟩
 refine⟨σ,G,_,rl,q,fun dx G1 q1 x H1 g1 r1 d1=>?_⟩
 split at q1
 ·rename_i l
  split at q1
  ·rename_i ds0 e0
   unfold zN at d1
   subst d1
   obtain⟨xs0,a1,a2⟩:=r1.m l ds0 e0
   refine⟨.inl ⟨rfl,xs0,.of a1⟩,σ,G1,_,rl.to g1 r1,q1,fun ds G2 q2 vs H2 g2 r2 d2=>?_⟩
   split at q2
   ·rename_i i
    split at q2
    ·rename_i xs e1
     obtain⟨⟨h0,h1,h9⟩,q2⟩:=q2
     split at q2
     ·rename_i d e2
      obtain⟨v,rfl,d3⟩:=zCd d2
      unfold zN at d3
      subst d3
      obtain⟨ys,b1,b2⟩:=r2.m l xs e1
      have hlen:=b2.length
      obtain⟨z,c1,c2⟩:=b2.get e2
      refine⟨l,ys,i,i.toNat,z,rfl,rfl,b1,by (first|lia|omega),by (first|lia|omega),?_,c1,?_⟩
      ·have hi:¬ i<0:=by (first|lia|omega)
       unfold seqIndex?
       simp only[if_neg hi]
       rw[if_pos (by rw[Bool.and_eq_true];exact⟨decide_eq_true h0,decide_eq_true (by (first|lia|omega))⟩)]
      ·exact k _ _ q2 _ _ ((g1.trans g2).trans (.lst b1)) (r2.put b1 (b2.eraseIdx i.toNat)) (c2.grow (.lst b1))
     ·exact q2.elim
    ·exact q2.elim
   ·exact q2.elim
  ·exact q1.elim
 ·exact q1.elim
noncomputable def zKR:D→String→Bool
 | .tup _,T=>decide (T="tuple")
 | .bl _,T=>decide (T="bool"∨T="int")
 | .int _,T=>decide (T="int")
 | .str _,T=>decide (T="str")
 | .non,_=>false
 | .adr _,_=>false
 | .dic _,T=>decide (T="dict")
noncomputable def tys:List String:=["tuple","bool","int","str","list","dict"]
theorem zGV{T:String}(hT:T∈tys):yg X (.builtin "isinstance") (fun xs H Q=>∃ x d,xs=[x,.ty T]∧zN X.K H d x∧((∀ l,d≠.adr l)∧Q (.bl (zKR d T)) H∨∃ l ys,d=.adr l∧SqL X.K H l ys∧Q (.bl (decide (T="list"))) H)):=by
 intro pins s σ H xs us Q I r h
 obtain⟨x,d,rfl,hd,q⟩:=h
 obtain⟨u,u',rfl,rx,ry⟩:=vals2 r
 obtain rfl:u'=Value.type T:=ry
 simp only[tys,List.mem_cons,List.not_mem_nil,or_false] at hT
 rcases q with ⟨hna,q⟩ | ⟨l,ys,rfl,hs,q⟩
 ·cases d with
  | tup _ =>
   unfold zN at hd
   obtain⟨a,ys,rfl,hs,u0⟩:=hd
   cases (show u=Value.ref a from rx)
   obtain⟨u0,u0,⟨o,h1,h2,u0⟩,u0⟩:=I.tuple hs
   rcases hT with rfl | rfl | rfl | rfl | rfl | rfl<;>exact PySem.W.kia_one PySem.W.kitx_tuple I.kIn ⟨o,h1,h2⟩ (by rfl) (fun z=>nomatch z) fun tk=>⟨.bl _,H,I.tok _,rfl,q⟩
  | bl _ =>
   unfold zN at hd
   subst hd
   rcases hT with rfl | rfl | rfl | rfl | rfl | rfl<;>exact zBm I rx (.bl _) (by rfl) fun tk=>⟨.bl _,H,I.tok _,rfl,q⟩
  | int _ =>
   unfold zN at hd
   subst hd
   rcases hT with rfl | rfl | rfl | rfl | rfl | rfl<;>exact zBm I rx (.int _) (by rfl) fun tk=>⟨.bl _,H,I.tok _,rfl,q⟩
  | str _ =>
   unfold zN at hd
   subst hd
   rcases hT with rfl | rfl | rfl | rfl | rfl | rfl<;>exact zBm I rx (.str _) (by rfl) fun tk=>⟨.bl _,H,I.tok _,rfl,q⟩
  | non =>
   unfold zN at hd
   subst hd
   rcases hT with rfl | rfl | rfl | rfl | rfl | rfl<;>exact zBm I rx .non (by rfl) fun tk=>⟨.bl _,H,I.tok _,rfl,q⟩
  | dic a =>
   unfold zN at hd
   obtain⟨rfl,o,y,hs,hc⟩:=hd
   cases (show u=Value.ref a from rx)
   have h1:=(I.hok a _ hs).1
   rcases hT with rfl | rfl | rfl | rfl | rfl | rfl<;>exact PySem.W.kia_one PySem.W.kitx_dict I.kIn ⟨o,h1,hc⟩ (by rfl) (fun z=>nomatch z) fun tk=>⟨.bl _,H,I.tok _,rfl,q⟩
  | adr l=>exact absurd rfl (hna l)
 ·unfold zN at hd
  subst hd
  cases (show u=Value.ref l from rx)
  obtain⟨u0,u0,pl,u0⟩:=I.list hs
  obtain⟨o,h1,h2,u0⟩:=pl.isList
  rcases hT with rfl | rfl | rfl | rfl | rfl | rfl<;>exact PySem.W.kia_one PySem.W.kitx_list I.kIn ⟨o,h1,h2⟩ (by rfl) (fun z=>nomatch z) fun tk=>⟨.bl _,H,I.tok _,rfl,q⟩
noncomputable def zHY(T:String)(te:zh):zh:=fun σ G R=>te σ G fun d G1=>match d with
 | .adr l=>(∃ ds,Ls G1 l ds)∧R (.bl (decide (T="list"))) G1
 | d=>R (.bl (zKR d T)) G1
theorem zMt{T:String}{x:Str}(hg:Gl X "isinstance")(hm:X.mg "isinstance"=none)(hg2:Gl X x)(hm2:X.mg x=none)(hv:bootBuiltins x=some (.type T))(ha:E2 X e te)(hT:T∈tys:=by decide)
  (he:starEach [e,.Name x p2] X.env=(false,eval e X.env)::starEach [.Name x p2] X.env:=by rfl) (he2:starEach [.Name x p2] X.env=(false,eval (.Name x p2) X.env)::starEach [] X.env:=by rfl) (hpl:(backTo pos (starEach [.Name x p2] X.env)).any (·.1)=false:=by rfl)
  (hn:x≠"__name__":=by decide) (hdb:(x==("__debug__":Str))=false:=by decide) :
  E2 X (.Call (.Name "isinstance" p) [e,.Name x p2] [] pos) (zHY T te):=by
 refine PE.mono (zBQ (zGV (T:=T) hT) hg hm (by decide +kernel) (wk ha (wk (zLS (v:=.ty T) hg2 hm2 hv rfl hn hdb) zAy he2) he) (by decide) (by decide) he hpl) ?_
 rintro σ1 H Q ⟨σ,G,R,rl,q,k⟩
 refine⟨σ,G,_,rl,q,fun d G1 q1 v H1 g1 r1 d1=>?_⟩
 refine⟨v,d,rfl,d1,?_⟩
 cases d with
 | adr l =>
  obtain⟨⟨ds,hl⟩,q1⟩:=q1
  obtain⟨xs,hs,u0⟩:=r1.sq hl
  exact .inr ⟨l,xs,rfl,hs,k _ G1 q1 _ H1 g1 r1 (by unfold zN;rfl)⟩
 | _=>exact .inl ⟨fun l z=>(by cases z),k _ G1 q1 _ H1 g1 r1 (by unfold zN;rfl)⟩
noncomputable def zHZ(i:Nat)(te:zh)(f:Int→Int→Int):wK:=fun E σ G=>match look σ i with
 | some (.int a)=>te σ G fun y G1=>match y with | .int b=>E.nx (σ.set i (some (.int (f a b)))) G1 | _=>False
 | _=>False
end
section
variable {P:Program} {w:World} {K:PySem.W.Frag} {mg:Str→Option Value} {base:Heap}
noncomputable def FgR(R:Q2):Q2:=fun d G=>∃ G',Sub G' G∧R d G'
theorem FgR.of{R:Q2}{d:D}{G:Gp}(h:R d G):FgR R d G:=⟨G,.refl G,h⟩
noncomputable def zU(N:List Str)(ds:List D):S2:=ds.map some++List.replicate (N.length-ds.length) none
theorem zFN{N:List Str}{ds:List D}{vs:List V}{G:Gp}{H:Hp}(r:yH K G H)(d:Dens K H ds vs):Rel K (zU N ds) G (L2.start N vs) H :=
 ⟨r,by simp[zU,L2.start,d.length],fun i x e=>by
  unfold zU at e
  unfold L2.start
  by_cases hi:i<ds.length
  ·rw[List.getElem?_append_left (by simpa using hi),List.getElem?_map] at e
   cases q:ds[i]? with
   | none=>rw[q] at e;cases e
   | some y =>
    rw[q] at e;cases e
    obtain⟨v,e1,e2⟩:=d.get q
    refine⟨v,?_,e2⟩
    rw[List.getElem?_append_left (by rw[List.length_map,← d.length];exact hi),List.getElem?_map,e1];rfl
  ·rw[List.getElem?_append_right (by simpa using hi),List.getElem?_replicate] at e
   split at e<;>cases e⟩
theorem zOx{x qual:Str}{st:Stmt}{f:Addr}{fd:FuncData}{N ps:List Str}{k:Nat}{sp:Sp2}(F:Fun K x qual st f fd)(S:zc N ps (zF st))(hm:mg x=some (.ref f))(hb:Binds K fd ps [])(len:∀ ds G R,sp ds G R→ds.length=ps.length)
  (hbody:∀(cdv:Value) (A:Around) (outer:List Env) (s:Shared) (H:Hp) (E:XK),yo k (A.deeper (envOfC qual (zF st) s.heap.objs.size f cdv)) →
   ∃ t,Ps2 (zFk CX0 P w K mg base N qual (zF st) f cdv A outer s H E).nox (zY st) t∧∀ ds G R,sp ds G R→t { nx:=fun u0 G'=>FgR R .non G',rt:=FgR R } (zU N ds) G):Df P w K mg base (k+1) x ps sp:=by
 refine⟨f,fd,F.ok S ?_ ?_,hm,F.kp,hb⟩
 ·rintro vs H Q E ⟨ds,G,R,d,r,h,u0⟩
  rw[← d.length]
  exact len ds G R h
 ·intro cdv A outer s H vs Q E hr h
  obtain⟨ds,G,R,d,r,h,kk⟩:=h
  obtain⟨t,ht,q⟩:=hbody cdv A outer s H E hr
  refine⟨_,ht,zU N ds,G,_,zFN r d,q ds G R h,⟨?_,?_,?_,?_⟩⟩
  ·rintro σ G' ⟨G'',s',q'⟩ σ1 H' g' r'
   exact kk _ G'' q' _ H' g' (r'.g.sub s') (by unfold zN;rfl)
  ·intro σ G' h;exact h.elim
  ·intro σ G' h;exact h.elim
  ·rintro d' G' ⟨G'',s',q'⟩ v H' g' r' dv
   exact kk _ G'' q' _ H' g' (r'.sub s') dv
end
end L3
namespace L3
open PySem PySem.Spec PyProof.Rows L2
section
variable {P:Program} {w:World} {K:PySem.W.Frag} {mg:Str→Option Value} {base:Heap}
noncomputable abbrev zm(R:Q2):yM:={ nx:=fun u0 G'=>FgR R .non G',rt:=FgR R }
theorem yP{x qual:Str}{st:Stmt}{f:Addr}{fd:FuncData}{N ps:List Str}{k:Nat}{sp:Sp2}(t:wK)(F:Fun K x qual st f fd)(S:zc N ps (zF st))(hm:mg x=some (.ref f))(hb:Binds K fd ps [])
  (ht:∀(cdv:Value) (A:Around) (outer:List Env) (s:Shared) (H:Hp) (E:XK),yo k (A.deeper (envOfC qual (zF st) s.heap.objs.size f cdv))→Ps2 (zFk CX0 P w K mg base N qual (zF st) f cdv A outer s H E).nox (zY st) t)
  (hs:∀ ds G R,sp ds G R→ds.length=ps.length∧t (zm R) (zU N ds) G):Df P w K mg base (k+1) x ps sp :=
 zOx F S hm hb (fun ds G R h=>(hs ds G R h).1) fun cdv A outer s H E hr=>⟨t,ht cdv A outer s H E hr,fun ds G R h=>(hs ds G R h).2⟩
theorem zNu{x qual:Str}{st:Stmt}{f:Addr}{fd:FuncData}{N ps:List Str}{k:Nat}{sp:Sp2}(t:wK)(F:Fun K x qual st f fd)(S:zc N ps (zF st))
  (ht:∀(cdv:Value) (A:Around) (outer:List Env) (s:Shared) (H:Hp) (E:XK),yo k (A.deeper (envOfC qual (zF st) s.heap.objs.size f cdv))→Ps2 (zFk CX0 P w K mg base N qual (zF st) f cdv A outer s H E).nox (zY st) t)
  (hs:∀ ds G R,sp ds G R→ds.length=ps.length∧t (zm R) (zU N ds) G):zBP P w K mg base CX0 (k+1) f fd ps (lSp K sp):=by
 refine F.ok S ?_ ?_
 ·rintro vs H Q E ⟨ds,G,R,d,r,h,u0⟩
  rw[← d.length]
  exact(hs ds G R h).1
 ·intro cdv A outer s H vs Q E hr h
  obtain⟨ds,G,R,d,r,h,kk⟩:=h
  refine⟨_,ht cdv A outer s H E hr,zU N ds,G,_,zFN r d,(hs ds G R h).2,⟨?_,?_,?_,?_⟩⟩
  ·rintro σ G' ⟨G'',s',q'⟩ σ1 H' g' r'
   exact kk _ G'' q' _ H' g' (r'.g.sub s') (by unfold zN;rfl)
  ·intro σ G' h;exact h.elim
  ·intro σ G' h;exact h.elim
  ·rintro d' G' ⟨G'',s',q'⟩ v H' g' r' dv
   exact kk _ G'' q' _ H' g' (r'.sub s') dv
end
noncomputable def zFO(osc sc:Scope):List (Str×NameKind):=sc.names.map fun(n,k)=>if (k==NameKind.free&&osc.kind==.function&&osc.names.lookup n==some .cell) then (n,NameKind.cell) else (n,k)
noncomputable def zNv(ns:List (Str×NameKind))(x:Str):Bool:=match ns.lookup x with | some .local=>true | some .cell=>true | some .free=>true | _=>false
noncomputable def zMu(osc sc:Scope)(N N0 own:List Str):Bool :=
 decide (sc.kind=.function)&&sc.names.all (fun y=>decide (y.2≠.cell))&&sc.names.all (fun y=>decide (y.2=.local→sc.names.lookup y.1=some .local))
 && sc.names.all (fun y=>decide (y.2=.free→osc.names.lookup y.1=some .cell∨osc.names.lookup y.1=some .free))
 && decide (N0.length=N.length)&&(List.range N0.length).all (fun i=>match N0[i]? with | some x=>!zNv (zFO osc sc) x||decide (N[i]?=some x∧sc.names.lookup x=some .free) | none=>true)
 && decide ((N0++own).Nodup)&&own.all (fun x=>decide ((zFO osc sc).lookup x=some .local))
structure zIT (X:Cx) (sc:Scope) (N0 own:List Str):Prop where
 ok:zCH X sc N0
 nd:(N0++own).Nodup
 loc:∀ x∈own,(relabel sc X.env).names.lookup x=some .local
theorem yQ{X:Cx}{osc sc:Scope}{N N0 own:List Str}(h:zMu osc sc N N0 own=true)(e1:X.env.scope=osc:=by rfl)(e2:X.N=N:=by rfl):zIT X sc N0 own:=by
 subst e1 e2
 unfold zMu at h
 simp only[Bool.and_eq_true,decide_eq_true_eq,List.all_eq_true] at h
 obtain⟨⟨⟨⟨⟨⟨⟨h1,h2⟩,h3⟩,h4⟩,h5⟩,h6⟩,h7⟩,h8⟩:=h
 refine⟨⟨h1,h2,h3,h4,h5,fun i x e v=>?_⟩,h7,h8⟩
 have hi:i<N0.length:=(List.getElem?_eq_some_iff.mp e).1
 have q:=h6 i (List.mem_range.mpr hi)
 rw[e] at q
 dsimp only at q
 have hv:zNv (zFO X.env.scope sc) x=true:=by
  have v':(zFO X.env.scope sc).lookup x=some .local∨(zFO X.env.scope sc).lookup x=some .cell∨(zFO X.env.scope sc).lookup x=some .free:=v
  unfold zNv
  rcases v' with v' | v' | v'<;>rw[v']
 rw[hv] at q
 simpa using q
section
variable {X:Cx} {elt iter:Expr} {pos:Pos} {te:zh} {ifs:List Expr} {sc:Scope} {N0:List Str} {wi:TI2} {tc:TT2}
theorem zEE(x:Str){px:Pos}(hc:X.calm=true)(T:zIT X sc N0 [x])(hi:I2 X (.Name x px) iter wi)
  (ht:∀ C s H fp pins,Ts2 (X.comp (N0++[x]) sc C s H fp pins) ifs tc) (he:∀ C s H fp pins,E2 (X.comp (N0++[x]) sc C s H fp pins) elt te)
  (hs:∀ x,foldedSetIterable iter X.env x=pure x:=by intro u0;rfl):F2 X (.ListComp elt [⟨.Name x px,iter,ifs,0⟩] sc pos) (yL wi bd1 tc te) :=
 zLo x hc T.ok hi T.nd (T.loc x (by simp)) ht he hs
theorem zPW(x y:Str){px py pt:Pos}{kk:Nat}(hc:X.calm=true)(T:zIT X sc N0 [x,y])(hi:I2 X (.Tuple [.Name x px,.Name y py] kk pt) iter wi)
  (ht:∀ C s H fp pins,Ts2 (X.comp (N0++[x,y]) sc C s H fp pins) ifs tc) (he:∀ C s H fp pins,E2 (X.comp (N0++[x,y]) sc C s H fp pins) elt te)
  (hs:∀ x,foldedSetIterable iter X.env x=pure x:=by intro u0;rfl):F2 X (.ListComp elt [⟨.Tuple [.Name x px,.Name y py] kk pt,iter,ifs,0⟩] sc pos) (yL wi bd2 tc te) :=
 zLp x y hc T.ok hi T.nd (T.loc x (by simp)) (T.loc y (by simp)) ht he hs
theorem zLv(i:Nat)(x:Str){y:Str}{px py spos:Pos}(hc:X.calm=true)(T:zIT X sc N0 [x])(hi:I2 X (.Name x px) iter wi)
  (ht:∀ C s H fp pins,Ts2 (X.comp (N0++[x]) sc C s H fp pins) ifs tc) (he:∀ C s H fp pins,E2 (X.comp (N0++[x]) sc C s H fp pins) elt te)
  (hN:X.N.Nodup) (hy:X.N[i]?=some y:=by rfl) (hl:X.env.scope.names.lookup y=some .local:=by rfl)
  (hsw:swapsWith (.ListComp elt [⟨.Name x px,iter,ifs,0⟩] sc pos) (some (.Name y py)) spos.line X.env=pure true:=by rfl)
  (hs:∀ x,foldedSetIterable iter X.env x=pure x:=by intro u0;rfl):P2 X (.Assign [.Name y py] (.ListComp elt [⟨.Name x px,iter,ifs,0⟩] sc pos) spos) (zDS i (yL wi bd1 tc te)) :=
 zHS i x hc T.ok hi T.nd (T.loc x (by simp)) ht he hN hy hl hsw hs
end
structure Ext (G G':Gp):Prop where
 sub:Sub G G'
 ro:G'.ro=G.ro
theorem Ext.refl(G:Gp):Ext G G:=⟨.refl G,rfl⟩
theorem Ext.trans{G G1 G2:Gp}(h:Ext G G1)(h':Ext G1 G2):Ext G G2:=⟨h.sub.trans h'.sub,h'.ro.trans h.ro⟩
theorem Ext.new{G:Gp}{l:Addr}{o:List D}(h:G.m l=none):Ext G (zS G l o):=⟨.new h,rfl⟩
theorem Ext.ls{G G':Gp}(h:Ext G G'){a:Addr}{ds:List D}(e:Ls G a ds):Ls G' a ds:=e.sub h.sub
theorem Ext.own{G G':Gp}(h:Ext G G'){A:Addr}(n:G'.m A=none):G.m A=none:=by
 cases q:G.m A with
 | none=>rfl
 | some u=>rw[h.sub.m A u q] at n;cases n
noncomputable def zn(t:zh)(σ:S2)(G:Gp)(d:D):Prop:=∀ G2,Ext G G2→∀ R:D→Gp→Prop,R d G2→t σ G2 R
noncomputable def PuT(t:TT2)(σ:S2)(G:Gp)(b:Bool):Prop:=∀ G2,Ext G G2→∀ R:Bool→Gp→Prop,R b G2→t σ G2 R
noncomputable def PuL(t:TL2)(σ:S2)(G:Gp)(ds:List D):Prop:=∀ G2,Ext G G2→∀ R:List D→Gp→Prop,R ds G2→t σ G2 R
noncomputable def PuA(t:wL)(σ:S2)(G:Gp)(ds:List D):Prop:=∀ G2,Ext G G2→∀ R:List D→Gp→Prop,R ds G2→t σ G2 R
noncomputable def PuI(t:TI2)(σ:S2)(G:Gp)(ds:List D):Prop:=∀ G2,Ext G G2→∀ R:List D→(Gp→Prop)→Gp→Prop,(∀ gd G3,Ext G2 G3→(∀ G4,Ext G3 G4→gd G4)→R ds gd G3)→t σ G2 R
theorem zn.mono{t:zh}{σ:S2}{G G':Gp}{d:D}(h:zn t σ G d)(e:Ext G G'):zn t σ G' d:=fun G2 x=>h G2 (e.trans x)
section
variable {σ:S2} {G:Gp}
theorem zE{i:Nat}{d:D}(h:look σ i=some d):zn (zB i) σ G d:=fun G2 u0 R q=>by unfold zB;rw[h];exact q
theorem wt{d:D}:zn (xC d) σ G d:=fun u0 u0 u0 q=>q
theorem zT:PuA zI σ G []:=fun u0 u0 u0 q=>q
theorem zH{ta:zh}{tr:wL}{d:D}{ds:List D}(h:zn ta σ G d)(h':PuA tr σ G ds):PuA (zA ta tr) σ G (d::ds):=fun G2 x R q=>h G2 x _ (h' G2 x _ q)
theorem zAk{t:wL}{ds:List D}(h:PuA t σ G ds)(hl:ds.length≤100000):zn (yV t) σ G (.tup ds):=fun G2 x R q=>h G2 x _ ⟨by rw[sizeLine_eq];(first|lia|omega),q⟩
theorem zAb{f:D→D→Gp→Q2→Prop}{ta tb:zh}{x y d:D}(ha:zn ta σ G x)(hb:zn tb σ G y)(h:∀ G2,Ext G G2→∀ R:D→Gp→Prop,R d G2→f x y G2 R):zn (zX f ta tb) σ G d:=fun G2 e R q=>ha G2 e _ (hb G2 e _ (h G2 e R q))
theorem zEF{g:Int→Int→D}{ta tb:zh}{i j:Int}(ha:zn ta σ G (.int i))(hb:zn tb σ G (.int j)):zn (zX (fII g) ta tb) σ G (g i j):=zAb ha hb fun u0 u0 u0 q=>q
theorem wM{sp:Sp2}{t:wL}{ds:List D}{d:D}(ha:PuA t σ G ds)(h:∀ G2,Ext G G2→∀ R:D→Gp→Prop,R d G2→sp ds G2 R):zn (zM sp t) σ G d:=fun G2 e R q=>ha G2 e _ (h G2 e R q)
theorem zDA{t:zh}{b:Bool}(h:zn t σ G (.bl b)):PuT (xB t) σ G b:=fun G2 e R q=>h G2 e _ q
theorem zNw:PuT zCa σ G true:=fun u0 u0 u0 q=>q
theorem zNx{t u:TT2}{b c:Bool}(h:PuT t σ G b)(h':b=false→PuT u σ G c):PuT (zCc t u) σ G (b||c):=fun G2 e R q=>h G2 e _ (by
 cases b with
 | true=>simpa using q
 | false=>rw[if_neg (by simp)];exact h' rfl G2 e _ (by simpa using q))
theorem zIU{t:TT2}{b:Bool}(h:PuT t σ G b):PuT (zBT t) σ G (!b):=fun G2 e R q=>h G2 e _ q
theorem zKS{tl:TL2}{ds:List D}(h:PuL tl σ G ds):zn (zk yt tl) σ G (.tup ds):=fun G2 e R q=>h G2 e _ q
theorem zDB{t:zh}{ds:List D}(h:zn t σ G (.tup ds)):PuI (iV t) σ G ds:=fun G2 e R q=>h G2 e _ (q _ G2 (.refl _) fun u0 u0=>trivial)
theorem zBq{t:zh}{a:Addr}{ds:List D}(h:zn t σ G (.adr a))(hr:Ls G a ds):PuI (iV t) σ G ds:=fun G2 e R q=>h G2 e _ ⟨ds,e.ls hr,q _ G2 (.refl _) fun G4 e4=>e4.ls (e.ls hr)⟩
end
end L3
namespace HT
open PySem PySem.Spec PyProof.Rows
section
variable {prog:Program} {w:World} {A:Around} {E:Value→Shared→Prop} {s:Shared}
theorem zKT{t b:Addr}{ws:List Value}{Q:Value→Shared→Prop}(ht:IsTup s.heap t #[])(hb:IsTup s.heap b ws.toArray)(h:Q (.ref b) s):wpAny (model prog w) A (binaryOp .Add (.ref t) (.ref b)) Q E s:=by
 obtain⟨⟨cls,dd,data,sl⟩,ho,hc,n,hd⟩:=id ht
 obtain⟨⟨cls2,dd2,data2,sl2⟩,ho2,hc2,n2,hd2⟩:=id hb
 simp only at hc hd hc2 hd2
 subst hc hd hc2 hd2
 exact concat_meets ⟨_,ho,rfl⟩ ⟨_,ho2,rfl⟩ noFill_tuple_add seq_tuple_add PySem.F.slot_tuple_add PySem.F.entry_tuple_add (PySem.F.args_tuple_add_2 _ _)
   (tuple_addW0 t b #[] ws.toArray n n2 dd dd2 sl sl2 rfl) ⟨ho,ho2,h⟩
theorem zGW{l:Addr}{vs:List Value}{Q:List Value→Shared→Prop}(hl:IsTup s.heap l vs.toArray)
  (h:Q vs { s with heap:=(s.heap.push (seqObj "list" #[] 0)).update s.heap.objs.size (Obj.mapSeq (·++vs.toArray)) }) (hsz:vs.length≤sizeLine:=by size_fits) :
  wpAny (model prog w) A (collect (.ref l)) Q E s:=by
 obtain⟨o,ho,hc,n,hd⟩:=id hl
 unfold collect
 refine wpAny_bind (wpAny_runValue (codeAny_builtin entry_proto_collect' ?_))
 show wpAny _ _ (do again (.builtin "list.__iadd__" ⟨[← newList [],.ref l],[]⟩)) _ _ s
 refine wpAny_bind (wpAny_newList (wpAny_pure ⟨Code.quiet_builtin _ (by decide +kernel),codeAny_builtin entry_list_iadd' ?_⟩))
 show wpAny _ _ (Builtin.List.listExtendWith (.ref s.heap.objs.size) (.ref l) (.ref s.heap.objs.size)) _ _ { s with heap:=s.heap.push (seqObj "list" #[] 0) }
 unfold Builtin.List.listExtendWith
 have ho':(s.heap.push (seqObj "list" #[] 0)).get? l=some o:=Heap.get?_push_of_some _ ho
 refine wpAny_bind (wpAny_typeOf (T:="tuple") ⟨o,ho',hc⟩ ?_)
 have ht:(Value.type "tuple"==Value.type "tuple")=true:=by rfl
 rw[if_pos (by rw[ht];simp)]
 refine wpAny_bind (listItems_at ho' hd ?_)
 refine wpAny_bind (listItems_at (xs:=#[]) (n:=0) (Heap.get?_push_size _ rfl) rfl ?_)
 rw[if_neg (by simp)]
 refine wpAny_bind (listUpdate_at (xs:=#[]) (n:=0) (Heap.get?_push_size _ rfl) rfl ?_ (Nat.zero_le _) (by show(#[]++vs.toArray).size≤sizeLine+1;simp only[Array.size_append,List.size_toArray,List.length_nil];(first|lia|omega)))
 refine wpAny_pure ?_
 show wpAny (model prog w) A (do
   let o ← load s.heap.objs.size
   match o.data with
   | .seq xs _=>pure xs.toList
   | _=>unsupported "internal:collect") Q E { s with heap:=(s.heap.push (seqObj "list" #[] 0)).update s.heap.objs.size (Obj.mapSeq (·++vs.toArray)) }
 refine wpAny_bind (wpAny_load (get?_update_seq (Heap.get?_push_size _ rfl) _) ?_)
 show wpAny _ _ (pure ((#[]:Array Value)++vs.toArray).toList) Q E _
 rw[show((#[]:Array Value)++vs.toArray).toList=vs by simp]
 exact wpAny_pure h
theorem zHa{l:Addr}{vs:List Value}{ns:List Int}{Q:Value→Shared→Prop}(hl:IsTup s.heap l vs.toArray)(hI:IntsAre vs ns)(h64:vs.length<64)
  (h:∀(out:Array Value) (ns':List Int),IntsAre out.toList ns'→ns'.Perm ns→ns'.Pairwise (·≤·)→Q (.ref (s.heap.objs.size+1)) { s with heap:=sortedAll s.heap vs out }) :
  wpAny (model prog w) A (call (.builtin "sorted") [.ref l]) Q E s:=by
 refine Calls.call_function_entry kind_sorted plain_sorted entry_sorted (args_sorted1 _) ?_
 unfold Builtin.«sorted»
 refine wpAny_bind (m:=checkCount "sorted" 1 1 _) (wpAny_pure ?_)
 refine wpAny_bind (zGW hl ?_)
 refine wpAny_bind (wpAny_newList ?_)
 have hsz:((s.heap.push (seqObj "list" #[] 0)).update s.heap.objs.size (Obj.mapSeq (·++vs.toArray))).objs.size=s.heap.objs.size+1:=by
  rw[Heap.size_update,size_push']
 have hoL:(((s.heap.push (seqObj "list" #[] 0)).update s.heap.objs.size (Obj.mapSeq (·++vs.toArray))).push (seqObj "list" vs.toArray 0)).get? (s.heap.objs.size+1)=some (seqObj "list" vs.toArray 0):=by
  rw[← hsz];exact Heap.get?_push_size _ rfl
 show wpAny _ _ _ _ _ { s with heap:=((s.heap.push (seqObj "list" #[] 0)).update s.heap.objs.size (Obj.mapSeq (·++vs.toArray))).push (seqObj "list" vs.toArray 0) }
 rw[hsz]
 refine wpAny_bind (wpAny_holding (wpAny_call_entry slot_list_sort ⟨_,hoL,rfl⟩ entry_list_sort (list_sort_tree hoL hI h64 fun out ns' a1 a2 a3=>⟨_,rfl,?_⟩) (args_list_sort _)))
 exact wpAny_pure ⟨_,rfl,h out ns' a1 a2 a3⟩
theorem zE0{Q:List Value→Shared→Prop}{r:Addr}{a b c:Int}{t u v:Tok}{n:Nat}(hh:A.handled=none)(hr:IsRange s.heap r a b c t u v)(hsmall:Builtin.Range.small a b c=true)
  (hn:Builtin.Range.rangeSize a b c=n) (hlen:n≤2 ^ 24)
  (hQ:∀ h' tk acc,(∀ b o,s.heap.get? b=some o→h'.get? b=some o)→ItemsOf (fun i v=>∃ t,v=.int (a+i*c) t) acc n→Q acc.toList { s with heap:=h',toks:=tk }) :
  wpAny (model prog w) A (collect (.ref r)) Q E s:=by
 unfold collect
 refine wpAny_bind (wpAny_runValue (codeAny_builtin PySem.F.entry_proto_collect ?_))
 rw[Around.under_plainId PySem.F.plain_proto_collect _]
 show wpAny _ A.in1 (newList []>>=fun l=>again (.builtin "list.__iadd__" ⟨[l,.ref r],[]⟩)) _ _ s
 refine wpAny_bind (wpAny_newObj_type ?_)
 refine wpAny_pure ⟨plainId_quiet PySem.F.plain_list_iadd _,codeAny_builtin PySem.F.entry_list_iadd ?_⟩
 rw[Around.under_plainId PySem.F.plain_list_iadd _]
 show wpAny _ A.in1 (Builtin.List.listExtendWith (.ref s.heap.objs.size) (.ref r) (.ref s.heap.objs.size)) _ _ _
 have hS:(s.heap.push { cls:=.type "list",data:=.seq ([]:List Value).toArray }).get? s.heap.objs.size=some { cls:=.type "list",data:=.seq #[] 0 }:=Heap.get?_push_size _ rfl
 refine wpAny_mono (wpAny_extend_range (A:=A) (R:=fun res s'=>∃ h' tk acc c',res=.ok (.ret (.ref s.heap.objs.size))∧s'={ s with heap:=h',toks:=tk }∧(∀ b o,s.heap.get? b=some o→h'.get? b=some o)∧h'.get? s.heap.objs.size=some { cls:=.type "list",dict:=none,data:=.seq acc c',slots:=#[] }∧ItemsOf (fun i v=>∃ t,v=.int (a+i*c) t) acc n)
  (s:={ s with heap:=s.heap.push { cls:=.type "list",data:=.seq ([]:List Value).toArray } }) hh (Heap.get?_push_of_some _ hr) hsmall hn hlen s.heap.objs.size (.ref s.heap.objs.size) 0 hS fun h' tk acc' c' hk hS' hacc=>?_) (fun fin s' h=>?_) (fun e s' h=>?_)
 ·exact⟨h',tk,acc',c',rfl,rfl,fun b o e=>hk b o (Nat.ne_of_lt (Heap.lt_size e)) (Heap.get?_push_of_some _ e),hS',hacc⟩
 ·have fin':∀ {r' s''},(∃ h' tk acc c',r'=(.ok (.ret (.ref s.heap.objs.size)):Result)∧s''={ s with heap:=h',toks:=tk }∧(∀ b o,s.heap.get? b=some o→h'.get? b=some o)∧h'.get? s.heap.objs.size=some { cls:=.type "list",dict:=none,data:=.seq acc c',slots:=#[] }∧ItemsOf (fun i v=>∃ t,v=.int (a+i*c) t) acc n) →
    wpAny (model prog w) A (match Value.ref s.heap.objs.size with
     | Value.ref a=>do
      match (← load a).data with
       | Data.seq xs _=>pure xs.toList
       | _=>unsupported "internal:collect"
     | _=>unsupported "internal:collect") Q E s'':=by
   rintro r' s'' ⟨h',tk,acc,c',rfl,rfl,hk,hS',hacc⟩
   show wpAny _ A (load s.heap.objs.size>>=_) _ _ _
   refine wpAny_bind (wpAny_load hS' ?_)
   exact wpAny_pure (hQ h' tk acc hk hacc)
  cases fin with
  | done f =>
   have hf:=h
   obtain⟨h',tk,acc,c',e,u0⟩:=h
   cases e
   exact fin' hf
  | again c'=>exact⟨h.1,codeAny_mono h.2 fun r s'' hr=>by
    have hf:=hr
    obtain⟨h',tk,acc,c',e,u0⟩:=hr
    subst e
    exact fin' hf⟩
 ·obtain⟨u0,u0,u0,u0,e,u0⟩:=h
  cases e
theorem zBO(r:Addr)(a b c:Int)(t u v:Tok)(n:Nat)(hsmall:Builtin.Range.small a b c=true)(hn:Builtin.Range.rangeSize a b c=n)(hlen:n≤2 ^ 24) :
  Meets (Builtin.«tuple.__new__» ⟨[.type "tuple",.ref r],[]⟩)
   (fun A R s=>A.handled=none∧IsRange s.heap r a b c t u v∧∀(h':Heap) tk acc,(∀ b o',s.heap.get? b=some o'→h'.get? b=some o')→ItemsOf (fun i v=>∃ t,v=.int (a+i*c) t) acc n→R (.ok (.ret (.ref h'.objs.size))) { s with heap:=h'.push { cls:=.type "tuple",data:=.seq acc },toks:=tk }) :=
 .of_wp fun prog w A R s h=>by
  obtain⟨hp,g,d,tk,os⟩:=s;obtain⟨hh,ht,h⟩:=h
  have hsub:=sub_tuple_self
  have hinit:=init_tuple_lookup
  have hmh:=madeHere_tuple
  have hT:Shared.TypeIs ⟨hp,g,d,tk,os⟩ (.ref r) "range":=⟨_,ht,rfl⟩
  wp_walk using wpAny_typeOf hT,zE0 (A:=A.in1) hh ht hsmall hn hlen
  intro h' tk' acc hk hacc
  show wpAny _ _ (Builtin.Tuple.tupleExact acc.toList.toArray>>=fun v=>ret v) _ _ _
  unfold Builtin.Tuple.tupleExact
  refine wpAny_bind (wpAny_newObj_type ?_ (by show acc.toList.toArray.size≤sizeLine;simp only[Array.toArray_toList];rw[hacc.1,sizeLine_eq];(first|lia|omega)))
  refine wpAny_pure ⟨_,rfl,?_⟩
  have e:acc.toList.toArray=acc:=by simp
  rw[e]
  exact h h' tk' acc hk hacc
theorem zDC{Q:Value→Shared→Prop}{r:Addr}{a b c:Int}{t u v:Tok}{n:Nat}(hh:A.handled=none)(hr:IsRange s.heap r a b c t u v)(hsmall:Builtin.Range.small a b c=true)
  (hn:Builtin.Range.rangeSize a b c=n) (hlen:n≤2 ^ 24)
  (hQ:∀(h':Heap) tk acc,(∀ b o,s.heap.get? b=some o→h'.get? b=some o)→ItemsOf (fun i v=>∃ t,v=.int (a+i*c) t) acc n→Q (.ref h'.objs.size) { s with heap:=h'.push { cls:=.type "tuple",data:=.seq acc },toks:=tk }) :
  wpAny (model prog w) A (call (.type "tuple") [.ref r]) Q E s :=
 callType_new PySem.F.called_tuple (by decide) (PySem.F.typeCall_tuple_1 _) (PySem.F.newCall_tuple_1 _) (fun obj=>PySem.F.args_object_init_2 obj _) PySem.F.entry_tuple_new
  (zBO r a b c t u v n hsmall hn hlen) ⟨hh,hr,fun h' tk acc hk hacc=>⟨⟨_,Heap.get?_push_size _ rfl,rfl⟩,hQ h' tk acc hk hacc⟩⟩
end
end HT
namespace HT
open PySem PySem.Spec PyProof.Rows
section
variable {prog:Program} {w:World} {A:Around} {E:Value→Shared→Prop} {s:Shared}
theorem zB3{t sl:Addr}{items:Array Value}{vl vu:Value}{lo hi:Option Int}{Q:Value→Shared→Prop}(ht:IsTup s.heap t items)(hs:s.heap.IsSliceOf sl vl vu .none)(pl:IsPart vl lo)(pu:IsPart vu hi)
  (hw:wW items.size 0 lo=0∧wW items.size items.size hi=items.size)
  (h:Q (.ref t) s):wpAny (model prog w) A (getItem (.ref t) (.ref sl)) Q E s:=by
 obtain⟨os,hos,hcs,hds⟩:=id hs
 have hTs:s.TypeIs (.ref sl) "slice":=⟨os,hos,hcs⟩
 unfold getItem
 try with_reducible refine wpAny_holding ?_
 first | refine wpAny_bind (wpAny_pure ?_) | skip
 refine wpAny_bind (wpAny_sequenceKey ht.typeIs (by decide) ?_)
 refine wpAny_bind (wpAny_callSpecial?_slot (name:=Str.ofString "__getitem__") ht.typeIs PyProof.Rows.slot_tuple_getitem
  (wpAny_call_entry PyProof.Rows.slot_tuple_getitem ht.typeIs entry_tuple_getitem ?_ (args_tuple_getitem _ _)))
 show wpAny _ _ (Builtin.Tuple.tupleItemsOf (.ref t)>>=_) _ _ s
 refine wpAny_bind (tupleItemsOf_ ht ?_)
 refine wpAny_bind (wpAny_typeOf hTs ?_)
 rw[if_pos (by decide)]
 refine wpAny_bind (zAl hs pl pu ?_)
 have hyes:((((wW items.size 0 lo:Nat):Int)==0&&(1:Int)==1&&(wW items.size items.size hi-wW items.size 0 lo)==items.size)=true):=by
  rw[hw.1,hw.2];simp
 show wpAny _ _ (if (((wW items.size 0 lo:Nat):Int)==0&&(1:Int)==1&&(wW items.size items.size hi-wW items.size 0 lo)==items.size)=true then _ else _) _ _ s
 rw[if_pos hyes]
 unfold Builtin.Tuple.tupleIsExact
 refine wpAny_bind (wpAny_bind (wpAny_typeOf ht.typeIs (wpAny_pure ?_)))
 rw[if_pos (by rfl)]
 refine wpAny_bind (wpAny_rule ?_)
 first
  | exact wpAny_pure ⟨_,rfl,wpAny_pure h⟩
  | exact wpAny_bind (wpAny_pure (wpAny_pure ⟨_,rfl,wpAny_pure h⟩))
theorem zBV{α β:Type}{f:α→Option β}{g:α→β}:∀ {l:List α},(∀ k∈l,f k=some (g k))→l.filterMap f=l.map g
 | [],_=>rfl
 | a::r,h=>by rw[List.filterMap_cons,h a (by simp),List.map_cons,zBV fun k hk=>h k (by simp[hk])]
theorem zJM(xs:List Value):(List.range xs.length).filterMap (fun(k:Nat)=>xs.toArray[((xs.length:Int)-1+(k:Int)*(-1)).toNat]?)=xs.reverse:=by
 apply List.ext_getElem?
 intro i
 have e:(List.range xs.length).filterMap (fun(k:Nat)=>xs.toArray[((xs.length:Int)-1+(k:Int)*(-1)).toNat]?)=(List.range xs.length).map (fun k=>xs.reverse.getD k .none):=by
  refine zBV fun k hk=>?_
  have hk:=List.mem_range.mp hk
  have e1:((xs.length:Int)-1+(k:Int)*(-1)).toNat=xs.length-1-k:=by (first|lia|omega)
  rw[e1]
  have h2:xs.length-1-k<xs.length:=by (first|lia|omega)
  simp[List.getD,h2,List.getElem?_reverse hk]
 rw[e,List.getElem?_map]
 by_cases hi:i<xs.length
 ·simp[hi,List.getD]
 ·simp[hi]
theorem zCJ{t sl:Addr}{vs:List Value}{u:Tok}{Q:Value→Shared→Prop}(ht:IsTup s.heap t vs.toArray)(hs:s.heap.IsSliceOf sl .none .none (.int (-1) u))
  (h:Q (.ref s.heap.objs.size) { s with heap:=s.heap.push { cls:=.type "tuple",data:=.seq vs.reverse.toArray } })
  (hsz:vs.length≤sizeLine):wpAny (model prog w) A (getItem (.ref t) (.ref sl)) Q E s:=by
 obtain⟨os,hos,hcs,hds⟩:=id hs
 have hTs:s.TypeIs (.ref sl) "slice":=⟨os,hos,hcs⟩
 unfold getItem
 try with_reducible refine wpAny_holding ?_
 first | refine wpAny_bind (wpAny_pure ?_) | skip
 refine wpAny_bind (wpAny_sequenceKey ht.typeIs (by decide) ?_)
 refine wpAny_bind (wpAny_callSpecial?_slot (name:=Str.ofString "__getitem__") ht.typeIs PyProof.Rows.slot_tuple_getitem
  (wpAny_call_entry PyProof.Rows.slot_tuple_getitem ht.typeIs entry_tuple_getitem ?_ (args_tuple_getitem _ _)))
 show wpAny _ _ (Builtin.Tuple.tupleItemsOf (.ref t)>>=_) _ _ s
 refine wpAny_bind (tupleItemsOf_ ht ?_)
 refine wpAny_bind (wpAny_typeOf hTs ?_)
 rw[if_pos (by decide)]
 have sa:∀ {Q':Int×Int×Nat→Shared→Prop} {E':Value→Shared→Prop} {A':Around},Q' ((vs.length:Int)-1,-1,vs.length) s→wpAny (model prog w) A' (Builtin.Slice.sliceApplied (.ref sl) (pure (vs.toArray.size:Int))) Q' E' s:=by
  intro Q' E' A' h'
  unfold Builtin.Slice.sliceApplied Builtin.Slice.sliceFields
  refine wpAny_bind (wpAny_bind (wpAny_field hos hds (x:=.none) rfl (wpAny_bind (wpAny_field hos hds (x:=.none) rfl (wpAny_bind (wpAny_field hos hds (x:=.int (-1) u) rfl (wpAny_pure ?_)))))))
  refine wpAny_bind (slicePart_int ?_)
  show wpAny _ _ (if ((-1:Int)==0)=true then _ else _) _ _ s
  rw[if_neg (by decide)]
  refine wpAny_bind (slicePart_none (wpAny_bind (slicePart_none (wpAny_bind (wpAny_pure ?_)))))
  show wpAny _ _ (match Builtin.Slice.sliceAdjust none none (-1) (vs.toArray.size:Int) with | (lo,hi)=>pure (lo,(-1:Int),Builtin.Slice.slicePlaces lo hi (-1))) _ _ s
  have e1:Builtin.Slice.sliceAdjust none none (-1) (vs.toArray.size:Int)=((vs.length:Int)-1,-1):=by
   unfold Builtin.Slice.sliceAdjust
   simp
  have e2:Builtin.Slice.slicePlaces ((vs.length:Int)-1) (-1) (-1)=vs.length:=by
   unfold Builtin.Slice.slicePlaces
   have h1:¬ ((-1:Int)>0):=by (first|lia|omega)
   simp only[h1,if_false,Int.neg_neg,Int.ediv_one]
   split<;>(first|lia|omega)
  rw[e1]
  show wpAny _ _ (pure ((vs.length:Int)-1,(-1:Int),Builtin.Slice.slicePlaces ((vs.length:Int)-1) (-1) (-1))) _ _ s
  rw[e2]
  exact wpAny_pure h'
 refine wpAny_bind (sa ?_)
 show wpAny _ _ (if (((vs.length:Int)-1)==0&&(-1:Int)==1&&vs.length==vs.toArray.size)=true then _ else _) _ _ s
 rw[if_neg (by intro q;rw[Bool.and_eq_true,Bool.and_eq_true] at q;exact absurd q.1.2 (by decide)),zJM]
 have htake:sizeOk (.seq vs.reverse.toArray):=by
  show vs.reverse.toArray.size≤sizeLine
  simpa using hsz
 first
  | exact wpAny_bind (m:=Builtin.Tuple.tupleExact _) (wpAny_newObj_type (wpAny_pure ⟨_,rfl,wpAny_pure h⟩) htake)
  | exact wpAny_bind (m:=Builtin.Tuple.tupleExact _) (wpAny_newObj_type (wpAny_bind (wpAny_pure (wpAny_pure ⟨_,rfl,wpAny_pure h⟩))) htake)
  | exact wpAny_bind (wpAny_bind (m:=Builtin.Tuple.tupleExact _) (wpAny_newObj_type (wpAny_pure (wpAny_pure ⟨_,rfl,wpAny_pure h⟩)) htake))
  | exact wpAny_bind (wpAny_bind (m:=Builtin.Tuple.tupleExact _) (wpAny_newObj_type (wpAny_pure ⟨_,rfl,wpAny_pure h⟩) htake))
end
end HT
namespace HT
open PySem PySem.Spec PyProof.Rows
end HT
namespace L3
open PySem PySem.Spec PyProof.Rows L2
section
variable {X:Cx} {a b c e o:Expr} {es:List Expr} {pos p:Pos} {ta tb te:zh}
noncomputable def zw:D→D→Gp→Q2→Prop:=fun x y G R=>match x,y with
 | .int i,.int j=>R (.int (i+j)) G
 | .tup xs,.tup ys=>xs.length+ys.length≤1000000∧R (.tup (xs++ys)) G
 | _,_=>False
theorem OpR.or{f:Value→Value→Sem Value}{r r':R2}(h:OpR X f r)(h':OpR X f r'):OpR X f (fun x y H Q=>r x y H Q∨r' x y H Q):=by
 intro pins s σ H x y v u Q I rx ry q
 rcases q with q | q
 ·exact h pins s σ H x y v u Q I rx ry q
 ·exact h' pins s σ H x y v u Q I rx ry q
noncomputable def zMv(K:PySem.W.Frag):R2:=fun x y H Q=>∃ a b ys,x=.ref a∧y=.ref b∧SqT K H a []∧SqT K H b ys∧Q (.ref b) H
theorem zLw:OpR X (binaryOp .Add) (zMv X.K):=by
 intro pins s σ H x y v u Q I rx ry h
 obtain⟨a,b,ys,rfl,rfl,ha,hb,q⟩:=h
 cases rx
 cases ry
 obtain⟨its,r1,p1,u0⟩:=I.tuple ha
 obtain⟨its2,r2,p2,u0⟩:=I.tuple hb
 have:its=[]:=r1.nil_iff.mpr rfl
 subst this
 exact HT.zKT p1 p2 ⟨.ref b,H,I,rfl,q⟩
theorem zLx{K:PySem.W.Frag}:Fit K (fun x y H Q=>rI0 (fun i j=>.int (i+j)) x y H Q∨zMl K x y H Q∨zMv K x y H Q) zw:=by
 intro dx dy G R x y H Q h r d1 d2 k
 unfold zw at h
 split at h
 ·rename_i i j
  unfold zN at d1 d2
  subst d1 d2
  exact .inl ⟨i,j,rfl,rfl,k _ G h _ H (.refl H) r (by unfold zN;rfl)⟩
 ·rename_i xs ys
  obtain⟨hz,h⟩:=h
  unfold zN at d1 d2
  obtain⟨a,us,rfl,s1,t1⟩:=d1
  obtain⟨b,ws,rfl,s2,t2⟩:=d2
  have l1:=t1.length
  have l2:=t2.length
  by_cases hx:xs=[]
  ·subst hx
   have hu:us=[]:=List.length_eq_zero_iff.mp (by rw[← l1];rfl)
   subst hu
   exact .inr (.inr ⟨a,b,ws,rfl,rfl,s1,s2,k _ G h _ H (.refl H) r (by unfold zN;exact⟨b,ws,rfl,s2,by simpa using t2⟩)⟩)
  ·refine .inr (.inl ⟨a,b,us,ws,rfl,rfl,s1,s2,fun z=>hx (List.length_eq_zero_iff.mp (by rw[l1,z];rfl)),by rw[sizeLine_eq];(first|lia|omega),fun z=>?_,fun u0 p hp=>?_⟩)
   ·have hy:ys=[]:=List.length_eq_zero_iff.mp (by rw[l2,z];rfl)
    subst hy
    exact k _ G h _ H (.refl H) r (by unfold zN;exact⟨a,us,rfl,s1,by simpa using t1⟩)
   ·exact k _ G h _ _ (.fresh hp) (r.fresh hp) (by unfold zN;exact⟨p,us++ws,rfl,.of zd,(t1.append t2).grow (.fresh hp)⟩)
 ·exact h.elim
theorem yi(ha:E2 X a ta)(hb:E2 X b tb):E2 X (.BinOp a .Add b pos) (zX zw ta tb):=zGR (zNQ.or (zLg.or zLw)) zLx ha hb
noncomputable def zKU(ta tb:zh):TL2:=fun σ G R=>ta σ G fun x G1=>tb σ G1 fun y G2=>match x,y with
 | .adr l,.adr m=>∃ xs ys,G2.m l=some xs∧G2.m m=some ys∧xs.length+ys.length≤1000000∧R (xs++ys) G2
 | _,_=>False
theorem zOy(ha:E2 X a ta)(hb:E2 X b tb):F2 X (.BinOp a .Add b pos) (zKU ta tb):=by
 refine PE.mono (zJ1 zNg ha hb) ?_
 rintro σ1 H Q ⟨σ,G,R,rl,q,k⟩
 refine⟨σ,G,_,rl,q,fun dx G1 q1 x H1 g1 r1 d1=>⟨σ,G1,_,rl.to g1 r1,q1,fun dy G2 q2 y H2 g2 r2 d2=>?_⟩⟩
 split at q2
 ·rename_i l m
  obtain⟨xs,ys,e1,e2,hz,q3⟩:=q2
  have d1':=d1.grow g2
  unfold zN at d1' d2
  subst d1' d2
  obtain⟨us,a1,a2⟩:=r2.m l xs e1
  obtain⟨ws,b1,b2⟩:=r2.m m ys e2
  have l1:=a2.length
  have l2:=b2.length
  refine⟨l,m,us,ws,rfl,rfl,a1,b1,by rw[sizeLine_eq];(first|lia|omega),fun p hp=>?_⟩
  exact k _ G2 q3 p _ _ ((g1.trans g2).trans (.fresh hp)) (r2.fresh hp) (r2.free hp) zd ((a2.append b2).grow (.fresh hp))
 ·exact q2.elim
theorem zFq:yg X (.builtin "sorted") (fun xs H Q=>∃(p:Addr) (ns:List Int),xs=[.ref p]∧(SqL X.K H p (ns.map V.int)∨SqT X.K H p (ns.map V.int))∧ns.length<64∧∀(l:Addr) (ns':List Int),H l=none→ns'.Perm ns→ns'.Pairwise (·≤·)→Q (.ref l) (yz H l (.lst (ns'.map V.int)))):=by
 intro pins s σ H xs us Q I r h
 obtain⟨p,ns,rfl,hq,hz,q⟩:=h
 obtain⟨u,rfl,rx⟩:=vals1 r
 cases rx
 have fin:∀(its:List Value) (out:Array Value) (ns':List Int),its.length=ns.length→IntsAre out.toList ns'→ns'.Perm ns→ns'.Pairwise (·≤·)→EP X pins σ Q (.ref (s.heap.objs.size+1)) { s with heap:=sortedAll s.heap its out }:=by
  intro its out ns' hl i1 i2 i3
  obtain⟨e,he⟩:=sortedAll_at s.heap its out
  have hn:H (s.heap.objs.size+1)=none:=I.hok.fresh (Nat.le_succ _)
  refine⟨.ref (s.heap.objs.size+1),_,I.laid (t':=s.toks) (o:=.lst (ns'.map V.int)) (fun b u q=>sortedAll_old q) (Nat.le_succ _) ?_,rfl,q _ ns' hn i2 i3⟩
  have hp:=i2.length_eq
  refine⟨?_,out.toList,e,zBo i1,?_⟩
  ·rw[List.length_map,hp,sizeLine_eq];(first|lia|omega)
  ·rw[he]<;>rfl
 rcases hq with hq | hq
 ·obtain⟨its,rv,pl,u0⟩:=I.list hq
  have hl:=rv.length
  rw[List.length_map] at hl
  exact sorted_ints (vs:=its) (ns:=ns) pl.isList (intsAre_of rv) (by (first|lia|omega)) fun out ns' i1 i2 i3=>fin its out ns' (by (first|lia|omega)) i1 i2 i3
 ·obtain⟨its,rv,pl,u0⟩:=I.tuple hq
  have hl:=rv.length
  rw[List.length_map] at hl
  exact HT.zHa (vs:=its) (ns:=ns) pl (intsAre_of rv) (by (first|lia|omega)) fun out ns' i1 i2 i3=>fin its out ns' (by (first|lia|omega)) i1 i2 i3
noncomputable def zBr(t:wL):TL2:=fun σ G R=>t σ G fun ds G1=>match ds with
 | [d]=>∃ ns:List Int,zDT G1 d (ns.map D.int)∧ns.length<64∧∀(ns':List Int),ns'.Perm ns→ns'.Pairwise (·≤·)→R (ns'.map D.int) G1
 | _=>False
theorem zKV{t:wL}(hg:Gl X "sorted")(hm:X.mg "sorted"=none)(ha:A2 X [e] t)(he:starEach [e] X.env=(false,eval e X.env)::starEach [] X.env:=by rfl)(hpl:(backTo pos (starEach [] X.env)).any (·.1)=false:=by rfl) :
  F2 X (.Call (.Name "sorted" p) [e] [] pos) (zBr t):=by
 refine PE.mono (zBQ zFq hg hm boot_sorted ha (by decide) (by decide) he hpl) ?_
 rintro σ1 H Q ⟨σ,G,R,rl,q,k⟩
 refine⟨σ,G,_,rl,q,fun ds G1 q1 vs H1 g1 r1 d1=>?_⟩
 split at q1
 ·rename_i d
  obtain⟨ns,e1,hl,q1⟩:=q1
  obtain⟨v,rfl,d2⟩:=zCd d1
  obtain⟨a,xs,rfl,s1,t1⟩:=zFm r1 d2 e1
  have hxs:=t1.ints_inv
  subst hxs
  refine⟨a,ns,rfl,s1,hl,fun l' ns' n' h1 h2=>?_⟩
  exact k _ G1 (q1 ns' h1 h2) l' _ _ (g1.trans (.fresh n')) (r1.fresh n') (r1.free n') zd (Dens.ints ns')
 ·exact q1.elim
theorem zJN(hc:X.calm=true):yg X (.type "tuple") (fun xs H Q=>∃ p j,xs=[.ref p]∧H p=some (.rng 0 j)∧(0≤j∧j≤1000000)∧∀ l,H l=none→Q (.ref l) (yz H l (.tup ((List.range j.toNat).map fun(k:Nat)=>V.int k)))):=by
 intro pins s σ H xs us Q I r h
 obtain⟨p,j,rfl,hp,⟨h0,h1⟩,q⟩:=h
 obtain⟨u,rfl,rx⟩:=vals1 r
 cases rx
 obtain⟨t1,t2,t3,ho⟩:∃ t u v,s.heap.get? p=some { cls:=.type "range",data:=.fields #[.int 0 t,.int j u,.int 1 v] }:=I.hok p _ hp
 have hsz:Builtin.Range.rangeSize 0 j 1=((j.toNat:Nat):Int):=by rw[rangeSize_one];split<;>(first|lia|omega)
 refine HT.zDC (I.ok.hd hc) (show IsRange s.heap p 0 j 1 t1 t2 t3 from ho) (small_one (by (first|lia|omega)) (by (first|lia|omega)) (by (first|lia|omega)) (by (first|lia|omega))) hsz (by (first|lia|omega)) fun h' tk acc kp hacc=>?_
 have I1:zP X pins σ H { s with heap:=h',toks:=tk }:=I.kept (t':=tk) kp
 have hn:H h'.objs.size=none:=I1.hok.fresh (Nat.le_refl _)
 refine⟨.ref h'.objs.size,_,I1.laid (t':=tk) (o:=.tup ((List.range j.toNat).map fun(k:Nat)=>V.int k)) (fun b ob q=>Heap.get?_push_of_some _ q) (Nat.le_refl _) ?_,rfl,q _ hn⟩
 refine⟨?_,acc.toList,?_,by simpa using zC4.new _ _⟩
 ·rw[List.length_map,List.length_range,sizeLine_eq];(first|lia|omega)
 ·refine zBU (by simp[hacc.1]) fun i x v e1 e2=>?_
  have e2':acc[i]?=some v:=by simpa using e2
  obtain⟨t,rfl⟩:=hacc.2 i v e2'
  rw[List.getElem?_map] at e1
  cases q':(List.range j.toNat)[i]? with
  | none=>rw[q'] at e1;cases e1
  | some k =>
   rw[q'] at e1
   cases e1
   have hk:k=i:=by
    have:=(List.getElem?_eq_some_iff.mp q').2
    simpa using this.symm
   subst hk
   refine⟨t,?_⟩
   congr 1
   (first|lia|omega)
noncomputable def zKW(t:wL):zh:=fun σ G R=>t σ G fun ds G1=>match ds with | [.int j]=>(0≤j∧j≤1000000)∧R (.tup (zr 0 j.toNat)) G1 | _=>False
theorem zNy{t:wL}{pos' p2:Pos}(hc:X.calm=true)(hg:Gl X "tuple")(hm:X.mg "tuple"=none)(hg2:Gl X "range")(hm2:X.mg "range"=none)(ha:A2 X [a] t)(hs:starEach [a] X.env=[(false,eval a X.env)]:=by rfl)
  (he:starEach [.Call (.Name "range" p2) [a] [] pos] X.env=(false,eval (.Call (.Name "range" p2) [a] [] pos) X.env)::starEach [] X.env:=by rfl) (hpl:(backTo pos' (starEach [] X.env)).any (·.1)=false:=by rfl) :
  E2 X (.Call (.Name "tuple" p) [.Call (.Name "range" p2) [a] [] pos] [] pos') (zKW t):=by
 refine PE.mono (zBn (zJN hc) hg hm (by decide +kernel) (wk (zFM hg2 hm2 ha hs) zAy he) (by decide) (by decide) he hpl) ?_
 rintro σ1 H Q ⟨σ,G,R,rl,q,k⟩
 refine⟨σ,G,_,rl,q,fun ds G1 q1 vs H1 g1 r1 d1=>?_⟩
 split at q1
 ·rename_i j
  obtain⟨v,rfl,d2⟩:=zCd d1
  unfold zN at d2
  subst d2
  refine⟨j,rfl,fun l n=>⟨l,j,rfl,zd,q1.1,fun l' n'=>?_⟩⟩
  have g2:yA H1 (yz H1 l (.rng 0 j)):=.fresh n
  have r2:=r1.fresh (o:=.rng 0 j) n
  refine k _ G1 q1.2 _ _ ((g1.trans g2).trans (.fresh n')) (r2.fresh n') ?_
  have:(List.range j.toNat).map (fun(k:Nat)=>V.int k)=((List.range j.toNat).map fun(k:Nat)=>(k:Int)).map V.int:=by simp
  rw[this]
  have e2:zr 0 j.toNat=((List.range j.toNat).map fun(k:Nat)=>(k:Int)).map D.int:=by simp[zr]
  rw[e2]
  unfold zN
  exact⟨l',_,rfl,.of zd,Dens.ints _⟩
 ·exact q1.elim
noncomputable def zPX(K:PySem.W.Frag):V→Option Int→Option Int→Hp→VK→Prop:=fun x lo hi H Q=>∃ a xs,x=.ref a∧SqT K H a xs∧(HT.wW xs.length 0 lo=0∧HT.wW xs.length xs.length hi=xs.length)∧Q (.ref a) H
theorem zLy:SlR X (zPX X.K):=by
 intro pins s σ H x v vl vu lo hi sl Q I rx hs pl pu h
 obtain⟨a,xs,rfl,hx,hw,q⟩:=h
 cases rx
 obtain⟨its,r,ht,hz⟩:=I.tuple hx
 have hlen:its.toArray.size=xs.length:=by rw[List.size_toArray];exact r.length.symm
 refine⟨"tuple",_,PyProof.Rows.slot_tuple_getitem.lookup,ht.typeIs,?_⟩
 exact HT.zB3 ht hs pl pu (by rw[hlen];exact hw) ⟨.ref a,H,I,rfl,q⟩
noncomputable abbrev TO2:=S2→Gp→(Option Int→Gp→Prop)→Prop
noncomputable def lO(K:PySem.W.Frag)(t:TO2):TO:=fun σ1 H Q=>∃ σ G R,Rel K σ G σ1 H∧t σ G R∧∀ o G',R o G'→∀ H',yA H H'→yH K G' H'→Q o H'
noncomputable def O2(X:Cx)(e:Option Expr)(t:TO2):Prop:=PO X e (lO X.K t)
noncomputable def zx:TO2:=fun u0 G R=>R none G
noncomputable def yE(t:zh):TO2:=fun σ G R=>t σ G fun d G1=>match d with | .int i=>R (some i) G1 | _=>False
theorem zBW:O2 X none zx:=by
 intro pins s σ1 H Q I h
 refine zLe pins s σ1 H Q I ?_
 obtain⟨σ,G,R,r,q,k⟩:=h
 exact k none G q H (.refl H) r.g
theorem wx(h:E2 X e te):O2 X (some e) (yE te):=by
 intro pins s σ1 H Q I q
 refine zLf h pins s σ1 H Q I ?_
 obtain⟨σ,G,R,r,q,k⟩:=q
 refine⟨σ,G,_,r,q,fun d G1 q1 v H1 g1 r1 d1=>?_⟩
 cases d with
 | int i =>
  unfold zN at d1
  exact⟨i,d1,k _ G1 q1 H1 g1 r1⟩
 | _=>exact q1.elim
noncomputable def cutD(xs:List D)(lo hi:Option Int):List D:=(xs.drop (HT.wW xs.length 0 lo)).take (HT.wW xs.length xs.length hi-HT.wW xs.length 0 lo)
noncomputable def zy(t:zh)(tl th:TO2):zh:=fun σ G R=>t σ G fun d G1=>tl σ G1 fun lo G2=>th σ G2 fun hi G3=>match d with | .tup xs=>R (.tup (cutD xs lo hi)) G3 | _=>False
theorem wm{lo hi:Option Expr}{tl th:TO2}{p2:Pos}(he:E2 X e te)(hl:O2 X lo tl)(hu:O2 X hi th):E2 X (.Subscript e (.Slice lo hi none p2) pos) (zy te tl th):=by
 refine PE.mono (zJ6 (zNc.or zLy) he hl hu) ?_
 rintro σ1 H Q ⟨σ,G,R,r,q,k⟩
 refine⟨σ,G,_,r,q,fun d G1 q1 v H1 g1 r1 d1=>⟨σ,G1,_,r.to g1 r1,q1,fun o1 G2 q2 H2 g2 r2=>⟨σ,G2,_,r.to (g1.trans g2) r2,q2,fun o2 G3 q3 H3 g3 r3=>?_⟩⟩⟩
 cases d with
 | tup xs =>
  have d1':=(d1.grow g2).grow g3
  unfold zN at d1'
  obtain⟨a,us,rfl,s1,t1⟩:=d1'
  have hl:=t1.length
  by_cases hw:HT.wW us.length 0 o1=0∧HT.wW us.length us.length o2=us.length
  ·refine .inr ⟨a,us,rfl,s1,hw,k _ G3 q3 _ H3 ((g1.trans g2).trans g3) r3 ?_⟩
   have e:cutD xs o1 o2=xs:=by
    unfold cutD
    rw[hl,hw.1,hw.2]
    simp[← hl]
   rw[e]
   unfold zN
   exact⟨a,us,rfl,s1,t1⟩
  ·refine .inl ⟨a,us,rfl,s1,hw,fun p hp=>k _ G3 q3 _ _ (((g1.trans g2).trans g3).trans (.fresh hp)) (r3.fresh hp) ?_⟩
   unfold zN
   refine⟨p,_,rfl,.of zd,?_⟩
   unfold cutD zJ7
   rw[hl]
   exact((t1.drop).take).grow (.fresh hp)
 | _=>exact q3.elim
noncomputable def zIV(t:zh):zh:=fun σ G R=>t σ G fun d G1=>match d with | .tup xs=>R (.tup xs.reverse) G1 | _=>False
theorem zR.reverse:∀ {xs:List V} {us:List Value},zR xs us→zR xs.reverse us.reverse
 | _,_,.nil=>.nil
 | _,_,.cons r rr=>by
  rw[List.reverse_cons,List.reverse_cons]
  exact(zR.reverse rr).append (.cons r .nil)
theorem zNz{p2 p3 p4:Pos}{j:Nat}(he:E2 X e te):E2 X (.Subscript e (.Slice none none (some (.UnaryOp .USub (.Constant (.int 1) j p4) p3)) p2) pos) (zIV te):=by
 intro pins s σ1 H Q I h
 obtain⟨σ,G,R,r,q,k⟩:=h
 refine Subscript_ (yr (he pins s σ1 H (fun v H'=>∃ a us,v=.ref a∧SqT X.K H' a us∧∀ p,H' p=none→Q (.ref p) (yz H' p (.tup us.reverse))) I ⟨σ,G,_,r,q,fun d G1 q1 v H1 g1 r1 d1=>?_⟩) fun v s1 ⟨x,H1,I1,r1,a,us,e1,hx,q1⟩=>?_)
 ·cases d with
  | tup xs =>
   unfold zN at d1
   obtain⟨a,us,rfl,s1,t1⟩:=d1
   refine⟨a,us,rfl,s1,fun p hp=>k _ G1 q1 _ _ (g1.trans (.fresh hp)) (r1.fresh hp) ?_⟩
   unfold zN
   exact⟨p,_,rfl,.of zd,(t1.reverse).grow (.fresh hp)⟩
  | _=>exact q1.elim
 ·subst e1
  cases r1
  refine wpAny_Slice ?_
  rw[evalPart_none]
  refine wpAny_pure (wpAny_pure ?_)
  rw[evalPart_some]
  have hneg:PE X (.UnaryOp .USub (.Constant (.int 1) j p4) p3) (fun u0 H Q=>Q (.int (-1)) H):=fun pins s σ H Q I h=>zOZ zNX zJw pins s σ H Q I ⟨1,rfl,h⟩
  refine yr (hneg pins s1 σ1 H1 (fun v H'=>v=.int (-1)∧H'=H1) I1 ⟨rfl,rfl⟩) fun v2 s2 ⟨x2,H2,I2,r2,e2,e3⟩=>?_
  subst e2 e3
  obtain⟨t2,rfl⟩:=r2
  have I4:zP X pins σ1 H2 { s2 with heap:=s2.heap.push { cls:=.type "slice",data:=.fields #[.none,.none,.int (-1) t2] } }:=I2.kept (t':=s2.toks) fun b ob q=>Heap.get?_push_of_some _ q
  obtain⟨its,rv,ht,hz⟩:=I4.tuple hx
  refine tail_any (ops:=[.ref a,.ref s2.heap.objs.size]) ht.typeIs PyProof.Rows.slot_tuple_getitem.lookup (HT.zCJ ht (Heap.IsSliceOf.new ..) ?_ (by rw[← rv.length];exact hz)) (by with_unfolding_all rfl)
  have hn:=I4.hok.fresh (Nat.le_refl _)
  refine⟨.ref _,_,I4.laid (t':=s2.toks) (o:=.tup us.reverse) (fun b ob q=>Heap.get?_push_of_some _ q) (Nat.le_refl _) ?_,rfl,q1 _ hn⟩
  exact⟨by simpa using hz,_,zR.reverse rv,zC4.new _ _⟩
end
section
variable {σ:S2} {G:Gp}
theorem wC{α:Type}{ds:List α}{i:Nat}{x:α}(h:ds[i]?=some x):ds.take (i+1)=ds.take i++[x]:=by
 rw[List.take_add_one,h];rfl
theorem zBs{wi:TI2}{bd:D→Option (List D)}{tc:TT2}{te:zh}{ds:List D}(p:D→Bool)(f:D→D)(us:D→List D)(hw:PuI wi σ G ds)
  (hx:∀ x∈ds,bd x=some (us x)∧PuT tc (σ++(us x).map some) G (p x)∧(p x=true→zn te (σ++(us x).map some) G (f x))):PuL (yL wi bd tc te) σ G ((ds.filter p).map f):=by
 intro G2 e R q
 refine hw G2 e _ fun gd G3 e3 hgd A nA=>?_
 refine⟨fun i acc G'=>G'=zS G3 A acc∧acc=((ds.take i).filter p).map f,⟨rfl,by simp⟩,?_,?_,?_⟩
 ·rintro i acc G' hi ⟨rfl,rfl⟩
  refine⟨hgd _ (.new nA),zG,?_⟩
  rw[List.length_map]
  exact Nat.le_trans (List.length_filter_le _ _) (by rw[List.length_take];(first|lia|omega))
 ·rintro i x acc G' hi ⟨rfl,rfl⟩
  obtain⟨hb,ht,he⟩:=hx x (List.mem_of_getElem? hi)
  rw[hb]
  dsimp only
  have ex:Ext G (zS G3 A (((ds.take i).filter p).map f)):=(e.trans e3).trans (.new nA)
  refine ht _ ex _ ?_
  cases hp:p x with
  | false =>
   rw[if_neg (by simp)]
   exact .of ⟨rfl,by rw[wC hi];simp[hp]⟩
  | true =>
   rw[if_pos rfl]
   refine he hp _ ex _ ⟨zG,.of ⟨zBp,by rw[wC hi];simp[hp]⟩⟩
 ·rintro acc G' ⟨rfl,rfl⟩
  exact⟨G2,e3.own nA,e3.sub.trans (.new nA),by rw[List.take_length];exact q⟩
theorem zFr{wi:TI2}{bd:D→Option (List D)}{te:zh}{ds:List D}(f:D→D)(us:D→List D)(hw:PuI wi σ G ds)
  (hx:∀ x∈ds,bd x=some (us x)∧zn te (σ++(us x).map some) G (f x)):PuL (yL wi bd zCa te) σ G (ds.map f):=by
 have:=zBs (tc:=zCa) (fun u0=>true) f us hw fun x h=>⟨(hx x h).1,zNw,fun u0=>(hx x h).2⟩
 rwa [List.filter_eq_self.mpr (fun u0 u0=>rfl)] at this
theorem zJO{t:wL}{j:Int}(h:PuA t σ G [.int j])(hj:-1000000≤j∧j≤1000000):PuI (iR1 t) σ G (zr 0 j.toNat):=fun G2 e R q=>h G2 e _ ⟨hj,q _ G2 (.refl _) fun u0 u0=>trivial⟩
theorem zJP{t:wL}{i j:Int}(h:PuA t σ G [.int i,.int j])(hj:(-1000000≤i∧i≤1000000)∧-1000000≤j∧j≤1000000):PuI (iR2 t) σ G (zr i (j-i).toNat):=fun G2 e R q=>h G2 e _ ⟨hj,q _ G2 (.refl _) fun u0 u0=>trivial⟩
theorem wq.nil:wq [] []:=.refl _
theorem wq.keep{o:Option D}{r r':S2}(h:wq r r'):wq (o::r) (o::r'):=⟨by simp[h.len],fun i d e=>by
 cases i with
 | zero=>simpa using e
 | succ i=>simpa using h.val i d (by simpa using e)⟩
theorem wq.skip{o:Option D}{r r':S2}(h:wq r r'):wq (none::r) (o::r'):=⟨by simp[h.len],fun i d e=>by
 cases i with
 | zero=>simp at e
 | succ i=>simpa using h.val i d (by simpa using e)⟩
theorem wq.trans{a b c:S2}(h:wq a b)(h':wq b c):wq a c:=⟨h.len.trans h'.len,fun i d e=>h'.val i d (h.val i d e)⟩
theorem zIW{σ:S2}{G:Gp}:Fg (fun σ' G'=>σ'=σ∧G'=G)=fun σ' G'=>wq σ σ'∧Sub G G':=by
 funext σ' G'
 apply propext
 constructor
 ·rintro⟨u0,u0,h1,h2,rfl,rfl⟩
  exact⟨h1,h2⟩
 ·rintro⟨h1,h2⟩
  exact⟨σ,G,h1,h2,rfl,rfl⟩
noncomputable def yu(wi:TI2)(g:TG2)(tb:wK):wK:=fun E σ G=>Fg (fun σ' G'=>zOp wi g tb E σ' G') σ G
theorem wN{X:Cx}{tg iter:Expr}{pos:Pos}{wi:TI2}{g:TG2}{tb:wK}{body:List Stmt}(hp:PassesOwn (model X.prog X.w) X.A X.env X.xe)(hc:X.calm=true)(hi:I2 X tg iter wi)(hg:G2 X tg g)(hb:Ps2 X body tb)
  (hs:∀ x,foldedSetIterable iter X.env x=pure x:=by intro u0;rfl):P2 X (.For tg iter body [] pos) (yu wi g tb):=by
 refine PS.mono (zOq hp hc hi hg hb hs) ?_
 rintro E σ1 H ⟨σ,G,D2,r,⟨σ',G',s1,s2,q⟩,k⟩
 exact⟨σ',G',D2,r.sub s1 s2,q,k⟩
theorem zKX{wi:TI2}{g:TG2}{tb:wK}{E:yM}{ds:List D}(hw:PuI wi σ G ds)
  (hb:∀ x∈ds,∀ G1,Ext G G1→g x σ G1 fun σ2 G2=>tb { E with nx:=fun σ' G'=>wq σ σ'∧Sub G1 G',ct:=fun σ' G'=>wq σ σ'∧Sub G1 G',bk:=E.nx } σ2 G2) (h:∀ G1,Ext G G1→E.nx σ G1) {σ0:S2} (hf:wq σ σ0:=by exact .refl _):yu wi g tb E σ0 G:=by
 refine⟨σ,G,hf,.refl G,?_⟩
 refine hw G (.refl G) _ fun gd G3 e3 hgd=>⟨fun i σ' G'=>σ'=σ∧G'=G3,⟨rfl,rfl⟩,?_,?_,?_⟩
 ·rintro i σ' G' u0 ⟨rfl,rfl⟩
  exact hgd _ (.refl _)
 ·rintro i x σ' G' hi ⟨rfl,rfl⟩
  rw[zIW]
  exact hb x (List.mem_of_getElem? hi) _ e3
 ·rintro σ' G' ⟨rfl,rfl⟩
  exact h _ e3
end
noncomputable def zKY(ds:List D)(gd:Gp→Prop)(G1:Gp)(g:TG2)(tb:wK)(E:yM)(σ:S2):Prop:=∃ Pv:Nat→S2→Gp→Prop,Pv 0 σ G1∧(∀ i σ G,i≤ds.length→Pv i σ G→gd G) ∧
 (∀ i x σ G,ds[i]?=some x→Pv i σ G→g x σ G fun σ2 G2=>tb { E with nx:=Fg (Pv (i+1)),ct:=Fg (Pv (i+1)),bk:=E.nx } σ2 G2)∧∀ σ G,Pv ds.length σ G→E.nx σ G
theorem zN0{σ:S2}{I:Gp→Prop}:Fg (fun σ' G'=>σ'=σ∧I G')=fun σ' G'=>wq σ σ'∧∃ G'',Sub G'' G'∧I G'':=by
 funext σ' G'
 apply propext
 constructor
 ·rintro⟨u0,G'',h1,h2,rfl,h3⟩
  exact⟨h1,G'',h2,h3⟩
 ·rintro⟨h1,G'',h2,h3⟩
  exact⟨σ,G'',h1,h2,rfl,h3⟩
theorem zBt{ds:List D}{gd:Gp→Prop}{G1:Gp}{g:TG2}{tb:wK}{E:yM}{σ:S2}(I:Nat→Gp→Prop)(h0:I 0 G1)(hg:∀ i G',I i G'→gd G')
  (hb:∀ i x,ds[i]?=some x→∀ G2,I i G2→g x σ G2 fun σ2 G3=>tb { E with nx:=fun σ' G'=>wq σ σ'∧∃ G'',Sub G'' G'∧I (i+1) G'',ct:=fun σ' G'=>wq σ σ'∧∃ G'',Sub G'' G'∧I (i+1) G'',bk:=E.nx } σ2 G3)
  (h:∀ G2,I ds.length G2→E.nx σ G2):zKY ds gd G1 g tb E σ:=by
 refine⟨fun i σ' G'=>σ'=σ∧I i G',⟨rfl,h0⟩,?_,?_,?_⟩
 ·rintro i σ' G' u0 ⟨u0,h⟩
  exact hg i G' h
 ·rintro i x σ' G' hi ⟨rfl,hI⟩
  rw[zN0]
  exact hb i x hi G' hI
 ·rintro σ' G' ⟨rfl,hI⟩
  exact h G' hI
noncomputable def zMw(ds:List D)(gd:Gp→Prop)(G1:Gp)(A:Addr)(bd:D→Option (List D))(tc:TT2)(te:zh)(σ:S2)(R:List D→Gp→Prop):Prop:=∃ Pv:Nat→List D→Gp→Prop,Pv 0 [] (zS G1 A [])∧(∀ i acc G,i≤ds.length→Pv i acc G→gd G∧G.m A=some acc∧acc.length≤i) ∧
 (∀ i x acc G,ds[i]?=some x→Pv i acc G→match bd x with
  | some us=>tc (σ++us.map some) G fun b G3=>if b=true then te (σ++us.map some) G3 fun d G4=>G4.m A=some acc∧FgG (Pv (i+1) (acc++[d])) (zS G4 A (acc++[d])) else FgG (Pv (i+1) acc) G3
  | none=>False)∧∀ acc G,Pv ds.length acc G→∃ G',G'.m A=none∧Sub G' G∧R acc G'
theorem zIX{wi:TI2}{bd:D→Option (List D)}{tc:TT2}{te:zh}{σ:S2}{G:Gp}{R:List D→Gp→Prop}(h:wi σ G fun ds gd G1=>∀ A,G1.m A=none→zMw ds gd G1 A bd tc te σ R):yL wi bd tc te σ G R:=h
theorem zGX{ds:List D}{gd:Gp→Prop}{G1:Gp}{bd:D→Option (List D)}{tc:TT2}{te:zh}{σ:S2}{R:List D→Gp→Prop}{A:Addr}(I:Nat→List D→Gp→Prop)(h0:I 0 [] (zS G1 A []))(hg:∀ i acc G',I i acc G'→gd G'∧G'.m A=some acc∧acc.length≤i)
  (hb:∀ i x acc G',ds[i]?=some x→I i acc G'→∃ us,bd x=some us∧tc (σ++us.map some) G' fun b G3=>if b=true then te (σ++us.map some) G3 fun d G4=>G4.m A=some acc∧FgG (I (i+1) (acc++[d])) (zS G4 A (acc++[d])) else FgG (I (i+1) acc) G3)
  (h:∀ acc G',I ds.length acc G'→∃ G'',G''.m A=none∧Sub G'' G'∧R acc G''):zMw ds gd G1 A bd tc te σ R:=by
 refine⟨I,h0,fun i acc G' u0 q=>hg i acc G' q,fun i x acc G' hi q=>?_,h⟩
 obtain⟨us,e,q⟩:=hb i x acc G' hi q
 rw[e]
 exact q
noncomputable def zFP:Sp2:=fun ds G R=>∃(a:Addr) (ns:List Int),ds=[.adr a]∧G.ro a=some (ns.map D.int)∧ns.length≤63∧(∀ l,G.m l=none)∧R (.bl true) G
theorem zN1{K:PySem.W.Frag}{H:Hp}{a:Addr}{ns:List Int}(hl:ns.length≤63)(hO:zLk H)(hS:SqL K H a (ns.map V.int)):lSp K zFP [.ref a] H (fun v u0=>v=.bl true) fun u0 u0 u0=>False:=by
 refine⟨[.adr a],⟨fun u0=>none,fun b=>if b=a then some (ns.map D.int) else none⟩,fun d u0=>d=.bl true,.cons (by unfold zN;rfl) .nil,⟨fun b ds e=>(by cases e),fun b ds e=>?_⟩,⟨a,ns,rfl,by simp,hl,fun u0=>rfl,rfl⟩,fun d G' q v H' g r dv=>?_⟩
 ·by_cases hb:b=a
  ·subst hb
   simp at e
   subst e
   refine⟨_,?_,Dens.ints ns⟩
   rcases hS with h | h
   ·rcases hO b with h' | ⟨o,xs,h'⟩ | ⟨ps,h'⟩
    ·rcases h with h | ⟨o,h⟩<;>(rw[h'] at h;cases h)
    ·rcases h with h | ⟨o',h⟩
     ·rw[h'] at h;cases h
     ·exact .inl ⟨o',h⟩
    ·rcases h with h | ⟨o',h⟩<;>(rw[h'] at h;cases h)
   ·exact .inr h
  ·simp[hb] at e
 ·subst q
  unfold zN at dv
  exact dv
theorem zKZ{l:PySem.W.OpenLaw}{k:Nat}{q:Program}{loose:List Str}{XP:(Str→Option Value)→Heap→Prop}{YP:World→Heap→Prop}{d:DefRec}{K:Params→PySem.W.Frag}(hn:l.most=some 63)(hdf:d.params.defaults=[])(hr:yo k callerA)
  (hY:∀(w:World) (h:Heap),YP w h→(K w.params).In h∧∃ ts qn,TabsAt (K w.params) h ts qn)
  (F:∀(w:World) (mg:Str→Option Value) (fa:Addr) (h:Heap),(K w.params).In h→h.Ns mainGlobals mg→mg d.name=some (.ref fa) →
   ∃ fd:FuncData,(∀(s:Shared) (u:Value),BindsTo s fd ⟨[u],[]⟩ [("script",u)])∧∀ base:Heap,(K w.params).In base→base.Ns mainGlobals mg→zBP l.prog w (K w.params) mg base CX0 k fa fd ["script"] (lSp (K w.params) zFP)) :
  PySem.W.WalkO q loose XP YP l.row.toRowW d [] (fun f vs=>PySem.call f vs) :=
 L2.zLl (n:=63) (k:=k) (x:="script") (CX:=fun u0=>CX0) (sp:=fun w=>lSp (K w.params) zFP) hn (by decide) hdf hr hY F (fun u0 H a ns hl hO hS=>zN1 hl hO hS) fun u0 u0 u0 u0 u0 z=>z
noncomputable def OkS(s:Int)(b:Bool):Prop:=b=false→0≤s∧s<2147483647
noncomputable def zAY(G:Gp)(l:Addr):Prop:=∃ s b,G.m l=some [.int s,.bl b]∧OkS s b
noncomputable def Dr(l:Addr)(G G':Gp):Prop:=∃ s b,G'=zS G l [.int s,.bl b]∧OkS s b
theorem Dr.st{l:Addr}{G G':Gp}(h:Dr l G G'):zAY G' l:=by
 obtain⟨s,b,rfl,h⟩:=h
 exact⟨s,b,zG,h⟩
theorem Dr.trans{l:Addr}{G G1 G2:Gp}(h:Dr l G G1)(h':Dr l G1 G2):Dr l G G2:=by
 obtain⟨s,b,rfl,h⟩:=h
 obtain⟨s',b',rfl,h'⟩:=h'
 exact⟨s',b',zBp,h'⟩
theorem zLz{G:Gp}{l:Addr}{o:List D}(h:G.m l=some o):zS G l o=G:=by
 cases G with
 | mk m ro =>
  unfold zS
  congr 1
  funext b
  by_cases hb:b=l
  ·subst hb;rw[if_pos rfl];exact h.symm
  ·rw[if_neg hb]
theorem Dr.refl{l:Addr}{G:Gp}(h:zAY G l):Dr l G G:=by
 obtain⟨s,b,h1,h2⟩:=h
 exact⟨s,b,(zLz h1).symm,h2⟩
theorem Dr.ro{l:Addr}{G G':Gp}(h:Dr l G G'):G'.ro=G.ro:=by
 obtain⟨s,b,rfl,h⟩:=h;rfl
theorem Dr.ne{l a:Addr}{G G':Gp}(h:Dr l G G')(ha:a≠l):G'.m a=G.m a:=by
 obtain⟨s,b,rfl,h⟩:=h;exact zV ha
theorem Dr.none{l a:Addr}{G G':Gp}(h:Dr l G G')(s:zAY G l)(ha:G.m a=none):G'.m a=none:=by
 obtain⟨u0,u0,h1,u0⟩:=s
 rw[h.ne (fun e=>by subst e;rw[h1] at ha;cases ha)];exact ha
theorem zAY.ne{l a:Addr}{G:Gp}(s:zAY G l)(ha:G.m a=none):a≠l:=fun e=>by
 obtain⟨u0,u0,h1,u0⟩:=s
 subst e;rw[h1] at ha;cases ha
theorem zAY.ext{l:Addr}{G G':Gp}(s:zAY G l)(h:Sub G G'):zAY G' l:=by
 obtain⟨x,b,h1,h2⟩:=s
 exact⟨x,b,h.m l _ h1,h2⟩
theorem Dr.sub{l:Addr}{G G1 G2:Gp}(h:Dr l G1 G2)(e:Sub G G1):∃ G',Dr l G G'∧Sub G' G2:=by
 obtain⟨s,b,rfl,h⟩:=h
 refine⟨zS G l [.int s,.bl b],⟨s,b,rfl,h⟩,⟨fun a o q=>?_,fun a o q=>e.ro a o q⟩⟩
 by_cases ha:a=l
 ·subst ha;rw[zG] at q ⊢;exact q
 ·rw[zV ha] at q ⊢;exact e.m a o q
theorem zCf{α:Type}(x:α)(r:List α):atI (x::r) 0=some x:=zCX (j:=0) rfl
theorem zGY{α:Type}(x y:α)(r:List α):atI (x::y::r) 1=some y:=zCX (j:=1) rfl
theorem zKa{α:Type}(x y z:α)(r:List α):atI (x::y::z::r) 2=some z:=zCX (j:=2) rfl
theorem zDU{x:D}{r:List D}{G:Gp}{R:Q2}:fIx (.tup (x::r)) (.int 0) G R=R x G:=by simp only[fIx,zCf]
theorem zDV{x y:D}{r:List D}{G:Gp}{R:Q2}:fIx (.tup (x::y::r)) (.int 1) G R=R y G:=by simp only[fIx,zGY]
theorem zEG{x y z:D}{r:List D}{G:Gp}{R:Q2}:fIx (.tup (x::y::z::r)) (.int 2) G R=R z G:=by simp only[fIx,zKa]
theorem zA1{x:D}{ng:Bool}{ds:List D}{G:Gp}{R:Q2}:fIn ng x (.tup ds) G R=(flat 8 x=true∧(∀ d∈ds,flat 8 d=true)∧R (.bl (if ng then !ds.any fun z=>wU z x else ds.any fun z=>wU z x)) G):=rfl
theorem zHb:(0≤sizeLine)=True:=by rw[sizeLine_eq];simp
theorem zHc:(1≤sizeLine)=True:=by rw[sizeLine_eq];simp
theorem zHd:(2≤sizeLine)=True:=by rw[sizeLine_eq];simp
theorem zHe:(3≤sizeLine)=True:=by rw[sizeLine_eq];simp
theorem wb(p:Prop):(True∧p)=p:=by simp
theorem zA2{p q:Prop}:(if true=true then p else q)=p:=if_pos rfl
theorem zA3{p q:Prop}:(if false=true then p else q)=q:=if_neg (by simp)
end L3
namespace L3
open PySem PySem.Spec PyProof.Rows L2
section
variable {X:Cx} {pins:List (Addr×Obj)} {σ1:L2.St} {H:Hp} {s:Shared} {A:Around}
end
section
variable {X:Cx} {e o:Expr} {es:List Expr} {to:zh} {t:wL} {name:Str} {apos cpos:Pos}
end
end L3
namespace HT
open PySem PySem.Spec PyProof.Rows
section
variable {prog:Program} {w:World} {A:Around} {R:Result→Shared→Prop} {I:Addr} {fp wr:List Addr} {n:Nat} {P:Nat→Value→Prop} {St:Nat→Heap→Prop}
structure Cmp (prog:Program) (w:World) (A:Around) (P:Nat→Value→Prop) (bt:Nat→Nat→Bool) (wr:List Addr) (S:Addr) (Kp:Heap→Prop):Prop where
 cmp:∀ i j vi vj (s:Shared) (Q:Value→Shared→Prop) (E:Value→Shared→Prop),Kp s.heap→P i vi→P j vj→Q (.bool (bt i j)) s→wpAny (model prog w) A (richCompare .Lt vi vj) Q E s
 keep:∀ h h':Heap,Kp h→(∀ b o,b∉wr→b≠S→h.get? b=some o→h'.get? b=some o)→Kp h'
theorem zKb(W:Walks prog w A.in1 I fp wr n P St)(bt:Nat→Nat→Bool){Kp:Heap→Prop}(S:Addr)(C:Cmp prog w A.in1 P bt wr S Kp)(hSf:S∉fp) :
  ∀(k j:Nat) (s:Shared) (vb:Value) (c:Nat),n-(j+1)=k→j+1≤n→St (j+1) s.heap→Kp s.heap→P (argBest bt j) vb →
  s.heap.get? S=some { cls:=.type "list",dict:=none,data:=.seq #[vb,vb] c,slots:=#[] } →
  (∀ v h' tk,P (argBest bt (n-1)) v→(∀ b o,b∉wr→b≠S→s.heap.get? b=some o→h'.get? b=some o)→R (.ok (.ret v)) { s with heap:=h',toks:=tk }) →
  codeAny (model prog w) A (.builtin "min.loop" ⟨[.ref I,.none,.ref S],[]⟩) R s:=by
 have nw:S∉wr:=fun h=>hSf (W.sub _ h)
 have nm:(toString "min"++toString ".loop":String)="min.loop":=by decide
 intro k
 induction k with
 | zero =>
  intro j s vb c hk hj st kp pb hS fin
  have hin:j+1=n:=by (first|lia|omega)
  refine codeAny_builtin PySem.F.entry_min_loop ?_
  rw[Around.under_plainId PySem.F.plain_min_loop _]
  show wpAny _ A.in1 (seqItems? (.ref S)>>=_) _ _ s
  refine wpAny_bind (wpAny_seqItems hS rfl ?_)
  show wpAny _ A.in1 (tryCatch (pyNext (.ref I)) _>>=_) _ _ s
  refine wpAny_bind (wpAny_tryCatch (W.done s _ _ (hin▸st) fun h' tk hk'=>?_))
  have hS':=hk' S _ nw hS
  show wpAny _ A.in1 (updateSeq S (fun u0=>#[])>>=_) _ _ _
  refine wpAny_bind ?_
  refine wpAny_updateSeq hS' rfl (wpAny_bind (wpAny_letGo (wpAny_pure ?_)))
  exact fin vb _ tk (by rw[← hin];exact pb) fun b o h1 h2 e=>(Heap.get?_update_other _ _ (Ne.symm h2)).trans (hk' b o h1 e)
 | succ k ih =>
  intro j s vb c hk hj st kp pb hS fin
  have lt:j+1<n:=by (first|lia|omega)
  refine codeAny_builtin PySem.F.entry_min_loop ?_
  rw[Around.under_plainId PySem.F.plain_min_loop _]
  show wpAny _ A.in1 (seqItems? (.ref S)>>=_) _ _ s
  refine wpAny_bind (wpAny_seqItems hS rfl ?_)
  show wpAny _ A.in1 (tryCatch (pyNext (.ref I)) _>>=_) _ _ s
  refine wpAny_bind (wpAny_tryCatch (W.item (j+1) s _ _ lt st fun v h' tk pv st' hk'=>?_))
  have hS':=hk' S _ nw hS
  have kp':Kp h':=C.keep _ _ kp fun b o h1 u0 e=>hk' b o h1 e
  show wpAny _ A.in1 (tryCatch (holding [v,v] (richCompare .Lt v vb>>=_)) _>>=_) _ _ _
  refine wpAny_bind (wpAny_tryCatch (wpAny_holding (wpAny_bind (C.cmp (j+1) (argBest bt j) v vb _ _ _ kp' pv pb ?_))))
  refine wpAny_bind (wpAny_holding (wpAny_truthy_bool ?_))
  refine wpAny_bind (wpAny_letGo (wpAny_pure ?_))
  cases hb:bt (j+1) (argBest bt j) with
  | true =>
   simp only[if_true]
   refine wpAny_bind ?_
   refine wpAny_updateSeq hS' rfl (wpAny_bind (wpAny_letGo ?_))
   rw[nm]
   refine wpAny_pure ⟨plainId_quiet PySem.F.plain_min_loop _,ih (j+1) _ v _ (by (first|lia|omega)) lt (W.frame _ _ _ st' fun b hbf o e=>?_) (C.keep _ _ kp' fun b o u0 h2 e=>(Heap.get?_update_other _ _ (Ne.symm h2)).trans e) (by simp only[argBest,hb,if_true];exact pv) (Heap.get?_update_self _ hS' rfl)
    fun v' h'' tk'' pv' hk''=>?_⟩
   ·exact(Heap.get?_update_other _ _ (fun h:S=b=>hSf (by rw[h];exact hbf))).trans e
   ·exact fin v' h'' tk'' pv' fun b o h1 h2 e=>hk'' b o h1 h2 ((Heap.get?_update_other _ _ (Ne.symm h2)).trans (hk' b o h1 e))
  | false =>
   simp only[Bool.false_eq_true,if_false]
   refine wpAny_bind (wpAny_letGo ?_)
   rw[nm]
   refine wpAny_pure ⟨plainId_quiet PySem.F.plain_min_loop _,ih (j+1) _ vb c (by (first|lia|omega)) lt st' kp' (by simp only[argBest,hb,Bool.false_eq_true,if_false];exact pb) hS' fun v' h'' tk'' pv' hk''=>?_⟩
   exact fin v' h'' tk'' pv' fun b o h1 h2 e=>hk'' b o h1 h2 (hk' b o h1 e)
theorem zJQ(W:Walks prog w A.in1 I fp wr n P St)(bt:Nat→Nat→Bool){Kp:Heap→Prop}(S:Addr)(C:Cmp prog w A.in1 P bt wr S Kp)(hSf:S∉fp)(hn:0<n){s:Shared}{c:Nat}(st:St 0 s.heap)(kp:Kp s.heap)
  (hS:s.heap.get? S=some { cls:=.type "list",dict:=none,data:=.seq #[] c,slots:=#[] })
  (fin:∀ v h' tk,P (argBest bt (n-1)) v→(∀ b o,b∉wr→b≠S→s.heap.get? b=some o→h'.get? b=some o)→R (.ok (.ret v)) { s with heap:=h',toks:=tk }) :
  codeAny (model prog w) A (.builtin "min.loop" ⟨[.ref I,.none,.ref S],[]⟩) R s:=by
 have nw:S∉wr:=fun h=>hSf (W.sub _ h)
 have nm:(toString "min"++toString ".loop":String)="min.loop":=by decide
 refine codeAny_builtin PySem.F.entry_min_loop ?_
 rw[Around.under_plainId PySem.F.plain_min_loop _]
 show wpAny _ A.in1 (seqItems? (.ref S)>>=_) _ _ s
 refine wpAny_bind (wpAny_seqItems hS rfl ?_)
 show wpAny _ A.in1 (tryCatch (pyNext (.ref I)) _>>=_) _ _ s
 refine wpAny_bind (wpAny_tryCatch (W.item 0 s _ _ hn st fun v h' tk pv st' hk'=>?_))
 have hS':=hk' S _ nw hS
 show wpAny _ A.in1 (updateSeq S (fun u0=>#[v,v])>>=_) _ _ _
 refine wpAny_bind ?_
 refine wpAny_updateSeq hS' rfl ?_
 rw[nm]
 refine wpAny_pure ⟨plainId_quiet PySem.F.plain_min_loop _,zKb W bt S C hSf _ 0 _ v _ rfl hn (W.frame _ _ _ st' fun b hbf o e=>?_) (C.keep _ _ kp fun b o h1 h2 e=>(Heap.get?_update_other _ _ (Ne.symm h2)).trans (hk' b o h1 e)) pv (Heap.get?_update_self _ hS' rfl) fun v' h'' tk'' pv' hk''=>?_⟩
 ·exact(Heap.get?_update_other _ _ (fun h:S=b=>hSf (by rw[h];exact hbf))).trans e
 ·exact fin v' h'' tk'' pv' fun b o h1 h2 e=>hk'' b o h1 h2 ((Heap.get?_update_other _ _ (Ne.symm h2)).trans (hk' b o h1 e))
end
section
variable {prog:Program} {w:World} {A:Around} {E:Value→Shared→Prop} {s:Shared}
noncomputable def zAP(h:Heap)(as:List Addr)(nss:List (List Int)):Prop:=as.length=nss.length∧∀(i:Nat) a ns,as[i]?=some a→nss[i]?=some ns→∃ its:List Value,IsTup h a its.toArray∧IntsAre its ns
theorem IsTup.at'{h h':Heap}{a:Addr}{its:Array Value}(x:IsTup h a its)(k:∀ o,h.get? a=some o→h'.get? a=some o):IsTup h' a its:=let ⟨o,h1,h2,h3⟩:=x;⟨o,k o h1,h2,h3⟩
theorem zAP.keep{h h':Heap}{as:List Addr}{nss:List (List Int)}(x:zAP h as nss)(k:∀ a∈as,∀ o,h.get? a=some o→h'.get? a=some o):zAP h' as nss :=
 ⟨x.1,fun i a ns h1 h2=>by obtain⟨its,t,q⟩:=x.2 i a ns h1 h2;exact⟨its,IsTup.at' t (k a (List.mem_of_getElem? h1)),q⟩⟩
theorem zAP.lt{h:Heap}{as:List Addr}{nss:List (List Int)}(x:zAP h as nss):∀ a∈as,a<h.objs.size:=fun a ha=>by
 obtain⟨i,hi⟩:=List.getElem?_of_mem ha
 have hl:i<as.length:=(List.getElem?_eq_some_iff.mp hi).1
 obtain⟨its,⟨o,e,u0⟩,u0⟩:=x.2 i a (nss[i]'(by rw[← x.1];exact hl)) hi (by simp)
 exact Heap.lt_size e
noncomputable def btT(nss:List (List Int))(i j:Nat):Bool:=lexLt (nss.getD i []) (nss.getD j [])
theorem zGZ{as:List Addr}{nss:List (List Int)}{wr:List Addr}{S:Addr}(hu:A.units<cLine)(h1:∀ a∈as,a∉wr)(h2:S∉as) :
  Cmp prog w A (fun i v=>(as.map Value.ref)[i]?=some v) (btT nss) wr S (fun h=>zAP h as nss) where
 cmp:=fun i j vi vj s Q E kp pi pj q=>by
  have gi:∀ {i:Nat} {v:Value},(as.map Value.ref)[i]?=some v→∃ a,as[i]?=some a∧v=Value.ref a:=fun {i v} e=>by
   rw[List.getElem?_map] at e
   cases q:as[i]? with
   | none=>rw[q] at e;cases e
   | some a=>rw[q] at e;cases e;exact⟨a,rfl,rfl⟩
  obtain⟨a,ea,rfl⟩:=gi pi
  obtain⟨b,eb,rfl⟩:=gi pj
  have li:i<nss.length:=by rw[← kp.1];exact(List.getElem?_eq_some_iff.mp ea).1
  have lj:j<nss.length:=by rw[← kp.1];exact(List.getElem?_eq_some_iff.mp eb).1
  obtain⟨its,t1,i1⟩:=kp.2 i a nss[i] ea (by simp)
  obtain⟨its2,t2,i2⟩:=kp.2 j b nss[j] eb (by simp)
  have e:btT nss i j=lexLt nss[i] nss[j]:=by simp[btT,List.getD,li,lj]
  rw[e] at q
  exact zHL t1 t2 i1 i2 hu q
 keep:=fun h h' kp k=>kp.keep fun a ha o e=>k a o (h1 a ha) (fun z=>h2 (z▸ha)) e
noncomputable def zN2(prog:Program)(w:World)(A:Around)(Q:Value→Shared→Prop)(it:Value)(s₂:Shared):Prop:=∃ I fp wr n P St bt Kp,it=.ref I∧Walks prog w A.in1 I fp wr n P St∧St 0 s₂.heap∧(∀ b∈fp,b<s₂.heap.objs.size)∧0<n∧Cmp prog w A.in1 P bt wr s₂.heap.objs.size Kp∧Kp s₂.heap ∧
 ∀ v h' tk,P (argBest bt (n-1)) v→(∀ b o,b∉wr→s₂.heap.get? b=some o→h'.get? b=some o)→Q v { s₂ with heap:=h',toks:=tk }
theorem zGa{Q:Value→Shared→Prop}{it:Value}{s₂:Shared}(h₂:zN2 prog w A Q it s₂):wpAny (model prog w) A.in1 (newList []>>=fun best=>again (.builtin "min.loop" ⟨[it,.none,best],[]⟩)) (fun fin s'=>match fin with | .done f=>wants Q E (.ok f) s' | .again c'=>c'.quiet=true∧codeAny (model prog w) A c' (wants Q E) s') (fun e s'=>wants Q E (.error e) s') s₂:=by
 obtain⟨I,fp,wr,n,P,St,bt,Kp,rfl,W,hst,hfp,hn,C,kp,hQ⟩:=h₂
 refine wpAny_bind (wpAny_newObj_type ?_)
 have hSf:s₂.heap.objs.size∉fp:=fun hm=>Nat.lt_irrefl _ (hfp _ hm)
 refine wpAny_pure ⟨plainId_quiet PySem.F.plain_min_loop _,zJQ W bt s₂.heap.objs.size C hSf hn (W.frame _ _ _ hst fun b u0 o e=>Heap.get?_push_of_some _ e) (C.keep _ _ kp fun b o u0 u0 e=>Heap.get?_push_of_some _ e) (Heap.get?_push_size _ rfl) fun v h' tk hP hk=>?_⟩
 exact hQ v h' tk hP fun b o hbw e=>hk b o hbw (Nat.ne_of_lt (Heap.lt_size e)) (Heap.get?_push_of_some _ e)
theorem zJR{a b c:Value}{Q:Value→Shared→Prop}
  (h:wpAny (model prog w) A.in1 (pyIter (.ref s.heap.objs.size)) (zN2 prog w A Q) E { s with heap:=s.heap.push { cls:=.type "tuple",data:=.seq #[a,b,c] } }) :
  wpAny (model prog w) A (call (.builtin "min") [a,b,c]) Q E s:=by
 have nm:(toString "min"++toString ".loop":String)="min.loop":=by decide
 refine call_function_tree PySem.F.kind_min PySem.F.plain_min PySem.F.entry_min (PySem.F.args_min3 _ _ _) ?_
 show wpAny _ A.in1 (Builtin.Builtins.bindParams "min" ["key","default"] 0 ⟨[],[]⟩>>=_) _ _ s
 refine wpAny_bind (wpAny_of_eq (show Builtin.Builtins.bindParams "min" ["key","default"] 0 ⟨[],[]⟩=pure [none,none] from rfl) ?_)
 show wpAny _ A.in1 (newTuple [a,b,c]>>=_) _ _ s
 refine wpAny_bind (wpAny_newObj_type ?_)
 refine wpAny_bind (wpAny_mono h (fun it s₂ h₂=>?_) fun u0 u0 e=>e)
 have:=zGa (E:=E) h₂
 rw[nm]
 exact this
theorem zJS{x:Value}{Q:Value→Shared→Prop}(h:wpAny (model prog w) A.in1 (pyIter x) (zN2 prog w A Q) E s) :
  wpAny (model prog w) A (call (.builtin "min") [x]) Q E s:=by
 have nm:(toString "min"++toString ".loop":String)="min.loop":=by decide
 refine call_function_tree PySem.F.kind_min PySem.F.plain_min PySem.F.entry_min (PySem.F.args_min1 _) ?_
 show wpAny _ A.in1 (Builtin.Builtins.bindParams "min" ["key","default"] 0 ⟨[],[]⟩>>=_) _ _ s
 refine wpAny_bind (wpAny_of_eq (show Builtin.Builtins.bindParams "min" ["key","default"] 0 ⟨[],[]⟩=pure [none,none] from rfl) ?_)
 refine wpAny_bind (wpAny_pure ?_)
 refine wpAny_bind (wpAny_mono h (fun it s₂ h₂=>?_) fun u0 u0 e=>e)
 have:=zGa (E:=E) h₂
 rw[nm]
 exact this
theorem min_three{a b c:Addr}{nss:List (List Int)}{Q:Value→Shared→Prop}(hh:A.handled=none)(hu:A.in1.units<cLine)(ht:zAP s.heap [a,b,c] nss)
  (h:∀ h' tk v,[Value.ref a,Value.ref b,Value.ref c][argBest (btT nss) 2]?=some v→(∀ d o,s.heap.get? d=some o→h'.get? d=some o)→Q v { s with heap:=h',toks:=tk }) :
  wpAny (model prog w) A (call (.builtin "min") [.ref a,.ref b,.ref c]) Q E s:=by
 have hT:(s.heap.push { cls:=.type "tuple",data:=.seq #[.ref a,.ref b,.ref c] }).IsTuple s.heap.objs.size #[.ref a,.ref b,.ref c]:=⟨_,Heap.get?_push_size _ rfl,rfl,0,rfl⟩
 refine zJR (wpAny_pyIter_tuple hT ?_)
 have hsz:(s.heap.push { cls:=.type "tuple",data:=.seq #[Value.ref a,Value.ref b,Value.ref c] }).objs.size=s.heap.objs.size+1:=Heap.size_push ..
 have la:∀ x∈[a,b,c],x<s.heap.objs.size:=ht.lt
 refine⟨_,[_,s.heap.objs.size],[_],_,_,_,btT nss,fun h=>zAP h [a,b,c] nss,rfl,Walks.tuple (A:=A.in1) hh _ s.heap.objs.size (by rw[hsz];exact Nat.ne_of_lt (Nat.lt_succ_self _)) #[.ref a,.ref b,.ref c],
  ⟨⟨_,Heap.get?_push_size _ rfl,rfl,rfl⟩,hT.push _⟩,fun d hd=>?_,by simp,?_,ht.keep fun x hx o e=>Heap.get?_push_of_some _ (Heap.get?_push_of_some _ e),fun v h' tk hP hk=>?_⟩
 ·show d<((s.heap.push _).push _).objs.size
  rw[Heap.size_push,hsz]
  rcases List.mem_cons.mp hd with rfl | hd
  ·rw[hsz];exact Nat.lt_succ_self _
  ·rcases List.mem_cons.mp hd with rfl | hd
   ·exact Nat.lt_succ_of_lt (Nat.lt_succ_self _)
   ·cases hd
 ·have:=zGZ (prog:=prog) (w:=w) (A:=A.in1) (as:=[a,b,c]) (nss:=nss) (wr:=[s.heap.objs.size+1]) (S:=s.heap.objs.size+1+1) hu (fun x hx z=>by
   have h1:=la x hx
   rw[List.mem_singleton] at z
   rw[z] at h1
   exact absurd h1 (Nat.not_lt.mpr (Nat.le_succ _))) (fun z=>absurd (la _ z) (Nat.not_lt.mpr (Nat.le_trans (Nat.le_succ _) (Nat.le_succ _))))
  rw[show((s.heap.push { cls:=.type "tuple",data:=.seq #[Value.ref a,Value.ref b,Value.ref c] }).objs.size)=s.heap.objs.size+1 from hsz]
  refine⟨fun i j vi vj s Q E kp pi pj q=>this.cmp i j vi vj s Q E kp (by simpa using pi) (by simpa using pj) q,fun h h' kp k=>this.keep h h' kp fun b o h1 h2 e=>k b o h1 ?_ e⟩
  show b≠((s.heap.push _).push _).objs.size
  rw[Heap.size_push,hsz];exact h2
 ·have hold:∀ d o,s.heap.get? d=some o→h'.get? d=some o:=fun d o e=>by
   refine hk d o (fun hm=>?_) (Heap.get?_push_of_some _ (Heap.get?_push_of_some _ e))
   rcases List.mem_cons.mp hm with e1 | hm
   ·have:=Heap.lt_size e;rw[e1,hsz] at this;exact Nat.lt_irrefl _ (Nat.lt_of_succ_lt this)
   ·cases hm
  exact h h' tk v (by simpa using hP) hold
theorem min_list{l:Addr}{as:List Addr}{nss:List (List Int)}{Q:Value→Shared→Prop}(hh:A.handled=none)(hu:A.in1.units<cLine)(hl:s.heap.IsList l (as.map Value.ref).toArray)(hne:0<as.length)(ht:zAP s.heap as nss)
  (h:∀ h' tk v,(as.map Value.ref)[argBest (btT nss) (as.length-1)]?=some v→(∀ d o,s.heap.get? d=some o→h'.get? d=some o)→Q v { s with heap:=h',toks:=tk }) :
  wpAny (model prog w) A (call (.builtin "min") [.ref l]) Q E s:=by
 refine zJS (wpAny_pyIter_list hl ?_)
 have la:∀ x∈as,x<s.heap.objs.size:=ht.lt
 have ll:l<s.heap.objs.size:=by obtain⟨o,e,u0⟩:=hl;exact Heap.lt_size e
 refine⟨_,[_,l],[_],_,_,_,btT nss,fun h=>zAP h as nss,rfl,Walks.list (A:=A.in1) hh _ l (Nat.ne_of_lt ll) (as.map Value.ref).toArray,
  ⟨⟨_,Heap.get?_push_size _ rfl,rfl,rfl⟩,hl.push _⟩,fun d hd=>?_,by simpa using hne,?_,ht.keep fun x hx o e=>Heap.get?_push_of_some _ e,fun v h' tk hP hk=>?_⟩
 ·show d<(s.heap.push _).objs.size
  rw[Heap.size_push]
  rcases List.mem_cons.mp hd with rfl | hd
  ·exact Nat.lt_succ_self _
  ·rcases List.mem_cons.mp hd with rfl | hd
   ·exact Nat.lt_succ_of_lt ll
   ·cases hd
 ·have:=zGZ (prog:=prog) (w:=w) (A:=A.in1) (as:=as) (nss:=nss) (wr:=[s.heap.objs.size]) (S:=s.heap.objs.size+1) hu (fun x hx z=>by
   have h1:=la x hx
   rw[List.mem_singleton] at z
   rw[z] at h1
   exact absurd h1 (Nat.lt_irrefl _)) (fun z=>absurd (la _ z) (Nat.not_lt.mpr (Nat.le_succ _)))
  refine⟨fun i j vi vj s Q E kp pi pj q=>this.cmp i j vi vj s Q E kp (by simpa using pi) (by simpa using pj) q,fun h h' kp k=>this.keep h h' kp fun b o h1 h2 e=>k b o h1 ?_ e⟩
  show b≠(s.heap.push _).objs.size
  rw[Heap.size_push];exact h2
 ·have hold:∀ d o,s.heap.get? d=some o→h'.get? d=some o:=fun d o e=>by
   refine hk d o (fun hm=>?_) (Heap.get?_push_of_some _ e)
   rcases List.mem_cons.mp hm with e1 | hm
   ·have:=Heap.lt_size e;rw[e1] at this;exact Nat.lt_irrefl _ this
   ·cases hm
  exact h h' tk v (by simpa using hP) hold
end
end HT
namespace L3
open PySem PySem.Spec PyProof.Rows L2
section
variable {X:Cx} {a b c d e o:Expr} {es:List Expr} {pos p:Pos} {ta tb tc td te:zh} {tl:TL2}
theorem zL0{x:Str}{n:Int}{t:Tok}(hg:Gl X x)(hm:X.mg x=some (.int n t))(hd:(x==("__debug__":Str))=false:=by decide):E2 X (.Name x pos) (xC (.int n)):=by
 refine PE.mono (zLR (v:=.int n) hg hm ⟨t,rfl⟩ hd) ?_
 rintro σ1 H Q ⟨σ,G,R,r,q,k⟩
 exact k _ G q _ H (.refl H) r.g (by unfold zN;rfl)
theorem zGb{A:Around}{prog:Program}{w:World}{bs:List Bool}:TruthOf prog w A (fun i v=>(bs.map Value.bool).toArray[i]?=some v) (fun i=>bs.getD i false):=by
 intro i v s Q E h q
 have hi:i<bs.length:=by
  have:=(Array.getElem?_eq_some_iff.mp h).1
  simpa using this
 have:v=.bool bs[i]:=by
  have:=h
  simp[hi] at this
  exact this.symm
 subst this
 have e:bs.getD i false=bs[i]:=by simp[List.getD,hi]
 have q':Q (bs.getD i false) s:=q
 rw[e] at q'
 exact wpAny_truthy_bool q'
theorem all_range(bs:List Bool):(List.range bs.length).all (fun i=>bs.getD i false)=bs.all id:=by
 rw[Bool.eq_iff_iff]
 simp only[List.all_eq_true,List.mem_range,id]
 constructor
 ·intro h x hx
  obtain⟨i,hi⟩:=List.getElem?_of_mem hx
  have hl:i<bs.length:=(List.getElem?_eq_some_iff.mp hi).1
  have:=h i hl
  simp[List.getD,hi] at this
  exact this
 ·intro h i hi
  have:bs.getD i false=bs[i]:=by simp[List.getD,hi]
  rw[this]
  exact h _ (List.getElem_mem _)
theorem zEH:∀ {bs:List Bool} {us:List Value},zR (bs.map V.bl) us→us=bs.map Value.bool
 | [],_,h=>by cases h;rfl
 | b::r,_,h=>by
  rw[List.map_cons] at h
  cases h with
  | cons h1 h2=>rw[zEH h2,(show _=Value.bool b from h1)];rfl
theorem zJT(hc:X.calm=true):yg X (.builtin "all") (fun xs H Q=>∃ l bs,xs=[.ref l]∧SqL X.K H l (List.map V.bl bs)∧Q (.bl (bs.all id)) H):=by
 intro pins s σ H xs us Q I r h
 obtain⟨l,bs,rfl,hs,q⟩:=h
 obtain⟨u,rfl,rx⟩:=vals1 r
 cases rx
 obtain⟨its,rv,pl,u0⟩:=I.list hs
 have:=zEH rv
 subst this
 have hl:=pl.isList
 have ll:l<s.heap.objs.size:=by obtain⟨o,e,u0⟩:=hl;exact Heap.lt_size e
 refine call_all_walkS (wpAny_pyIter_list hl ?_)
 refine⟨_,_,_,_,_,_,_,fun i=>bs.getD i false,rfl,(Walks.list (A:=X.A.in1) (I.ok.hd hc) s.heap.objs.size l (Nat.ne_of_lt ll) (bs.map Value.bool).toArray).toS,⟨⟨_,Heap.get?_push_size _ rfl,rfl,rfl⟩,hl.push _⟩,zGb,fun s' hm=>?_⟩
 have e1:(bs.map Value.bool).toArray.size=bs.length:=by simp
 rw[e1,all_range,Moved.eq_with hm]
 refine⟨.bl _,H,I.kept (t':=s'.toks) fun b o e=>hm.heap b o (fun z=>?_) (Heap.get?_push_of_some _ e),rfl,q⟩
 rw[List.mem_singleton] at z
 have:=Heap.lt_size e
 rw[z] at this
 exact absurd this (Nat.lt_irrefl _)
noncomputable def zL1:Sp2:=fun ds G R=>∃ bs:List Bool,ds=bs.map D.bl∧R (.bl (bs.all id)) G
theorem Dens.bools_inv{K:PySem.W.Frag}{H:Hp}:∀ {bs:List Bool} {xs:List V},Dens K H (bs.map D.bl) xs→xs=bs.map V.bl
 | [],xs,h=>by unfold Dens at h;exact h
 | n::r,xs,h=>by
  rw[List.map_cons] at h
  unfold Dens at h
  obtain⟨x,y,rfl,h1,h2⟩:=h
  unfold zN at h1
  rw[h1,Dens.bools_inv h2];rfl
theorem zOz(hc:X.calm=true)(hg:Gl X "all")(hm:X.mg "all"=none)(ha:F2 X e tl)(he:starEach [e] X.env=(false,eval e X.env)::starEach [] X.env:=by rfl)(hpl:(backTo pos (starEach [] X.env)).any (·.1)=false:=by rfl) :
  E2 X (.Call (.Name "all" p) [e] [] pos) (zk zL1 tl):=zEA (zJT hc) (by
   rintro ds G R l xs H Q ⟨bs,rfl,h⟩ r e d k
   have:=d.bools_inv
   subst this
   exact⟨l,bs,rfl,.of e,k _ G h _ H (.refl H) r (by unfold zN;rfl)⟩) hg hm (by decide +kernel) ha (by decide) (by decide) he hpl
section
variable {op op' op'':CmpOp} {r r' r'':R2} {f g h:D→D→Gp→Q2→Prop}
end
end
end L3
namespace K
open PySem PySem.Spec PyProof.Rows L2 L3
noncomputable abbrev nD(n:Nat):D:=.int (n:Int)
noncomputable def prs(n:Nat):List (Nat×Nat):=(List.range n).flatMap fun i=>(List.range (n-(i+1))).map fun k=>(i,i+1+k)
noncomputable def prD(p:Nat×Nat):D:=.tup [nD p.1,nD p.2]
noncomputable def zo(n:Nat)(q:Nat×Nat→Bool):D:=.tup [nD n,.tup (((prs n).filter q).map prD)]
noncomputable def adj(q:Nat×Nat→Bool)(i j:Nat):Bool:=decide (i≠j)&&q (min i j,max i j)
theorem zDq{n:Nat}{p:Nat×Nat}:p∈prs n↔p.1<p.2∧p.2<n:=by
 obtain⟨i,j⟩:=p
 unfold prs
 simp only[List.mem_flatMap,List.mem_map,List.mem_range,Prod.mk.injEq]
 constructor
 ·rintro⟨a,ha,k,hk,rfl,rfl⟩;(first|lia|omega)
 ·rintro⟨h1,h2⟩;exact⟨i,by (first|lia|omega),j-(i+1),by (first|lia|omega),rfl,by (first|lia|omega)⟩
theorem zCA{α β:Type}{f:α→List β}:∀ {l:List α},l.Nodup→(∀ x∈l,(f x).Nodup)→(∀ x∈l,∀ y∈l,x≠y→∀ z,z∈f x→z∉f y)→(l.flatMap f).Nodup
 | [],_,_,_=>by simp
 | a::r,h,h1,h2=>by
  rw[List.flatMap_cons]
  obtain⟨ha,hr⟩:=List.nodup_cons.mp h
  refine List.nodup_append.mpr ⟨h1 a (by simp),zCA hr (fun x hx=>h1 x (by simp[hx])) (fun x hx y hy=>h2 x (by simp[hx]) y (by simp[hy])),fun x hx y hy e=>?_⟩
  subst e
  obtain⟨b,hb,hz⟩:=List.mem_flatMap.mp hy
  exact h2 a (by simp) b (by simp[hb]) (fun e=>ha (e▸hb)) x hx hz
theorem zCB{α β:Type}{f:α→β}(hf:∀ x y,f x=f y→x=y):∀ {l:List α},l.Nodup→(l.map f).Nodup
 | [],_=>by simp
 | a::r,h=>by
  obtain⟨ha,hr⟩:=List.nodup_cons.mp h
  rw[List.map_cons]
  refine List.nodup_cons.mpr ⟨fun hm=>?_,zCB hf hr⟩
  obtain⟨b,hb,e⟩:=List.mem_map.mp hm
  exact ha (hf _ _ e▸hb)
theorem zFQ(n:Nat):(prs n).Nodup:=by
 unfold prs
 refine zCA List.nodup_range (fun i u0=>zCB (fun x y e=>by simpa using e) List.nodup_range) fun i u0 j u0 hne z hz hz'=>?_
 obtain⟨k,u0,rfl⟩:=List.mem_map.mp hz
 obtain⟨k',u0,e⟩:=List.mem_map.mp hz'
 exact hne (by simpa using(congrArg Prod.fst e).symm)
theorem zEI{n:Nat}(h:n≤100):(prs n).length≤10000:=by
 unfold prs
 rw[List.length_flatMap]
 have:∀ l:List Nat,(∀ x∈l,x≤100)→l.sum≤100*l.length:=by
  intro l
  induction l with
  | nil=>simp
  | cons a r ih =>
   intro h
   have h1:=h a (by simp)
   have h2:=ih fun x hx=>h x (by simp[hx])
   simp only[List.sum_cons,List.length_cons];(first|lia|omega)
 have q:=this ((List.range n).map fun i=>((List.range (n-(i+1))).map fun k=>(i,i+1+k)).length) (by simp;(first|lia|omega))
 simp only[List.length_map,List.length_range] at q ⊢
 (first|lia|omega)
theorem zGc{n:Nat}(p:Nat×Nat):flat (n+1) (prD p)=true:=by simp[prD,flat]
theorem zA4{i j:Int}:wU (.int i) (.int j)=decide (i=j):=by unfold wU;rw[Bool.eq_iff_iff];simp
theorem zL2(p q:Nat×Nat):wU (prD p) (prD q)=decide (p=q):=by
 obtain⟨a,b⟩:=p
 obtain⟨c,d⟩:=q
 simp only[prD,wU,eqDs]
 rw[Bool.eq_iff_iff];simp;(first|lia|omega)
theorem zL3(l:List (Nat×Nat))(p:Nat×Nat):((l.map prD).any fun z=>wU z (prD p))=decide (p∈l):=by
 rw[List.any_map,Bool.eq_iff_iff]
 simp only[List.any_eq_true,Function.comp,zL2,decide_eq_true_eq]
 constructor
 ·rintro⟨x,h,rfl⟩;exact h
 ·intro h;exact⟨p,h,rfl⟩
theorem zDh{a b:Nat}:((a:Int)=(b:Int))↔a=b:=by (first|lia|omega)
theorem zBX{n:Nat}{q:Nat×Nat→Bool}{G:Gp}{R:Q2}:fIx (zo n q) (.int 0) G R=R (nD n) G:=zDU
theorem zBY{n:Nat}{q:Nat×Nat→Bool}{G:Gp}{R:Q2}:fIx (zo n q) (.int 1) G R=R (.tup (((prs n).filter q).map prD)) G:=zDV
noncomputable def zEJ:List D→Gp→(List D→Gp→Prop)→Prop:=fun ds G R=>∃ n:Nat,ds=[nD n]∧n≤100∧R ((prs n).map prD) G
theorem zHf:∀ ds G R R',(∀ ls G',R ls G'→R' ls G')→zEJ ds G R→zEJ ds G R':=by
 rintro ds G R R' h ⟨n,e,hn,q⟩
 exact⟨n,e,hn,h _ _ q⟩
noncomputable def zt:=zEJ
theorem zA5:∀ ds G R R',(∀ ls G',R ls G'→R' ls G')→zt ds G R→zt ds G R':=zHf
noncomputable def zBu:Sp2:=fun ds G R=>∃(n:Nat) (q:Nat×Nat→Bool) (i j:Nat),ds=[zo n q,nD i,nD j]∧i<n∧j<n∧R (.bl (adj q i j)) G
noncomputable def zFs:wK:=(yN (zX (fIn false) (yV (zA (zM zAa (zA (zB 1) (zA (zB 2) zI))) (zA (zM zAn (zA (zB 1) (zA (zB 2) zI))) zI))) (zX fIx (zB 0) (xC (.int 1)))))
theorem zL4{n:Nat}{q:Nat×Nat→Bool}{i j:Nat}(hi:i<n)(hj:j<n):decide ((min i j,max i j)∈(prs n).filter q)=adj q i j:=by
 rw[Bool.eq_iff_iff,decide_eq_true_eq,List.mem_filter,zDq]
 unfold adj
 simp only[Bool.and_eq_true,decide_eq_true_eq]
 constructor
 ·rintro⟨h1,h2⟩;exact⟨by (first|lia|omega),h2⟩
 ·rintro⟨h1,h2⟩;exact⟨by (first|lia|omega),h2⟩
theorem zKc{n:Nat}{q:Nat×Nat→Bool}:∀ d∈((prs n).filter q).map prD,flat 8 d=true:=by
 intro x hx
 obtain⟨p,u0,rfl⟩:=List.mem_map.mp hx
 exact zGc p
theorem zN3(ds:List D)(G:Gp)(R:Q2)(h:zBu ds G R):ds.length=3∧zFs (zm R) (zU ["web","one","other"] ds) G:=by
 obtain⟨n,q,i,j,rfl,hi,hj,h⟩:=h
 refine⟨rfl,?_⟩
 have e1:(if (j:Int)<(i:Int) then (j:Int) else i)=((min i j:Nat):Int):=by split<;>(first|lia|omega)
 have e2:(if (j:Int)>(i:Int) then (j:Int) else i)=((max i j:Nat):Int):=by split<;>(first|lia|omega)
 unfold zFs
 simp only [yN,zZ,zf,xIf,wB,ye,gN,gNN,zX,yV,wV,zq,zA,zI,zM,zj,zk,yt,zB,look,zU,zAa,zAn,zA1,zDU,zDV,zEG,zBX,zBY,fII,yh,zw,fEq,xC,xB,zCc,zCb,zBT,zHZ,List.map,List.cons_append,List.nil_append,List.set_cons_zero,List.set_cons_succ,List.length_cons,List.length_nil,List.replicate_succ,List.replicate_zero,Nat.reduceSub,Nat.reduceAdd,zHb,zHc,zHd,zHe,wb,zA2,zA3,if_true,if_false,Bool.false_eq_true]
 rw[e1,e2]
 have e3:=zL3 ((prs n).filter q) (min i j,max i j)
 rw[zL4 hi hj] at e3
 refine⟨zGc (min i j,max i j),zKc,?_⟩
 rw[← e3] at h
 exact .of h
theorem zCg(n:Nat):zr 0 ((n:Int)).toNat=(List.range n).map nD:=by simp[zr,nD]
noncomputable def zBK(d:D):Nat×Nat:=match d with | .tup [.int i,.int j]=>(i.toNat,j.toNat) | _=>(0,0)
theorem zFR(p:Nat×Nat):zBK (prD p)=p:=by simp[zBK,prD]
theorem zKd{σ:S2}{G:Gp}{n:Nat}{q:Nat×Nat→Bool}{t:zh}(h:zn t σ G (zo n q)):zn (zX fIx t (xC (.int 0))) σ G (nD n):=zAb h wt fun u0 u0 u0 q=>by rw[zBX];exact q
theorem zO0{σ:S2}{G:Gp}{n:Nat}{q:Nat×Nat→Bool}{t:zh}(h:zn t σ G (zo n q)):zn (zX fIx t (xC (.int 1))) σ G (.tup (((prs n).filter q).map prD)):=zAb h wt fun u0 u0 u0 q=>by rw[zBY];exact q
theorem wc{l:Addr}{x:D}{ds:List D}{k:Int}{G:Gp}{R:Q2}(h:G.m l=some ds)(e:atI ds k=some x)(q:R x G):fIx (.adr l) (.int k) G R:=⟨ds,x,.inl h,e,q⟩
theorem zMx{i:Nat}{l:Addr}{x d:D}{r:List D}{σ:S2}{G:Gp}{R:S2→Gp→Prop}(ho:look σ i=some (.adr l))(h:G.m l=some (x::r))(q:R σ (zS G l (d::r))):gIx (zB i) (xC (.int 0)) d σ G R:=by
 unfold gIx zB
 rw[ho]
 show match G.m l with | some ds=>_ | none=>_
 rw[h]
 have e:ixN (x::r).length 0=some 0:=by simp[ixN]
 show match ixN (x::r).length 0 with | some j=>R σ (zS G l ((x::r).set j d)) | none=>False
 rw[e]
 exact q
noncomputable def wO:Sp2:=fun ds G R=>∃(a:Addr) (ns:List Int) (k:Nat),ds=[.adr a,nD k]∧Ls G a (ns.map D.int)∧∀ c:Int,R (.int c) G
noncomputable def zAc:wK:=(zZ (xIf (xB (zX (fII fun i j=>.bl (decide (i<j))) (zB 1) (zM yD (zA (zB 0) zI)))) (yN (zX fIx (zB 0) (zB 1))) ye) (yN (xC (.int 0))))
theorem zGd(ds:List D)(G:Gp)(R:Q2)(h:wO ds G R):ds.length=2∧zAc (zm R) (zU ["script","k"] ds) G:=by
 obtain⟨a,ns,k,rfl,ha,h⟩:=h
 refine⟨rfl,?_⟩
 unfold zAc
 simp only [yN,zZ,zf,xIf,wB,ye,gN,gNN,zX,yV,wV,zq,zA,zI,zM,zj,zk,yt,zB,look,zU,zAa,zAn,zA1,zDU,zDV,zEG,zBX,zBY,fII,yh,zw,fEq,xC,xB,zCc,zCb,zBT,zHZ,List.map,List.cons_append,List.nil_append,List.set_cons_zero,List.set_cons_succ,List.length_cons,List.length_nil,List.replicate_succ,List.replicate_zero,Nat.reduceSub,Nat.reduceAdd,zHb,zHc,zHd,zHe,wb,zA2,zA3,if_true,if_false,Bool.false_eq_true]
 refine⟨ns.map D.int,ha,?_⟩
 dsimp only
 by_cases hk:k<ns.length
 ·rw[decide_eq_true (by rw[List.length_map];(first|lia|omega)),if_pos rfl]
  exact⟨_,.int ns[k],ha,zCX (by simp[hk]),FgR.of (h _)⟩
 ·rw[decide_eq_false (by rw[List.length_map];(first|lia|omega)),if_neg (by simp)]
  exact FgR.of (h 0)
noncomputable def yW:List D→Gp→(List D→Gp→Prop)→Prop:=fun ds G R=>∃(a:Addr) (ns:List Int) (k:Nat),ds=[.adr a,nD k]∧Ls G a (ns.map D.int)∧∀ s b,OkS s b→R [.int s,.bl b] G
theorem zFt:∀ ds G R R',(∀ ls G',R ls G'→R' ls G')→yW ds G R→yW ds G R':=by
 rintro ds G R R' h ⟨a,ns,k,e,ha,q⟩
 exact⟨a,ns,k,e,ha,fun s b o=>h _ _ (q s b o)⟩
noncomputable def zBv:wK:=(zZ (zf (zM wO (zA (zB 0) (zA (zB 1) zI))) (gN 2)) (zZ (xIf (xB (zX (fII fun i j=>.bl (decide (j≤i))) (zB 2) (zX (yh zDe fun i j=>.int (i ^ j.toNat)) (xC (.int 10)) (xC (.int 18))))) (yN (zq (wV (zA (zX (fII fun i j=>.int (i-j)) (zB 2) (zX (yh zDe fun i j=>.int (i ^ j.toNat)) (xC (.int 10)) (xC (.int 18)))) (zA (xC (.bl true)) zI))))) ye) (yN (zq (wV (zA (zX (yh (fun u0 j=>0<j) fun i j=>.int (i%j)) (zB 2) (xC (.int 2147483647))) (zA (xC (.bl false)) zI)))))))
theorem zKe:zDe 10 18:=by unfold zDe;decide
theorem zJU(ds:List D)(G:Gp)(R:Q2)(h:spL yW ds G R):ds.length=2∧zBv (zm R) (zU ["script","k","cell"] ds) G:=by
 obtain⟨a,ns,k,rfl,ha,h⟩:=h
 refine⟨rfl,?_⟩
 unfold zBv
 simp only [yN,zZ,zf,xIf,wB,ye,gN,gNN,zX,yV,wV,zq,zA,zI,zM,zj,zk,yt,zB,look,zU,zAa,zAn,zA1,zDU,zDV,zEG,zBX,zBY,fII,yh,zw,fEq,xC,xB,zCc,zCb,zBT,zHZ,List.map,List.cons_append,List.nil_append,List.set_cons_zero,List.set_cons_succ,List.length_cons,List.length_nil,List.replicate_succ,List.replicate_zero,Nat.reduceSub,Nat.reduceAdd,zHb,zHc,zHd,zHe,wb,zA2,zA3,if_true,if_false,Bool.false_eq_true]
 refine⟨a,ns,k,rfl,ha,fun c=>?_⟩
 simp only [yN,zZ,zf,xIf,wB,ye,gN,gNN,zX,yV,wV,zq,zA,zI,zM,zj,zk,yt,zB,look,zU,zAa,zAn,zA1,zDU,zDV,zEG,zBX,zBY,fII,yh,zw,fEq,xC,xB,zCc,zCb,zBT,zHZ,List.map,List.cons_append,List.nil_append,List.set_cons_zero,List.set_cons_succ,List.length_cons,List.length_nil,List.replicate_succ,List.replicate_zero,Nat.reduceSub,Nat.reduceAdd,zHb,zHc,zHd,zHe,wb,zA2,zA3,if_true,if_false,Bool.false_eq_true]
 refine⟨zKe,?_⟩
 split
 ·refine⟨zKe,fun l hl=>?_⟩
  exact FgR.of (h _ true (fun z=>by cases z) l hl)
 ·refine⟨by decide,fun l hl=>?_⟩
  exact FgR.of (h _ false (fun u0=>⟨Int.emod_nonneg _ (by decide),Int.emod_lt_of_pos _ (by decide)⟩) l hl)
noncomputable def zp:Sp2:=fun ds G R=>∃(l:Addr) (m:Nat),ds=[.adr l,nD m]∧zAY G l∧0<m∧m<1000000∧∀(r:Nat) G',r<m→Dr l G G'→R (nD r) G'
noncomputable def zCh:wK:=(zZ (xIf (xB (zX fIx (zB 0) (xC (.int 1)))) (zZ (zf (zX (yh (fun u0 j=>0<j) fun i j=>.int (i%j)) (zX fIx (zB 0) (xC (.int 0))) (zB 1)) (gN 2)) (zZ (zf (zX (yh zJ2 fun i j=>.int (i / j)) (zX fIx (zB 0) (xC (.int 0))) (zB 1)) (gIx (zB 0) (xC (.int 0)))) (yN (zB 2)))) ye) (zZ (zf (zX (yh (fun u0 j=>0<j) fun i j=>.int (i%j)) (zX zw (zX (yh zEw fun i j=>.int (i*j)) (zX fIx (zB 0) (xC (.int 0))) (xC (.int 48271))) (xC (.int 29))) (xC (.int 2147483647))) (gIx (zB 0) (xC (.int 0)))) (zZ (zf (zX (yh (fun u0 j=>0<j) fun i j=>.int (i%j)) (zX zw (zX zw (zX (yh zEw fun i j=>.int (i*j)) (zX fIx (zB 0) (xC (.int 0))) (zX fIx (zB 0) (xC (.int 0)))) (zX (yh zEw fun i j=>.int (i*j)) (xC (.int 39373)) (zX fIx (zB 0) (xC (.int 0))))) (xC (.int 7))) (xC (.int 2147483629))) (gN 3)) (zZ (zf (zX (yh (fun u0 j=>0<j) fun i j=>.int (i%j)) (zX zw (zX (yh zEw fun i j=>.int (i*j)) (zB 3) (zB 3)) (zX (yh zEw fun i j=>.int (i*j)) (xC (.int 16807)) (zB 3))) (xC (.int 2147483587))) (gN 3)) (yN (zX (yh (fun u0 j=>0<j) fun i j=>.int (i%j)) (zX (yh zJ2 fun i j=>.int (i / j)) (zB 3) (xC (.int 8))) (zB 1)))))))
theorem zEK{x:Int}{m:Nat}(h:0<m):∃ r:Nat,r<m∧x%(m:Int)=r:=⟨(x%(m:Int)).toNat,by
 have h1:=Int.emod_nonneg x (b:=(m:Int)) (by (first|lia|omega))
 have h2:=Int.emod_lt_of_pos x (b:=(m:Int)) (by (first|lia|omega))
 (first|lia|omega),by
 have h1:=Int.emod_nonneg x (b:=(m:Int)) (by (first|lia|omega))
 (first|lia|omega)⟩
theorem zKf(ds:List D)(G:Gp)(R:Q2)(h:zp ds G R):ds.length=2∧zCh (zm R) (zU ["state","many","found","mixed"] ds) G:=by
 obtain⟨l,m,rfl,⟨s,b,hG,ok⟩,hm,hm2,h⟩:=h
 refine⟨rfl,?_⟩
 unfold zCh
 simp only [yN,zZ,zf,xIf,wB,ye,gN,gNN,zX,yV,wV,zq,zA,zI,zM,zj,zk,yt,zB,look,zU,zAa,zAn,zA1,zDU,zDV,zEG,zBX,zBY,fII,yh,zw,fEq,xC,xB,zCc,zCb,zBT,zHZ,List.map,List.cons_append,List.nil_append,List.set_cons_zero,List.set_cons_succ,List.length_cons,List.length_nil,List.replicate_succ,List.replicate_zero,Nat.reduceSub,Nat.reduceAdd,zHb,zHc,zHd,zHe,wb,zA2,zA3,if_true,if_false,Bool.false_eq_true]
 refine wc hG (zGY _ _ _) ?_
 cases b with
 | true =>
  simp only [yN,zZ,zf,xIf,wB,ye,gN,gNN,zX,yV,wV,zq,zA,zI,zM,zj,zk,yt,zB,look,zU,zAa,zAn,zA1,zDU,zDV,zEG,zBX,zBY,fII,yh,zw,fEq,xC,xB,zCc,zCb,zBT,zHZ,List.map,List.cons_append,List.nil_append,List.set_cons_zero,List.set_cons_succ,List.length_cons,List.length_nil,List.replicate_succ,List.replicate_zero,Nat.reduceSub,Nat.reduceAdd,zHb,zHc,zHd,zHe,wb,zA2,zA3,if_true,if_false,Bool.false_eq_true]
  refine wc hG (zCf _ _) ?_
  simp only [yN,zZ,zf,xIf,wB,ye,gN,gNN,zX,yV,wV,zq,zA,zI,zM,zj,zk,yt,zB,look,zU,zAa,zAn,zA1,zDU,zDV,zEG,zBX,zBY,fII,yh,zw,fEq,xC,xB,zCc,zCb,zBT,zHZ,List.map,List.cons_append,List.nil_append,List.set_cons_zero,List.set_cons_succ,List.length_cons,List.length_nil,List.replicate_succ,List.replicate_zero,Nat.reduceSub,Nat.reduceAdd,zHb,zHc,zHd,zHe,wb,zA2,zA3,if_true,if_false,Bool.false_eq_true]
  refine⟨by (first|lia|omega),wc hG (zCf _ _) ?_⟩
  simp only [yN,zZ,zf,xIf,wB,ye,gN,gNN,zX,yV,wV,zq,zA,zI,zM,zj,zk,yt,zB,look,zU,zAa,zAn,zA1,zDU,zDV,zEG,zBX,zBY,fII,yh,zw,fEq,xC,xB,zCc,zCb,zBT,zHZ,List.map,List.cons_append,List.nil_append,List.set_cons_zero,List.set_cons_succ,List.length_cons,List.length_nil,List.replicate_succ,List.replicate_zero,Nat.reduceSub,Nat.reduceAdd,zHb,zHc,zHd,zHe,wb,zA2,zA3,if_true,if_false,Bool.false_eq_true]
  refine⟨⟨by (first|lia|omega),by (first|lia|omega)⟩,zMx rfl hG ?_⟩
  simp only [yN,zZ,zf,xIf,wB,ye,gN,gNN,zX,yV,wV,zq,zA,zI,zM,zj,zk,yt,zB,look,zU,zAa,zAn,zA1,zDU,zDV,zEG,zBX,zBY,fII,yh,zw,fEq,xC,xB,zCc,zCb,zBT,zHZ,List.map,List.cons_append,List.nil_append,List.set_cons_zero,List.set_cons_succ,List.length_cons,List.length_nil,List.replicate_succ,List.replicate_zero,Nat.reduceSub,Nat.reduceAdd,zHb,zHc,zHd,zHe,wb,zA2,zA3,if_true,if_false,Bool.false_eq_true]
  obtain⟨r,hr,e⟩:=zEK (x:=s) hm
  rw[e]
  exact FgR.of (h r _ hr ⟨_,true,rfl,fun z=>by cases z⟩)
 | false =>
  obtain⟨h0,h1⟩:=ok rfl
  simp only [yN,zZ,zf,xIf,wB,ye,gN,gNN,zX,yV,wV,zq,zA,zI,zM,zj,zk,yt,zB,look,zU,zAa,zAn,zA1,zDU,zDV,zEG,zBX,zBY,fII,yh,zw,fEq,xC,xB,zCc,zCb,zBT,zHZ,List.map,List.cons_append,List.nil_append,List.set_cons_zero,List.set_cons_succ,List.length_cons,List.length_nil,List.replicate_succ,List.replicate_zero,Nat.reduceSub,Nat.reduceAdd,zHb,zHc,zHd,zHe,wb,zA2,zA3,if_true,if_false,Bool.false_eq_true]
  refine wc hG (zCf _ _) ?_
  simp only [yN,zZ,zf,xIf,wB,ye,gN,gNN,zX,yV,wV,zq,zA,zI,zM,zj,zk,yt,zB,look,zU,zAa,zAn,zA1,zDU,zDV,zEG,zBX,zBY,fII,yh,zw,fEq,xC,xB,zCc,zCb,zBT,zHZ,List.map,List.cons_append,List.nil_append,List.set_cons_zero,List.set_cons_succ,List.length_cons,List.length_nil,List.replicate_succ,List.replicate_zero,Nat.reduceSub,Nat.reduceAdd,zHb,zHc,zHd,zHe,wb,zA2,zA3,if_true,if_false,Bool.false_eq_true]
  refine⟨.inl ⟨by (first|lia|omega),by (first|lia|omega)⟩,by decide,zMx rfl hG ?_⟩
  have p0:=Int.emod_nonneg (s*48271+29) (b:=2147483647) (by decide)
  have p1:=Int.emod_lt_of_pos (s*48271+29) (b:=2147483647) (by decide)
  generalize (s*48271+29)%2147483647=s1 at p0 p1 ⊢
  have hG1:(zS G l [D.int s1,D.bl false]).m l=some [D.int s1,D.bl false]:=zG
  simp only [yN,zZ,zf,xIf,wB,ye,gN,gNN,zX,yV,wV,zq,zA,zI,zM,zj,zk,yt,zB,look,zU,zAa,zAn,zA1,zDU,zDV,zEG,zBX,zBY,fII,yh,zw,fEq,xC,xB,zCc,zCb,zBT,zHZ,List.map,List.cons_append,List.nil_append,List.set_cons_zero,List.set_cons_succ,List.length_cons,List.length_nil,List.replicate_succ,List.replicate_zero,Nat.reduceSub,Nat.reduceAdd,zHb,zHc,zHd,zHe,wb,zA2,zA3,if_true,if_false,Bool.false_eq_true]
  refine wc hG1 (zCf _ _) (wc hG1 (zCf _ _) ?_)
  simp only [yN,zZ,zf,xIf,wB,ye,gN,gNN,zX,yV,wV,zq,zA,zI,zM,zj,zk,yt,zB,look,zU,zAa,zAn,zA1,zDU,zDV,zEG,zBX,zBY,fII,yh,zw,fEq,xC,xB,zCc,zCb,zBT,zHZ,List.map,List.cons_append,List.nil_append,List.set_cons_zero,List.set_cons_succ,List.length_cons,List.length_nil,List.replicate_succ,List.replicate_zero,Nat.reduceSub,Nat.reduceAdd,zHb,zHc,zHd,zHe,wb,zA2,zA3,if_true,if_false,Bool.false_eq_true]
  refine⟨.inl ⟨by (first|lia|omega),by (first|lia|omega)⟩,wc hG1 (zCf _ _) ?_⟩
  simp only [yN,zZ,zf,xIf,wB,ye,gN,gNN,zX,yV,wV,zq,zA,zI,zM,zj,zk,yt,zB,look,zU,zAa,zAn,zA1,zDU,zDV,zEG,zBX,zBY,fII,yh,zw,fEq,xC,xB,zCc,zCb,zBT,zHZ,List.map,List.cons_append,List.nil_append,List.set_cons_zero,List.set_cons_succ,List.length_cons,List.length_nil,List.replicate_succ,List.replicate_zero,Nat.reduceSub,Nat.reduceAdd,zHb,zHc,zHd,zHe,wb,zA2,zA3,if_true,if_false,Bool.false_eq_true]
  refine⟨.inl ⟨by (first|lia|omega),by (first|lia|omega)⟩,by decide,?_⟩
  have p2:=Int.emod_nonneg (s1*s1+39373*s1+7) (b:=2147483629) (by decide)
  have p3:=Int.emod_lt_of_pos (s1*s1+39373*s1+7) (b:=2147483629) (by decide)
  generalize (s1*s1+39373*s1+7)%2147483629=s2 at p2 p3 ⊢
  refine⟨.inl ⟨by (first|lia|omega),by (first|lia|omega)⟩,.inl ⟨by (first|lia|omega),by (first|lia|omega)⟩,by decide,⟨by decide,by decide⟩,by (first|lia|omega),?_⟩
  obtain⟨r,hr,e⟩:=zEK (x:=(s2*s2+16807*s2)%2147483587 / 8) hm
  rw[e]
  exact FgR.of (h r _ hr ⟨_,false,rfl,fun u0=>⟨p0,p1⟩⟩)
end K
namespace K
open PySem PySem.Spec PyProof.Rows L2 L3
noncomputable def zBZ(n i:Nat):List (Nat×Nat):=(List.range i).flatMap fun i=>(List.range (n-(i+1))).map fun k=>(i,i+1+k)
theorem zFS(n:Nat):zBZ n n=prs n:=rfl
theorem zEL(n i:Nat):zBZ n (i+1)=zBZ n i++(List.range (n-(i+1))).map fun k=>(i,i+1+k):=by
 unfold zBZ
 rw[List.range_succ,List.flatMap_append]
 simp
theorem zJV{n i:Nat}(hi:i≤n)(h:n≤100):(zBZ n i).length≤10000:=by
 have:(zBZ n i).length≤(prs n).length:=by
  obtain⟨k,rfl⟩:=Nat.exists_eq_add_of_le hi
  rw[← zFS]
  have:∀ k,(zBZ (i+k) i).length≤(zBZ (i+k) (i+k)).length:=fun k=>by
   unfold zBZ
   rw[List.range_add,List.flatMap_append,List.length_append];(first|lia|omega)
  exact this k
 have:=zEI h
 (first|lia|omega)
theorem zFu{n i:Nat}{x:D}(h:((List.range n).map nD)[i]?=some x):x=nD i∧i<n:=by
 rw[List.getElem?_map] at h
 cases q:(List.range n)[i]? with
 | none=>rw[q] at h;cases h
 | some k =>
  rw[q] at h
  cases h
  obtain⟨h1,h2⟩:=List.getElem?_eq_some_iff.mp q
  simp at h1 h2
  subst h2
  exact⟨rfl,h1⟩
theorem zDD{wi:TI2}{g:TG2}{tb:wK}{E:yM}{σ:S2}{G:Gp}(h:wi σ G fun ds gd G1=>zKY ds gd G1 g tb E σ):yu wi g tb E σ G:=.of h
theorem zHg{t:wL}{g:TG2}{tb:wK}{E:yM}{σ:S2}{G:Gp}{n:Nat}(ht:PuA t σ G [nD n])(hn:n≤1000)(h:zKY ((List.range n).map nD) (fun u0=>True) G g tb E σ):yu (iR1 t) g tb E σ G:=by
 refine zDD (ht G (.refl G) _ ⟨by (first|lia|omega),?_⟩)
 rw[zCg]
 exact h
theorem zDE{t:wL}{g:TG2}{tb:wK}{E:yM}{σ:S2}{G:Gp}{i j:Int}(ht:PuA t σ G [.int i,.int j])(hn:(-1000≤i∧i≤1000)∧-1000≤j∧j≤1000)(h:zKY (zr i (j-i).toNat) (fun u0=>True) G g tb E σ):yu (iR2 t) g tb E σ G :=
 zDD (ht G (.refl G) _ ⟨by (first|lia|omega),h⟩)
theorem zL5{i:Nat}{l:Addr}{d:D}{xs:List D}{σ:S2}{G:Gp}{t:wL}{R:Q2}(ho:look σ i=some (.adr l))(h:G.m l=some xs)(ht:∀ Q:List D→Gp→Prop,Q [d] G→t σ G Q)(hz:xs.length≤1000000)(q:R .non (zS G l (xs++[d]))):zFp (zB i) t σ G R:=by
 unfold zFp zB
 rw[ho]
 show match G.m l with | some _=>_ | none=>_
 rw[h]
 refine ht _ ?_
 show match G.m l with | some xs=>_ | none=>_
 rw[h]
 exact⟨hz,q⟩
theorem zFv{i:Nat}{l:Addr}{zs xs:List D}{σ:S2}{G:Gp}{t:TL2}{R:Q2}(ho:look σ i=some (.adr l))(h:G.m l=some xs)(ht:∀ Q:List D→Gp→Prop,Q zs G→t σ G Q)(hz:xs.length+zs.length≤1000000)(q:R .non (zS G l (xs++zs))):zJL (zB i) t σ G R:=by
 unfold zJL zB
 rw[ho]
 show match G.m l with | some _=>_ | none=>_
 rw[h]
 refine ht _ ?_
 show match G.m l with | some xs=>_ | none=>_
 rw[h]
 exact⟨hz,q⟩
theorem zIY{σ:S2}{G:Gp}{t:zh}{ps:List Nat}(h:zn t σ G (.tup (ps.map nD))):zn (zM yD (zA t zI)) σ G (nD ps.length):=wM (zH h zT) fun u0 u0 u0 q=>⟨ps.map nD,rfl,by rw[List.length_map];exact q⟩
noncomputable def zBw:wK:=(zZ (zf (zq (wV zI)) (gN 1)) (zZ (yu (iR1 (zA (zB 0) zI)) (gN 2) (wB (zJL (zB 1) (yL (iR2 (zA (zX zw (zB 2) (xC (.int 1))) (zA (zB 0) zI))) bd1 zCa (yV (zA (zB 2) (zA (zB 3) zI))))))) (yN (zB 1))))
theorem zJW(ds:List D)(G:Gp)(R:Q2)(h:spL zt ds G R):ds.length=1∧zBw (zm R) (zU ["many","found","one"] ds) G:=by
 obtain⟨n,rfl,hn,h⟩:=h
 refine⟨rfl,?_⟩
 unfold zBw
 simp only [yN,zZ,zf,xIf,wB,ye,gN,gNN,zX,yV,wV,zq,zA,zI,zM,zj,zk,yt,zB,look,zU,zAa,zAn,zA1,zDU,zDV,zEG,zBX,zBY,fII,yh,zw,fEq,xC,xB,zCc,zCb,zBT,zHZ,List.map,List.cons_append,List.nil_append,List.set_cons_zero,List.set_cons_succ,List.length_cons,List.length_nil,List.replicate_succ,List.replicate_zero,Nat.reduceSub,Nat.reduceAdd,zHb,zHc,zHd,zHe,wb,zA2,zA3,if_true,if_false,Bool.false_eq_true]
 intro l hl
 refine zHg (n:=n) (zH (zE rfl) zT) (by (first|lia|omega)) ?_
 refine zBt (fun i G'=>G'=zS G l ((zBZ n i).map prD)) rfl (fun u0 u0 u0=>trivial) ?_ ?_
 ·rintro i x hx G2 rfl
  obtain⟨rfl,hi⟩:=zFu hx
  have hlen:=zJV (n:=n) (i:=i+1) (by (first|lia|omega)) hn
  rw[zEL,List.length_append,List.length_map,List.length_range] at hlen
  have hw:PuI (iR2 (zA (zX zw (zB 2) (xC (.int 1))) (zA (zB 0) zI))) [some (nD n),some (.adr l),some (nD i)] (zS G l ((zBZ n i).map prD)) (zr ((i:Int)+1) ((n:Int)-((i:Int)+1)).toNat) :=
   zJP (zH (zAb (zE rfl) wt fun u0 u0 u0 q=>q) (zH (zE rfl) zT)) (by (first|lia|omega))
  have:=zFr (bd:=bd1) (te:=yV (zA (zB 2) (zA (zB 3) zI))) (fun d=>.tup [nD i,d]) (fun d=>[d]) hw fun x hx=>⟨rfl,zAk (zH (zE rfl) (zH (zE rfl) zT)) (by simp)⟩
  simp only [yN,zZ,zf,xIf,wB,ye,gN,gNN,zX,yV,wV,zq,zA,zI,zM,zj,zk,yt,zB,look,zU,zAa,zAn,zA1,zDU,zDV,zEG,zBX,zBY,fII,yh,zw,fEq,xC,xB,zCc,zCb,zBT,zHZ,List.map,List.cons_append,List.nil_append,List.set_cons_zero,List.set_cons_succ,List.length_cons,List.length_nil,List.replicate_succ,List.replicate_zero,Nat.reduceSub,Nat.reduceAdd,zHb,zHc,zHd,zHe,wb,zA2,zA3,if_true,if_false,Bool.false_eq_true]
  have e:((n:Int)-((i:Int)+1)).toNat=n-(i+1):=by (first|lia|omega)
  have e2:List.map (fun d=>D.tup [nD i,d]) (zr ((i:Int)+1) ((n:Int)-((i:Int)+1)).toNat)=((List.range (n-(i+1))).map fun k=>(i,i+1+k)).map prD:=by
   rw[e]
   unfold zr
   rw[List.map_map,List.map_map]
   refine List.map_congr_left fun k u0=>?_
   simp[prD,nD]
  rw[e2] at this
  refine zFv rfl zG (fun Q q=>this _ (.refl _) Q q) (by simp only[List.length_map,List.length_range];(first|lia|omega)) ⟨.keep (.keep (.skip .nil)),_,.refl _,?_⟩
  rw[zBp,zEL,List.map_append]
 ·rintro G2 rfl
  rw[List.length_map,List.length_range,zFS]
  exact FgR.of (h l hl)
end K
namespace K
open PySem PySem.Spec PyProof.Rows L2 L3
noncomputable def lar(n:Nat)(q:Nat×Nat→Bool)(i:Nat):List Nat:=(((prs n).filter q).filter fun p=>decide (p.1=i)||decide (p.2=i)).map fun p=>p.1+p.2-i
noncomputable def yT:List D→Gp→(List D→Gp→Prop)→Prop:=fun ds G R=>∃(n:Nat) (q:Nat×Nat→Bool) (i:Nat),ds=[zo n q,nD i]∧R ((lar n q i).map nD) G
theorem zE1:∀ ds G R R',(∀ ls G',R ls G'→R' ls G')→yT ds G R→yT ds G R':=by
 rintro ds G R R' h ⟨n,q,i,e,q'⟩
 exact⟨n,q,i,e,h _ _ q'⟩
noncomputable def zA6:wK:=(yN (zq (yL (iV (zX fIx (zB 0) (xC (.int 1)))) bd2 (xB (zX (fIn false) (zB 1) (yV (zA (zB 2) (zA (zB 3) zI))))) (zX (fII fun i j=>.int (i-j)) (zX zw (zB 2) (zB 3)) (zB 1)))))
theorem zHh(l:List Nat)(i:Nat):((l.map nD).any fun z=>wU z (nD i))=decide (i∈l):=by
 rw[List.any_map,Bool.eq_iff_iff]
 simp only[List.any_eq_true,Function.comp,zA4,decide_eq_true_eq,zDh]
 constructor
 ·rintro⟨x,h,rfl⟩;exact h
 ·intro h;exact⟨i,h,rfl⟩
theorem zBa(l:List Nat):∀ d∈l.map nD,flat 8 d=true:=by
 intro d hd
 obtain⟨k,u0,rfl⟩:=List.mem_map.mp hd
 rfl
theorem zKg{σ:S2}{G:Gp}{t u:zh}{ng:Bool}{x:D}{ds:List D}{b:Bool}(h:zn t σ G x)(h':zn u σ G (.tup ds))(f:flat 8 x=true)(fs:∀ d∈ds,flat 8 d=true)(e:(if ng then !ds.any fun z=>wU z x else ds.any fun z=>wU z x)=b):zn (zX (fIn ng) t u) σ G (.bl b) :=
 zAb h h' fun u0 u0 u0 q=>⟨f,fs,by rw[e];exact q⟩
theorem zKh{σ:S2}{G:Gp}{t u:zh}{i j:Int}(h:zn t σ G (.int i))(h':zn u σ G (.int j)):zn (zX zw t u) σ G (.int (i+j)):=zAb h h' fun u0 u0 u0 q=>q
theorem zHi(ds:List D)(G:Gp)(R:Q2)(h:spL yT ds G R):ds.length=2∧zA6 (zm R) (zU ["web","place"] ds) G:=by
 obtain⟨n,q,i,rfl,h⟩:=h
 refine⟨rfl,?_⟩
 unfold zA6 yN zq
 have:=zBs (bd:=bd2) (tc:=(xB (zX (fIn false) (zB 1) (yV (zA (zB 2) (zA (zB 3) zI)))))) (te:=(zX (fII fun i j=>.int (i-j)) (zX zw (zB 2) (zB 3)) (zB 1))) (fun d=>decide ((zBK d).1=i)||decide ((zBK d).2=i)) (fun d=>.int (((zBK d).1:Int)+(zBK d).2-i)) (fun d=>[nD (zBK d).1,nD (zBK d).2])
  (zDB (σ:=zU ["web","place"] [zo n q,nD i]) (G:=G) (zO0 (zE (i:=0) rfl))) fun x hx=>by
   obtain⟨p,hp,rfl⟩:=List.mem_map.mp hx
   rw[zFR]
   refine⟨rfl,zDA (zKg (zE (d:=nD i) rfl) (zAk (zH (zE (d:=nD p.1) rfl) (zH (zE (d:=nD p.2) rfl) zT)) (by simp)) rfl (zBa [p.1,p.2]) ?_),fun u0=>zEF (zKh (zE rfl) (zE rfl)) (zE rfl)⟩
   have:=zHh [p.1,p.2] i
   simp only[List.map] at this
   simp only[Bool.false_eq_true,if_false,this]
   rw[Bool.eq_iff_iff]
   simp only[List.mem_cons,List.not_mem_nil,or_false,decide_eq_true_eq,Bool.or_eq_true]
   constructor<;>(rintro(h | h)<;>simp[h])
 refine this G (.refl G) _ fun l hl=>?_
 have e:List.map (fun d=>D.int (((zBK d).1:Int)+(zBK d).2-i)) (List.filter (fun d=>decide ((zBK d).1=i)||decide ((zBK d).2=i)) (((prs n).filter q).map prD))=(lar n q i).map nD:=by
  unfold lar
  rw[List.filter_map,List.map_map,List.map_map]
  refine List.map_congr_left fun p hp=>?_
  have hp:=(List.mem_filter.mp hp).2
  simp only[Function.comp,zFR] at hp ⊢
  simp only[Bool.or_eq_true,decide_eq_true_eq] at hp
  show D.int _=D.int _
  congr 1
  rcases hp with hp | hp<;>(first|lia|omega)
 rw[e]
 exact FgR.of (h l hl)
noncomputable def zA7(n:Nat)(r:List Nat):Prop:=r.Perm (List.range n++List.range n)
theorem zA7.len{n:Nat}{r:List Nat}(h:zA7 n r):r.length=2*n:=by
 have:=h.length_eq
 simp at this;(first|lia|omega)
theorem zA7.mem{n:Nat}{r:List Nat}(h:zA7 n r){x:Nat}:x∈r↔x<n:=by
 rw[h.mem_iff];simp
theorem zGe{n i:Nat}:(List.range n).count i=if i<n then 1 else 0:=by
 induction n with
 | zero=>simp
 | succ n ih =>
  rw[List.range_succ,List.count_append,ih]
  by_cases h:i=n
  ·subst h;simp
  ·have:(n==i)=false:=by simpa using fun e=>h e.symm
   simp[List.count_cons,this]
   split<;>split<;>(first|lia|omega)
theorem zA7.count{n:Nat}{r:List Nat}(h:zA7 n r){i:Nat}(hi:i<n):r.count i=2:=by
 rw[h.count_eq,List.count_append,zGe,if_pos hi]
noncomputable def both(r:List Nat)(p:Nat×Nat):List Nat:=r.filter fun x=>decide (x=p.1)||decide (x=p.2)
noncomputable def zAQ(r:List Nat)(p:Nat×Nat):Bool:=match both r p with | a::b::c::_=>decide (a≠b)&&decide (b≠c) | _=>false
theorem zKi{n:Nat}{r:List Nat}(h:zA7 n r){p:Nat×Nat}(hp:p∈prs n):(both r p).length=4:=by
 obtain⟨i,j⟩:=p
 obtain⟨h1,h2⟩:=zDq.mp hp
 have:∀ l:List Nat,(l.filter fun x=>decide (x=i)||decide (x=j)).length=l.count i+l.count j:=by
  intro l
  induction l with
  | nil=>rfl
  | cons a r ih =>
   simp only[List.filter_cons,List.count_cons]
   by_cases ha:a=i
   ·subst ha
    have:¬ a=j:=by dsimp only at h1;(first|lia|omega)
    simp[this,ih];(first|lia|omega)
   ·by_cases hb:a=j
    ·subst hb;simp[ha,ih];(first|lia|omega)
    ·simp[ha,hb,ih]
 unfold both
 rw[this,h.count (by dsimp only at h1 h2;(first|lia|omega)),h.count h2]
theorem _root_.L3.Sub.put{G G':Gp}{f:Addr}{x:List D}(h:Sub G G')(n:G.m f=none):Sub G (zS G' f x) :=
 ⟨fun a o e=>by rw[zV (gne e n)];exact h.m a o e,fun a o e=>h.ro a o e⟩
noncomputable def wu:Sp2:=fun ds G R=>∃(n:Nat) (r:List Nat),ds=[.tup (r.map nD)]∧zA7 n r∧n≤100∧R (zo n (zAQ r)) G
noncomputable def zA8:wK:=(zZ (zf (zX (yh zJ2 fun i j=>.int (i / j)) (zM yD (zA (zB 0) zI)) (xC (.int 2))) (gN 1)) (zZ (zf (zq (wV zI)) (gN 2)) (zZ (yu (iF (zj zt (zA (zB 1) zI))) (gNN 3 4) (zZ (zDS 5 (yL (iV (zB 0)) bd1 (xB (zX (fIn false) (zB 6) (yV (zA (zB 3) (zA (zB 4) zI))))) (zB 6))) (xIf (zCb (xB (zX (fEq true) (zX fIx (zB 5) (xC (.int 0))) (zX fIx (zB 5) (xC (.int 1))))) (xB (zX (fEq true) (zX fIx (zB 5) (xC (.int 1))) (zX fIx (zB 5) (xC (.int 2)))))) (wB (zFp (zB 2) (zA (yV (zA (zB 3) (zA (zB 4) zI))) zI))) ye))) (yN (yV (zA (zB 1) (zA (zM zDp (zA (zB 2) zI)) zI)))))))
theorem zL6{σ:S2}{G:Gp}{r:List Nat}{p:Nat×Nat}{x1 x2 x5:Option D}(h:σ=[some (.tup (r.map nD)),x1,x2,some (nD p.1),some (nD p.2),x5]) :
  PuL (yL (iV (zB 0)) bd1 (xB (zX (fIn false) (zB 6) (yV (zA (zB 3) (zA (zB 4) zI))))) (zB 6)) σ G ((both r p).map nD):=by
 subst h
 have:=zBs (bd:=bd1) (tc:=(xB (zX (fIn false) (zB 6) (yV (zA (zB 3) (zA (zB 4) zI)))))) (te:=zB 6) (fun d=>match d with | .int x=>decide (x.toNat=p.1)||decide (x.toNat=p.2) | _=>false) (fun d=>d) (fun d=>[d])
  (zDB (σ:=[some (.tup (r.map nD)),x1,x2,some (nD p.1),some (nD p.2),x5]) (G:=G) (zE (i:=0) rfl)) fun x hx=>by
   obtain⟨k,hk,rfl⟩:=List.mem_map.mp hx
   refine⟨rfl,zDA (zKg (zE (d:=nD k) rfl) (zAk (zH (zE (d:=nD p.1) rfl) (zH (zE (d:=nD p.2) rfl) zT)) (by simp)) rfl (zBa [p.1,p.2]) ?_),fun u0=>zE rfl⟩
   have:=zHh [p.1,p.2] k
   simp only[List.map] at this
   simp only[Bool.false_eq_true,if_false,this]
   rw[Bool.eq_iff_iff]
   simp
 have e:List.map (fun d=>d) (List.filter (fun d=>match d with | .int x=>decide (x.toNat=p.1)||decide (x.toNat=p.2) | _=>false) (r.map nD))=(both r p).map nD:=by
  rw[List.map_id',List.filter_map]
  rfl
 rw[e] at this
 exact this
theorem zCV{α:Type}{f:α→D}{l:List α}{i:Nat}{x:D}(h:(l.map f)[i]?=some x):∃ a,l[i]?=some a∧x=f a:=by
 rw[List.getElem?_map] at h
 cases q:l[i]? with
 | none=>rw[q] at h;cases h
 | some a=>rw[q] at h;cases h;exact⟨a,rfl,rfl⟩
theorem zHj(ds:List D)(G:Gp)(R:Q2)(h:wu ds G R):ds.length=1∧zA8 (zm R) (zU ["ring","many","found","one","other","some"] ds) G:=by
 obtain⟨n,r,rfl,hr,hn,h⟩:=h
 refine⟨rfl,?_⟩
 unfold zA8
 simp only [yN,zZ,zf,xIf,wB,ye,gN,gNN,zX,yV,wV,zq,zA,zI,zM,zj,zk,yt,zB,look,zU,zAa,zAn,zA1,zDU,zDV,zEG,zBX,zBY,fII,yh,zw,fEq,xC,xB,zCc,zCb,zBT,zHZ,zDS,List.map,List.cons_append,List.nil_append,List.set_cons_zero,List.set_cons_succ,List.length_cons,List.length_nil,List.replicate_succ,List.replicate_zero,Nat.reduceSub,Nat.reduceAdd,zHb,zHc,zHd,zHe,wb,zA2,zA3,if_true,if_false,Bool.false_eq_true]
 refine⟨r.map nD,rfl,?_⟩
 simp only [yN,zZ,zf,xIf,wB,ye,gN,gNN,zX,yV,wV,zq,zA,zI,zM,zj,zk,yt,zB,look,zU,zAa,zAn,zA1,zDU,zDV,zEG,zBX,zBY,fII,yh,zw,fEq,xC,xB,zCc,zCb,zBT,zHZ,zDS,List.map,List.cons_append,List.nil_append,List.set_cons_zero,List.set_cons_succ,List.length_cons,List.length_nil,List.replicate_succ,List.replicate_zero,Nat.reduceSub,Nat.reduceAdd,zHb,zHc,zHd,zHe,wb,zA2,zA3,if_true,if_false,Bool.false_eq_true]
 refine⟨⟨by decide,by decide⟩,fun f hf=>?_⟩
 have e:(((r.map nD).length:Int) / 2)=(n:Int):=by rw[List.length_map,hr.len];(first|lia|omega)
 rw[e]
 refine zDD ⟨n,rfl,hn,fun a ha=>?_⟩
 have fa:a≠f:=fun e=>by rw[e,zG] at ha;cases ha
 have ga:G.m a=none:=by rw[zV fa] at ha;exact ha
 refine zBt (fun k G'=>G'.m f=some ((((prs n).take k).filter (zAQ r)).map prD)∧G'.m a=some ((prs n).map prD)∧Sub G G') ⟨?_,zG,?_⟩ (fun u0 u0 h=>.inl h.2.1) ?_ ?_
 ·rw[zV (Ne.symm fa)];exact zG
 ·exact((Sub.refl G).put hf).put ga
 ·rintro k x hx G2 ⟨h1,h2,h3⟩
  obtain⟨p,hp,rfl⟩:=zCV hx
  have hp':=List.mem_of_getElem? hp
  have hc:(((prs n).take (k+1)).filter (zAQ r))=(((prs n).take k).filter (zAQ r))++(if zAQ r p=true then [p] else []):=by
   rw[wC hp,List.filter_append]
   congr 1
   simp[List.filter_cons]
  show gNN 3 4 (.tup [nD p.1,nD p.2]) _ _ _
  simp only [yN,zZ,zf,xIf,wB,ye,gN,gNN,zX,yV,wV,zq,zA,zI,zM,zj,zk,yt,zB,look,zU,zAa,zAn,zA1,zDU,zDV,zEG,zBX,zBY,fII,yh,zw,fEq,xC,xB,zCc,zCb,zBT,zHZ,zDS,List.map,List.cons_append,List.nil_append,List.set_cons_zero,List.set_cons_succ,List.length_cons,List.length_nil,List.replicate_succ,List.replicate_zero,Nat.reduceSub,Nat.reduceAdd,zHb,zHc,zHd,zHe,wb,zA2,zA3,if_true,if_false,Bool.false_eq_true]
  refine zL6 rfl G2 (.refl G2) _ fun s hs=>?_
  have hl:=zKi hr hp'
  have hz:((((prs n).take k).filter (zAQ r)).map prD).length≤1000000:=by
   rw[List.length_map]
   have:=List.length_filter_le (zAQ r) ((prs n).take k)
   rw[List.length_take] at this
   have:=zEI hn
   (first|lia|omega)
  have sf:s≠f:=fun e=>by rw[e,h1] at hs;cases hs
  have sa:s≠a:=fun e=>by rw[e,h2] at hs;cases hs
  have gs:G.m s=none:=by
   cases q:G.m s with
   | none=>rfl
   | some o=>rw[h3.m s o q] at hs;cases hs
  match hb:both r p,hl with
  | [x,y,z,w],_ =>
   have hcr:zAQ r p=(decide (x≠y)&&decide (y≠z)):=by unfold zAQ;rw[hb]
   rw[hcr] at hc
   simp only [yN,zZ,zf,xIf,wB,ye,gN,gNN,zX,yV,wV,zq,zA,zI,zM,zj,zk,yt,zB,look,zU,zAa,zAn,zA1,zDU,zDV,zEG,zBX,zBY,fII,yh,zw,fEq,xC,xB,zCc,zCb,zBT,zHZ,zDS,List.map,List.cons_append,List.nil_append,List.set_cons_zero,List.set_cons_succ,List.length_cons,List.length_nil,List.replicate_succ,List.replicate_zero,Nat.reduceSub,Nat.reduceAdd,zHb,zHc,zHd,zHe,wb,zA2,zA3,if_true,if_false,Bool.false_eq_true]
   refine wc zG (zCf _ _) (wc zG (zGY _ _ _) ?_)
   simp only [yN,zZ,zf,xIf,wB,ye,gN,gNN,zX,yV,wV,zq,zA,zI,zM,zj,zk,yt,zB,look,zU,zAa,zAn,zA1,zDU,zDV,zEG,zBX,zBY,fII,yh,zw,fEq,xC,xB,zCc,zCb,zBT,zHZ,zDS,List.map,List.cons_append,List.nil_append,List.set_cons_zero,List.set_cons_succ,List.length_cons,List.length_nil,List.replicate_succ,List.replicate_zero,Nat.reduceSub,Nat.reduceAdd,zHb,zHc,zHd,zHe,wb,zA2,zA3,if_true,if_false,Bool.false_eq_true]
   refine⟨rfl,rfl,?_⟩
   have exy:(!wU (nD x) (nD y))=decide (x≠y):=by rw[zA4];rw[Bool.eq_iff_iff];simp;(first|lia|omega)
   have eyz:(!wU (nD y) (nD z))=decide (y≠z):=by rw[zA4];rw[Bool.eq_iff_iff];simp;(first|lia|omega)
   rw[exy]
   have no:(decide (x≠y)&&decide (y≠z))=false→wq [some (.tup (r.map nD)),some (.int n),some (.adr f),none,none,none] [some (.tup (r.map nD)),some (.int n),some (.adr f),some (nD p.1),some (nD p.2),some (.adr s)]∧∃ G'',Sub G'' (zS G2 s ([x,y,z,w].map nD))∧(G''.m f=some ((((prs n).take (k+1)).filter (zAQ r)).map prD)∧G''.m a=some ((prs n).map prD)∧Sub G G''):=fun hf=>by
    refine⟨.keep (.keep (.keep (.skip (.skip (.skip .nil))))),G2,.new hs,?_,h2,h3⟩
    rw[hc,hf];simpa using h1
   by_cases c1:x≠y
   ·rw[decide_eq_true c1]
    simp only [yN,zZ,zf,xIf,wB,ye,gN,gNN,zX,yV,wV,zq,zA,zI,zM,zj,zk,yt,zB,look,zU,zAa,zAn,zA1,zDU,zDV,zEG,zBX,zBY,fII,yh,zw,fEq,xC,xB,zCc,zCb,zBT,zHZ,zDS,List.map,List.cons_append,List.nil_append,List.set_cons_zero,List.set_cons_succ,List.length_cons,List.length_nil,List.replicate_succ,List.replicate_zero,Nat.reduceSub,Nat.reduceAdd,zHb,zHc,zHd,zHe,wb,zA2,zA3,if_true,if_false,Bool.false_eq_true]
    refine wc zG (zGY _ _ _) (wc zG (zKa _ _ _ _) ?_)
    simp only [yN,zZ,zf,xIf,wB,ye,gN,gNN,zX,yV,wV,zq,zA,zI,zM,zj,zk,yt,zB,look,zU,zAa,zAn,zA1,zDU,zDV,zEG,zBX,zBY,fII,yh,zw,fEq,xC,xB,zCc,zCb,zBT,zHZ,zDS,List.map,List.cons_append,List.nil_append,List.set_cons_zero,List.set_cons_succ,List.length_cons,List.length_nil,List.replicate_succ,List.replicate_zero,Nat.reduceSub,Nat.reduceAdd,zHb,zHc,zHd,zHe,wb,zA2,zA3,if_true,if_false,Bool.false_eq_true]
    refine⟨rfl,rfl,?_⟩
    rw[eyz]
    by_cases c2:y≠z
    ·rw[decide_eq_true c2]
     simp only [yN,zZ,zf,xIf,wB,ye,gN,gNN,zX,yV,wV,zq,zA,zI,zM,zj,zk,yt,zB,look,zU,zAa,zAn,zA1,zDU,zDV,zEG,zBX,zBY,fII,yh,zw,fEq,xC,xB,zCc,zCb,zBT,zHZ,zDS,List.map,List.cons_append,List.nil_append,List.set_cons_zero,List.set_cons_succ,List.length_cons,List.length_nil,List.replicate_succ,List.replicate_zero,Nat.reduceSub,Nat.reduceAdd,zHb,zHc,zHd,zHe,wb,zA2,zA3,if_true,if_false,Bool.false_eq_true]
     refine zL5 (d:=prD p) rfl (by rw[zV (Ne.symm sf)];exact h1) (fun Q q=>by simp only [yN,zZ,zf,xIf,wB,ye,gN,gNN,zX,yV,wV,zq,zA,zI,zM,zj,zk,yt,zB,look,zU,zAa,zAn,zA1,zDU,zDV,zEG,zBX,zBY,fII,yh,zw,fEq,xC,xB,zCc,zCb,zBT,zHZ,zDS,List.map,List.cons_append,List.nil_append,List.set_cons_zero,List.set_cons_succ,List.length_cons,List.length_nil,List.replicate_succ,List.replicate_zero,Nat.reduceSub,Nat.reduceAdd,zHb,zHc,zHd,zHe,wb,zA2,zA3,if_true,if_false,Bool.false_eq_true];exact q) hz ⟨.keep (.keep (.keep (.skip (.skip (.skip .nil))))),_,.refl _,?_,?_,?_⟩
     ·rw[zG,hc,decide_eq_true c1,decide_eq_true c2]
      simp
     ·rw[zV fa,zV (Ne.symm sa)];exact h2
     ·exact(h3.put gs).put hf
    ·rw[decide_eq_false c2]
     simp only [yN,zZ,zf,xIf,wB,ye,gN,gNN,zX,yV,wV,zq,zA,zI,zM,zj,zk,yt,zB,look,zU,zAa,zAn,zA1,zDU,zDV,zEG,zBX,zBY,fII,yh,zw,fEq,xC,xB,zCc,zCb,zBT,zHZ,zDS,List.map,List.cons_append,List.nil_append,List.set_cons_zero,List.set_cons_succ,List.length_cons,List.length_nil,List.replicate_succ,List.replicate_zero,Nat.reduceSub,Nat.reduceAdd,zHb,zHc,zHd,zHe,wb,zA2,zA3,if_true,if_false,Bool.false_eq_true]
     exact no (by simp[c2])
   ·rw[decide_eq_false c1]
    simp only [yN,zZ,zf,xIf,wB,ye,gN,gNN,zX,yV,wV,zq,zA,zI,zM,zj,zk,yt,zB,look,zU,zAa,zAn,zA1,zDU,zDV,zEG,zBX,zBY,fII,yh,zw,fEq,xC,xB,zCc,zCb,zBT,zHZ,zDS,List.map,List.cons_append,List.nil_append,List.set_cons_zero,List.set_cons_succ,List.length_cons,List.length_nil,List.replicate_succ,List.replicate_zero,Nat.reduceSub,Nat.reduceAdd,zHb,zHc,zHd,zHe,wb,zA2,zA3,if_true,if_false,Bool.false_eq_true]
    exact no (by simp[c1])
 ·rintro G2 ⟨h1,h2,h3⟩
  rw[List.length_map,List.take_length] at h1
  simp only [yN,zZ,zf,xIf,wB,ye,gN,gNN,zX,yV,wV,zq,zA,zI,zM,zj,zk,yt,zB,look,zU,zAa,zAn,zA1,zDU,zDV,zEG,zBX,zBY,fII,yh,zw,fEq,xC,xB,zCc,zCb,zBT,zHZ,zDS,List.map,List.cons_append,List.nil_append,List.set_cons_zero,List.set_cons_succ,List.length_cons,List.length_nil,List.replicate_succ,List.replicate_zero,Nat.reduceSub,Nat.reduceAdd,zHb,zHc,zHd,zHe,wb,zA2,zA3,if_true,if_false,Bool.false_eq_true]
  refine⟨((prs n).filter (zAQ r)).map prD,.inl h1,?_⟩
  exact⟨G,h3,h⟩
end K
namespace K
open PySem PySem.Spec PyProof.Rows L2 L3
theorem zEM{α:Type}:∀(l:List α) (i:Nat) (h:i<l.length),(l[i]::l.eraseIdx i).Perm l
 | a::r,0,_=>by simp
 | a::r,i+1,h=>by
  have hi:i<r.length:=by simpa using h
  simp only[List.getElem_cons_succ,List.eraseIdx_cons_succ]
  exact(List.Perm.swap a (r[i]'hi) _).trans ((zEM r i (by simpa using h)).cons a)
theorem zCC{α β:Type}(f:α→β):∀(l:List α) (i:Nat),(l.map f).eraseIdx i=(l.eraseIdx i).map f
 | [],_=>by simp
 | a::r,0=>by simp
 | a::r,i+1=>by simp[zCC f r i]
noncomputable def DrS(l:Addr)(G G':Gp):Prop:=∃ G1,Dr l G G1∧Sub G1 G'
theorem DrS.dr{l:Addr}{G G1 G2:Gp}(h:DrS l G G1)(d:Dr l G1 G2):DrS l G G2:=by
 obtain⟨G0,d0,s0⟩:=h
 obtain⟨G3,d3,s3⟩:=d.sub s0
 exact⟨G3,d0.trans d3,s3⟩
theorem DrS.put{l f:Addr}{G G1:Gp}{x:List D}(h:DrS l G G1)(s:zAY G l)(n:G.m f=none):DrS l G (zS G1 f x):=by
 obtain⟨G0,d0,s0⟩:=h
 exact⟨G0,d0,s0.put (d0.none s n)⟩
theorem DrS.refl{l:Addr}{G:Gp}(s:zAY G l):DrS l G G:=⟨G,.refl s,.refl G⟩
theorem DrS.st{l:Addr}{G G':Gp}(h:DrS l G G'):zAY G' l:=by
 obtain⟨G0,d0,s0⟩:=h
 exact d0.st.ext s0
theorem DrS.own{l:Addr}{G G':Gp}(h:DrS l G G')(s:zAY G l){a:Addr}(n:G'.m a=none):G.m a=none:=by
 obtain⟨G0,d0,s0⟩:=h
 have n0:G0.m a=none:=by
  cases q:G0.m a with
  | none=>rfl
  | some o=>rw[s0.m a o q] at n;cases n
 by_cases ha:a=l
 ·subst ha
  obtain⟨u0,u0,e,u0⟩:=d0.st
  rw[e] at n0;cases n0
 ·rw[d0.ne ha] at n0;exact n0
theorem DrS.fin{l:Addr}{G G':Gp}{d:D}{R:Q2}(h:DrS l G G')(q:∀ G',Dr l G G'→R d G'):FgR R d G':=by
 obtain⟨G0,d0,s0⟩:=h
 exact⟨G0,s0,q G0 d0⟩
theorem drawn{σ:S2}{G G0:Gp}{st lf:Addr}{xs:List Nat}{i0 i2 k:Nat}{t:wL}{R:Q2}(h0:look σ i0=some (.adr st))(h2:look σ i2=some (.adr lf))(hk:σ.length=k)
  (ht:PuA t σ G [nD xs.length]) (hs:zAY G st) (hs0:zAY G0 st) (hne:lf≠st) (hx:G.m lf=some (xs.map nD)) (h0lf:G0.m lf=none) (hd:DrS st G0 G) (hlen:xs.length≤1000)
  (hR:∀(ys:List Nat) (G':Gp),ys.Perm xs→DrS st G0 G'→R (.tup (ys.map nD)) G') :
  zk yt (yL (iR1 t) bd1 zCa (zLu (zB i2) (zA (zM zp (zA (zB i0) (zA (zM yD (zA (zB i2) zI)) zI))) zI))) σ G R:=by
 have lk:∀(j:Nat) (o:D) (d:D),look σ j=some o→look (σ++[some d]) j=some o:=fun j o d h=>by
  clear h0 h2 hk ht
  induction σ generalizing j with
  | nil=>cases h
  | cons a r ih =>
   cases j with
   | zero=>exact h
   | succ j=>exact ih j h
 refine zIX (ht G (.refl G) _ ⟨by (first|lia|omega),fun A hA=>?_⟩)
 rw[zCg]
 have Alf:A≠lf:=fun e=>by rw[e,hx] at hA;cases hA
 have Ast:A≠st:=hs.ne hA
 refine zGX (fun i acc G'=>∃ ys zs:List Nat,acc=ys.map nD∧ys.length=i∧(ys++zs).Perm xs∧G'.m A=some acc∧G'.m lf=some (zs.map nD)∧DrS st G0 G')
  ⟨[],xs,rfl,rfl,.refl _,zG,by rw[zV (Ne.symm Alf)];exact hx,hd.put hs0 (hd.own hs0 hA)⟩ (fun i acc G' ⟨ys,zs,h1,h2,h3,h4,h5,h6⟩=>⟨trivial,h4,by rw[h1,List.length_map];(first|lia|omega)⟩) ?_ ?_
 ·rintro i x acc G' hi ⟨ys,zs,rfl,h2',h3,h4,h5,h6⟩
  obtain⟨rfl,hi⟩:=zFu hi
  refine⟨[nD i],rfl,?_⟩
  have hz:ys.length+zs.length=xs.length:=by have:=h3.length_eq;rwa [List.length_append] at this
  have st':=h6.st
  unfold zCa
  dsimp only
  rw[if_pos rfl]
  unfold zLu
  rw[show zB i2=fun σ G R=>match look σ i2 with | some d=>R d G | none=>False from rfl]
  dsimp only
  rw[show List.map some [nD i]=[some (nD i)] from rfl,lk i2 _ _ h2]
  dsimp only
  rw[h5]
  dsimp only
  simp only[zA,zM,zB,zI,lk i0 _ _ h0,lk i2 _ _ h2]
  refine⟨zs.map nD,.inl h5,?_⟩
  rw[List.length_map]
  refine⟨st,zs.length,rfl,st',by (first|lia|omega),by (first|lia|omega),fun r G1 hr d1=>?_⟩
  have e1:G1.m lf=some (zs.map nD):=by rw[d1.ne hne];exact h5
  dsimp only
  rw[e1]
  dsimp only
  refine⟨⟨by (first|lia|omega),by rw[List.length_map];(first|lia|omega),by (first|lia|omega)⟩,?_⟩
  have e2:(List.map nD zs)[(r:Int).toNat]?=some (nD zs[r]):=by simp[hr]
  rw[e2]
  dsimp only
  have Aa:(zS G1 lf ((List.map nD zs).eraseIdx (r:Int).toNat)).m A=some (ys.map nD):=by rw[zV Alf,d1.ne Ast];exact h4
  refine⟨Aa,.of ⟨ys++[zs[r]],zs.eraseIdx r,by simp,by simp[h2'],?_,zG,?_,?_⟩⟩
  ·rw[List.append_assoc]
   exact((zEM zs r hr).append_left ys).trans h3
  ·rw[zV (Ne.symm Alf),zG]
   simp[zCC]
  ·have hA0:G0.m A=none:=hd.own hs0 hA
   exact(((h6.dr d1).put hs0 h0lf).put hs0 hA0)
 ·rintro acc G' ⟨ys,zs,rfl,h2',h3,h4,h5,h6⟩
  rw[List.length_map,List.length_range] at h2'
  have hz:ys.length+zs.length=xs.length:=by have:=h3.length_eq;rwa [List.length_append] at this
  have:zs=[]:=List.length_eq_zero_iff.mp (by (first|lia|omega))
  subst this
  rw[List.append_nil] at h3
  -- forget the list itself
  obtain⟨G1,d1,s1⟩:=h6
  refine⟨G1,d1.none hs0 (hd.own hs0 hA),s1,?_⟩
  exact hR ys G1 h3 ⟨G1,d1,.refl _⟩
noncomputable def zAo:Sp2:=fun ds G R=>∃(l:Addr) (n:Nat),ds=[.adr l,nD n]∧zAY G l∧n≤100∧∀(r:List Nat) (G':Gp),zA7 n r→Dr l G G'→R (.tup (r.map nD)) G'
noncomputable def zCi:wK:=(zZ (zf (zq (zNt (zq (zHX (zA (zB 1) zI))) (xC (.int 2)))) (gN 2)) (yN (zk yt (yL (iR1 (zA (zX (yh zEw fun i j=>.int (i*j)) (xC (.int 2)) (zB 1)) zI)) bd1 zCa (zLu (zB 2) (zA (zM zp (zA (zB 0) (zA (zM yD (zA (zB 2) zI)) zI))) zI))))))
theorem zKj(ds:List D)(G:Gp)(R:Q2)(h:zAo ds G R):ds.length=2∧zCi (zm R) (zU ["state","many","left"] ds) G:=by
 obtain⟨l,n,rfl,hs,hn,h⟩:=h
 refine⟨rfl,?_⟩
 unfold zCi zZ zf zq zNt zHX
 simp only [yN,zZ,zf,xIf,wB,ye,gN,gNN,zX,yV,wV,zq,zA,zI,zM,zj,zk,yt,zB,look,zU,zAa,zAn,zA1,zDU,zDV,zEG,zBX,zBY,fII,yh,zw,fEq,xC,xB,zCc,zCb,zBT,zHZ,zDS,List.map,List.cons_append,List.nil_append,List.set_cons_zero,List.set_cons_succ,List.length_cons,List.length_nil,List.replicate_succ,List.replicate_zero,Nat.reduceSub,Nat.reduceAdd,zHb,zHc,zHd,zHe,wb,zA2,zA3,if_true,if_false,Bool.false_eq_true]
 refine⟨by (first|lia|omega),fun a ha=>?_⟩
 rw[zG]
 dsimp only
 rw[zCg]
 refine⟨by (first|lia|omega),by simp;(first|lia|omega),fun lf hlf=>?_⟩
 have e:(List.replicate (2:Int).toNat (List.map nD (List.range n))).flatten=(List.range n++List.range n).map nD:=by
  show(List.replicate 2 _).flatten=_
  simp[List.replicate_succ]
 rw[e]
 have hlf0:G.m lf=none:=by
  have:lf≠a:=fun e=>by rw[e,zG] at hlf;cases hlf
  rw[zV this] at hlf;exact hlf
 have la:lf≠l:=hs.ne hlf0
 have hsG:zAY (zS (zS G a (List.map nD (List.range n))) lf ((List.range n++List.range n).map nD)) l:=(hs.ext (.new ha)).ext (.new hlf)
 have hdr:DrS l G (zS (zS G a (List.map nD (List.range n))) lf ((List.range n++List.range n).map nD)):=((DrS.refl hs).put hs ha).put hs hlf0
 have hlen:(List.range n++List.range n).length=2*n:=by simp;(first|lia|omega)
 refine drawn (k:=3) (xs:=List.range n++List.range n) (i0:=0) (i2:=2) rfl rfl rfl (zH ?_ zT) hsG hs la zG hlf0 hdr (by (first|lia|omega)) fun ys G' hp hd=>hd.fin fun G1 d1=>h ys G1 hp d1
 have:nD (List.range n++List.range n).length=.int (2*(n:Int)):=by rw[hlen];unfold nD;congr 1
 rw[this]
 exact zAb wt (zE rfl) fun u0 u0 u0 q=>⟨.inl ⟨by decide,by decide⟩,q⟩
theorem zEN{l s:List (Nat×Nat)}(h:s.Sublist l)(nd:l.Nodup):(l.filter fun x=>decide (x∈s))=s:=by
 induction h with
 | slnil=>rfl
 | @cons s l a h ih =>
  obtain⟨h1,h2⟩:=List.nodup_cons.mp nd
  have:a∉s:=fun m=>h1 (h.subset m)
  rw[List.filter_cons,if_neg (by simpa using this)]
  exact ih h2
 | @cons_cons s l a h ih =>
  obtain⟨h1,h2⟩:=List.nodup_cons.mp nd
  rw[List.filter_cons,if_pos (by simp)]
  congr 1
  refine Eq.trans (List.filter_congr fun x hx=>?_) (ih h2)
  have:x≠a:=fun e=>h1 (e▸hx)
  simp[this]
theorem zL7{n:Nat}{s:List (Nat×Nat)}(h:s.Sublist (prs n)):zo n (fun p=>decide (p∈s))=.tup [nD n,.tup (s.map prD)]:=by
 unfold zo
 rw[zEN h (zFQ n)]
theorem picked{σ:S2}{G G0:Gp}{st pl:Addr}{n i0 i4 k:Nat}{tc:TT2}{R:List D→Gp→Prop}(h0:look σ i0=some (.adr st))(h4:look σ i4=some (.adr pl))(hk:σ.length=k)
  (hs0:zAY G0 st) (hne:pl≠st) (hx:G.m pl=some ((prs n).map prD)) (hd:DrS st G0 G)
  (hc:∀(p:Nat×Nat) (G':Gp) (Q:Bool→Gp→Prop),p∈prs n→zAY G' st→(∀ b G1,Dr st G' G1→Q b G1)→tc (σ++[some (prD p)]) G' Q)
  (hR:∀(s:List (Nat×Nat)) (G':Gp),s.Sublist (prs n)→DrS st G0 G'→R (s.map prD) G') :
  yL (iV (zB i4)) bd1 tc (zB k) σ G R:=by
 have lk:∀ d,look (σ++[some d]) k=some d:=fun d=>by
  subst hk
  clear h0 h4 hc
  induction σ with
  | nil=>rfl
  | cons a r ih=>exact ih
 refine zIX ?_
 unfold iV zB
 rw[h4]
 refine⟨(prs n).map prD,.inl hx,fun A hA=>?_⟩
 have Apl:A≠pl:=fun e=>by rw[e,hx] at hA;cases hA
 have Ast:A≠st:=hd.st.ne hA
 have hA0:=hd.own hs0 hA
 refine zGX (fun i acc G'=>∃ s:List (Nat×Nat),acc=s.map prD∧s.Sublist ((prs n).take i)∧G'.m A=some acc∧G'.m pl=some ((prs n).map prD)∧DrS st G0 G')
  ⟨[],rfl,by simp,zG,by rw[zV (Ne.symm Apl)];exact hx,hd.put hs0 hA0⟩ (fun i acc G' ⟨s,h1,h2,h3,h4,h5⟩=>⟨.inl h4,h3,by rw[h1,List.length_map];exact Nat.le_trans h2.length_le (by rw[List.length_take];(first|lia|omega))⟩) ?_ ?_
 ·rintro i x acc G' hi ⟨s,rfl,h2,h3,h4',h5⟩
  obtain⟨p,hp,rfl⟩:=zCV hi
  refine⟨[prD p],rfl,hc p G' _ (List.mem_of_getElem? hp) h5.st fun b G1 d1=>?_⟩
  have m1:G1.m A=some (s.map prD):=by rw[d1.ne Ast];exact h3
  have m2:G1.m pl=some ((prs n).map prD):=by rw[d1.ne hne];exact h4'
  cases b with
  | false =>
   rw[if_neg (by simp)]
   exact .of ⟨s,rfl,by rw[wC hp];exact h2.trans (List.sublist_append_left _ _),m1,m2,h5.dr d1⟩
  | true =>
   rw[if_pos rfl]
   show match look (σ++[some (prD p)]) k with | some d=>_ | none=>_
   rw[lk]
   refine⟨m1,.of ⟨s++[p],by simp,by rw[wC hp];exact h2.append (List.Sublist.refl _),zG,by rw[zV (Ne.symm Apl)];exact m2,(h5.dr d1).put hs0 hA0⟩⟩
 ·rintro acc G' ⟨s,rfl,h2,h3,h4',h5⟩
  rw[List.length_map,List.take_length] at h2
  obtain⟨G1,d1,s1⟩:=h5
  exact⟨G1,d1.none hs0 hA0,s1,hR s G1 h2 ⟨G1,d1,.refl _⟩⟩
noncomputable def zBb:Sp2:=fun ds G R=>∃(l:Addr) (m:Nat),ds=[.adr l,nD m]∧zAY G l∧1≤m∧m≤50∧∀(n:Nat) (q:Nat×Nat→Bool) (G':Gp),1≤n→n≤m→Dr l G G'→R (zo n q) G'
noncomputable def zDr:wK:=(zZ (zf (zX zw (xC (.int 1)) (zM zp (zA (zB 0) (zA (zB 1) zI)))) (gN 2)) (zZ (zf (zM zp (zA (zB 0) (zA (xC (.int 5)) zI))) (gN 3)) (zZ (zf (zq (zj zt (zA (zB 2) zI))) (gN 4)) (zZ (xIf (xB (zX (fEq false) (zB 3) (xC (.int 0)))) (yN (zM wu (zA (zM zAo (zA (zB 0) (zA (zB 2) zI))) zI))) ye) (zZ (xIf (xB (zX (fEq false) (zB 3) (xC (.int 1)))) (yN (yV (zA (zB 2) (zA (zk yt (yL (iV (zB 4)) bd1 (zCc (xB (zX (fEq false) (zX fIx (zB 6) (xC (.int 1))) (zX zw (zX fIx (zB 6) (xC (.int 0))) (xC (.int 1))))) (xB (zX (fEq false) (zM zp (zA (zB 0) (zA (xC (.int 6)) zI))) (xC (.int 0))))) (zB 6))) zI)))) ye) (zZ (zf (zX fIx (zq (wV (zA (xC (.int 2)) (zA (xC (.int 3)) (zA (xC (.int 4)) zI))))) (zX (fII fun i j=>.int (i-j)) (zB 3) (xC (.int 2)))) (gN 5)) (yN (yV (zA (zB 2) (zA (zk yt (yL (iV (zB 4)) bd1 (xB (zX (fEq false) (zM zp (zA (zB 0) (zA (zB 5) zI))) (xC (.int 0)))) (zB 6))) zI))))))))))
theorem zL8(ds:List D)(G:Gp)(R:Q2)(h:zBb ds G R):ds.length=2∧zDr (zm R) (zU ["state","most","many","way","pairs_v","far"] ds) G:=by
 obtain⟨l,m,rfl,hs,hm1,hm,h⟩:=h
 refine⟨rfl,?_⟩
 unfold zDr
 simp only [yN,zZ,zf,xIf,wB,ye,gN,gNN,zX,yV,wV,zq,zA,zI,zM,zj,zk,yt,zB,look,zU,zAa,zAn,zA1,zDU,zDV,zEG,zBX,zBY,fII,yh,zw,fEq,xC,xB,zCc,zCb,zBT,zHZ,zDS,List.map,List.cons_append,List.nil_append,List.set_cons_zero,List.set_cons_succ,List.length_cons,List.length_nil,List.replicate_succ,List.replicate_zero,Nat.reduceSub,Nat.reduceAdd,zHb,zHc,zHd,zHe,wb,zA2,zA3,if_true,if_false,Bool.false_eq_true]
 refine⟨l,m,rfl,hs,by (first|lia|omega),by (first|lia|omega),fun r G1 hr d1=>?_⟩
 simp only [yN,zZ,zf,xIf,wB,ye,gN,gNN,zX,yV,wV,zq,zA,zI,zM,zj,zk,yt,zB,look,zU,zAa,zAn,zA1,zDU,zDV,zEG,zBX,zBY,fII,yh,zw,fEq,xC,xB,zCc,zCb,zBT,zHZ,zDS,List.map,List.cons_append,List.nil_append,List.set_cons_zero,List.set_cons_succ,List.length_cons,List.length_nil,List.replicate_succ,List.replicate_zero,Nat.reduceSub,Nat.reduceAdd,zHb,zHc,zHd,zHe,wb,zA2,zA3,if_true,if_false,Bool.false_eq_true]
 refine⟨l,5,rfl,d1.st,by (first|lia|omega),by (first|lia|omega),fun way G2 hway d2=>?_⟩
 have d12:=d1.trans d2
 have e1:(1:Int)+(r:Int)=((r+1:Nat):Int):=by (first|lia|omega)
 simp only [yN,zZ,zf,xIf,wB,ye,gN,gNN,zX,yV,wV,zq,zA,zI,zM,zj,zk,yt,zB,look,zU,zAa,zAn,zA1,zDU,zDV,zEG,zBX,zBY,fII,yh,zw,fEq,xC,xB,zCc,zCb,zBT,zHZ,zDS,List.map,List.cons_append,List.nil_append,List.set_cons_zero,List.set_cons_succ,List.length_cons,List.length_nil,List.replicate_succ,List.replicate_zero,Nat.reduceSub,Nat.reduceAdd,zHb,zHc,zHd,zHe,wb,zA2,zA3,if_true,if_false,Bool.false_eq_true]
 rw[e1]
 refine⟨r+1,rfl,by (first|lia|omega),fun pl hpl=>?_⟩
 have hpl0:G.m pl=none:=by
  have:pl≠l:=d2.st.ne hpl
  rw[d12.ne this] at hpl;exact hpl
 have hne:pl≠l:=hs.ne hpl0
 have hdr:DrS l G (zS G2 pl ((prs (r+1)).map prD)):=(DrS.put (x:=(prs (r+1)).map prD) ⟨G2,d12,.refl _⟩ hs hpl0)
 have fin:∀(s:List (Nat×Nat)) (G':Gp),s.Sublist (prs (r+1))→DrS l G G'→FgR R (.tup [.int ((r+1:Nat):Int),.tup (s.map prD)]) G':=fun s G' hsub hd=>hd.fin fun G3 d3=>by
  have:=h (r+1) (fun p=>decide (p∈s)) G3 (by (first|lia|omega)) (by (first|lia|omega)) d3
  rw[zL7 hsub] at this
  exact this
 have e0:wU (nD way) (.int 0)=decide (way=0):=by rw[zA4];rw[Bool.eq_iff_iff];simp
 have e1':wU (nD way) (.int 1)=decide (way=1):=by rw[zA4];rw[Bool.eq_iff_iff];simp;(first|lia|omega)
 refine⟨rfl,rfl,?_⟩
 rw[e0]
 by_cases w0:way=0
 ·rw[decide_eq_true w0,if_pos rfl]
  refine⟨l,r+1,rfl,hdr.st,by (first|lia|omega),fun ring G3 hring d3=>?_⟩
  simp only [yN,zZ,zf,xIf,wB,ye,gN,gNN,zX,yV,wV,zq,zA,zI,zM,zj,zk,yt,zB,look,zU,zAa,zAn,zA1,zDU,zDV,zEG,zBX,zBY,fII,yh,zw,fEq,xC,xB,zCc,zCb,zBT,zHZ,zDS,List.map,List.cons_append,List.nil_append,List.set_cons_zero,List.set_cons_succ,List.length_cons,List.length_nil,List.replicate_succ,List.replicate_zero,Nat.reduceSub,Nat.reduceAdd,zHb,zHc,zHd,zHe,wb,zA2,zA3,if_true,if_false,Bool.false_eq_true]
  refine⟨r+1,ring,rfl,hring,by (first|lia|omega),?_⟩
  exact(hdr.dr d3).fin fun G4 d4=>h _ _ G4 (by (first|lia|omega)) (by (first|lia|omega)) d4
 ·rw[decide_eq_false w0,if_neg (by simp)]
  refine⟨rfl,rfl,?_⟩
  rw[e1']
  by_cases w1:way=1
  ·rw[decide_eq_true w1,if_pos rfl]
   refine picked (k:=6) (i0:=0) (n:=r+1) rfl rfl rfl hs hne zG hdr (fun p G' Q hp hst hQ=>?_) fun s G' hsub hd=>?_
   ·show zCc _ _ _ _ _
    unfold prD
    simp only [yN,zZ,zf,xIf,wB,ye,gN,gNN,zX,yV,wV,zq,zA,zI,zM,zj,zk,yt,zB,look,zU,zAa,zAn,zA1,zDU,zDV,zEG,zBX,zBY,fII,yh,zw,fEq,xC,xB,zCc,zCb,zBT,zHZ,zDS,List.map,List.cons_append,List.nil_append,List.set_cons_zero,List.set_cons_succ,List.length_cons,List.length_nil,List.replicate_succ,List.replicate_zero,Nat.reduceSub,Nat.reduceAdd,zHb,zHc,zHd,zHe,wb,zA2,zA3,if_true,if_false,Bool.false_eq_true]
    refine⟨rfl,rfl,?_⟩
    cases wU (nD p.2) (.int ((p.1:Int)+1)) with
    | true=>rw[if_pos rfl];exact hQ true G' (.refl hst)
    | false =>
     rw[if_neg (by simp)]
     refine⟨l,6,rfl,hst,by (first|lia|omega),by (first|lia|omega),fun x G3 hx d3=>?_⟩
     exact⟨rfl,rfl,hQ _ G3 d3⟩
   ·exact fin s G' hsub hd
  ·rw[decide_eq_false w1,if_neg (by simp)]
   intro a ha
   have hat:∃ far:Nat,atI [D.int 2,D.int 3,D.int 4] ((way:Int)-2)=some (nD far)∧0<far∧far≤4:=by
    have:way=2∨way=3∨way=4:=by (first|lia|omega)
    rcases this with rfl | rfl | rfl
    ·exact⟨2,zCf _ _,by (first|lia|omega),by (first|lia|omega)⟩
    ·exact⟨3,zGY _ _ _,by (first|lia|omega),by (first|lia|omega)⟩
    ·exact⟨4,zKa _ _ _ _,by (first|lia|omega),by (first|lia|omega)⟩
   obtain⟨far,hat,hf1,hf2⟩:=hat
   refine wc zG hat ?_
   have apl:pl≠a:=fun e=>by rw[← e,zG] at ha;cases ha
   have ha0:=hdr.own hs ha
   refine picked (k:=6) (i0:=0) (n:=r+1) rfl rfl rfl hs hne (by rw[zV apl];exact zG) (hdr.put hs ha0) (fun p G' Q hp hst hQ=>?_) fun s G' hsub hd=>?_
   ·show xB _ _ _ _
    simp only [yN,zZ,zf,xIf,wB,ye,gN,gNN,zX,yV,wV,zq,zA,zI,zM,zj,zk,yt,zB,look,zU,zAa,zAn,zA1,zDU,zDV,zEG,zBX,zBY,fII,yh,zw,fEq,xC,xB,zCc,zCb,zBT,zHZ,zDS,List.map,List.cons_append,List.nil_append,List.set_cons_zero,List.set_cons_succ,List.length_cons,List.length_nil,List.replicate_succ,List.replicate_zero,Nat.reduceSub,Nat.reduceAdd,zHb,zHc,zHd,zHe,wb,zA2,zA3,if_true,if_false,Bool.false_eq_true]
    refine⟨l,far,rfl,hst,by (first|lia|omega),by (first|lia|omega),fun x G3 hx d3=>?_⟩
    exact⟨rfl,rfl,hQ _ G3 d3⟩
   ·exact fin s G' hsub hd
end K
namespace K
open PySem PySem.Spec PyProof.Rows L2 L3
section
variable {σ:S2} {G:Gp}
theorem zKk{x y:D}{ng:Bool}{G:Gp}{R:Q2}(hx:flat 8 x=true)(hy:flat 8 y=true)(q:R (.bl (if ng then !wU x y else wU x y)) G):fEq ng x y G R:=by
 cases x with
 | adr _=>simp[flat] at hx
 | _=>exact⟨hx,hy,q⟩
theorem zMy{ta tb:zh}{x y:D}{ng b:Bool}(ha:zn ta σ G x)(hb:zn tb σ G y)(hx:flat 8 x=true)(hy:flat 8 y=true)(e:(if ng then !wU x y else wU x y)=b):zn (zX (fEq ng) ta tb) σ G (.bl b) :=
 zAb ha hb fun u0 u0 u0 q=>zKk hx hy (by rw[e];exact q)
theorem zN4{T:String}{t:zh}{d:D}{b:Bool}(h:zn t σ G d)(hd:∀ l,d≠.adr l)(hi:zKR d T=b):zn (zHY T t) σ G (.bl b):=fun G2 e R q=>h G2 e _ (by
 subst hi
 cases d with
 | adr l=>exact absurd rfl (hd l)
 | _=>exact q)
theorem zKl{t u:TT2}(h:PuT t σ G false)(h':PuT u σ G false):PuT (zCc t u) σ G false:=zNx h fun u0=>h'
theorem zO1{tc:TT2}{t u:wK}{E:yM}(h:PuT tc σ G false)(h':u E σ G):xIf tc t u E σ G:=h G (.refl G) _ (by rw[if_neg (by simp)];exact h')
theorem zJX{tc:TT2}{t u:wK}{E:yM}(h:PuT tc σ G false)(h':u E σ G):zZ (xIf tc t ye) u E σ G:=h G (.refl G) _ (by rw[if_neg (by simp)];exact h')
theorem zIZ{te:zh}{E:yM}{d:D}(h:zn te σ G d)(h':E.rt d G):yN te E σ G:=h G (.refl G) _ h'
theorem yZ{te:zh}{g:TG2}{u:wK}{E:yM}(h:te σ G fun d G1=>g d σ G1 fun σ' G'=>u E σ' G'):zZ (zf te g) u E σ G:=h
theorem zFw{sp:Sp2}{t:wL}{ds:List D}{R:Q2}(h:PuA t σ G ds)(h':sp ds G R):zM sp t σ G R:=h G (.refl G) _ h'
theorem yI{ta:zh}{tr:wL}{d:D}{R:List D→Gp→Prop}(h:zn ta σ G d)(h':tr σ G fun xs G2=>R (d::xs) G2):zA ta tr σ G R:=h G (.refl G) _ h'
theorem zHk{ta:zh}{tr:wL}{R:List D→Gp→Prop}(h:ta σ G fun d G1=>tr σ G1 fun xs G2=>R (d::xs) G2):zA ta tr σ G R:=h
theorem zBL{tl:TL2}{ds:List D}{R:Q2}(h:PuL tl σ G ds)(h':∀ l,G.m l=none→R (.adr l) (zS G l ds)):zq tl σ G R:=h G (.refl G) _ h'
theorem zA9{te:zh}{g:TG2}{u:wK}{E:yM}{d:D}(h:zn te σ G d)(h':g d σ G fun σ' G'=>u E σ' G'):zZ (zf te g) u E σ G:=h G (.refl G) _ h'
theorem zJY{tl:TL2}{l s:List Nat}(h:PuL tl σ G (l.map nD))(hl:l.length<64)(hp:s.Perm l)(hs:s.Pairwise (·≤·)):PuL (zEC tl) σ G (s.map nD):=fun G2 e R q=>h G2 e _ (by
 have e1:l.map nD=(l.map fun(k:Nat)=>(k:Int)).map D.int:=by simp[nD]
 rw[e1,zEB]
 refine⟨by simpa using hl,fun ns' p1 p2=>?_⟩
 have:ns'=s.map fun(k:Nat)=>(k:Int):=by
  refine List.Perm.eq_of_pairwise (fun a b u0 u0 h1 h2=>Int.le_antisymm h1 h2) p2 ?_ (p1.trans (hp.map _).symm)
  exact List.Pairwise.map _ (fun a b h=>by (first|lia|omega)) hs
 subst this
 rw[List.map_map]
 exact q)
end
theorem nodup_map_on{α β:Type}{f:α→β}:∀ {l:List α},(∀ x∈l,∀ y∈l,f x=f y→x=y)→l.Nodup→(l.map f).Nodup
 | [],_,_=>by simp
 | a::r,hf,h=>by
  obtain⟨ha,hr⟩:=List.nodup_cons.mp h
  rw[List.map_cons]
  refine List.nodup_cons.mpr ⟨fun hm=>?_,nodup_map_on (fun x hx y hy=>hf x (by simp[hx]) y (by simp[hy])) hr⟩
  obtain⟨b,hb,e⟩:=List.mem_map.mp hm
  exact ha (hf b (by simp[hb]) a (by simp) e▸hb)
theorem zIa{n:Nat}{q:Nat×Nat→Bool}{i x:Nat}(hi:i<n):x∈lar n q i↔x<n∧adj q i x=true:=by
 unfold lar adj
 simp only[List.mem_map,List.mem_filter,zDq,Bool.and_eq_true,decide_eq_true_eq,Bool.or_eq_true]
 constructor
 ·rintro⟨⟨a,b⟩,⟨⟨⟨h1,h2⟩,h3⟩,h4⟩,rfl⟩
  dsimp only at h1 h2 h3 h4 ⊢
  rcases h4 with rfl | rfl
  ·have e:a+b-a=b:=by (first|lia|omega)
   rw[e,Nat.min_eq_left (by (first|lia|omega)),Nat.max_eq_right (by (first|lia|omega))]
   exact⟨h2,by (first|lia|omega),h3⟩
  ·have e:a+b-b=a:=by (first|lia|omega)
   rw[e,Nat.min_eq_right (by (first|lia|omega)),Nat.max_eq_left (by (first|lia|omega))]
   exact⟨by (first|lia|omega),by (first|lia|omega),h3⟩
 ·rintro⟨h1,h2,h3⟩
  refine⟨(min i x,max i x),⟨⟨⟨by dsimp only;(first|lia|omega),by dsimp only;(first|lia|omega)⟩,h3⟩,by dsimp only;(first|lia|omega)⟩,by dsimp only;(first|lia|omega)⟩
theorem zFT{n:Nat}{q:Nat×Nat→Bool}{i:Nat}:(lar n q i).Nodup:=by
 unfold lar
 refine nodup_map_on (fun x hx y hy e=>?_) (((zFQ n).filter _).filter _)
 simp only[List.mem_filter,zDq,Bool.or_eq_true,decide_eq_true_eq] at hx hy
 obtain⟨a,b⟩:=x
 obtain⟨c,d⟩:=y
 dsimp only at hx hy e
 rw[Prod.mk.injEq]
 (first|lia|omega)
theorem zKm{n:Nat}{q:Nat×Nat→Bool}{i:Nat}(hi:i<n):((List.range n).filter (adj q i)).Perm (lar n q i) :=
 (List.perm_ext_iff_of_nodup (List.nodup_range.filter _) zFT).mpr fun x=>by rw[zIa hi,List.mem_filter,List.mem_range]
theorem zL9{n:Nat}{q:Nat×Nat→Bool}{i:Nat}(hi:i<n)(hn:n<64):(lar n q i).length<64:=by
 rw[← (zKm hi).length_eq]
 have:=List.length_filter_le (adj q i) (List.range n)
 simp at this;(first|lia|omega)
theorem zJZ{σ:S2}{G:Gp}{a:Addr}{ns:List Int}{c:Int}(hc:1≤c∧c≤100)(h:look σ 0=some (.adr a))(ha:Ls G a (ns.map D.int)) :
  ∃ m:Nat,PuI (iR1 (zA (zM zAn (zA (xC (.int 1)) (zA (zM zAa (zA (zM yD (zA (zB 0) zI)) (zA (xC (.int c)) zI))) zI))) zI)) σ G ((List.range m).map nD):=by
 have h1:zn (zM yD (zA (zB 0) zI)) σ G (.int (ns.length:Int)):=wM (zH (zE h) zT) fun G2 e R q=>⟨ns.map D.int,e.ls ha,by rw[List.length_map];exact q⟩
 have h2:zn (zM zAa (zA (zM yD (zA (zB 0) zI)) (zA (xC (.int c)) zI))) σ G (.int (if c<(ns.length:Int) then c else ns.length)):=wM (zH h1 (zH wt zT)) fun u0 u0 u0 q=>q
 have h3:zn (zM zAn (zA (xC (.int 1)) (zA (zM zAa (zA (zM yD (zA (zB 0) zI)) (zA (xC (.int c)) zI))) zI))) σ G (.int (if (if c<(ns.length:Int) then c else ns.length)>1 then (if c<(ns.length:Int) then c else ns.length) else 1)):=wM (zH wt (zH h2 zT)) fun u0 u0 u0 q=>q
 have hb:(if (if c<(ns.length:Int) then c else ns.length)>1 then (if c<(ns.length:Int) then c else (ns.length:Int)) else 1)≤100∧1≤(if (if c<(ns.length:Int) then c else ns.length)>1 then (if c<(ns.length:Int) then c else (ns.length:Int)) else 1):=by
  split<;>split<;>(first|lia|omega)
 generalize (if (if c<(ns.length:Int) then c else ns.length)>1 then (if c<(ns.length:Int) then c else (ns.length:Int)) else 1)=m at h3 hb
 refine⟨m.toNat,?_⟩
 have:(m.toNat:Int)=m:=by (first|lia|omega)
 have q:=zJO (zH h3 zT) (by (first|lia|omega))
 rw[← this,zCg] at q
 exact q
theorem zJa{a:Addr}{G:Gp}{σ:S2}{k:Nat}{ns:List Int}{i j:Nat}(hs:look σ i=some (.adr a))(hk:look σ j=some (nD k))(ha:Ls G a (ns.map D.int)){R:Q2}(h:∀ l s b,G.m l=none→OkS s b→R (.adr l) (zS G l [.int s,.bl b])):zq (zj yW (zA (zB i) (zA (zB j) zI))) σ G R:=by
 unfold zq zj zA zI zB
 simp only[hs,hk]
 exact⟨a,ns,k,rfl,ha,fun s b o l hl=>h l s b hl o⟩
theorem zJb{a:Addr}{G:Gp}{σ:S2}{k x:Nat}{ns:List Int}{i j:Nat}{u:wK}{E:yM}(hs:look σ i=some (.adr a))(hk:look σ j=some (nD k))(ha:Ls G a (ns.map D.int))(h:∀ l s b,G.m l=none→OkS s b→u E (σ.set x (some (.adr l))) (zS G l [.int s,.bl b])) :
  zZ (zf (zq (zj yW (zA (zB i) (zA (zB j) zI)))) (gN x)) u E σ G:=by
 have:=zJa (σ:=σ) (G:=G) (R:=fun d G1=>gN x d σ G1 (u E)) hs hk ha fun l s b hl ok=>h l s b hl ok
 exact this
end K
namespace K
open PySem PySem.Spec PyProof.Rows L2 L3
theorem getD_mem{ps:List Nat}{i:Nat}(h:i<ps.length):ps.getD i 0∈ps:=by
 simp[List.getD,h]
theorem zN5{ps:List Nat}{i:Nat}(h:i<ps.length):atI (ps.map nD) (i:Int)=some (nD (ps.getD i 0)):=zCX (by simp[List.getD,h])
theorem zKn{σ:S2}{G:Gp}{t u:zh}{ps:List Nat}{i:Nat}(h:zn t σ G (.tup (ps.map nD)))(h':zn u σ G (nD i))(hi:i<ps.length):zn (zX fIx t u) σ G (nD (ps.getD i 0)):=zAb h h' fun u0 u0 u0 q=>by
 simp only[fIx,zN5 hi];exact q
theorem zN6{σ:S2}{G:Gp}{t:zh}{ds:List D}(h:zn t σ G (.tup ds)):zn (zM yD (zA t zI)) σ G (nD ds.length):=wM (zH h zT) fun u0 u0 u0 q=>⟨ds,rfl,q⟩
theorem zJc{G G':Gp}{d:D}{ds:List D}(h:zDT G d ds)(s:Sub G G'):zDT G' d ds:=by
 cases d with
 | tup _=>exact h
 | adr l=>exact Ls.sub h s
 | _=>exact h
noncomputable def zGf(l:List Nat):List Nat:=l.mergeSort fun a b=>decide (a≤b)
theorem zCK(l:List Nat):(zGf l).Perm l:=List.mergeSort_perm _ _
theorem zGg(l:List Nat):(zGf l).Pairwise (·≤·):=by
 have:=List.pairwise_mergeSort (le:=fun a b:Nat=>decide (a≤b)) (fun a b c h1 h2=>by simp at *;(first|lia|omega)) (fun a b=>by simp;(first|lia|omega)) l
 exact this.imp fun h=>by simpa using h
theorem zHl{σ:S2}{G:Gp}{t:wL}{d:D}{l s:List Nat}(h:PuA t σ G [d])(hq:zDT G d (l.map nD))(hl:l.length<64)(hp:s.Perm l)(hs:s.Pairwise (·≤·)):PuL (zBr t) σ G (s.map nD):=fun G2 e R q=>h G2 e _ (by
 have e1:l.map nD=(l.map fun(k:Nat)=>(k:Int)).map D.int:=by simp[nD]
 refine⟨l.map fun(k:Nat)=>(k:Int),by rw[← e1];exact zJc hq e.sub,by simpa using hl,fun ns' p1 p2=>?_⟩
 have:ns'=s.map fun(k:Nat)=>(k:Int):=by
  refine List.Perm.eq_of_pairwise (fun a b u0 u0 h1 h2=>Int.le_antisymm h1 h2) p2 ?_ (p1.trans (hp.map _).symm)
  exact List.Pairwise.map _ (fun a b h=>by (first|lia|omega)) hs
 subst this
 rw[List.map_map]
 exact q)
theorem zHm{σ:S2}{G:Gp}{t:wL}{d:D}{l:List Nat}(h:PuA t σ G [d])(hq:zDT G d (l.map nD))(hl:l.length<64):PuL (zBr t) σ G ((zGf l).map nD):=zHl h hq hl (zCK l) (zGg l)
end K
namespace K
open PySem PySem.Spec PyProof.Rows L2 L3
theorem zHn(i j:Nat):wU (nD i) (nD j)=decide (i=j):=by rw[zA4,Bool.eq_iff_iff];simp;(first|lia|omega)
theorem zKo{σ:S2}{G:Gp}{t u v:zh}{xs:List D}{i j:Int}(h:zn t σ G (.tup xs))(h1:zn u σ G (.int i))(h2:zn v σ G (.int j)):zn (zy t (yE u) (yE v)) σ G (.tup (L3.cutD xs (some i) (some j))):=fun G2 e R q=>h G2 e _ (h1 G2 e _ (h2 G2 e _ q))
theorem zO2{σ:S2}{G:Gp}{t:TL2}{R:List D→(Gp→Prop)→Gp→Prop}(h:t σ G fun ds G1=>∀ a,G1.m a=none→R ds (fun G=>Ls G a ds) (zS G1 a ds)):iF t σ G R:=h
theorem zBc{σ:S2}{G:Gp}{t:wL}{R:List D→Gp→Prop}(h:t σ G fun ds G1=>ds.length≤sizeLine∧R ds G1):wV t σ G R:=h
theorem wP{σ:S2}{G:Gp}{R:List D→Gp→Prop}(h:R [] G):zI σ G R:=h
theorem zJd{ds:List D}{gd:Gp→Prop}{G1:Gp}{g:TG2}{tb:wK}{E:yM}{σ:S2}(hgd:gd G1)
  (hb:∀ x∈ds,g x σ G1 fun σ2 G2=>tb { E with nx:=fun σ' G'=>wq σ σ'∧Sub G1 G',ct:=fun σ' G'=>wq σ σ'∧Sub G1 G',bk:=E.nx } σ2 G2) (h:E.nx σ G1):zKY ds gd G1 g tb E σ:=by
 refine⟨fun i σ' G'=>σ'=σ∧G'=G1,⟨rfl,rfl⟩,?_,?_,?_⟩
 ·rintro i σ' G' u0 ⟨rfl,rfl⟩
  exact hgd
 ·rintro i x σ' G' hi ⟨rfl,rfl⟩
  rw[zIW]
  exact hb x (List.mem_of_getElem? hi)
 ·rintro σ' G' ⟨rfl,rfl⟩
  exact h
theorem zEO{σ:S2}{G:Gp}{t u:zh}{xs ys:List D}(h:zn t σ G (.tup xs))(h':zn u σ G (.tup ys))(hl:xs.length+ys.length≤1000000):zn (zX zw t u) σ G (.tup (xs++ys)):=zAb h h' fun u0 u0 u0 q=>⟨hl,q⟩
theorem zMA{σ:S2}{G:Gp}{t:zh}{xs:List D}(h:zn t σ G (.tup xs)):zn (zIV t) σ G (.tup xs.reverse):=fun G2 e R q=>h G2 e _ q
theorem zMB{σ:S2}{G:Gp}{t:zh}{n:Nat}(h:zn t σ G (nD n))(hn:n≤1000):zn (zKW (zA t zI)) σ G (.tup ((List.range n).map nD)):=fun G2 e R q=>zH h zT G2 e _ ⟨by (first|lia|omega),by rw[zCg];exact q⟩
end K
namespace K
open PySem PySem.Spec PyProof.Rows L2 L3
theorem zN7{σ:S2}{G:Gp}{tl:TL2}{bs:List Bool}(h:PuL tl σ G (bs.map D.bl)):zn (zk zL1 tl) σ G (.bl (bs.all id)):=fun G2 e R q=>h G2 e _ ⟨bs,rfl,q⟩
end K
namespace HT
open PySem PySem.Spec PyProof.Rows
theorem zCj:Slot "reversed" "__next__" "reversed.__next__" :=
 .of (owner:="reversed") (n:="__next__") (by rw[typeLookup_type,builtinLookup_eq_fast];kernel_rfl) (by decide +kernel) (by decide +kernel) (by decide +kernel)
  (by first | exact .inl (by decide +kernel) | exact .inr (by decide +kernel)) (by rw[isSubtype_type];kernel_rfl)
theorem zMC:Slot "reversed" "__init__" "object.__init__" :=
 .of (owner:="object") (n:="__init__") (by rw[typeLookup_type,builtinLookup_eq_fast];kernel_rfl) (by decide +kernel) (by decide +kernel) (by decide +kernel)
  (by first | exact .inl (by decide +kernel) | exact .inr (by decide +kernel)) (by rw[isSubtype_type];kernel_rfl)
theorem zIb:Slot "reversed" "__iter__" "reversed.__iter__" :=
 .of (owner:="reversed") (n:="__iter__") (by rw[typeLookup_type,builtinLookup_eq_fast];kernel_rfl) (by decide +kernel) (by decide +kernel) (by decide +kernel)
  (by first | exact .inl (by decide +kernel) | exact .inr (by decide +kernel)) (by rw[isSubtype_type];kernel_rfl)
theorem zCD:entryFor table "reversed.__next__"=some Builtin.«reversed.__next__»:=entryFor_of_tree (by kernel_rfl)
theorem zCk(a:Value):argsOk "reversed.__next__" ⟨[a],[]⟩:=by unfold argsOk;kernel_rfl
theorem zFx(a:Value):argsOk "reversed.__iter__" ⟨[a],[]⟩:=by unfold argsOk;kernel_rfl
theorem zE2:entryFor table "reversed.__iter__"=some Builtin.«dict_keyiterator.__iter__» :=
 entryFor_alias (id':="dict_keyiterator.__iter__") (by kernel_rfl) (by first | rfl | decide +kernel | (unfold String.splitOn;simp +decide [String.splitOnAux])) (by decide +kernel) (by kernel_rfl)
theorem zDF:TypeCalled "reversed" "reversed.__new__" "object.__init__" :=
 ⟨by decide +kernel,by decide +kernel,⟨_,_,PySem.F.mro_reversed⟩,PySem.F.made_reversed,by decide +kernel,by rw[isSubtype_type];kernel_rfl,zMC⟩
theorem zMD:typeLookup (.type "tuple") "__reversed__"=pure none:=by rw[typeLookup_type,builtinLookup_eq_fast];kernel_rfl
theorem zKp:typeLookup (.type "reversed") "__len__"=pure none:=by rw[typeLookup_type,builtinLookup_eq_fast];kernel_rfl
theorem zME:typeLookup (.type "reversed") "__length_hint__"=pure (some (.builtin "reversed.__length_hint__")):=by rw[typeLookup_type,builtinLookup_eq_fast];kernel_rfl
end HT
namespace HT
open PySem PySem.Spec PyProof.Rows
section
variable {prog:Program} {w:World} {A:Around} {E:Value→Shared→Prop} {s:Shared}
noncomputable def zKq(l:Addr)(i:Int):Obj:={ cls:=.type "reversed",data:=.fields #[.ref l,rawInt i] }
theorem zEP{l:Addr}{items:Array Value}{Q₁:Value→Shared→Prop}(hl:IsTup s.heap l items)(hz:items.size≤sizeLine)
  (h:∀ tk,Q₁ (.ref s.heap.objs.size) { s with heap:=s.heap.push (zKq l ((items.size:Int)-1)),toks:=tk }) :
  codeAny (model prog w) A (.call (.builtin "reversed.__new__") ⟨[.type "reversed",.ref l],[]⟩) (wants Q₁ E) s:=by
 refine codeAny_of_tree ?_
 show wpAny _ A.in1 (do checkBuiltinCall "reversed.__new__" ⟨[.type "reversed",.ref l],[]⟩;again (.builtin "reversed.__new__" ⟨[.type "reversed",.ref l],[]⟩)) _ _ s
 refine wpAny_bind (wpAny_of_eq (PySem.F.newCall_reversed_1 _) (wpAny_pure ⟨plainId_quiet PySem.F.plain_reversed_new _,codeAny_builtin PySem.F.entry_reversed_new ?_⟩))
 rw[Around.under_plainId PySem.F.plain_reversed_new _]
 unfold Builtin.«reversed.__new__»
 refine wpAny_bind (wpAny_of_eq (newClass_reversed _) ?_)
 try dsimp only
 refine wpAny_bind (wpAny_of_eq (a:=()) (by first | rfl | kernel_rfl) ?_)
 refine wpAny_bind (wpAny_of_eq (a:=()) (by first | rfl | kernel_rfl) ?_)
 try dsimp only
 refine wpAny_bind (wpAny_specialOf hl.typeIs zMD ?_)
 try dsimp only
 refine wpAny_bind ?_
 wp_delta
 refine wpAny_bind (wpAny_isInstance (T:="tuple") (b:=false) hl.typeIs (by rw[isSubtype_type];kernel_rfl) ?_)
 rw[if_neg (by simp)]
 refine wpAny_bind (wpAny_specialOf hl.typeIs PyProof.Rows.slot_tuple_getitem.lookup ?_)
 refine wpAny_pure ?_
 rw[if_neg (by simp)]
 have hz':=hz
 rw[sizeLine_eq] at hz'
 refine wpAny_bind (PyProof.Rows.len_tuple hl (by (first|lia|omega)) ?_)
 refine wpAny_bind (wpAny_of_eq (a:=some ((items.size:Nat):Int)) rfl ?_)
 dsimp only
 unfold Builtin.SmallTypes.newRecord
 refine wpAny_bind (wpAny_newObj_type ?_ (by size_fits))
 exact wpAny_pure (h _)
theorem zB4{l:Addr}{items:Array Value}{Q:Value→Shared→Prop}(hl:IsTup s.heap l items)(hz:items.size≤sizeLine)
  (h:∀ tk,Q (.ref s.heap.objs.size) { s with heap:=s.heap.push (zKq l ((items.size:Int)-1)),toks:=tk }):wpAny (model prog w) A (call (.type "reversed") [.ref l]) Q E s:=by
 refine callType_codes (Q₁:=fun obj s₁=>s₁.TypeIs obj "reversed"∧Q obj s₁) zDF (PySem.F.typeCall_reversed_1 _) PySem.F.entry_object_init
  (zEP hl hz fun tk=>⟨⟨_,Heap.get?_push_size _ rfl,rfl⟩,h tk⟩) fun obj s₁ h₁=>?_
 exact⟨h₁.1,PySem.F.args_object_init_2 obj _,object_init_meets zDF.init.lookup zDF.made (by decide) prog w A.in1 _ s₁ ⟨h₁.1,rfl,h₁.2⟩⟩
noncomputable def zB5(h:Heap)(a l:Addr)(i:Int):Prop:=∃ o,h.get? a=some o∧o.cls=.type "reversed"∧o.data=.fields #[.ref l,rawInt i]
theorem zB5.typeIs{a l:Addr}{i:Int}(x:zB5 s.heap a l i):s.TypeIs (.ref a) "reversed":=let ⟨o,ho,hc,_⟩:=x;⟨o,ho,hc⟩
theorem zB5.at'{h h':Heap}{a l:Addr}{i:Int}(x:zB5 h a l i)(e:∀ o,h.get? a=some o→h'.get? a=some o):zB5 h' a l i:=let ⟨o,ho,r⟩:=x;⟨o,e _ ho,r⟩
theorem zMF{it l:Addr}{i:Nat}{items:Array Value}{x:Value}{Q:Option Value→Shared→Prop}(hit:zB5 s.heap it l (i:Int))(hl:IsTup s.heap l items)(hx:items[i]?=some x)(hz:items.size≤sizeLine)
  (hQ:∀ h' tk,s.toks≤tk→zB5 h' it l ((i:Int)-1)→Heap.SameBut it s.heap h'→Q (some x) { s with heap:=h',toks:=tk }):wpAny (model prog w) A (pyNext (.ref it)) Q E s:=by
 obtain⟨o,ho,hc,hd⟩:=id hit
 have hi:i<items.size:=(Array.getElem?_eq_some_iff.mp hx).1
 rw[sizeLine_eq] at hz
 unfold pyNext
 refine wpAny_bind (wpAny_attempt (wpAny_callSpecial?_slot (name:=Str.ofString "__next__") hit.typeIs zCj
  (wpAny_call_entry zCj hit.typeIs zCD ?_ (zCk _))))
 unfold Builtin.«reversed.__next__»
 refine wpAny_bind (wpAny_of_eq (a:=(Value.ref it,[])) rfl ?_)
 try dsimp only
 refine wpAny_bind (wpAny_field ho hd (x:=.ref l) rfl ?_)
 refine wpAny_bind (wpAny_field ho hd (x:=rawInt (i:Int)) rfl ?_)
 show wpAny _ _ (if (i:Int)<0 then _ else _) _ _ s
 rw[if_neg (by (first|lia|omega))]
 refine wpAny_bind (wpAny_specialOf hl.typeIs PyProof.Rows.slot_tuple_getitem.lookup ?_)
 show wpAny _ _ (if (false:Bool)=true then _ else _) _ _ s
 rw[if_neg (by simp)]
 refine wpAny_bind (wpAny_mkInt ?_)
 refine wpAny_bind (wpAny_attempt (PyProof.Rows.getItem_tuple (s:={ s with toks:=s.toks+1 }) hl (k:=(i:Int)) (j:=i) (x:=x) (by (first|lia|omega)) (by (first|lia|omega)) (by unfold seqIndex?;simp;(first|lia|omega)) hx ?_))
 dsimp only
 refine wpAny_bind (wpAny_field ho hd (x:=rawInt (i:Int)) rfl ?_)
 refine wpAny_bind (wpAny_setField ho hd (by simp) ?_)
 exact wpAny_pure ⟨x,rfl,wpAny_pure (hQ _ _ (by simp) ⟨_,Heap.get?_update_self _ ho (Obj.isFreed_of_fields (Obj.data_mapFields hd _)),(Obj.cls_mapFields ..).trans hc,by rw[Obj.data_mapFields hd];simp⟩ (Heap.SameBut.update ..))⟩
theorem zN8{it l:Addr}{Q:Option Value→Shared→Prop}(hh:A.handled=none)(hit:zB5 s.heap it l (-1))
  (hQ:∀ h',Heap.ExtBut it s.heap h'→Q none { s with heap:=h' }):wpAny (model prog w) A (pyNext (.ref it)) Q E s:=by
 obtain⟨o,ho,hc,hd⟩:=id hit
 unfold pyNext
 refine wpAny_bind (wpAny_attempt (wpAny_callSpecial?_slot (name:=Str.ofString "__next__") hit.typeIs zCj
  (wpAny_call_entry zCj hit.typeIs zCD ?_ (zCk _))))
 unfold Builtin.«reversed.__next__»
 refine wpAny_bind (wpAny_of_eq (a:=(Value.ref it,[])) rfl ?_)
 try dsimp only
 refine wpAny_bind (wpAny_field ho hd (x:=.ref l) rfl ?_)
 refine wpAny_bind (wpAny_field ho hd (x:=rawInt (-1)) rfl ?_)
 show wpAny _ _ (if (-1:Int)<0 then _ else _) _ _ s
 rw[if_pos (by decide)]
 refine wpAny_bind (wpAny_rule ?_)
 refine wpAny_bind ?_
 wp_delta
 refine wpAny_bind (wpAny_setField ho hd (by simp) ?_)
 have ho2:=Heap.get?_update_self (Obj.mapFields (·.setIfInBounds 1 (rawInt (-1)))) ho (Obj.isFreed_of_fields (Obj.data_mapFields hd _))
 refine wpAny_setField ho2 (Obj.data_mapFields hd _) (by simp) ?_
 refine wpAny_bind ?_
 first
 | show wpAny _ _ (newExc (.type "StopIteration") []>>=_) _ _ _
 | (refine wpAny_bind ?_;show wpAny _ _ (newExc (.type "StopIteration") []>>=_) _ _ _)
 refine wpAny_bind ?_
 simp only[newExc,newTuple]
 refine wpAny_bind (wpAny_newObj_type ?_ (by size_fits))
 refine wpAny_bind (m:=firstArgMember _ _) (wpAny_of_eq (a:=Value.none) (by first | rfl | (simp only[firstArgMember];rfl)) ?_)
 refine wpAny_newObj_type ?_ (by size_fits)
 simp only[raiseNew]
 refine wpAny_bind (wpAny_handled ?_)
 first | rw[show A.in1.handled=none from hh] | rw[hh]
 refine wpAny_bind (wpAny_pure (wpAny_throw ?_))
 refine wpAny_bind (wpAny_isInstance (T:="StopIteration") (b:=true) ⟨_,Heap.get?_push_size _ rfl,rfl⟩ isSubtype_stop ?_)
 exact wpAny_pure (hQ _ (fun b o hb e=>Heap.get?_push_of_some _ (Heap.get?_push_of_some _ ((Heap.get?_update_other _ _ (Ne.symm hb)).trans ((Heap.get?_update_other _ _ (Ne.symm hb)).trans e)))))
theorem zIc{it l:Addr}{i:Int}{Q:Value→Shared→Prop}(hit:zB5 s.heap it l i)(h:Q (.ref it) s):wpAny (model prog w) A (pyIter (.ref it)) Q E s:=by
 refine wpAny_pyIter_slot hit.typeIs zIb (wpAny_call_entry zIb hit.typeIs zE2 ?_ (zFx _))
 show wpAny _ _ (ret (.ref it)) _ _ s
 exact wpAny_pure ⟨_,rfl,"reversed",_,hit.typeIs,zCj.lookup,h⟩
theorem zGh:Slot "reversed" "__length_hint__" "reversed.__length_hint__" :=
 .of (owner:="reversed") (n:="__length_hint__") (by rw[typeLookup_type,builtinLookup_eq_fast];kernel_rfl) (by decide +kernel) (by decide +kernel) (by decide +kernel)
  (by first | exact .inl (by decide +kernel) | exact .inr (by decide +kernel)) (by rw[isSubtype_type];kernel_rfl)
theorem zE3:entryFor table "reversed.__length_hint__"=some Builtin.«reversed.__length_hint__»:=entryFor_of_tree (by kernel_rfl)
theorem zFy(a:Value):argsOk "reversed.__length_hint__" ⟨[a],[]⟩:=by unfold argsOk;kernel_rfl
theorem Walks.rev{prog:Program}{w:World}{A:Around}(hh:A.handled=none)(I l:Addr)(hne:l≠I)(items:Array Value)(hz:items.size≤sizeLine) :
  Walks prog w A I [I,l] [I] items.size (fun i v=>items[items.size-1-i]?=some v) (fun i h=>i≤items.size∧zB5 h I l ((items.size:Int)-1-(i:Int))∧IsTup h l items) where
 sub:=fun b hb=>by simp at hb;simp[hb]
 frame:=fun u0 u0 u0 x hk=>⟨x.1,x.2.1.at' fun o e=>hk I (by simp) o e,IsTup.at' x.2.2 fun o e=>hk l (by simp) o e⟩
 item:=fun i s Q E hi x hQ=>by
  have e:(items.size:Int)-1-(i:Int)=((items.size-1-i:Nat):Int):=by (first|lia|omega)
  have hit:=x.2.1
  rw[e] at hit
  have hx:items[items.size-1-i]?=some (items[items.size-1-i]'(by (first|lia|omega))):=Array.getElem?_eq_getElem (by (first|lia|omega))
  refine zMF hit x.2.2 hx hz fun h' tk u0 hit' hs'=>?_
  have e2:((items.size-1-i:Nat):Int)-1=(items.size:Int)-1-((i+1:Nat):Int):=by (first|lia|omega)
  rw[e2] at hit'
  exact hQ _ h' tk hx ⟨hi,hit',IsTup.at' x.2.2 fun o eo=>(hs'.2 l hne).trans eo⟩ fun b o hb eo=>hs'.extBut b o (fun h=>hb (by simp[h])) eo
 done:=fun s Q E x hQ=>by
  have e:(items.size:Int)-1-(items.size:Int)=-1:=by (first|lia|omega)
  have hit:=x.2.1
  rw[e] at hit
  exact zN8 hh hit fun h' he'=>hQ h' s.toks fun b o hb eo=>he' b o (fun h=>hb (by simp[h])) eo
 self:=fun u0 u0 u0 u0 x hQ=>zIc x.2.1 hQ
theorem zMG{r l:Addr}{items:Array Value}{Q:Bool→Shared→Prop}(hr:zB5 s.heap r l ((items.size:Int)-1))(hl:IsTup s.heap l items)(hlen:items.size≤2 ^ 24)
  (h:∀ b tk,Q b { s with toks:=tk }):wpAny (model prog w) A (Builtin.List.listLengthHint (.ref r)) Q E s:=by
 obtain⟨o,ho,hc,hd⟩:=id hr
 unfold Builtin.List.listLengthHint
 refine wpAny_bind (wpAny_specialOf hr.typeIs zKp ?_)
 show wpAny _ A (specialOf (Value.ref r) (Str.ofString "__length_hint__")>>=_) _ _ _
 refine wpAny_bind (wpAny_specialOf hr.typeIs zME ?_)
 generalize hid:("reversed.__length_hint__":String)=id0
 wp_delta
 rw[show splitId id0=some ("reversed","__length_hint__") from by subst hid;decide +kernel]
 subst hid
 refine wpAny_bind (wpAny_isInstance (T:="reversed") (b:=true) hr.typeIs (by rw[isSubtype_type];kernel_rfl) ?_)
 refine wpAny_ite_split (fun hab=>absurd hab (by decide)) (fun u0=>?_)
 refine wpAny_ite_split (fun hab=>absurd hab (by decide +kernel)) (fun u0=>?_)
 refine wpAny_bind (wpAny_rule ?_)
 refine wpAny_bind (wpAny_of_eq (zGh.bind _) ?_)
 refine wpAny_bind (wpAny_attempt (wpAny_call_entry zGh hr.typeIs zE3 ?_ (zFy _)))
 unfold Builtin.«reversed.__length_hint__»
 refine wpAny_bind (wpAny_of_eq (a:=(Value.ref r)) rfl ?_)
 refine wpAny_bind (wpAny_field ho hd (x:=.ref l) rfl ?_)
 show wpAny _ _ (call (.builtin "len") [.ref l]>>=_) _ _ s
 refine wpAny_bind (PyProof.Rows.len_tuple hl (by (first|lia|omega)) ?_)
 refine wpAny_bind (wpAny_of_eq (a:=some ((items.size:Nat):Int)) rfl ?_)
 dsimp only
 refine wpAny_bind (wpAny_field ho hd (x:=rawInt ((items.size:Int)-1)) rfl ?_)
 show wpAny _ _ (if ((items.size:Nat):Int)<(items.size:Int)-1+1 then _ else _) _ _ _
 rw[if_neg (by (first|lia|omega))]
 unfold retInt
 refine wpAny_bind (wpAny_mkInt ?_)
 refine wpAny_pure ⟨_,rfl,?_⟩
 have e1:(items.size:Int)-1+1=(items.size:Int):=by (first|lia|omega)
 rw[e1]
 dsimp only
 have hf:Builtin.List.listFitsIndex (items.size:Int)=true:=by simp[Builtin.List.listFitsIndex];(first|lia|omega)
 have htl:Builtin.List.listTooLong ((items.size:Int).toNat)=false:=by simp[Builtin.List.listTooLong,sizeLine];(first|lia|omega)
 have hnn:¬ (items.size:Int)<0:=Int.not_lt.mpr (Int.natCast_nonneg _)
 generalize (items.size:Int)=z at hf htl hnn ⊢
 rw[show asInt? (Value.int z (s.toks+1+1))=pure (some z) from rfl,pure_bind]
 dsimp only
 rw[if_neg (by rw[hf];decide),if_neg hnn,if_neg (by rw[htl];decide)]
 exact wpAny_pure (h _ _)
theorem zJe{R:Result→Shared→Prop}{r l:Addr}{items:Array Value}(hh:A.handled=none)(hr:zB5 s.heap r l ((items.size:Int)-1))(hl:IsTup s.heap l items)(hlen:items.size≤2 ^ 24)
  (S:Addr) (hSr:S≠r) (hSl:S≠l) (hlr:l≠r) (res:Value) (c₀:Nat) (hS:s.heap.get? S=some { cls:=.type "list",data:=.seq #[] c₀ })
  (hR:∀ h' tk acc' c',(∀ b o,b≠S→b≠r→s.heap.get? b=some o→h'.get? b=some o)→h'.get? S=some { cls:=.type "list",dict:=none,data:=.seq acc' c',slots:=#[] } →
   ItemsOf (fun i v=>items[items.size-1-i]?=some v) acc' items.size→R (.ok (.ret res)) { s with heap:=h',toks:=tk }) :
  wpAny (model prog w) A.in1 (Builtin.List.listExtendWith (.ref S) (.ref r) res)
   (fun fin s'=>match fin with | .done f=>R (.ok f) s' | .again c'=>c'.quiet=true∧codeAny (model prog w) A c' R s') (fun e s'=>R (.error e) s') s:=by
 have hz:items.size≤sizeLine:=by rw[sizeLine_eq];(first|lia|omega)
 have W:=(Walks.rev (prog:=prog) (w:=w) (A:=A.in1) hh r l hlr items hz).toS
 have hSf:S∉[r,l]:=by simp[hSr,hSl]
 have key:∀(h:Heap) (c₁ tk:Nat),(∀ b o,b≠S→s.heap.get? b=some o→h.get? b=some o) →
   h.get? S=some { cls:=.type "list",data:=.seq #[] c₁ }→codeAny (model prog w) A (.builtin "list.extend.loop" ⟨[.ref S,.ref r,res],[]⟩) R { s with heap:=h,toks:=tk }:=by
  intro h c₁ tk hk hS₁
  refine codeAny_extend_loopS W hz S hSf res items.size 0 _ #[] c₁ (by (first|lia|omega)) (Nat.zero_le _) ⟨Nat.zero_le _,?_,IsTup.at' hl fun o e=>hk l o (Ne.symm hSl) e⟩ hS₁ (ItemsOf.nil _) fun s' acc' c' hm hS' hacc=>?_
  ·exact(show zB5 s.heap r l ((items.size:Int)-1-((0:Nat):Int)) by simpa using hr).at' fun o e=>hk r o (Ne.symm hSr) e
  rw[Moved.eq_with hm]
  refine hR s'.heap s'.toks acc' c' (fun b o hb hbr e=>hm.heap b o (fun hmem=>?_) (hk b o hb e)) hS' hacc
  rcases List.mem_cons.mp hmem with e' | hmem
  ·exact hb e'
  ·exact hbr (List.mem_singleton.mp hmem)
 unfold Builtin.List.listExtendWith
 refine wpAny_bind (wpAny_typeOf hr.typeIs ?_)
 have h1:Builtin.List.listSameRef (.ref S) (.ref r)=false:=by simp[Builtin.List.listSameRef,hSr]
 have h2:(Value.type "reversed"==Value.type "list")=false:=by decide
 have h3:(Value.type "reversed"==Value.type "tuple")=false:=by decide
 simp only[h1,h2,h3,Bool.or_false,Bool.false_eq_true,if_false]
 refine wpAny_bind (zIc hr ?_)
 refine wpAny_bind (wpAny_holding (zMG hr hl hlen fun b tk=>?_))
 refine wpAny_ite_split (fun u0=>?_) (fun u0=>wpAny_pure ⟨plainId_quiet F.plain_extend_loop _,key _ c₀ _ (fun b o u0 e=>e) hS⟩)
 refine wpAny_bind (wpAny_rule ?_)
 refine wpAny_bind ?_
 show wpAny _ _ (updateSeq S (·.push .none)>>=fun u0=>updateSeq S (·.pop)) _ _ _
 refine wpAny_bind (wpAny_updateSeq hS rfl ?_)
 have hS₂:=Heap.get?_update_self (Obj.mapSeq (·.push Value.none)) hS rfl
 refine wpAny_updateSeq (hz:=by seq_fits) hS₂ rfl ?_
 have hS₃:=Heap.get?_update_self (Obj.mapSeq (·.pop)) hS₂ rfl
 refine wpAny_pure ⟨plainId_quiet F.plain_extend_loop _,key _ _ _ (fun b o hb e=>?_) hS₃⟩
 exact(Heap.get?_update_other _ _ (Ne.symm hb)).trans ((Heap.get?_update_other _ _ (Ne.symm hb)).trans e)
theorem zHo{Q:List Value→Shared→Prop}{r l:Addr}{items:Array Value}(hh:A.handled=none)(hr:zB5 s.heap r l ((items.size:Int)-1))(hl:IsTup s.heap l items)(hlr:l≠r)(hlen:items.size≤2 ^ 24)
  (hQ:∀ h' tk acc,(∀ b o,b≠r→s.heap.get? b=some o→h'.get? b=some o)→ItemsOf (fun i v=>items[items.size-1-i]?=some v) acc items.size→Q acc.toList { s with heap:=h',toks:=tk }) :
  wpAny (model prog w) A (collect (.ref r)) Q E s:=by
 obtain⟨o,ho,hc,hd⟩:=id hr
 obtain⟨ol,hol,hlc,hld⟩:=id hl
 unfold collect
 refine wpAny_bind (wpAny_runValue (codeAny_builtin PySem.F.entry_proto_collect ?_))
 rw[Around.under_plainId PySem.F.plain_proto_collect _]
 show wpAny _ A.in1 (newList []>>=fun l=>again (.builtin "list.__iadd__" ⟨[l,.ref r],[]⟩)) _ _ s
 refine wpAny_bind (wpAny_newObj_type ?_)
 refine wpAny_pure ⟨plainId_quiet PySem.F.plain_list_iadd _,codeAny_builtin PySem.F.entry_list_iadd ?_⟩
 rw[Around.under_plainId PySem.F.plain_list_iadd _]
 show wpAny _ A.in1 (Builtin.List.listExtendWith (.ref s.heap.objs.size) (.ref r) (.ref s.heap.objs.size)) _ _ _
 have hS:(s.heap.push { cls:=.type "list",data:=.seq ([]:List Value).toArray }).get? s.heap.objs.size=some { cls:=.type "list",data:=.seq #[] 0 }:=Heap.get?_push_size _ rfl
 refine wpAny_mono (zJe (A:=A) (R:=fun res s'=>∃ h' tk acc c',res=.ok (.ret (.ref s.heap.objs.size))∧s'={ s with heap:=h',toks:=tk }∧(∀ b o,b≠r→s.heap.get? b=some o→h'.get? b=some o)∧h'.get? s.heap.objs.size=some { cls:=.type "list",dict:=none,data:=.seq acc c',slots:=#[] }∧ItemsOf (fun i v=>items[items.size-1-i]?=some v) acc items.size)
  (s:={ s with heap:=s.heap.push { cls:=.type "list",data:=.seq ([]:List Value).toArray } }) hh (hr.at' fun o e=>Heap.get?_push_of_some _ e) (hl.push _) hlen s.heap.objs.size (Ne.symm (Nat.ne_of_lt (Heap.lt_size ho))) (Ne.symm (Nat.ne_of_lt (Heap.lt_size hol))) hlr (.ref s.heap.objs.size) 0 hS fun h' tk acc' c' hk hS' hacc=>?_) (fun fin s' h=>?_) (fun e s' h=>?_)
 ·exact⟨h',tk,acc',c',rfl,rfl,fun b o hb e=>hk b o (Nat.ne_of_lt (Heap.lt_size e)) hb (Heap.get?_push_of_some _ e),hS',hacc⟩
 ·have fin':∀ {r' s''},(∃ h' tk acc c',r'=(.ok (.ret (.ref s.heap.objs.size)):Result)∧s''={ s with heap:=h',toks:=tk }∧(∀ b o,b≠r→s.heap.get? b=some o→h'.get? b=some o)∧h'.get? s.heap.objs.size=some { cls:=.type "list",dict:=none,data:=.seq acc c',slots:=#[] }∧ItemsOf (fun i v=>items[items.size-1-i]?=some v) acc items.size) →
    wpAny (model prog w) A (match Value.ref s.heap.objs.size with
     | Value.ref a=>do
      match (← load a).data with
       | Data.seq xs _=>pure xs.toList
       | _=>unsupported "internal:collect"
     | _=>unsupported "internal:collect") Q E s'':=by
   rintro r' s'' ⟨h',tk,acc,c',rfl,rfl,hk,hS',hacc⟩
   show wpAny _ A (load s.heap.objs.size>>=_) _ _ _
   refine wpAny_bind (wpAny_load hS' ?_)
   exact wpAny_pure (hQ h' tk acc hk hacc)
  cases fin with
  | done f =>
   have hf:=h
   obtain⟨h',tk,acc,c',e,u0⟩:=h
   cases e
   exact fin' hf
  | again c'=>exact⟨h.1,codeAny_mono h.2 fun r s'' hr=>by
    have hf:=hr
    obtain⟨h',tk,acc,c',e,u0⟩:=hr
    subst e
    exact fin' hf⟩
 ·obtain⟨u0,u0,u0,u0,e,u0⟩:=h
  cases e
theorem zCL(r l:Addr)(items:Array Value)(hlr:l≠r)(hlen:items.size≤2 ^ 24) :
  Meets (Builtin.«tuple.__new__» ⟨[.type "tuple",.ref r],[]⟩)
   (fun A R s=>A.handled=none∧zB5 s.heap r l ((items.size:Int)-1)∧IsTup s.heap l items∧∀(h':Heap) tk acc,(∀ b o',b≠r→s.heap.get? b=some o'→h'.get? b=some o')→ItemsOf (fun i v=>items[items.size-1-i]?=some v) acc items.size→R (.ok (.ret (.ref h'.objs.size))) { s with heap:=h'.push { cls:=.type "tuple",data:=.seq acc },toks:=tk }) :=
 .of_wp fun prog w A R s h=>by
  obtain⟨hp,g,d,tk,os⟩:=s;obtain⟨hh,hr,hl,h⟩:=h
  have hsub:=sub_tuple_self
  have hinit:=init_tuple_lookup
  have hmh:=madeHere_tuple
  have hT:Shared.TypeIs ⟨hp,g,d,tk,os⟩ (.ref r) "reversed":=hr.typeIs (s:=⟨hp,g,d,tk,os⟩)
  wp_walk using wpAny_typeOf hT,zHo (A:=A.in1) hh hr hl hlr hlen
  intro h' tk' acc hk hacc
  show wpAny _ _ (Builtin.Tuple.tupleExact acc.toList.toArray>>=fun v=>ret v) _ _ _
  unfold Builtin.Tuple.tupleExact
  refine wpAny_bind (wpAny_newObj_type ?_ (by show acc.toList.toArray.size≤sizeLine;simp only[Array.toArray_toList];rw[hacc.1,sizeLine_eq];(first|lia|omega)))
  refine wpAny_pure ⟨_,rfl,?_⟩
  have e:acc.toList.toArray=acc:=by simp
  rw[e]
  exact h h' tk' acc hk hacc
theorem zE4{Q:Value→Shared→Prop}{r l:Addr}{items:Array Value}(hh:A.handled=none)(hr:zB5 s.heap r l ((items.size:Int)-1))(hl:IsTup s.heap l items)(hlr:l≠r)(hlen:items.size≤2 ^ 24)
  (hQ:∀(h':Heap) tk acc,(∀ b o,b≠r→s.heap.get? b=some o→h'.get? b=some o)→ItemsOf (fun i v=>items[items.size-1-i]?=some v) acc items.size→Q (.ref h'.objs.size) { s with heap:=h'.push { cls:=.type "tuple",data:=.seq acc },toks:=tk }) :
  wpAny (model prog w) A (call (.type "tuple") [.ref r]) Q E s :=
 callType_new PySem.F.called_tuple (by decide) (PySem.F.typeCall_tuple_1 _) (PySem.F.newCall_tuple_1 _) (fun obj=>PySem.F.args_object_init_2 obj _) PySem.F.entry_tuple_new
  (zCL r l items hlr hlen) ⟨hh,hr,hl,fun h' tk acc hk hacc=>⟨⟨_,Heap.get?_push_size _ rfl,rfl⟩,hQ h' tk acc hk hacc⟩⟩
theorem zJf{items acc:Array Value}(h:ItemsOf (fun i v=>items[items.size-1-i]?=some v) acc items.size):acc=items.toList.reverse.toArray:=by
 obtain⟨h1,h2⟩:=h
 apply Array.ext_getElem?
 intro i
 by_cases hi:i<acc.size
 ·have e:=h2 i acc[i] (Array.getElem?_eq_getElem hi)
  rw[Array.getElem?_eq_getElem hi,← e]
  simp only[List.getElem?_toArray]
  rw[List.getElem?_reverse (by simp;(first|lia|omega))]
  simp
 ·rw[Array.getElem?_eq_none (by (first|lia|omega)),Array.getElem?_eq_none (by simp;(first|lia|omega))]
end
end HT
namespace L3
open PySem PySem.Spec PyProof.Rows L2
section
variable {X:Cx} {a b c e o:Expr} {es:List Expr} {pos p:Pos} {ta tb te:zh}
theorem zMH{t:TA}{pos' p2:Pos}(hc:X.calm=true)(hg:Gl X "tuple")(hm:X.mg "tuple"=none)(hg2:Gl X "reversed")(hm2:X.mg "reversed"=none)(ha:PA X [a] t)(hs:starEach [a] X.env=[(false,eval a X.env)]:=by rfl)
  (he:starEach [.Call (.Name "reversed" p2) [a] [] pos] X.env=(false,eval (.Call (.Name "reversed" p2) [a] [] pos) X.env)::starEach [] X.env:=by rfl) (hpl:(backTo pos' (starEach [] X.env)).any (·.1)=false:=by rfl) :
  PE X (.Call (.Name "tuple" p) [.Call (.Name "reversed" p2) [a] [] pos] [] pos') (fun σ H Q=>t σ H fun vs H1=>∃ d xs,vs=[.ref d]∧SqT X.K H1 d xs∧xs.length≤1000000∧∀ l,H1 l=none→Q (.ref l) (yz H1 l (.tup xs.reverse))):=by
 intro pins s σ H Q I h
 refine wpAny_Call_Name_kw (zAj I hg hm (show bootBuiltins "tuple"=some (.type "tuple") by decide +kernel) ?_ (by decide) (by decide))
 refine PyProof.Rows.callWith_type1 ?_ he hpl
 rw[he]
 show wpAny _ _ (spliced ((false,eval (.Call (.Name "reversed" p2) [a] [] pos) X.env)::backTo pos' (starEach [] X.env))) _ _ s
 refine Calls.spliced_cons ?_
 refine wpAny_Call_Name_kw (zAj I hg2 hm2 (show bootBuiltins "reversed"=some (.type "reversed") by decide +kernel) ?_ (by decide) (by decide))
 refine PyProof.Rows.callWith_type1 (yr (ha pos pins s σ H _ I h) fun us s1 ⟨vs,H1,I1,r1,q1⟩=>?_) hs rfl
 obtain⟨d,xs,rfl,hq,hz,q⟩:=q1
 obtain⟨u,rfl,rx⟩:=vals1 r1
 cases rx
 obtain⟨its,rv,ht,u0⟩:=I1.tuple hq
 have hsz:its.length≤1000000:=by rw[← rv.length];exact hz
 have hlt:d<s1.heap.objs.size:=by obtain⟨o,ho,u0⟩:=ht;exact Heap.lt_size ho
 refine HT.zB4 ht (by rw[sizeLine_eq];simp;(first|lia|omega)) fun tk=>?_
 show wpAny _ _ (spliced []) _ _ _
 refine Calls.spliced_nil ?_
 refine HT.zE4 (l:=d) (items:=its.toArray) (s:={ s1 with heap:=s1.heap.push (HT.zKq d ((its.toArray.size:Int)-1)),toks:=tk }) (I.ok.hd hc) ⟨_,Heap.get?_push_size _ rfl,rfl,rfl⟩ (ht.push _) (Nat.ne_of_lt hlt) (by simp;(first|lia|omega)) fun h' tk' acc kp hacc=>?_
 have I3:zP X pins σ H1 { s1 with heap:=h',toks:=tk' }:=I1.kept (t':=tk') fun b o e=>kp b o (Nat.ne_of_lt (Heap.lt_size e)) (Heap.get?_push_of_some _ e)
 have hn:H1 h'.objs.size=none:=I3.hok.fresh (Nat.le_refl _)
 refine⟨.ref h'.objs.size,_,I3.laid (t':=tk') (o:=.tup xs.reverse) (fun b ob q=>Heap.get?_push_of_some _ q) (Nat.le_refl _) ?_,rfl,q _ hn⟩
 refine⟨by rw[List.length_reverse,sizeLine_eq];(first|lia|omega),its.reverse,zR.reverse rv,?_⟩
 rw[HT.zJf hacc]
 exact zC4.new _ _
noncomputable def zHp:Sp2:=fun ds G R=>match ds with | [.tup xs]=>xs.length≤1000000∧R (.tup xs.reverse) G | _=>False
theorem zN9{t:wL}{pos' p2:Pos}(hc:X.calm=true)(hg:Gl X "tuple")(hm:X.mg "tuple"=none)(hg2:Gl X "reversed")(hm2:X.mg "reversed"=none)(ha:A2 X [a] t)(hs:starEach [a] X.env=[(false,eval a X.env)]:=by rfl)
  (he:starEach [.Call (.Name "reversed" p2) [a] [] pos] X.env=(false,eval (.Call (.Name "reversed" p2) [a] [] pos) X.env)::starEach [] X.env:=by rfl) (hpl:(backTo pos' (starEach [] X.env)).any (·.1)=false:=by rfl) :
  E2 X (.Call (.Name "tuple" p) [.Call (.Name "reversed" p2) [a] [] pos] [] pos') (zM zHp t):=by
 refine PE.mono (zMH hc hg hm hg2 hm2 ha hs he hpl) ?_
 rintro σ1 H Q ⟨σ,G,R,rl,q,k⟩
 refine⟨σ,G,_,rl,q,fun ds G1 q1 vs H1 g1 r1 d1=>?_⟩
 unfold zHp at q1
 split at q1
 ·rename_i xs
  obtain⟨v,rfl,d2⟩:=zCd d1
  unfold zN at d2
  obtain⟨d,us,rfl,s1,t1⟩:=d2
  refine⟨d,us,rfl,s1,by rw[t1.length] at *;exact q1.1,fun l n=>k _ G1 q1.2 _ _ (g1.trans (.fresh n)) (r1.fresh n) ?_⟩
  unfold zN
  exact⟨l,_,rfl,.of zd,(t1.reverse).grow (.fresh n)⟩
 ·exact q1.elim
end
end L3
namespace L3
open PySem PySem.Spec PyProof.Rows L2
section
variable {X:Cx} {a b c e o:Expr} {es:List Expr} {pos p:Pos} {ta tb te:zh} {tl:TL2}
noncomputable def zB6(x y:List Int):List Int:=if HT.lexLt y x then y else x
noncomputable def zBx(nss:List (List Int)):List Int:=nss.getD (argBest (HT.btT nss) (nss.length-1)) []
theorem zGi(x y z:List Int):zBx [x,y,z]=zB6 (zB6 x y) z:=by
 have e:zBx [x,y,z]=[x,y,z].getD (if HT.btT [x,y,z] 2 (if HT.btT [x,y,z] 1 0 then 1 else 0) then 2 else if HT.btT [x,y,z] 1 0 then 1 else 0) []:=rfl
 rw[e]
 have e1:HT.btT [x,y,z] 1 0=HT.lexLt y x:=rfl
 have e2:HT.btT [x,y,z] 2 1=HT.lexLt z y:=rfl
 have e3:HT.btT [x,y,z] 2 0=HT.lexLt z x:=rfl
 unfold zB6
 rw[e1]
 by_cases h1:HT.lexLt y x=true
 ·simp only[h1,if_true,e2]
  by_cases h2:HT.lexLt z y=true
  ·simp[h2]
  ·simp[h2]
 ·simp only[h1,Bool.false_eq_true,if_false]
  rw[e3]
  by_cases h2:HT.lexLt z x=true
  ·simp[h2]
  ·simp[h2]
theorem zEQ(bt:Nat→Nat→Bool):∀ n,argBest bt n≤n
 | 0=>Nat.le_refl _
 | n+1=>by
  unfold argBest
  have:=zEQ bt n
  split<;>(first|lia|omega)
noncomputable def zER(K:PySem.W.Frag)(H:Hp)(as:List Addr)(nss:List (List Int)):Prop:=as.length=nss.length∧∀(i:Nat) a ns,as[i]?=some a→nss[i]?=some ns→SqT K H a (ns.map V.int)
theorem zER.at{pins:List (Addr×Obj)}{s:Shared}{σ:L2.St}{H:Hp}{as:List Addr}{nss:List (List Int)}(I:zP X pins σ H s)(h:zER X.K H as nss):HT.zAP s.heap as nss:=by
 refine⟨h.1,fun i a ns h1 h2=>?_⟩
 obtain⟨its,rv,ht,u0⟩:=I.tuple (h.2 i a ns h1 h2)
 exact⟨its,ht,intsAre_of rv⟩
theorem zHq(hc:X.calm=true)(hu:X.A.units+10<cLine):yg X (.builtin "min") (fun xs H Q=>∃ a b c nss,xs=[.ref a,.ref b,.ref c]∧zER X.K H [a,b,c] nss∧∀ d,[a,b,c][argBest (HT.btT nss) 2]?=some d→Q (.ref d) H):=by
 intro pins s σ H xs us Q I r h
 obtain⟨a,b,c,nss,rfl,ht,q⟩:=h
 have:us=[.ref a,.ref b,.ref c]:=by
  cases r with
  | cons r1 r =>
   cases r with
   | cons r2 r =>
    cases r with
    | cons r3 r=>cases r;cases r1;cases r2;cases r3;rfl
 subst this
 refine HT.min_three (I.ok.hd hc) (by show X.A.in1.units<cLine;simp[Around.in1] at *;(first|lia|omega)) (ht.at I) fun h' tk v hv kp=>?_
 have e:[Value.ref a,Value.ref b,Value.ref c]=[a,b,c].map Value.ref:=rfl
 rw[e,List.getElem?_map] at hv
 cases q':[a,b,c][argBest (HT.btT nss) 2]? with
 | none=>rw[q'] at hv;cases hv
 | some d =>
  rw[q'] at hv
  cases hv
  exact⟨.ref d,H,I.kept (t':=tk) kp,rfl,q d q'⟩
theorem zJg(hc:X.calm=true)(hu:X.A.units+10<cLine):yg X (.builtin "min") (fun xs H Q=>∃ l as nss,xs=[.ref l]∧SqL X.K H l (as.map V.ref)∧0<as.length∧zER X.K H as nss∧∀ d,as[argBest (HT.btT nss) (as.length-1)]?=some d→Q (.ref d) H):=by
 intro pins s σ H xs us Q I r h
 obtain⟨l,as,nss,rfl,hs,hp,ht,q⟩:=h
 obtain⟨u,rfl,rx⟩:=vals1 r
 cases rx
 obtain⟨its,rv,pl,hzz⟩:=I.list hs
 have:its=as.map Value.ref:=by
  clear hs pl hzz hp ht q
  induction as generalizing its with
  | nil=>cases rv;rfl
  | cons a as ih =>
   rw[List.map_cons] at rv
   cases rv with
   | cons r1 r2=>cases r1;rw[ih _ r2];rfl
 subst this
 refine HT.min_list (I.ok.hd hc) (by show X.A.in1.units<cLine;simp[Around.in1] at *;(first|lia|omega)) pl.isList hp (ht.at I) fun h' tk v hv kp=>?_
 rw[List.getElem?_map] at hv
 cases q':as[argBest (HT.btT nss) (as.length-1)]? with
 | none=>rw[q'] at hv;cases hv
 | some d =>
  rw[q'] at hv
  cases hv
  exact⟨.ref d,H,I.kept (t':=tk) kp,rfl,q d q'⟩
noncomputable def tupI(ns:List Int):D:=.tup (ns.map D.int)
theorem zKr{K:PySem.W.Frag}{H:Hp}{ns:List Int}{v:V}(h:zN K H (tupI ns) v):∃ a,v=.ref a∧SqT K H a (ns.map V.int):=by
 unfold tupI zN at h
 obtain⟨a,us,rfl,s1,t1⟩:=h
 have:=t1.ints_inv
 subst this
 exact⟨a,rfl,s1⟩
theorem zGj{K:PySem.W.Frag}{H:Hp}{ns:List Int}{a:Addr}(h:SqT K H a (ns.map V.int)):zN K H (tupI ns) (.ref a):=by
 unfold tupI zN
 exact⟨a,_,rfl,h,Dens.ints ns⟩
theorem zDG{K:PySem.W.Frag}{H:Hp}:∀ {nss:List (List Int)} {vs:List V},Dens K H (nss.map tupI) vs→∃ as,vs=as.map V.ref∧zER K H as nss
 | [],vs,h=>by unfold Dens at h;exact⟨[],h,rfl,fun i a ns h1 h2=>by simp at h1⟩
 | ns::r,vs,h=>by
  rw[List.map_cons] at h
  unfold Dens at h
  obtain⟨x,y,rfl,h1,h2⟩:=h
  obtain⟨a,rfl,s1⟩:=zKr h1
  obtain⟨as,rfl,ha⟩:=zDG h2
  refine⟨a::as,rfl,by simp[ha.1],fun i a' ns' h1 h2=>?_⟩
  cases i with
  | zero=>simp at h1 h2;subst h1 h2;exact s1
  | succ i=>exact ha.2 i a' ns' (by simpa using h1) (by simpa using h2)
noncomputable def zOA:Sp2:=fun ds G R=>∃ nss:List (List Int),ds=nss.map tupI∧0<nss.length∧R (tupI (zBx nss)) G
noncomputable def zHr:Sp2:=fun ds G R=>∃ x y z:List Int,ds=[tupI x,tupI y,tupI z]∧R (tupI (zBx [x,y,z])) G
theorem zER.pick{K:PySem.W.Frag}{H:Hp}{as:List Addr}{nss:List (List Int)}(h:zER K H as nss)(hp:0<nss.length){d:Addr}(hd:as[argBest (HT.btT nss) (as.length-1)]?=some d):zN K H (tupI (zBx nss)) (.ref d):=by
 rw[h.1] at hd
 have hl:argBest (HT.btT nss) (nss.length-1)<nss.length:=by have:=zEQ (HT.btT nss) (nss.length-1);(first|lia|omega)
 refine zGj (h.2 _ d _ hd ?_)
 unfold zBx
 simp[List.getD,hl]
theorem zOB{k:Nat}(hr:yo k X.A)(hc:X.calm=true)(hg:Gl X "min")(hm:X.mg "min"=none)(ha:F2 X e tl)(he:starEach [e] X.env=(false,eval e X.env)::starEach [] X.env:=by rfl)(hpl:(backTo pos (starEach [] X.env)).any (·.1)=false:=by rfl) :
  E2 X (.Call (.Name "min" p) [e] [] pos) (zk zOA tl):=zEA (zJg hc (by have:=hr.units;(first|lia|omega))) (by
   rintro ds G R l xs H Q ⟨nss,rfl,hp,h⟩ r e d k
   obtain⟨as,rfl,ha⟩:=zDG d
   exact⟨l,as,nss,rfl,.of e,by rw[ha.1];exact hp,ha,fun d hd=>k _ G h _ H (.refl H) r (ha.pick hp hd)⟩) hg hm (by decide +kernel) ha (by decide) (by decide) he hpl
theorem zOC{t:wL}{e' e'':Expr}{k:Nat}(hr:yo k X.A)(hc:X.calm=true)(hg:Gl X "min")(hm:X.mg "min"=none)(ha:A2 X [e,e',e''] t)(he:starEach [e,e',e''] X.env=(false,eval e X.env)::starEach [e',e''] X.env:=by rfl)(hpl:(backTo pos (starEach [e',e''] X.env)).any (·.1)=false:=by rfl) :
  E2 X (.Call (.Name "min" p) [e,e',e''] [] pos) (zM zHr t):=zDo (zHq hc (by have:=hr.units;(first|lia|omega))) (by
   rintro ds G R vs H Q ⟨x,y,z,rfl,h⟩ r d k
   obtain⟨as,rfl,ha⟩:=zDG (nss:=[x,y,z]) d
   match as,ha with
   | [a,b,c],ha=>exact⟨a,b,c,[x,y,z],rfl,ha,fun d hd=>k _ G h _ H (.refl H) r (ha.pick (by simp) hd)⟩) hg hm (by decide +kernel) ha (by decide) (by decide) he hpl
end
end L3
namespace HT
open PySem PyProof.Rows
section
open PySem.SeqAt
open PySem.MeetsSeq PySem.MeetsSeq2 PySem.MeetsSeq3
end
section
variable {prog:Program} {w:World} {A:Around} {E:Value→Shared→Prop} {s:Shared}
end
end HT
namespace L3
open PySem PySem.Spec PyProof.Rows L2
section
variable {X:Cx} {a b c e o:Expr} {es:List Expr} {pos p:Pos} {ta tb te:zh}
end
end L3
namespace L3
open PySem PySem.Spec PyProof.Rows L2
section
variable {X:Cx} {a b c e o:Expr} {es:List Expr} {pos p:Pos} {ta tb te:zh}
end
end L3
namespace L3
open PySem PySem.Spec PyProof.Rows L2
section
variable {X:Cx} {a b c e o:Expr} {es:List Expr} {pos p:Pos} {ta tb te:zh}
end
end L3
namespace HT
open PySem PySem.Spec PyProof.Rows
section
variable {prog:Program} {w:World} {A:Around} {E:Value→Shared→Prop} {s:Shared}
end
end HT
namespace L3
open PySem PySem.Spec PyProof.Rows L2
section
variable {X:Cx} {a b c e o:Expr} {es:List Expr} {pos p:Pos} {ta tb te:zh}
theorem zR.rep{xs:List V}{us:List Value}(r:zR xs us):∀ n:Nat,zR (List.replicate n xs).flatten (List.replicate n us).flatten
 | 0=>.nil
 | n+1=>by
  rw[List.replicate_succ,List.replicate_succ,List.flatten_cons,List.flatten_cons]
  exact r.append (zR.rep r n)
end
end L3
namespace HT
open PySem PySem.Spec PyProof.Rows
section
variable {prog:Program} {w:World} {A:Around} {E:Value→Shared→Prop} {s:Shared}
end
end HT
namespace L3
open PySem PySem.Spec PyProof.Rows L2
section
variable {X:Cx} {a b c e o:Expr} {es:List Expr} {pos p:Pos} {ta tb te:zh}
end
end L3
namespace HZ
open PySem PySem.Spec PyProof.Rows
structure Zs (prog:Program) (w:World) (i l:Addr) (xs:Array Value) where
 It:Nat→Heap→Prop
 Sq:Heap→Prop
 item:∀(A:Around) (E:Value→Shared→Prop) (s:Shared) (k:Nat) (x:Value) (Q:Value→Shared→Prop),It k s.heap→Sq s.heap→xs[k]?=some x→(∀ h',It (k+1) h'→Heap.SameBut i s.heap h'→Q x { s with heap:=h' })→wpAny (model prog w) A (Builtin.SmallTypes.nextOf (.ref i)) Q E s
 fin:∀(A:Around) (E:Value→Shared→Prop) (s:Shared) (k:Nat) (Q:Value→Shared→Prop),A.handled=none→It k s.heap→Sq s.heap→xs[k]?=none→(∀ h' e,Heap.ExtBut i s.heap h'→(∃ o,h'.get? e=some o∧o.cls=.type "StopIteration")→E (.ref e) { s with heap:=h' })→wpAny (model prog w) A (Builtin.SmallTypes.nextOf (.ref i)) Q E s
 itAt:∀ {k:Nat} {h h':Heap},It k h→(∀ o,h.get? i=some o→h'.get? i=some o)→It k h'
 sqAt:∀ {h h':Heap},Sq h→(∀ o,h.get? l=some o→h'.get? l=some o)→Sq h'
 itHas:∀ {k:Nat} {h:Heap},It k h→∃ o,h.get? i=some o∧∀ v,o.data≠.cell v
theorem Zs.lt{prog:Program}{w:World}{i l:Addr}{xs:Array Value}(Z:Zs prog w i l xs){k:Nat}{h:Heap}(x:Z.It k h):i<h.objs.size:=let ⟨_,e,_⟩:=Z.itHas x;Heap.lt_size e
section
variable {prog:Program} {w:World} {A:Around} {E:Value→Shared→Prop} {s:Shared}
end
section
variable {prog:Program} {w:World} {A:Around} {E:Value→Shared→Prop} {s:Shared} {z a b i j l m:Addr} {xs ys:Array Value} (Z1:Zs prog w i l xs) (Z2:Zs prog w j m ys)
end
end HZ
namespace HZ
open PySem PySem.Spec PyProof.Rows
end HZ
namespace L2
open PySem PySem.Spec PyProof.Rows HZ
end L2
namespace L3
open PySem PySem.Spec PyProof.Rows L2
end L3
namespace HZ
open PySem PySem.Spec PyProof.Rows
section
variable {prog:Program} {w:World} {A:Around} {E:Value→Shared→Prop}
end
end HZ
namespace L2
open PySem PySem.Spec PyProof.Rows HZ
variable {X:Cx} {pos:Pos}
end L2
namespace L3
open PySem PySem.Spec PyProof.Rows L2
section
variable {X:Cx} {e:Expr} {te:zh} {pos p p2 p3 p4:Pos}
end
end L3
namespace HS
open PySem PySem.Spec PyProof.Rows
structure SB (a0:Array Keyed) (kd:SortKind) (z:SortSt):Prop where
 pm:(arrOf z).Perm a0
 kd:kindOf z=kd
 fl:failedOf z=none
 pe:pendingOf z=#[]
theorem SB.sz{a0:Array Keyed}{kd:SortKind}{z:SortSt}(b:SB a0 kd z):(arrOf z).size=a0.size:=b.pm.size_eq
theorem SB.put{a0:Array Keyed}{kd:SortKind}{z:SortSt}(b:SB a0 kd z){ys:Array Keyed}(p:ys.Perm (arrOf z)):SB a0 kd (setArr z ys):=⟨p.trans b.pm,b.kd,b.fl,b.pe⟩
section
variable {prog:Program} {w:World} {A:Around} {E:Value→Shared→Prop} {s:Shared} {a0:Array Keyed} {kd:SortKind} {κ:KeyKind}
noncomputable abbrev Ky(κ:KeyKind)(z:SortSt)(i:Nat):κ.α:=KK κ (arrOf z) i
variable (L:∀(z:SortSt) (i j:Nat) (Q:Option Bool→SortSt→Prop),SB a0 kd z→i<a0.size→j<a0.size→Q (some (κ.blt (Ky κ z i) (Ky κ z j))) z→wpS (model prog w) A E s (ltAt' i j) Q z)
include L
end
end HS
namespace HM
open PySem PySem.Spec PyProof.Rows HS
noncomputable abbrev SM:=StateT SortSt Sem
noncomputable def zAC:Bool→Keyed→Array Keyed→Nat→Nat→Nat→SM (Option Nat):=sortPriv% PySem.Builtin.gallop
noncomputable def zGk:Array Keyed→Array Keyed→SM (Array Keyed):=sortPriv% PySem.Builtin.mergeLo
noncomputable def zGl:Array Keyed→Array Keyed→SM (Array Keyed):=sortPriv% PySem.Builtin.mergeHi
noncomputable def zGm:Nat→SM Unit:=sortPriv% PySem.Builtin.setMinGallop
noncomputable def ky(κ:KeyKind)(p:Keyed):κ.α:=(κ.keyOf p.1).getD κ.dflt
noncomputable def byd(left:Bool)(key:Keyed)(arr:Array Keyed)(base i:Nat):SM (Option Bool):=do
 let x ← elem' arr (base+i)
 if left=true then lt' x key
 else do
  let r ← lt' key x
  pure (r.map fun c=>!c)
section
variable {prog:Program} {w:World} {A:Around} {E:Value→Shared→Prop} {s:Shared} {kd:SortKind} {κ:KeyKind} {P:Keyed→Prop}
theorem zW{arr:Array Keyed}{i:Nat}{p:Keyed}{Q:Keyed→SortSt→Prop}{z:SortSt}(h:arr[i]?=some p)(q:Q p z):wpS (model prog w) A E s (elem' arr i) Q z:=by
 rw[elem'_eq,h]
 exact wpS_pure q
variable (L:∀(z:SortSt) (x y:Keyed) (Q:Option Bool→SortSt→Prop),kindOf z=kd→P x→P y→Q (some (κ.blt (ky κ x) (ky κ y))) z→wpS (model prog w) A E s (lt' x y) Q z)
include L
theorem zOD{left:Bool}{key:Keyed}{arr:Array Keyed}{base i:Nat}{z:SortSt}{Q:Option Bool→SortSt→Prop}(hz:kindOf z=kd)(hk:P key)(ha:∀ p∈arr,P p)(hi:base+i<arr.size)
  (h:Q (some (if left=true then κ.blt (ky κ arr[base+i]) (ky κ key) else !κ.blt (ky κ key) (ky κ arr[base+i]))) z):wpS (model prog w) A E s (byd left key arr base i) Q z:=by
 unfold byd
 refine wpS_bind (zW (getElem?_pos arr _ hi) ?_)
 cases left with
 | true =>
  simp only[if_true] at h ⊢
  exact L _ _ _ _ hz (ha _ (Array.getElem_mem hi)) hk h
 | false =>
  simp only[Bool.false_eq_true,if_false] at h ⊢
  exact wpS_bind (L _ _ _ _ hz hk (ha _ (Array.getElem_mem hi)) (wpS_pure h))
structure Turn (B:Nat→Bool) (n r:Nat):Prop where
 le:r≤n
 yes:∀ i,i<r→B i=true
 no:∀ i,r≤i→i<n→B i=false
theorem wD{left:Bool}{key:Keyed}{arr:Array Keyed}{base n hint:Nat}{z:SortSt}{Q:Option Nat→SortSt→Prop}{B:Nat→Bool}(hz:kindOf z=kd)(hk:P key)(ha:∀ p∈arr,P p)(hb:base+n≤arr.size)(hh:hint<n)
  (hB:∀ i,(hi:base+i<arr.size)→i<n→(if left=true then κ.blt (ky κ arr[base+i]) (ky κ key) else !κ.blt (ky κ key) (ky κ arr[base+i]))=B i)
  (mo:∀ i j,i≤j→j<n→B j=true→B i=true) (h:∀ r,Turn B n r→Q (some r) z):wpS (model prog w) A E s (zAC left key arr base n hint) Q z:=by
 have bd:∀ {i:Nat} {Q:Option Bool→SortSt→Prop},i<n→Q (some (B i)) z→wpS (model prog w) A E s (byd left key arr base i) Q z:=fun {i Q} hi q=>zOD L hz hk ha (by (first|lia|omega)) (by rw[hB i (by (first|lia|omega)) hi];exact q)
 refine wpS_bind (m:=byd left key arr base hint) (bd hh ?_)
 dsimp only
 cases hr:B hint with
 | true =>
  rw[if_pos rfl]
  refine wpS_bind (wpS_mono (wpS_forRange (β:=Option (Option Nat)×Nat×Nat) (I:=fun x c z'=>z'=z∧c.1=none∧c.2.1<c.2.2∧x+1≤c.2.2∧hint+c.2.1<n∧B (hint+c.2.1)=true) (Q:=fun c z'=>z'=z∧c.1=none∧c.2.1<c.2.2∧hint+c.2.1<n∧B (hint+c.2.1)=true∧(c.2.2≥n-hint∨B (hint+c.2.2)=false)) (fun x c z' x1 x2 ⟨e1,e2,q1,q2,q3,q4⟩=>?stp) (fun c z' ⟨e1,e2,q1,q2,q3,q4⟩=>⟨e1,e2,q1,q3,q4,.inl (by (first|lia|omega))⟩) ⟨rfl,rfl,Nat.zero_lt_one,Nat.le_refl _,hh,hr⟩) fun c z' ⟨e1,e2,q1,q3,q4,q5⟩=>?pst)
  case stp =>
   obtain⟨c0,la,of⟩:=c
   subst e1
   dsimp only at e2 q1 q2 q3 q4 ⊢
   by_cases g:of≥n-hint
   ·rw[if_pos g]
    exact wpS_pure ⟨rfl,rfl,q1,q3,q4,.inl g⟩
   ·rw[if_neg g]
    refine wpS_bind (m:=byd left key arr base (hint+of)) (bd (by (first|lia|omega)) ?_)
    dsimp only
    cases e:B (hint+of) with
    | true=>exact wpS_pure ⟨rfl,rfl,by dsimp only;(first|lia|omega),by dsimp only;(first|lia|omega),by dsimp only;(first|lia|omega),e⟩
    | false=>exact wpS_pure ⟨rfl,rfl,q1,q3,q4,.inr e⟩
  case pst =>
   obtain⟨c0,la,of⟩:=c
   subst e1
   dsimp only at e2 q1 q3 q4 q5 ⊢
   rw[e2]
   dsimp only
   have y1:∀ i,i<hint+la+1→B i=true:=fun i hi=>by
    exact mo i (hint+la) (by (first|lia|omega)) q3 q4
   have y2:∀ i,hint+min of (n-hint)≤i→i<n→B i=false:=fun i i1 i2=>by
    rcases q5 with q5 | q5
    ·(first|lia|omega)
    ·cases e':B i with
     | false=>rfl
     | true=>rw[mo _ i (by (first|lia|omega)) i2 e'] at q5;cases q5
   have l1:hint+la+1≤hint+min of (n-hint):=by (first|lia|omega)
   have l2:hint+min of (n-hint)≤n:=by (first|lia|omega)
   refine wpS_bind (wpS_mono (wpS_forRange (β:=Option (Option Nat)×Nat×Nat) (I:=fun x c z''=>z''=z'∧c.1=none∧c.2.1≤c.2.2∧c.2.2≤n∧c.2.2-c.2.1≤n-x∧(∀ i,i<c.2.1→B i=true)∧∀ i,c.2.2≤i→i<n→B i=false) (Q:=fun c z''=>z''=z'∧c.1=none∧Turn B n c.2.2) (fun x c z'' x1 x2 ⟨e1,e2,q1,q2,q3,q4,q5⟩=>?st2) (fun c z'' ⟨e1,e2,q1,q2,q3,q4,q5⟩=>⟨e1,e2,q2,fun i hi'=>q4 i (by (first|lia|omega)),q5⟩) ⟨rfl,rfl,l1,l2,by dsimp only;(first|lia|omega),y1,y2⟩) fun c z'' ⟨e1,e2,e3⟩=>?ps2)
   case st2 =>
    clear y1 y2 l1 l2
    obtain⟨c0,lo,hi⟩:=c
    subst e1
    dsimp only at e2 q1 q2 q3 q4 q5 ⊢
    by_cases g:lo≥hi
    ·rw[if_pos g]
     exact wpS_pure ⟨rfl,rfl,q2,fun i hi'=>q4 i (by dsimp only at hi';(first|lia|omega)),q5⟩
    ·rw[if_neg g]
     refine wpS_bind (m:=byd left key arr base (lo+(hi-lo) / 2)) (bd (by (first|lia|omega)) ?_)
     dsimp only
     cases e:B (lo+(hi-lo) / 2) with
     | true=>exact wpS_pure ⟨rfl,rfl,by dsimp only;(first|lia|omega),q2,by dsimp only;(first|lia|omega),fun i hi'=>mo i (lo+(hi-lo) / 2) (by dsimp only at hi';(first|lia|omega)) (by (first|lia|omega)) e,q5⟩
     | false =>
      refine wpS_pure ⟨rfl,rfl,by dsimp only;(first|lia|omega),by dsimp only;(first|lia|omega),by dsimp only;(first|lia|omega),q4,fun i i1 i2=>?_⟩
      dsimp only at i1
      cases e':B i with
      | false=>rfl
      | true=>rw[mo _ i i1 i2 e'] at e;cases e
   case ps2 =>
    obtain⟨c0,lo,hi⟩:=c
    dsimp only at e2 e3 ⊢
    subst e1
    rw[e2]
    exact wpS_pure (h _ e3)
 | false =>
  rw[if_neg (by simp)]
  refine wpS_bind (wpS_mono (wpS_forRange (β:=Option (Option Nat)×Nat×Nat) (I:=fun x c z'=>z'=z∧c.1=none∧c.2.1<c.2.2∧x+1≤c.2.2∧c.2.1≤hint∧B (hint-c.2.1)=false) (Q:=fun c z'=>z'=z∧c.1=none∧c.2.1<c.2.2∧c.2.1≤hint∧B (hint-c.2.1)=false∧(c.2.2≥hint+1∨(c.2.2≤hint∧B (hint-c.2.2)=true))) (fun x c z' x1 x2 ⟨e1,e2,q1,q2,q3,q4⟩=>?stp) (fun c z' ⟨e1,e2,q1,q2,q3,q4⟩=>⟨e1,e2,q1,q3,q4,.inl (by (first|lia|omega))⟩) ⟨rfl,rfl,Nat.zero_lt_one,Nat.le_refl _,Nat.zero_le _,hr⟩) fun c z' ⟨e1,e2,q1,q3,q4,q5⟩=>?pst)
  case stp =>
   obtain⟨c0,la,of⟩:=c
   subst e1
   dsimp only at e2 q1 q2 q3 q4 ⊢
   by_cases g:of≥hint+1
   ·rw[if_pos g]
    exact wpS_pure ⟨rfl,rfl,q1,q3,q4,.inl g⟩
   ·rw[if_neg g]
    refine wpS_bind (m:=byd left key arr base (hint-of)) (bd (by (first|lia|omega)) ?_)
    dsimp only
    cases e:B (hint-of) with
    | true=>exact wpS_pure ⟨rfl,rfl,q1,q3,q4,.inr ⟨by dsimp only;(first|lia|omega),e⟩⟩
    | false=>exact wpS_pure ⟨rfl,rfl,by dsimp only;(first|lia|omega),by dsimp only;(first|lia|omega),by dsimp only;(first|lia|omega),e⟩
  case pst =>
   obtain⟨c0,la,of⟩:=c
   subst e1
   dsimp only at e2 q1 q3 q4 q5 ⊢
   rw[e2]
   dsimp only
   have y1:∀ i,i<hint+1-min of (hint+1)→B i=true:=fun i hi=>by
    rcases q5 with q5 | ⟨q5,q6⟩
    ·(first|lia|omega)
    ·exact mo i (hint-of) (by (first|lia|omega)) (by (first|lia|omega)) q6
   have y2:∀ i,hint-la≤i→i<n→B i=false:=fun i i1 i2=>by
    cases e':B i with
    | false=>rfl
    | true=>rw[mo _ i i1 i2 e'] at q4;cases q4
   have l1:hint+1-min of (hint+1)≤hint-la:=by (first|lia|omega)
   have l2:hint-la≤n:=by (first|lia|omega)
   refine wpS_bind (wpS_mono (wpS_forRange (β:=Option (Option Nat)×Nat×Nat) (I:=fun x c z''=>z''=z'∧c.1=none∧c.2.1≤c.2.2∧c.2.2≤n∧c.2.2-c.2.1≤n-x∧(∀ i,i<c.2.1→B i=true)∧∀ i,c.2.2≤i→i<n→B i=false) (Q:=fun c z''=>z''=z'∧c.1=none∧Turn B n c.2.2) (fun x c z'' x1 x2 ⟨e1,e2,q1,q2,q3,q4,q5⟩=>?st2) (fun c z'' ⟨e1,e2,q1,q2,q3,q4,q5⟩=>⟨e1,e2,q2,fun i hi'=>q4 i (by (first|lia|omega)),q5⟩) ⟨rfl,rfl,l1,l2,by dsimp only;(first|lia|omega),y1,y2⟩) fun c z'' ⟨e1,e2,e3⟩=>?ps2)
   case st2 =>
    clear y1 y2 l1 l2
    obtain⟨c0,lo,hi⟩:=c
    subst e1
    dsimp only at e2 q1 q2 q3 q4 q5 ⊢
    by_cases g:lo≥hi
    ·rw[if_pos g]
     exact wpS_pure ⟨rfl,rfl,q2,fun i hi'=>q4 i (by dsimp only at hi';(first|lia|omega)),q5⟩
    ·rw[if_neg g]
     refine wpS_bind (m:=byd left key arr base (lo+(hi-lo) / 2)) (bd (by (first|lia|omega)) ?_)
     dsimp only
     cases e:B (lo+(hi-lo) / 2) with
     | true=>exact wpS_pure ⟨rfl,rfl,by dsimp only;(first|lia|omega),q2,by dsimp only;(first|lia|omega),fun i hi'=>mo i (lo+(hi-lo) / 2) (by dsimp only at hi';(first|lia|omega)) (by (first|lia|omega)) e,q5⟩
     | false =>
      refine wpS_pure ⟨rfl,rfl,by dsimp only;(first|lia|omega),by dsimp only;(first|lia|omega),by dsimp only;(first|lia|omega),q4,fun i i1 i2=>?_⟩
      dsimp only at i1
      cases e':B i with
      | false=>rfl
      | true=>rw[mo _ i i1 i2 e'] at e;cases e
   case ps2 =>
    obtain⟨c0,lo,hi⟩:=c
    dsimp only at e2 e3 ⊢
    subst e1
    rw[e2]
    exact wpS_pure (h _ e3)
end
end HM
namespace HM
open PySem PySem.Spec PyProof.Rows HS
section
variable {κ:KeyKind}
theorem za{xs:Array Keyed}{i:Nat}(h:i<xs.size):KK κ xs i=ky κ xs[i]:=by
 unfold KK ky
 rw[getElem?_pos xs i h]
noncomputable def Srt(κ:KeyKind)(l:List Keyed):Prop:=l.Pairwise fun x y=>κ.kle (ky κ x) (ky κ y)
structure MO (κ:KeyKind) (a b r:Array Keyed):Prop where
 sr:Srt κ r.toList
 pm:r.toList.Perm (a.toList++b.toList)
structure MI (κ:KeyKind) (a b out:Array Keyed) (ia ib:Nat):Prop where
 sr:Srt κ out.toList
 pm:(out.toList++(a.toList.drop ia++b.toList.drop ib)).Perm (a.toList++b.toList)
 la:∀ x∈out.toList,∀ j,ia≤j→j<a.size→κ.kle (ky κ x) (KK κ a j)
 lb:∀ x∈out.toList,∀ j,ib≤j→j<b.size→κ.kle (ky κ x) (KK κ b j)
 sz:out.size=ia+ib
theorem zBd{a:Array Keyed}{i:Nat}(h:SortedToK κ a a.size):Srt κ (a.toList.drop i):=by
 unfold Srt
 rw[List.pairwise_iff_getElem]
 intro j k hj hk jk
 rw[List.length_drop,Array.length_toList] at hj hk
 have:=h (i+j) (i+k) (by (first|lia|omega)) (by (first|lia|omega))
 rw[za (by (first|lia|omega)),za (by (first|lia|omega))] at this
 simpa using this
theorem wE{a:Array Keyed}{i:Nat}{y:Keyed}(h:y∈a.toList.drop i):∃ j,i≤j∧j<a.size∧ky κ y=KK κ a j:=by
 obtain⟨j,hj,rfl⟩:=List.mem_iff_getElem.mp h
 rw[List.length_drop,Array.length_toList] at hj
 refine⟨i+j,by (first|lia|omega),by (first|lia|omega),?_⟩
 rw[za (by (first|lia|omega))]
 simp
theorem zBy{a:Array Keyed}{i:Nat}:(a.extract i a.size).toList=a.toList.drop i:=by
 rw[Array.toList_extract,List.extract_eq_drop_take]
 rw[List.take_of_length_le (by simp)]
theorem wQ{l m:List Keyed}(h1:Srt κ l)(h2:Srt κ m)(h:∀ x∈l,∀ y∈m,κ.kle (ky κ x) (ky κ y)):Srt κ (l++m):=List.pairwise_append.mpr ⟨h1,h2,h⟩
variable {a b out:Array Keyed} {ia ib:Nat}
theorem MI.doneA(m:MI κ a b out ia ib)(sa:SortedToK κ a a.size)(e:ib=b.size):MO κ a b (out++a.extract ia a.size++b.extract ib b.size):=by
 have e1:(out++a.extract ia a.size++b.extract ib b.size).toList=out.toList++(a.toList.drop ia++b.toList.drop ib):=by
  rw[Array.toList_append,Array.toList_append,zBy,zBy,List.append_assoc]
 have e2:b.toList.drop ib=[]:=by rw[e,← Array.length_toList,List.drop_length]
 refine⟨?_,by rw[e1];exact m.pm⟩
 rw[e1,e2,List.append_nil]
 refine wQ m.sr (zBd sa) fun x hx y hy=>?_
 obtain⟨j,j1,j2,j3⟩:=wE (κ:=κ) hy
 rw[j3]
 exact m.la x hx j j1 j2
theorem MI.doneB(m:MI κ a b out ia ib)(sb:SortedToK κ b b.size)(e:ia=a.size):MO κ a b (out++a.extract ia a.size++b.extract ib b.size):=by
 have e1:(out++a.extract ia a.size++b.extract ib b.size).toList=out.toList++(a.toList.drop ia++b.toList.drop ib):=by
  rw[Array.toList_append,Array.toList_append,zBy,zBy,List.append_assoc]
 have e2:a.toList.drop ia=[]:=by rw[e,← Array.length_toList,List.drop_length]
 refine⟨?_,by rw[e1];exact m.pm⟩
 rw[e1,e2,List.nil_append]
 refine wQ m.sr (zBd sb) fun x hx y hy=>?_
 obtain⟨j,j1,j2,j3⟩:=wE (κ:=κ) hy
 rw[j3]
 exact m.lb x hx j j1 j2
theorem MI.lastA(m:MI κ a b out ia ib)(sa:SortedToK κ a a.size)(sb:SortedToK κ b b.size)(la:∀ j,j<b.size→κ.kle (KK κ b j) (KK κ a (a.size-1)))(e:ia+1=a.size):MO κ a b (out++b.extract ib b.size++a.extract ia a.size):=by
 have e1:(out++b.extract ib b.size++a.extract ia a.size).toList=out.toList++(b.toList.drop ib++a.toList.drop ia):=by
  rw[Array.toList_append,Array.toList_append,zBy,zBy,List.append_assoc]
 refine⟨?_,by rw[e1];exact(List.Perm.append_left _ List.perm_append_comm).trans m.pm⟩
 rw[e1]
 refine wQ m.sr (wQ (zBd sb) (zBd sa) fun x hx y hy=>?_) fun x hx y hy=>?_
 ·obtain⟨j,j1,j2,j3⟩:=wE (κ:=κ) hx
  obtain⟨k,k1,k2,k3⟩:=wE (κ:=κ) hy
  rw[j3,k3,show k=a.size-1 by (first|lia|omega)]
  exact la j j2
 ·rcases List.mem_append.mp hy with hy | hy
  ·obtain⟨j,j1,j2,j3⟩:=wE (κ:=κ) hy
   rw[j3]
   exact m.lb x hx j j1 j2
  ·obtain⟨j,j1,j2,j3⟩:=wE (κ:=κ) hy
   rw[j3]
   exact m.la x hx j j1 j2
theorem zFU{a:Array Keyed}{i:Nat}(h:i<a.size):a.toList.drop i=a[i]::a.toList.drop (i+1):=by
 rw[List.drop_eq_getElem_cons (by simpa using h)]
 simp
theorem MI.pushA(m:MI κ a b out ia ib)(sa:SortedToK κ a a.size)(h:ia<a.size)(hb:∀ j,ib≤j→j<b.size→κ.kle (KK κ a ia) (KK κ b j)):MI κ a b (out.push a[ia]) (ia+1) ib:=by
 refine⟨?_,?_,fun x hx j j1 j2=>?_,fun x hx j j1 j2=>?_,by rw[Array.size_push,m.sz];(first|lia|omega)⟩
 ·rw[Array.toList_push]
  refine wQ m.sr (List.pairwise_singleton _ _) fun x hx y hy=>?_
  rw[List.mem_singleton.mp hy,← za h]
  exact m.la x hx ia (Nat.le_refl _) h
 ·rw[Array.toList_push,List.append_assoc]
  have:=m.pm
  rw[zFU h] at this
  exact this
 ·rw[Array.toList_push] at hx
  rcases List.mem_append.mp hx with hx | hx
  ·exact m.la x hx j (by (first|lia|omega)) j2
  ·rw[List.mem_singleton.mp hx,← za h]
   exact sa ia j (by (first|lia|omega)) j2
 ·rw[Array.toList_push] at hx
  rcases List.mem_append.mp hx with hx | hx
  ·exact m.lb x hx j j1 j2
  ·rw[List.mem_singleton.mp hx,← za h]
   exact hb j j1 j2
theorem MI.pushB(m:MI κ a b out ia ib)(sb:SortedToK κ b b.size)(h:ib<b.size)(ha:∀ j,ia≤j→j<a.size→κ.kle (KK κ b ib) (KK κ a j)):MI κ a b (out.push b[ib]) ia (ib+1):=by
 refine⟨?_,?_,fun x hx j j1 j2=>?_,fun x hx j j1 j2=>?_,by rw[Array.size_push,m.sz];(first|lia|omega)⟩
 ·rw[Array.toList_push]
  refine wQ m.sr (List.pairwise_singleton _ _) fun x hx y hy=>?_
  rw[List.mem_singleton.mp hy,← za h]
  exact m.lb x hx ib (Nat.le_refl _) h
 ·rw[Array.toList_push,List.append_assoc]
  refine List.Perm.trans ?_ m.pm
  rw[zFU h]
  refine List.Perm.append_left _ ?_
  show(b[ib]::(List.drop ia a.toList++List.drop (ib+1) b.toList)).Perm _
  exact List.perm_middle.symm
 ·rw[Array.toList_push] at hx
  rcases List.mem_append.mp hx with hx | hx
  ·exact m.la x hx j j1 j2
  ·rw[List.mem_singleton.mp hx,← za h]
   exact ha j j1 j2
 ·rw[Array.toList_push] at hx
  rcases List.mem_append.mp hx with hx | hx
  ·exact m.lb x hx j (by (first|lia|omega)) j2
  ·rw[List.mem_singleton.mp hx,← za h]
   exact sb ib j (by (first|lia|omega)) j2
theorem zES{a:Array Keyed}{i k:Nat}(h:i+k<a.size):a.extract i (i+(k+1))=(a.extract i (i+k)).push a[i+k]:=by
 apply Array.ext'
 rw[Array.toList_push,Array.toList_extract,Array.toList_extract,List.extract_eq_drop_take,List.extract_eq_drop_take,show i+(k+1)-i=k+1 by (first|lia|omega),show i+k-i=k by (first|lia|omega),List.take_add_one]
 congr 1
 rw[List.getElem?_drop,List.getElem?_eq_getElem (by simpa using h)]
 simp
theorem zCl{a:Array Keyed}{i:Nat}:a.extract i (i+0)=#[]:=by
 apply Array.ext'
 rw[Array.toList_extract,List.extract_eq_drop_take]
 simp
theorem MI.manyA(sa:SortedToK κ a a.size)(m:MI κ a b out ia ib):∀ k,ia+k≤a.size→(∀ i,ia≤i→i<ia+k→∀ j,ib≤j→j<b.size→κ.kle (KK κ a i) (KK κ b j))→MI κ a b (out++a.extract ia (ia+k)) (ia+k) ib
 | 0,_,_=>by rw[zCl,Array.append_empty];exact m
 | k+1,hk,h=>by
  have:=(MI.manyA sa m k (by (first|lia|omega)) fun i i1 i2=>h i i1 (by (first|lia|omega))).pushA sa (by (first|lia|omega)) (h (ia+k) (by (first|lia|omega)) (by (first|lia|omega)))
  rw[zES (by (first|lia|omega)),Array.append_push]
  exact this
theorem MI.manyB(sb:SortedToK κ b b.size)(m:MI κ a b out ia ib):∀ k,ib+k≤b.size→(∀ i,ib≤i→i<ib+k→∀ j,ia≤j→j<a.size→κ.kle (KK κ b i) (KK κ a j))→MI κ a b (out++b.extract ib (ib+k)) ia (ib+k)
 | 0,_,_=>by rw[zCl,Array.append_empty];exact m
 | k+1,hk,h=>by
  have:=(MI.manyB sb m k (by (first|lia|omega)) fun i i1 i2=>h i i1 (by (first|lia|omega))).pushB sb (by (first|lia|omega)) (h (ib+k) (by (first|lia|omega)) (by (first|lia|omega)))
  rw[zES (by (first|lia|omega)),Array.append_push]
  exact this
end
end HM
namespace HM
open PySem PySem.Spec PyProof.Rows HS
structure Kp (z z':SortSt):Prop where
 kd:kindOf z'=kindOf z
 ar:arrOf z'=arrOf z
 pe:pendingOf z'=pendingOf z
 fl:failedOf z'=failedOf z
theorem Kp.refl(z:SortSt):Kp z z:=⟨rfl,rfl,rfl,rfl⟩
theorem Kp.trans{z z' z'':SortSt}(h:Kp z z')(h':Kp z' z''):Kp z z'':=⟨h'.kd.trans h.kd,h'.ar.trans h.ar,h'.pe.trans h.pe,h'.fl.trans h.fl⟩
section
variable {prog:Program} {w:World} {A:Around} {E:Value→Shared→Prop} {s:Shared} {kd:SortKind} {κ:KeyKind} {P:Keyed→Prop}
theorem zCm{g:Nat}{z:SortSt}{Q:Unit→SortSt→Prop}(h:∀ z',Kp z z'→Q () z'):wpS (model prog w) A E s (zGm g) Q z:=wpS_modify (h _ ⟨rfl,rfl,rfl,rfl⟩)
variable (L:∀(z:SortSt) (x y:Keyed) (Q:Option Bool→SortSt→Prop),kindOf z=kd→P x→P y→Q (some (κ.blt (ky κ x) (ky κ y))) z→wpS (model prog w) A E s (lt' x y) Q z)
include L
theorem zHs{a b:Array Keyed}{z:SortSt}{Q:Array Keyed→SortSt→Prop}(hz:kindOf z=kd)(pa:∀ p∈a,P p)(pb:∀ p∈b,P p)(ha:1≤a.size)(hb:1≤b.size)(sa:SortedToK κ a a.size)(sb:SortedToK κ b b.size)
  (fst:∀ j,j<a.size→κ.kle (KK κ b 0) (KK κ a j)) (lst:∀ j,j<b.size→κ.kle (KK κ b j) (KK κ a (a.size-1))) (h:∀ r z',MO κ a b r→Kp z z'→Q r z'):wpS (model prog w) A E s (zGk a b) Q z:=by
 refine wpS_bind (wpS_lift (wpAny_rule ⟨rfl,?_⟩))
 refine wpS_bind (m:=elem' b 0) (zW (getElem?_pos b 0 (by (first|lia|omega))) ?_)
 dsimp only
 have m0:MI κ a b #[b[0]] 0 1:=by
  have:MI κ a b #[] 0 0:=⟨List.Pairwise.nil,by simp,fun x hx=>by simp at hx,fun x hx=>by simp at hx,rfl⟩
  exact this.pushB sb (by (first|lia|omega)) fun j u0 j2=>fst j j2
 by_cases c1:1=b.size
 ·rw[if_pos (by simpa using c1)]
  exact wpS_pure (h _ _ (m0.doneA sa c1) (.refl z))
 rw[if_neg (by simpa using c1)]
 by_cases c2:0+1=a.size
 ·rw[if_pos (by simpa using c2)]
  exact wpS_pure (h _ _ (m0.lastA sa sb lst c2) (.refl z))
 rw[if_neg (by simpa using c2)]
 refine wpS_bind (wpS_get ?_)
 skip
 refine wpS_bind (wpS_mono (wpS_forRange (β:=Option (Array Keyed)×Array Keyed×Nat×Nat×Nat) (I:=fun x c z'=>Kp z z'∧c.1=none∧MI κ a b c.2.1 c.2.2.1 c.2.2.2.1∧c.2.2.1+1<a.size∧c.2.2.2.1<b.size∧x≤c.2.1.size) (Q:=fun c z'=>Kp z z'∧∃ r,c.1=some r∧MO κ a b r) (fun x c z1 x1 x2 ⟨k1,e2,m1,q1,q2,q3⟩=>?stp) (fun c z1 ⟨k1,e2,m1,q1,q2,q3⟩=>?fin) ⟨.refl z,rfl,m0,by dsimp only;(first|lia|omega),by dsimp only;(first|lia|omega),Nat.zero_le _⟩) fun c z1 ⟨k1,r,e2,mo⟩=>?pst)
 case pst =>
  rw[e2]
  exact wpS_pure (h _ _ mo k1)
 case fin =>
  have:=m1.sz
  (first|lia|omega)
 case stp =>
  clear m0
  obtain⟨c0,out,ia,ib,mg⟩:=c
  dsimp only at e2 m1 q1 q2 q3 ⊢
  refine wpS_bind (wpS_mono (wpS_forRange (β:=Option (Array Keyed)×Array Keyed×Nat×Nat×Nat×Nat) (I:=fun y c z'=>Kp z z'∧c.1=none∧MI κ a b c.2.1 c.2.2.1 c.2.2.2.1∧c.2.2.1+1<a.size∧c.2.2.2.1<b.size∧out.size+y≤c.2.1.size) (Q:=fun c z'=>Kp z z'∧((∃ r,c.1=some r∧MO κ a b r)∨(c.1=none∧MI κ a b c.2.1 c.2.2.1 c.2.2.2.1∧c.2.2.1+1<a.size∧c.2.2.2.1<b.size∧out.size+1≤c.2.1.size))) (fun y c z2 y1 y2 ⟨k2,e3,m2,p1,p2,p3⟩=>?stp1) (fun c z2 ⟨k2,e3,m2,p1,p2,p3⟩=>⟨k2,.inr ⟨e3,m2,p1,p2,by (first|lia|omega)⟩⟩) ⟨k1,rfl,m1,q1,q2,by dsimp only;(first|lia|omega)⟩) fun c z2 ⟨k2,o⟩=>?pst1)
  case stp1 =>
   obtain⟨c0',out',ia',ib',ac,bc⟩:=c
   dsimp only at e3 m2 p1 p2 p3 ⊢
   refine wpS_bind (m:=elem' b ib') (zW (getElem?_pos b ib' p2) ?_)
   refine wpS_bind (m:=elem' a ia') (zW (getElem?_pos a ia' (by (first|lia|omega))) ?_)
   refine wpS_bind (m:=lt' b[ib'] a[ia']) (L _ _ _ _ (k2.kd.trans hz) (pb _ (Array.getElem_mem p2)) (pa _ (Array.getElem_mem _)) ?_)
   dsimp only
   cases e:κ.blt (ky κ b[ib']) (ky κ a[ia']) with
   | true =>
    rw[if_pos rfl]
    refine wpS_bind (m:=elem' b ib') (zW (getElem?_pos b ib' p2) ?_)
    have m3:=m2.pushB sb p2 fun j j1 j2=>KeyOrd.kle_trans (KeyOrd.kle_of_klt (by rw[za p2,za (by (first|lia|omega))];exact e)) (sa ia' j j1 j2)
    by_cases c3:ib'+1=b.size
    ·rw[if_pos (by simpa using c3)]
     exact wpS_pure ⟨k2,.inl ⟨_,rfl,m3.doneA sa c3⟩⟩
    rw[if_neg (by simpa using c3)]
    split
    ·exact wpS_pure ⟨k2,.inr ⟨rfl,m3,p1,by dsimp only;(first|lia|omega),by dsimp only;rw[Array.size_push];(first|lia|omega)⟩⟩
    ·exact wpS_pure ⟨k2,rfl,m3,p1,by dsimp only;(first|lia|omega),by dsimp only;rw[Array.size_push];(first|lia|omega)⟩
   | false =>
    rw[if_neg (by simp)]
    refine wpS_bind (m:=elem' a ia') (zW (getElem?_pos a ia' (by (first|lia|omega))) ?_)
    have m3:=m2.pushA sa (by (first|lia|omega)) fun j j1 j2=>KeyOrd.kle_trans (show κ.kle (KK κ a ia') (KK κ b ib') by rw[za p2,za (by (first|lia|omega))];exact e) (sb ib' j j1 j2)
    by_cases c3:ia'+1+1=a.size
    ·rw[if_pos (by simpa using c3)]
     exact wpS_pure ⟨k2,.inl ⟨_,rfl,m3.lastA sa sb lst c3⟩⟩
    rw[if_neg (by simpa using c3)]
    split
    ·exact wpS_pure ⟨k2,.inr ⟨rfl,m3,by dsimp only;(first|lia|omega),p2,by dsimp only;rw[Array.size_push];(first|lia|omega)⟩⟩
    ·exact wpS_pure ⟨k2,rfl,m3,by dsimp only;(first|lia|omega),p2,by dsimp only;rw[Array.size_push];(first|lia|omega)⟩
  case pst1 =>
   obtain⟨c0',out',ia',ib',ac,bc⟩:=c
   dsimp only at o ⊢
   rcases o with ⟨r,e3,mo⟩ | ⟨e3,m2,p1,p2,p3⟩
   ·rw[e3]
    exact wpS_pure ⟨k2,r,rfl,mo⟩
   rw[e3]
   dsimp only
   refine wpS_bind (wpS_lift (wpAny_rule ⟨rfl,?_⟩))
   refine wpS_bind (wpS_mono (wpS_forRange (β:=Option (Array Keyed)×Array Keyed×Nat×Nat×Nat×Nat×Nat) (I:=fun y c z'=>Kp z z'∧c.1=none∧MI κ a b c.2.1 c.2.2.1 c.2.2.2.1∧c.2.2.1+1<a.size∧c.2.2.2.1<b.size∧out.size+1≤c.2.1.size) (Q:=fun c z'=>Kp z z'∧((∃ r,c.1=some r∧MO κ a b r)∨(c.1=none∧MI κ a b c.2.1 c.2.2.1 c.2.2.2.1∧c.2.2.1+1<a.size∧c.2.2.2.1<b.size∧out.size+1≤c.2.1.size))) (fun y c z3 y1 y2 ⟨k3,e4,m3,r1,r2,r3⟩=>?stp2) (fun c z3 ⟨k3,e4,m3,r1,r2,r3⟩=>⟨k3,.inr ⟨e4,m3,r1,r2,r3⟩⟩) ⟨k2,rfl,m2,p1,p2,p3⟩) fun c z3 ⟨k3,o⟩=>?pst2)
   case pst2 =>
    obtain⟨c0'',out'',ia'',ib'',mg',ac',bc'⟩:=c
    dsimp only at o ⊢
    rcases o with ⟨r,e4,mo⟩ | ⟨e4,m3,r1,r2,r3⟩
    ·rw[e4]
     exact wpS_pure ⟨k3,r,rfl,mo⟩
    rw[e4]
    dsimp only
    refine wpS_bind (m:=zGm (mg'+1)) (zCm fun z4 k4=>?_)
    exact wpS_pure ⟨k3.trans k4,rfl,m3,r1,r2,by dsimp only;(first|lia|omega)⟩
   case stp2 =>
    clear m2 p1 p2 p3 m1 q1 q2 e3 e2 k1 k2
    obtain⟨c0'',out'',ia'',ib'',mg',ac',bc'⟩:=c
    dsimp only at e4 m3 r1 r2 r3 ⊢
    have s3:=m3.sz
    rcases Classical.em (mg'>1) with hm | hm
    rw[if_pos hm]
    rotate_left
    rw[if_neg hm]
    all_goals
     refine wpS_bind (m:=zGm _) (zCm fun z4 k4=>?_)
     have kz:=k3.trans k4
     refine wpS_bind (m:=elem' b ib'') (zW (getElem?_pos b ib'' r2) ?_)
     refine wpS_bind (m:=zAC false b[ib''] a ia'' (a.size-ia'') 0) (wD L (B:=fun t=>!κ.blt (KK κ b ib'') (KK κ a (ia''+t))) (kz.kd.trans hz) (pb _ (Array.getElem_mem r2)) pa (by (first|lia|omega)) (by (first|lia|omega)) (fun t h1 h2=>by rw[if_neg (by simp),za h1,za r2]) (fun t u tu un q=>?_) fun k tk=>?_)
     ·simp only[Bool.not_eq_true'] at q ⊢
      exact KeyOrd.kle_trans (sa _ _ (by (first|lia|omega)) (by (first|lia|omega))) q
     dsimp only
     have l4:=tk.le
     have ya:∀ t,ia''≤t→t<ia''+k→∀ j,ib''≤j→j<b.size→κ.kle (KK κ a t) (KK κ b j):=fun t t1 t2 j j1 j2=>by
      have q:=tk.yes (t-ia'') (by (first|lia|omega))
      rw[show ia''+(t-ia'')=t by (first|lia|omega),Bool.not_eq_true'] at q
      exact KeyOrd.kle_trans q (sb _ _ j1 j2)
     have na:∀ t,ia''+k≤t→t<a.size→κ.kle (KK κ b ib'') (KK κ a t):=fun t t1 t2=>by
      have q:=tk.no (t-ia'') (by (first|lia|omega)) (by (first|lia|omega))
      rw[show ia''+(t-ia'')=t by (first|lia|omega),Bool.not_eq_false'] at q
      exact KeyOrd.kle_of_klt q
     by_cases hk:k>0
     ·rw[if_pos hk]
      have m4:=MI.manyA sa m3 k (by (first|lia|omega)) ya
      have s4:=m4.sz
      by_cases c3:ia''+k+1=a.size
      ·rw[if_pos (by simpa using c3)]
       exact wpS_pure ⟨kz,.inl ⟨_,rfl,m4.lastA sa sb lst c3⟩⟩
      rw[if_neg (by simpa using c3)]
      by_cases c4:ia''+k=a.size
      ·rw[if_pos (by simpa using c4)]
       exact wpS_pure ⟨kz,.inl ⟨_,rfl,m4.doneB sb c4⟩⟩
      rw[if_neg (by simpa using c4)]
      refine wpS_bind (m:=elem' b ib'') (zW (getElem?_pos b ib'' r2) ?_)
      have m5:=MI.pushB m4 sb r2 na
      have s5:=m5.sz
      by_cases c5:ib''+1=b.size
      ·rw[if_pos (by simpa using c5)]
       exact wpS_pure ⟨kz,.inl ⟨_,rfl,m5.doneA sa c5⟩⟩
      rw[if_neg (by simpa using c5)]
      have i5:ia''+k<a.size:=by (first|lia|omega)
      refine wpS_bind (m:=elem' a (ia''+k)) (zW (getElem?_pos a (ia''+k) i5) ?_)
      refine wpS_bind (m:=zAC true a[ia''+k] b (ib''+1) (b.size-(ib''+1)) 0) (wD L (B:=fun t=>κ.blt (KK κ b (ib''+1+t)) (KK κ a (ia''+k))) (kz.kd.trans hz) (pa _ (Array.getElem_mem i5)) pb (by (first|lia|omega)) (by (first|lia|omega)) (fun t h1 h2=>by rw[if_pos rfl,za h1,za i5]) (fun t u tu un q=>KeyOrd.klt_of_kle_of_klt (sb _ _ (by (first|lia|omega)) (by (first|lia|omega))) q) fun k' tk'=>?_)
      dsimp only
      have l6:=tk'.le
      have ym:∀ t,ib''+1≤t→t<ib''+1+k'→∀ j,ia''+k≤j→j<a.size→κ.kle (KK κ b t) (KK κ a j):=fun t t1 t2 j j1 j2=>by
       have q:=tk'.yes (t-(ib''+1)) (by (first|lia|omega))
       rw[show ib''+1+(t-(ib''+1))=t by (first|lia|omega)] at q
       exact KeyOrd.kle_trans (KeyOrd.kle_of_klt q) (sa _ _ j1 j2)
      have nm:∀ t,ib''+1+k'≤t→t<b.size→κ.kle (KK κ a (ia''+k)) (KK κ b t):=fun t t1 t2=>by
       have q:=tk'.no (t-(ib''+1)) (by (first|lia|omega)) (by (first|lia|omega))
       rw[show ib''+1+(t-(ib''+1))=t by (first|lia|omega)] at q
       exact q
      by_cases hk':k'>0
      ·rw[if_pos hk']
       have m6:=MI.manyB sb m5 k' (by (first|lia|omega)) ym
       have s6:=m6.sz
       by_cases c6:ib''+1+k'=b.size
       ·rw[if_pos (by simpa using c6)]
        exact wpS_pure ⟨kz,.inl ⟨_,rfl,m6.doneA sa c6⟩⟩
       rw[if_neg (by simpa using c6)]
       have iu:ia''+k<a.size:=by (first|lia|omega)
       refine wpS_bind (m:=elem' a (ia''+k)) (zW (getElem?_pos a (ia''+k) iu) ?_)
       have m7:=MI.pushA m6 sa iu nm
       have s7:=m7.sz
       by_cases c7:ia''+k+1+1=a.size
       ·rw[if_pos (by simpa using c7)]
        exact wpS_pure ⟨kz,.inl ⟨_,rfl,m7.lastA sa sb lst c7⟩⟩
       rw[if_neg (by simpa using c7)]
       split
       ·exact wpS_pure ⟨kz,.inr ⟨rfl,m7,by dsimp only;(first|lia|omega),by dsimp only;(first|lia|omega),by dsimp only;rw[s7];(first|lia|omega)⟩⟩
       ·exact wpS_pure ⟨kz,rfl,m7,by dsimp only;(first|lia|omega),by dsimp only;(first|lia|omega),by dsimp only;rw[s7];(first|lia|omega)⟩
      ·rw[if_neg hk']
       have iu:ia''+k<a.size:=by (first|lia|omega)
       refine wpS_bind (m:=elem' a (ia''+k)) (zW (getElem?_pos a (ia''+k) iu) ?_)
       have m7:=MI.pushA m5 sa iu (fun t t1 t2=>nm t (by (first|lia|omega)) t2)
       have s7:=m7.sz
       by_cases c7:ia''+k+1+1=a.size
       ·rw[if_pos (by simpa using c7)]
        exact wpS_pure ⟨kz,.inl ⟨_,rfl,m7.lastA sa sb lst c7⟩⟩
       rw[if_neg (by simpa using c7)]
       split
       ·exact wpS_pure ⟨kz,.inr ⟨rfl,m7,by dsimp only;(first|lia|omega),by dsimp only;(first|lia|omega),by dsimp only;rw[s7];(first|lia|omega)⟩⟩
       ·exact wpS_pure ⟨kz,rfl,m7,by dsimp only;(first|lia|omega),by dsimp only;(first|lia|omega),by dsimp only;rw[s7];(first|lia|omega)⟩
     ·rw[if_neg hk]
      refine wpS_bind (m:=elem' b ib'') (zW (getElem?_pos b ib'' r2) ?_)
      have m5:=MI.pushB m3 sb r2 (fun t t1 t2=>na t (by (first|lia|omega)) t2)
      have s5:=m5.sz
      by_cases c5:ib''+1=b.size
      ·rw[if_pos (by simpa using c5)]
       exact wpS_pure ⟨kz,.inl ⟨_,rfl,m5.doneA sa c5⟩⟩
      rw[if_neg (by simpa using c5)]
      have i5:ia''<a.size:=by (first|lia|omega)
      refine wpS_bind (m:=elem' a (ia'')) (zW (getElem?_pos a (ia'') i5) ?_)
      refine wpS_bind (m:=zAC true a[ia''] b (ib''+1) (b.size-(ib''+1)) 0) (wD L (B:=fun t=>κ.blt (KK κ b (ib''+1+t)) (KK κ a (ia''))) (kz.kd.trans hz) (pa _ (Array.getElem_mem i5)) pb (by (first|lia|omega)) (by (first|lia|omega)) (fun t h1 h2=>by rw[if_pos rfl,za h1,za i5]) (fun t u tu un q=>KeyOrd.klt_of_kle_of_klt (sb _ _ (by (first|lia|omega)) (by (first|lia|omega))) q) fun k' tk'=>?_)
      dsimp only
      have l6:=tk'.le
      have ym:∀ t,ib''+1≤t→t<ib''+1+k'→∀ j,ia''≤j→j<a.size→κ.kle (KK κ b t) (KK κ a j):=fun t t1 t2 j j1 j2=>by
       have q:=tk'.yes (t-(ib''+1)) (by (first|lia|omega))
       rw[show ib''+1+(t-(ib''+1))=t by (first|lia|omega)] at q
       exact KeyOrd.kle_trans (KeyOrd.kle_of_klt q) (sa _ _ j1 j2)
      have nm:∀ t,ib''+1+k'≤t→t<b.size→κ.kle (KK κ a (ia'')) (KK κ b t):=fun t t1 t2=>by
       have q:=tk'.no (t-(ib''+1)) (by (first|lia|omega)) (by (first|lia|omega))
       rw[show ib''+1+(t-(ib''+1))=t by (first|lia|omega)] at q
       exact q
      by_cases hk':k'>0
      ·rw[if_pos hk']
       have m6:=MI.manyB sb m5 k' (by (first|lia|omega)) ym
       have s6:=m6.sz
       by_cases c6:ib''+1+k'=b.size
       ·rw[if_pos (by simpa using c6)]
        exact wpS_pure ⟨kz,.inl ⟨_,rfl,m6.doneA sa c6⟩⟩
       rw[if_neg (by simpa using c6)]
       have iu:ia''<a.size:=by (first|lia|omega)
       refine wpS_bind (m:=elem' a (ia'')) (zW (getElem?_pos a (ia'') iu) ?_)
       have m7:=MI.pushA m6 sa iu nm
       have s7:=m7.sz
       by_cases c7:ia''+1+1=a.size
       ·rw[if_pos (by simpa using c7)]
        exact wpS_pure ⟨kz,.inl ⟨_,rfl,m7.lastA sa sb lst c7⟩⟩
       rw[if_neg (by simpa using c7)]
       split
       ·exact wpS_pure ⟨kz,.inr ⟨rfl,m7,by dsimp only;(first|lia|omega),by dsimp only;(first|lia|omega),by dsimp only;rw[s7];(first|lia|omega)⟩⟩
       ·exact wpS_pure ⟨kz,rfl,m7,by dsimp only;(first|lia|omega),by dsimp only;(first|lia|omega),by dsimp only;rw[s7];(first|lia|omega)⟩
      ·rw[if_neg hk']
       have iu:ia''<a.size:=by (first|lia|omega)
       refine wpS_bind (m:=elem' a (ia'')) (zW (getElem?_pos a (ia'') iu) ?_)
       have m7:=MI.pushA m5 sa iu (fun t t1 t2=>nm t (by (first|lia|omega)) t2)
       have s7:=m7.sz
       by_cases c7:ia''+1+1=a.size
       ·rw[if_pos (by simpa using c7)]
        exact wpS_pure ⟨kz,.inl ⟨_,rfl,m7.lastA sa sb lst c7⟩⟩
       rw[if_neg (by simpa using c7)]
       split
       ·exact wpS_pure ⟨kz,.inr ⟨rfl,m7,by dsimp only;(first|lia|omega),by dsimp only;(first|lia|omega),by dsimp only;rw[s7];(first|lia|omega)⟩⟩
       ·exact wpS_pure ⟨kz,rfl,m7,by dsimp only;(first|lia|omega),by dsimp only;(first|lia|omega),by dsimp only;rw[s7];(first|lia|omega)⟩
end
end HM
namespace HM
open PySem PySem.Spec PyProof.Rows HS
section
variable {κ:KeyKind}
structure MJ (κ:KeyKind) (a b:Array Keyed) (na nb:Nat) (out:Array Keyed):Prop where
 sr:Srt κ out.toList.reverse
 pm:(a.toList.take na++b.toList.take nb++out.toList.reverse).Perm (a.toList++b.toList)
 la:∀ x∈out.toList,∀ j,j<na→κ.kle (KK κ a j) (ky κ x)
 lb:∀ x∈out.toList,∀ j,j<nb→κ.kle (KK κ b j) (ky κ x)
 sz:out.size+(na+nb)=a.size+b.size
 ha:na≤a.size
 hb:nb≤b.size
theorem zCn{a:Array Keyed}{i:Nat}(h:SortedToK κ a a.size):Srt κ (a.toList.take i):=(zBd (i:=0) h).sublist (List.take_sublist _ _)
theorem wF{a:Array Keyed}{i:Nat}{y:Keyed}(h:y∈a.toList.take i):∃ j,j<i∧j<a.size∧ky κ y=KK κ a j:=by
 obtain⟨j,hj,rfl⟩:=List.mem_iff_getElem.mp h
 rw[List.length_take,Array.length_toList] at hj
 refine⟨j,by (first|lia|omega),by (first|lia|omega),?_⟩
 rw[za (by (first|lia|omega))]
 simp
theorem zDs{a:Array Keyed}{i:Nat}:(a.extract 0 i).toList=a.toList.take i:=by
 rw[Array.toList_extract,List.extract_eq_drop_take]
 simp
variable {a b out:Array Keyed} {na nb:Nat}
theorem MJ.fin(m:MJ κ a b na nb out)(s:Srt κ (a.toList.take na++b.toList.take nb)):MO κ a b (a.extract 0 na++b.extract 0 nb++out.reverse):=by
 have e1:(a.extract 0 na++b.extract 0 nb++out.reverse).toList=a.toList.take na++b.toList.take nb++out.toList.reverse:=by
  rw[Array.toList_append,Array.toList_append,zDs,zDs,Array.toList_reverse]
 refine⟨?_,by rw[e1];exact m.pm⟩
 rw[e1]
 refine wQ s m.sr fun x hx y hy=>?_
 rw[List.mem_reverse] at hy
 rcases List.mem_append.mp hx with hx | hx
 ·obtain⟨j,j1,j2,j3⟩:=wF (κ:=κ) hx
  rw[j3];exact m.la y hy j j1
 ·obtain⟨j,j1,j2,j3⟩:=wF (κ:=κ) hx
  rw[j3];exact m.lb y hy j j1
theorem MJ.doneA(m:MJ κ a b na nb out)(sb:SortedToK κ b b.size)(e:na=0):MO κ a b (a.extract 0 na++b.extract 0 nb++out.reverse):=m.fin (by subst e;simpa using zCn sb)
theorem MJ.doneB(m:MJ κ a b na nb out)(sa:SortedToK κ a a.size)(e:nb=0):MO κ a b (a.extract 0 na++b.extract 0 nb++out.reverse):=m.fin (by subst e;simpa using zCn sa)
theorem MJ.fstB(m:MJ κ a b na nb out)(sa:SortedToK κ a a.size)(sb:SortedToK κ b b.size)(f:∀ j,j<a.size→κ.kle (KK κ b 0) (KK κ a j))(e:nb=1):MO κ a b (b.extract 0 nb++a.extract 0 na++out.reverse):=by
 have e1:(b.extract 0 nb++a.extract 0 na++out.reverse).toList=b.toList.take nb++a.toList.take na++out.toList.reverse:=by
  rw[Array.toList_append,Array.toList_append,zDs,zDs,Array.toList_reverse]
 refine⟨?_,by rw[e1];exact(List.Perm.append_right _ List.perm_append_comm).trans m.pm⟩
 rw[e1]
 refine wQ (wQ (zCn sb) (zCn sa) fun x hx y hy=>?_) m.sr fun x hx y hy=>?_
 ·obtain⟨j,j1,j2,j3⟩:=wF (κ:=κ) hx
  obtain⟨k,k1,k2,k3⟩:=wF (κ:=κ) hy
  rw[j3,k3,show j=0 by (first|lia|omega)]
  exact f k k2
 ·rw[List.mem_reverse] at hy
  rcases List.mem_append.mp hx with hx | hx
  ·obtain⟨j,j1,j2,j3⟩:=wF (κ:=κ) hx
   rw[j3];exact m.lb y hy j j1
  ·obtain⟨j,j1,j2,j3⟩:=wF (κ:=κ) hx
   rw[j3];exact m.la y hy j j1
theorem take_snoc{a:Array Keyed}{i:Nat}(h:i<a.size):a.toList.take (i+1)=a.toList.take i++[a[i]]:=by
 rw[List.take_add_one,List.getElem?_eq_getElem (by simpa using h)]
 simp
theorem MJ.pushA(m:MJ κ a b (na+1) nb out)(sa:SortedToK κ a a.size)(h:na<a.size)(hb:∀ j,j<nb→κ.kle (KK κ b j) (KK κ a na)):MJ κ a b na nb (out.push a[na]):=by
 refine⟨?_,?_,fun x hx j j1=>?_,fun x hx j j1=>?_,by have:=m.sz;rw[Array.size_push];(first|lia|omega),by (first|lia|omega),m.hb⟩
 ·rw[Array.toList_push,List.reverse_append]
  refine wQ (List.pairwise_singleton _ _) m.sr fun x hx y hy=>?_
  rw[List.mem_reverse] at hy
  rw[List.reverse_singleton] at hx
  rw[List.mem_singleton.mp hx,← za h]
  exact m.la y hy na (by (first|lia|omega))
 ·rw[Array.toList_push,List.reverse_append]
  refine List.Perm.trans ?_ m.pm
  rw[take_snoc h]
  simp only[List.reverse_singleton,List.append_assoc]
  refine List.Perm.append_left _ ?_
  show(b.toList.take nb++(a[na]::out.toList.reverse)).Perm (a[na]::(b.toList.take nb++out.toList.reverse))
  exact List.perm_middle
 ·rw[Array.toList_push] at hx
  rcases List.mem_append.mp hx with hx | hx
  ·exact m.la x hx j (by (first|lia|omega))
  ·rw[List.mem_singleton.mp hx,← za h]
   exact sa j na (by (first|lia|omega)) h
 ·rw[Array.toList_push] at hx
  rcases List.mem_append.mp hx with hx | hx
  ·exact m.lb x hx j j1
  ·rw[List.mem_singleton.mp hx,← za h]
   exact hb j j1
theorem MJ.pushB(m:MJ κ a b na (nb+1) out)(sb:SortedToK κ b b.size)(h:nb<b.size)(ha:∀ j,j<na→κ.kle (KK κ a j) (KK κ b nb)):MJ κ a b na nb (out.push b[nb]):=by
 refine⟨?_,?_,fun x hx j j1=>?_,fun x hx j j1=>?_,by have:=m.sz;rw[Array.size_push];(first|lia|omega),m.ha,by (first|lia|omega)⟩
 ·rw[Array.toList_push,List.reverse_append]
  refine wQ (List.pairwise_singleton _ _) m.sr fun x hx y hy=>?_
  rw[List.mem_reverse] at hy
  rw[List.reverse_singleton] at hx
  rw[List.mem_singleton.mp hx,← za h]
  exact m.lb y hy nb (by (first|lia|omega))
 ·rw[Array.toList_push,List.reverse_append]
  have:=m.pm
  rw[take_snoc h] at this
  simp only[List.reverse_singleton,List.append_assoc] at this ⊢
  exact this
 ·rw[Array.toList_push] at hx
  rcases List.mem_append.mp hx with hx | hx
  ·exact m.la x hx j j1
  ·rw[List.mem_singleton.mp hx,← za h]
   exact ha j j1
 ·rw[Array.toList_push] at hx
  rcases List.mem_append.mp hx with hx | hx
  ·exact m.lb x hx j (by (first|lia|omega))
  ·rw[List.mem_singleton.mp hx,← za h]
   exact sb j nb (by (first|lia|omega)) h
theorem zId{a:Array Keyed}{i k:Nat}(h:i+k<a.size){out:Array Keyed}:out++(a.extract i (i+(k+1))).reverse=out.push a[i+k]++(a.extract i (i+k)).reverse:=by
 apply Array.ext'
 rw[zES h,Array.toList_append,Array.toList_append,Array.toList_reverse,Array.toList_reverse,Array.toList_push,Array.toList_push,List.reverse_append,List.reverse_singleton,List.append_assoc]
theorem MJ.manyA(sa:SortedToK κ a a.size):∀ k na out,MJ κ a b (na+k) nb out→(∀ i,na≤i→i<na+k→∀ j,j<nb→κ.kle (KK κ b j) (KK κ a i))→MJ κ a b na nb (out++(a.extract na (na+k)).reverse)
 | 0,na,out,m,_=>by rw[zCl];simpa using m
 | k+1,na,out,m,h=>by
  have hk:na+k<a.size:=by have:=m.ha;(first|lia|omega)
  rw[zId hk]
  exact MJ.manyA sa k na _ (MJ.pushA m sa hk (h (na+k) (by (first|lia|omega)) (by (first|lia|omega)))) fun i i1 i2=>h i i1 (by (first|lia|omega))
theorem MJ.manyB(sb:SortedToK κ b b.size):∀ k nb out,MJ κ a b na (nb+k) out→(∀ i,nb≤i→i<nb+k→∀ j,j<na→κ.kle (KK κ a j) (KK κ b i))→MJ κ a b na nb (out++(b.extract nb (nb+k)).reverse)
 | 0,nb,out,m,_=>by rw[zCl];simpa using m
 | k+1,nb,out,m,h=>by
  have hk:nb+k<b.size:=by have:=m.hb;(first|lia|omega)
  rw[zId hk]
  exact MJ.manyB sb k nb _ (MJ.pushB m sb hk (h (nb+k) (by (first|lia|omega)) (by (first|lia|omega)))) fun i i1 i2=>h i i1 (by (first|lia|omega))
theorem MJ.pushA'(m:MJ κ a b na nb out)(sa:SortedToK κ a a.size)(h1:1≤na)(h:na-1<a.size)(hb:∀ j,j<nb→κ.kle (KK κ b j) (KK κ a (na-1))):MJ κ a b (na-1) nb (out.push a[na-1]):=MJ.pushA (by rwa [Nat.sub_add_cancel h1]) sa h hb
theorem MJ.pushB'(m:MJ κ a b na nb out)(sb:SortedToK κ b b.size)(h1:1≤nb)(h:nb-1<b.size)(ha:∀ j,j<na→κ.kle (KK κ a j) (KK κ b (nb-1))):MJ κ a b na (nb-1) (out.push b[nb-1]):=MJ.pushB (by rwa [Nat.sub_add_cancel h1]) sb h ha
theorem MJ.manyA'{at':Nat}(m:MJ κ a b na nb out)(sa:SortedToK κ a a.size)(h:at'≤na)(hb:∀ i,at'≤i→i<na→∀ j,j<nb→κ.kle (KK κ b j) (KK κ a i)):MJ κ a b at' nb (out++(a.extract at' na).reverse):=by
 have e:na=at'+(na-at'):=by (first|lia|omega)
 have:=MJ.manyA sa (na-at') at' out (by rw[← e];exact m) fun i i1 i2=>hb i i1 (by (first|lia|omega))
 rwa [← e] at this
theorem MJ.manyB'{at':Nat}(m:MJ κ a b na nb out)(sb:SortedToK κ b b.size)(h:at'≤nb)(ha:∀ i,at'≤i→i<nb→∀ j,j<na→κ.kle (KK κ a j) (KK κ b i)):MJ κ a b na at' (out++(b.extract at' nb).reverse):=by
 have e:nb=at'+(nb-at'):=by (first|lia|omega)
 have:=MJ.manyB sb (nb-at') at' out (by rw[← e];exact m) fun i i1 i2=>ha i i1 (by (first|lia|omega))
 rwa [← e] at this
end
section
variable {prog:Program} {w:World} {A:Around} {E:Value→Shared→Prop} {s:Shared} {kd:SortKind} {κ:KeyKind} {P:Keyed→Prop}
variable (L:∀(z:SortSt) (x y:Keyed) (Q:Option Bool→SortSt→Prop),kindOf z=kd→P x→P y→Q (some (κ.blt (ky κ x) (ky κ y))) z→wpS (model prog w) A E s (lt' x y) Q z)
include L
theorem zHt{a b:Array Keyed}{z:SortSt}{Q:Array Keyed→SortSt→Prop}(hz:kindOf z=kd)(pa:∀ p∈a,P p)(pb:∀ p∈b,P p)(ha:1≤a.size)(hb:1≤b.size)(sa:SortedToK κ a a.size)(sb:SortedToK κ b b.size)
  (fst:∀ j,j<a.size→κ.kle (KK κ b 0) (KK κ a j)) (lst:∀ j,j<b.size→κ.kle (KK κ b j) (KK κ a (a.size-1))) (h:∀ r z',MO κ a b r→Kp z z'→Q r z'):wpS (model prog w) A E s (zGl a b) Q z:=by
 refine wpS_bind (wpS_lift (wpAny_rule ⟨rfl,?_⟩))
 have ia0:a.size-1<a.size:=by (first|lia|omega)
 refine wpS_bind (m:=elem' a (a.size-1)) (zW (getElem?_pos a (a.size-1) ia0) ?_)
 have m0:MJ κ a b (a.size-1) b.size #[a[a.size-1]]:=by
  have:MJ κ a b a.size b.size #[]:=⟨List.Pairwise.nil,by
   rw[← Array.length_toList,← Array.length_toList,List.take_length,List.take_length];simp,fun x hx=>by simp at hx,fun x hx=>by simp at hx,by simp,Nat.le_refl _,Nat.le_refl _⟩
  exact this.pushA' sa ha ia0 fun j j1=>lst j j1
 by_cases c1:a.size-1=0
 ·rw[if_pos (by simpa using c1)]
  exact wpS_pure (h _ _ (m0.doneA sb c1) (.refl z))
 rw[if_neg (by simpa using c1)]
 by_cases c2:b.size=1
 ·rw[if_pos (by simpa using c2)]
  exact wpS_pure (h _ _ (m0.fstB sa sb fst c2) (.refl z))
 rw[if_neg (by simpa using c2)]
 refine wpS_bind (wpS_get ?_)
 dsimp only
 refine wpS_bind (wpS_mono (wpS_forRange (β:=Option (Array Keyed)×Nat×Nat×Array Keyed×Nat) (I:=fun x c z'=>Kp z z'∧c.1=none∧MJ κ a b c.2.1 c.2.2.1 c.2.2.2.1∧1≤c.2.1∧2≤c.2.2.1∧x≤c.2.2.2.1.size) (Q:=fun c z'=>Kp z z'∧∃ r,c.1=some r∧MO κ a b r) (fun x c z1 x1 x2 ⟨k1,e2,m1,q1,q2,q3⟩=>?stp) (fun c z1 ⟨k1,e2,m1,q1,q2,q3⟩=>?fin) ⟨.refl z,rfl,m0,by dsimp only;(first|lia|omega),by dsimp only;(first|lia|omega),Nat.zero_le _⟩) fun c z1 ⟨k1,r,e2,mo⟩=>?pst)
 case pst =>
  rw[e2]
  exact wpS_pure (h _ _ mo k1)
 case fin =>
  have:=m1.sz
  (first|lia|omega)
 case stp =>
  clear m0
  obtain⟨c0,na,nb,out,mg⟩:=c
  dsimp only at e2 m1 q1 q2 q3 ⊢
  refine wpS_bind (wpS_mono (wpS_forRange (β:=Option (Array Keyed)×Nat×Nat×Array Keyed×Nat×Nat) (I:=fun y c z'=>Kp z z'∧c.1=none∧MJ κ a b c.2.1 c.2.2.1 c.2.2.2.1∧1≤c.2.1∧2≤c.2.2.1∧out.size+y≤c.2.2.2.1.size) (Q:=fun c z'=>Kp z z'∧((∃ r,c.1=some r∧MO κ a b r)∨(c.1=none∧MJ κ a b c.2.1 c.2.2.1 c.2.2.2.1∧1≤c.2.1∧2≤c.2.2.1∧out.size+1≤c.2.2.2.1.size))) (fun y c z2 y1 y2 ⟨k2,e3,m2,p1,p2,p3⟩=>?stp1) (fun c z2 ⟨k2,e3,m2,p1,p2,p3⟩=>⟨k2,.inr ⟨e3,m2,p1,p2,by (first|lia|omega)⟩⟩) ⟨k1,rfl,m1,q1,q2,by dsimp only;(first|lia|omega)⟩) fun c z2 ⟨k2,o⟩=>?pst1)
  case stp1 =>
   obtain⟨c0',na',nb',out',ac,bc⟩:=c
   dsimp only at e3 m2 p1 p2 p3 ⊢
   have ja:na'-1<a.size:=by have:=m2.ha;(first|lia|omega)
   have jb:nb'-1<b.size:=by have:=m2.hb;(first|lia|omega)
   refine wpS_bind (m:=elem' b (nb'-1)) (zW (getElem?_pos b _ jb) ?_)
   refine wpS_bind (m:=elem' a (na'-1)) (zW (getElem?_pos a _ ja) ?_)
   refine wpS_bind (m:=lt' b[nb'-1] a[na'-1]) (L _ _ _ _ (k2.kd.trans hz) (pb _ (Array.getElem_mem jb)) (pa _ (Array.getElem_mem ja)) ?_)
   dsimp only
   cases e:κ.blt (ky κ b[nb'-1]) (ky κ a[na'-1]) with
   | true =>
    rw[if_pos rfl]
    refine wpS_bind (m:=elem' a (na'-1)) (zW (getElem?_pos a _ ja) ?_)
    have m3:=m2.pushA' sa p1 ja fun j j1=>KeyOrd.kle_trans (sb j (nb'-1) (by (first|lia|omega)) jb) (KeyOrd.kle_of_klt (by rw[za jb,za ja];exact e))
    by_cases c3:na'-1=0
    ·rw[if_pos (by simpa using c3)]
     exact wpS_pure ⟨k2,.inl ⟨_,rfl,m3.doneA sb c3⟩⟩
    rw[if_neg (by simpa using c3)]
    split
    ·exact wpS_pure ⟨k2,.inr ⟨rfl,m3,by dsimp only;(first|lia|omega),p2,by dsimp only;rw[Array.size_push];(first|lia|omega)⟩⟩
    ·exact wpS_pure ⟨k2,rfl,m3,by dsimp only;(first|lia|omega),p2,by dsimp only;rw[Array.size_push];(first|lia|omega)⟩
   | false =>
    rw[if_neg (by simp)]
    refine wpS_bind (m:=elem' b (nb'-1)) (zW (getElem?_pos b _ jb) ?_)
    have m3:=m2.pushB' sb (by (first|lia|omega)) jb fun j j1=>KeyOrd.kle_trans (sa j (na'-1) (by (first|lia|omega)) ja) (show κ.kle (KK κ a (na'-1)) (KK κ b (nb'-1)) by rw[za jb,za ja];exact e)
    by_cases c3:nb'-1=1
    ·rw[if_pos (by simpa using c3)]
     exact wpS_pure ⟨k2,.inl ⟨_,rfl,m3.fstB sa sb fst c3⟩⟩
    rw[if_neg (by simpa using c3)]
    split
    ·exact wpS_pure ⟨k2,.inr ⟨rfl,m3,p1,by dsimp only;(first|lia|omega),by dsimp only;rw[Array.size_push];(first|lia|omega)⟩⟩
    ·exact wpS_pure ⟨k2,rfl,m3,p1,by dsimp only;(first|lia|omega),by dsimp only;rw[Array.size_push];(first|lia|omega)⟩
  case pst1 =>
   obtain⟨c0',na',nb',out',ac,bc⟩:=c
   dsimp only at o ⊢
   rcases o with ⟨r,e3,mo⟩ | ⟨e3,m2,p1,p2,p3⟩
   ·rw[e3]
    exact wpS_pure ⟨k2,r,rfl,mo⟩
   rw[e3]
   dsimp only
   refine wpS_bind (wpS_lift (wpAny_rule ⟨rfl,?_⟩))
   refine wpS_bind (wpS_mono (wpS_forRange (β:=Option (Array Keyed)×Nat×Nat×Array Keyed×Nat×Nat×Nat) (I:=fun y c z'=>Kp z z'∧c.1=none∧MJ κ a b c.2.1 c.2.2.1 c.2.2.2.1∧1≤c.2.1∧2≤c.2.2.1∧out.size+1≤c.2.2.2.1.size) (Q:=fun c z'=>Kp z z'∧((∃ r,c.1=some r∧MO κ a b r)∨(c.1=none∧MJ κ a b c.2.1 c.2.2.1 c.2.2.2.1∧1≤c.2.1∧2≤c.2.2.1∧out.size+1≤c.2.2.2.1.size))) (fun y c z3 y1 y2 ⟨k3,e4,m3,r1,r2,r3⟩=>?stp2) (fun c z3 ⟨k3,e4,m3,r1,r2,r3⟩=>⟨k3,.inr ⟨e4,m3,r1,r2,r3⟩⟩) ⟨k2,rfl,m2,p1,p2,p3⟩) fun c z3 ⟨k3,o⟩=>?pst2)
   case pst2 =>
    obtain⟨c0'',na'',nb'',out'',mg',ac',bc'⟩:=c
    dsimp only at o ⊢
    rcases o with ⟨r,e4,mo⟩ | ⟨e4,m3,r1,r2,r3⟩
    ·rw[e4]
     exact wpS_pure ⟨k3,r,rfl,mo⟩
    rw[e4]
    dsimp only
    refine wpS_bind (m:=zGm (mg'+1)) (zCm fun z4 k4=>?_)
    exact wpS_pure ⟨k3.trans k4,rfl,m3,r1,r2,by dsimp only;(first|lia|omega)⟩
   case stp2 =>
    clear m2 p1 p2 p3 m1 q1 q2 e3 e2 k1 k2
    obtain⟨c0'',na'',nb'',out'',mg',ac',bc'⟩:=c
    dsimp only at e4 m3 r1 r2 r3 ⊢
    have s3:=m3.sz
    have h3a:=m3.ha
    have h3b:=m3.hb
    have jb:nb''-1<b.size:=by (first|lia|omega)
    rcases Classical.em (mg'>1) with hm | hm
    rw[if_pos hm]
    rotate_left
    rw[if_neg hm]
    all_goals
     refine wpS_bind (m:=zGm _) (zCm fun z4 k4=>?_)
     have kz:=k3.trans k4
     refine wpS_bind (m:=elem' b (nb''-1)) (zW (getElem?_pos b _ jb) ?_)
     refine wpS_bind (m:=zAC false b[nb''-1] a 0 na'' (na''-1)) (wD L (B:=fun t=>!κ.blt (KK κ b (nb''-1)) (KK κ a t)) (kz.kd.trans hz) (pb _ (Array.getElem_mem jb)) pa (by (first|lia|omega)) (by (first|lia|omega)) (fun t h1 h2=>by rw[if_neg (by simp),← za h1,← za jb,Nat.zero_add]) (fun t u tu un q=>?_) fun k tk=>?_)
     ·simp only[Bool.not_eq_true'] at q ⊢
      exact KeyOrd.kle_trans (sa _ _ tu (by (first|lia|omega))) q
     dsimp only
     have l4:=tk.le
     have ya:∀ t,k≤t→t<na''→∀ j,j<nb''→κ.kle (KK κ b j) (KK κ a t):=fun t t1 t2 j j1=>by
      have q:=tk.no t t1 t2
      rw[Bool.not_eq_false'] at q
      exact KeyOrd.kle_trans (sb j (nb''-1) (by (first|lia|omega)) jb) (KeyOrd.kle_of_klt q)
     have yn:∀ t,t<k→κ.kle (KK κ a t) (KK κ b (nb''-1)):=fun t t1=>by
      have q:=tk.yes t t1
      rw[Bool.not_eq_true'] at q
      exact q
     by_cases hk:na''-k>0
     ·rw[if_pos hk]
      have m4:=MJ.manyA' m3 sa l4 ya
      have s4:=m4.sz
      by_cases c3:k=0
      ·rw[if_pos (by simpa using c3)]
       exact wpS_pure ⟨kz,.inl ⟨_,rfl,m4.doneA sb c3⟩⟩
      rw[if_neg (by simpa using c3)]
      refine wpS_bind (m:=elem' b (nb''-1)) (zW (getElem?_pos b _ jb) ?_)
      have m5:=MJ.pushB' m4 sb (by (first|lia|omega)) jb yn
      have s5:=m5.sz
      by_cases c5:nb''-1=1
      ·rw[if_pos (by simpa using c5)]
       exact wpS_pure ⟨kz,.inl ⟨_,rfl,m5.fstB sa sb fst c5⟩⟩
      rw[if_neg (by simpa using c5)]
      have i5:k-1<a.size:=by (first|lia|omega)
      refine wpS_bind (m:=elem' a (k-1)) (zW (getElem?_pos a (k-1) i5) ?_)
      refine wpS_bind (m:=zAC true a[k-1] b 0 (nb''-1) (nb''-1-1)) (wD L (B:=fun t=>κ.blt (KK κ b t) (KK κ a (k-1))) (kz.kd.trans hz) (pa _ (Array.getElem_mem i5)) pb (by (first|lia|omega)) (by (first|lia|omega)) (fun t h1 h2=>by rw[if_pos rfl,← za h1,← za i5,Nat.zero_add]) (fun t u tu un q=>KeyOrd.klt_of_kle_of_klt (sb _ _ tu (by (first|lia|omega))) q) fun k' tk'=>?_)
      dsimp only
      have l6:=tk'.le
      have ym:∀ t,k'≤t→t<nb''-1→∀ j,j<k→κ.kle (KK κ a j) (KK κ b t):=fun t t1 t2 j j1=>by
       have q:=tk'.no t t1 t2
       exact KeyOrd.kle_trans (sa j (k-1) (by (first|lia|omega)) i5) q
      have nm:∀ t,t<k'→κ.kle (KK κ b t) (KK κ a (k-1)):=fun t t1=>KeyOrd.kle_of_klt (tk'.yes t t1)
      by_cases hk':nb''-1-k'>0
      ·rw[if_pos hk']
       have m6:=MJ.manyB' m5 sb l6 ym
       have s6:=m6.sz
       by_cases c6:k'=1
       ·rw[if_pos (by simpa using c6)]
        exact wpS_pure ⟨kz,.inl ⟨_,rfl,m6.fstB sa sb fst c6⟩⟩
       rw[if_neg (by simpa using c6)]
       by_cases c8:k'=0
       ·rw[if_pos (by simpa using c8)]
        exact wpS_pure ⟨kz,.inl ⟨_,rfl,m6.doneB sa c8⟩⟩
       rw[if_neg (by simpa using c8)]
       have iu:k-1<a.size:=by (first|lia|omega)
       refine wpS_bind (m:=elem' a (k-1)) (zW (getElem?_pos a (k-1) iu) ?_)
       have m7:=MJ.pushA' m6 sa (by (first|lia|omega)) iu nm
       have s7:=m7.sz
       by_cases c7:k-1=0
       ·rw[if_pos (by simpa using c7)]
        exact wpS_pure ⟨kz,.inl ⟨_,rfl,m7.doneA sb c7⟩⟩
       rw[if_neg (by simpa using c7)]
       split
       ·exact wpS_pure ⟨kz,.inr ⟨rfl,m7,by dsimp only;(first|lia|omega),by dsimp only;(first|lia|omega),by dsimp only;(first|lia|omega)⟩⟩
       ·exact wpS_pure ⟨kz,rfl,m7,by dsimp only;(first|lia|omega),by dsimp only;(first|lia|omega),by dsimp only;(first|lia|omega)⟩
      ·rw[if_neg hk']
       have iu:k-1<a.size:=by (first|lia|omega)
       refine wpS_bind (m:=elem' a (k-1)) (zW (getElem?_pos a (k-1) iu) ?_)
       have m7:=MJ.pushA' m5 sa (by (first|lia|omega)) iu (fun t t1=>nm t (by (first|lia|omega)))
       have s7:=m7.sz
       by_cases c7:k-1=0
       ·rw[if_pos (by simpa using c7)]
        exact wpS_pure ⟨kz,.inl ⟨_,rfl,m7.doneA sb c7⟩⟩
       rw[if_neg (by simpa using c7)]
       split
       ·exact wpS_pure ⟨kz,.inr ⟨rfl,m7,by dsimp only;(first|lia|omega),by dsimp only;(first|lia|omega),by dsimp only;(first|lia|omega)⟩⟩
       ·exact wpS_pure ⟨kz,rfl,m7,by dsimp only;(first|lia|omega),by dsimp only;(first|lia|omega),by dsimp only;(first|lia|omega)⟩
     ·rw[if_neg hk]
      refine wpS_bind (m:=elem' b (nb''-1)) (zW (getElem?_pos b _ jb) ?_)
      have m5:=MJ.pushB' m3 sb (by (first|lia|omega)) jb (fun t t1=>yn t (by (first|lia|omega)))
      have s5:=m5.sz
      by_cases c5:nb''-1=1
      ·rw[if_pos (by simpa using c5)]
       exact wpS_pure ⟨kz,.inl ⟨_,rfl,m5.fstB sa sb fst c5⟩⟩
      rw[if_neg (by simpa using c5)]
      have i5:na''-1<a.size:=by (first|lia|omega)
      refine wpS_bind (m:=elem' a (na''-1)) (zW (getElem?_pos a (na''-1) i5) ?_)
      refine wpS_bind (m:=zAC true a[na''-1] b 0 (nb''-1) (nb''-1-1)) (wD L (B:=fun t=>κ.blt (KK κ b t) (KK κ a (na''-1))) (kz.kd.trans hz) (pa _ (Array.getElem_mem i5)) pb (by (first|lia|omega)) (by (first|lia|omega)) (fun t h1 h2=>by rw[if_pos rfl,← za h1,← za i5,Nat.zero_add]) (fun t u tu un q=>KeyOrd.klt_of_kle_of_klt (sb _ _ tu (by (first|lia|omega))) q) fun k' tk'=>?_)
      dsimp only
      have l6:=tk'.le
      have ym:∀ t,k'≤t→t<nb''-1→∀ j,j<na''→κ.kle (KK κ a j) (KK κ b t):=fun t t1 t2 j j1=>by
       have q:=tk'.no t t1 t2
       exact KeyOrd.kle_trans (sa j (na''-1) (by (first|lia|omega)) i5) q
      have nm:∀ t,t<k'→κ.kle (KK κ b t) (KK κ a (na''-1)):=fun t t1=>KeyOrd.kle_of_klt (tk'.yes t t1)
      by_cases hk':nb''-1-k'>0
      ·rw[if_pos hk']
       have m6:=MJ.manyB' m5 sb l6 ym
       have s6:=m6.sz
       by_cases c6:k'=1
       ·rw[if_pos (by simpa using c6)]
        exact wpS_pure ⟨kz,.inl ⟨_,rfl,m6.fstB sa sb fst c6⟩⟩
       rw[if_neg (by simpa using c6)]
       by_cases c8:k'=0
       ·rw[if_pos (by simpa using c8)]
        exact wpS_pure ⟨kz,.inl ⟨_,rfl,m6.doneB sa c8⟩⟩
       rw[if_neg (by simpa using c8)]
       have iu:na''-1<a.size:=by (first|lia|omega)
       refine wpS_bind (m:=elem' a (na''-1)) (zW (getElem?_pos a (na''-1) iu) ?_)
       have m7:=MJ.pushA' m6 sa (by (first|lia|omega)) iu nm
       have s7:=m7.sz
       by_cases c7:na''-1=0
       ·rw[if_pos (by simpa using c7)]
        exact wpS_pure ⟨kz,.inl ⟨_,rfl,m7.doneA sb c7⟩⟩
       rw[if_neg (by simpa using c7)]
       split
       ·exact wpS_pure ⟨kz,.inr ⟨rfl,m7,by dsimp only;(first|lia|omega),by dsimp only;(first|lia|omega),by dsimp only;(first|lia|omega)⟩⟩
       ·exact wpS_pure ⟨kz,rfl,m7,by dsimp only;(first|lia|omega),by dsimp only;(first|lia|omega),by dsimp only;(first|lia|omega)⟩
      ·rw[if_neg hk']
       have iu:na''-1<a.size:=by (first|lia|omega)
       refine wpS_bind (m:=elem' a (na''-1)) (zW (getElem?_pos a (na''-1) iu) ?_)
       have m7:=MJ.pushA' m5 sa (by (first|lia|omega)) iu (fun t t1=>nm t (by (first|lia|omega)))
       have s7:=m7.sz
       by_cases c7:na''-1=0
       ·rw[if_pos (by simpa using c7)]
        exact wpS_pure ⟨kz,.inl ⟨_,rfl,m7.doneA sb c7⟩⟩
       rw[if_neg (by simpa using c7)]
       split
       ·exact wpS_pure ⟨kz,.inr ⟨rfl,m7,by dsimp only;(first|lia|omega),by dsimp only;(first|lia|omega),by dsimp only;(first|lia|omega)⟩⟩
       ·exact wpS_pure ⟨kz,rfl,m7,by dsimp only;(first|lia|omega),by dsimp only;(first|lia|omega),by dsimp only;(first|lia|omega)⟩
end
end HM
namespace HM
open PySem PySem.Spec PyProof.Rows HS
theorem zMI{σ:Type}{M:Model}{A:Around}{E:Value→Shared→Prop}{s:Shared}{Q:PUnit→σ→Prop}{st st':σ}(h:Q ⟨⟩ st'):wpS M A E s (set st':StateT σ Sem PUnit) Q st:=by
 unfold wpS
 rw[StateT.run_set]
 exact wpAny_pure ⟨rfl,h⟩
section
variable {κ:KeyKind}
noncomputable def Seg(κ:KeyKind)(xs:Array Keyed)(lo hi:Nat):Prop:=∀ i j,lo≤i→i≤j→j<hi→κ.kle (KK κ xs i) (KK κ xs j)
noncomputable def zET(xs:Array Keyed)(at':Nat)(l:List Keyed):Array Keyed:=l.zipIdx.foldl (fun a x=>match x with | (p,j)=>a.setIfInBounds (at'+j) p) xs
theorem zGn{at':Nat}:∀(l:List Keyed) (m:Nat) (xs:Array Keyed),at'+m+l.length≤xs.size→((l.zipIdx m).foldl (fun a x=>match x with | (p,j)=>a.setIfInBounds (at'+j) p) xs).toList=xs.toList.take (at'+m)++(l++xs.toList.drop (at'+m+l.length))
 | [],m,xs,h=>by simp
 | x::r,m,xs,h=>by
  rw[List.length_cons] at h
  rw[List.zipIdx_cons,List.foldl_cons]
  rw[zGn r (m+1) _ (by simp;(first|lia|omega))]
  simp only[Array.toList_setIfInBounds]
  have hl:at'+m<xs.toList.length:=by simp;(first|lia|omega)
  rw[show at'+(m+1)=at'+m+1 by (first|lia|omega),List.take_set,List.take_add_one,List.getElem?_eq_getElem hl,List.drop_set_of_lt (by (first|lia|omega)),List.length_cons,show at'+m+1+r.length=at'+m+(r.length+1) by (first|lia|omega)]
  rw[List.set_append_right _ _ (by simp;(first|lia|omega))]
  have:at'+m-(xs.toList.take (at'+m)).length=0:=by rw[List.length_take];(first|lia|omega)
  rw[this]
  simp
theorem zEU{xs:Array Keyed}{at':Nat}{l:List Keyed}(h:at'+l.length≤xs.size):(zET xs at' l).toList=xs.toList.take at'++(l++xs.toList.drop (at'+l.length)):=by
 have:=zGn (at':=at') l 0 xs (by (first|lia|omega))
 rw[Nat.add_zero] at this
 exact this
theorem zJh{xs:Array Keyed}{at':Nat}{l:List Keyed}(h:at'+l.length≤xs.size)(k:Nat):(zET xs at' l)[k]?=if at'≤k∧k<at'+l.length then l[k-at']? else xs[k]?:=by
 rw[← Array.getElem?_toList,zEU h]
 have hl:(xs.toList.take at').length=at':=by rw[List.length_take,Array.length_toList];(first|lia|omega)
 by_cases h1:k<at'
 ·rw[if_neg (by (first|lia|omega)),List.getElem?_append_left (by (first|lia|omega)),List.getElem?_take,if_pos h1,Array.getElem?_toList]
 rw[List.getElem?_append_right (by (first|lia|omega)),hl]
 by_cases h2:k<at'+l.length
 ·rw[if_pos ⟨by (first|lia|omega),h2⟩,List.getElem?_append_left (by (first|lia|omega))]
 ·rw[if_neg (by (first|lia|omega)),List.getElem?_append_right (by (first|lia|omega)),List.getElem?_drop,show at'+l.length+(k-at'-l.length)=k by (first|lia|omega),Array.getElem?_toList]
theorem zDH{xs:Array Keyed}{u v t:Nat}(h:u+t<v)(hv:v≤xs.size):KK κ (xs.extract u v) t=KK κ xs (u+t):=by
 refine KK_congr ?_
 rw[Array.getElem?_extract_of_lt (by (first|lia|omega)),getElem?_pos xs _ (by (first|lia|omega))]
theorem zMJ{r:Array Keyed}(h:Srt κ r.toList):SortedToK κ r r.size:=fun i j ij jr=>by
 rcases Nat.lt_or_ge i j with q | q
 ·have:=List.pairwise_iff_getElem.mp h i j (by simp;(first|lia|omega)) (by simpa using jr) q
  rw[za (by (first|lia|omega)),za jr]
  simpa using this
 ·obtain rfl:i=j:=by (first|lia|omega)
  exact KeyOrd.kle_refl _
theorem zIe{xs:Array Keyed}{u v:Nat}(h:Seg κ xs u v)(hv:v≤xs.size):SortedToK κ (xs.extract u v) (xs.extract u v).size:=fun i j ij hj=>by
 rw[Array.size_extract] at hj
 rw[zDH (by (first|lia|omega)) hv,zDH (by (first|lia|omega)) hv]
 exact h (u+i) (u+j) (by (first|lia|omega)) (by (first|lia|omega)) (by (first|lia|omega))
theorem zPY{xs:Array Keyed}{u v c:Nat}(huv:u≤v)(hc:v+c≤xs.size):xs.toList=xs.toList.take u++(((xs.extract u v).toList++(xs.extract v (v+c)).toList)++xs.toList.drop (v+c)):=by
 rw[Array.toList_extract,Array.toList_extract,List.extract_eq_drop_take,List.extract_eq_drop_take,show v+c-v=c by (first|lia|omega)]
 have e1:xs.toList.drop (v+c)=(xs.toList.drop v).drop c:=by rw[List.drop_drop]
 have e2:xs.toList.drop v=(xs.toList.drop u).drop (v-u):=by rw[List.drop_drop,show u+(v-u)=v by (first|lia|omega)]
 rw[List.append_assoc,e1,List.take_append_drop,e2,List.take_append_drop,List.take_append_drop]
variable {prog:Program} {w:World} {A:Around} {E:Value→Shared→Prop} {s:Shared} {kd:SortKind} {P:Keyed→Prop}
structure Mg (κ:KeyKind) (xs ys:Array Keyed) (sa hi:Nat):Prop where
 pm:ys.Perm xs
 fr:∀ k,k<sa∨hi≤k→ys[k]?=xs[k]?
 sg:Seg κ ys sa hi
variable (L:∀(z:SortSt) (x y:Keyed) (Q:Option Bool→SortSt→Prop),kindOf z=kd→P x→P y→Q (some (κ.blt (ky κ x) (ky κ y))) z→wpS (model prog w) A E s (lt' x y) Q z)
theorem merged{xs:Array Keyed}{sa sb nb k c:Nat}{r:Array Keyed}(h1:sa+k<sb)(h2:0<c)(h3:c≤nb)(h4:sb+nb≤xs.size)(ga:Seg κ xs sa sb)(gb:Seg κ xs sb (sb+nb))(lo:∀ t,t<k→κ.kle (KK κ xs (sa+t)) (KK κ xs sb))(hi:∀ t,c≤t→t<nb→κ.kle (KK κ xs (sb-1)) (KK κ xs (sb+t)))(mo:MO κ (xs.extract (sa+k) sb) (xs.extract sb (sb+c)) r):Mg κ xs (zET xs (sa+k) r.toList) sa (sb+nb):=by
 have hsz:r.toList.length=sb-(sa+k)+c:=by
  have:=mo.pm.length_eq
  rw[List.length_append] at this
  simp only[Array.length_toList,Array.size_extract] at this ⊢
  (first|lia|omega)
 have hb:(sa+k)+r.toList.length≤xs.size:=by (first|lia|omega)
 have hb2:(sa+k)+r.toList.length=sb+c:=by (first|lia|omega)
 have get:=zJh hb
 have src:∀ t,t<r.size→∃ u,sa+k≤u∧u<sb+c∧KK κ r t=KK κ xs u:=fun t ht=>by
  have hm:r[t]∈(xs.extract (sa+k) sb).toList++(xs.extract sb (sb+c)).toList:=mo.pm.mem_iff.mp (by simp)
  rw[za ht]
  rcases List.mem_append.mp hm with hm | hm
  ·obtain⟨j,hj,e⟩:=List.mem_iff_getElem.mp hm
   rw[Array.length_toList,Array.size_extract] at hj
   refine⟨sa+k+j,by (first|lia|omega),by (first|lia|omega),?_⟩
   rw[za (by (first|lia|omega)),← e]
   simp
  ·obtain⟨j,hj,e⟩:=List.mem_iff_getElem.mp hm
   rw[Array.length_toList,Array.size_extract] at hj
   refine⟨sb+j,by (first|lia|omega),by (first|lia|omega),?_⟩
   rw[za (by (first|lia|omega)),← e]
   simp
 have rs:=zMJ mo.sr
 rw[Array.length_toList] at hsz
 have kin:∀ i,sa+k≤i→i<sb+c→KK κ (zET xs (sa+k) r.toList) i=KK κ r (i-(sa+k)):=fun i i1 i2=>by
  refine KK_congr ?_
  rw[get,if_pos ⟨i1,by (first|lia|omega)⟩,Array.getElem?_toList]
 have kout:∀ i,(i<sa+k∨sb+c≤i)→KK κ (zET xs (sa+k) r.toList) i=KK κ xs i:=fun i i1=>by
  refine KK_congr ?_
  rw[get,if_neg (by (first|lia|omega))]
 refine⟨?_,fun i hi'=>by rw[get,if_neg (by (first|lia|omega))],fun i j i1 ij j2=>?_⟩
 ·rw[Array.perm_iff_toList_perm,zEU hb,hb2]
  conv=>rhs;rw[zPY (xs:=xs) (u:=sa+k) (v:=sb) (c:=c) (by (first|lia|omega)) (by (first|lia|omega))]
  exact List.Perm.append_left _ (List.Perm.append_right _ mo.pm)
 ·by_cases p1:i<sa+k
  ·rw[kout i (.inl p1)]
   have il:=lo (i-sa) (by (first|lia|omega))
   rw[show sa+(i-sa)=i by (first|lia|omega)] at il
   by_cases p2:j<sa+k
   ·rw[kout j (.inl p2)]
    exact ga i j i1 ij (by (first|lia|omega))
   by_cases p3:j<sb+c
   ·rw[kin j (by (first|lia|omega)) p3]
    obtain⟨u,u1,u2,u3⟩:=src (j-(sa+k)) (by (first|lia|omega))
    rw[u3]
    by_cases p4:u<sb
    ·exact ga i u i1 (by (first|lia|omega)) p4
    ·exact KeyOrd.kle_trans il (gb sb u (by (first|lia|omega)) (by (first|lia|omega)) (by (first|lia|omega)))
   ·rw[kout j (.inr (by (first|lia|omega)))]
    exact KeyOrd.kle_trans il (gb sb j (by (first|lia|omega)) (by (first|lia|omega)) j2)
  by_cases p2:i<sb+c
  ·rw[kin i (by (first|lia|omega)) p2]
   by_cases p3:j<sb+c
   ·rw[kin j (by (first|lia|omega)) p3]
    exact rs _ _ (by (first|lia|omega)) (by (first|lia|omega))
   ·rw[kout j (.inr (by (first|lia|omega)))]
    obtain⟨u,u1,u2,u3⟩:=src (i-(sa+k)) (by (first|lia|omega))
    rw[u3]
    by_cases p4:u<sb
    ·have:=hi (j-sb) (by (first|lia|omega)) (by (first|lia|omega))
     rw[show sb+(j-sb)=j by (first|lia|omega)] at this
     exact KeyOrd.kle_trans (ga u (sb-1) (by (first|lia|omega)) (by (first|lia|omega)) (by (first|lia|omega))) this
    ·exact gb u j (by (first|lia|omega)) (by (first|lia|omega)) j2
  ·rw[kout i (.inr (by (first|lia|omega))),kout j (.inr (by (first|lia|omega)))]
   exact gb i j (by (first|lia|omega)) ij j2
include L
theorem zHu{i:Nat}{z:SortSt}{Q:Bool→SortSt→Prop}{sa na pw sb nb pw2:Nat}(hz:kindOf z=kd)(hf:failedOf z=none)(pa:∀ p∈arrOf z,P p)(e1:(pendingOf z)[i]?=some (sa,na,pw))(e2:(pendingOf z)[i+1]?=some (sb,nb,pw2))(hab:sb=sa+na)(h1:1≤na)(h2:1≤nb)(hs:sb+nb≤(arrOf z).size)(ga:Seg κ (arrOf z) sa sb)(gb:Seg κ (arrOf z) sb (sb+nb))
  (h:∀ z',kindOf z'=kd→failedOf z'=none→pendingOf z'=((pendingOf z).setIfInBounds i (sa,na+nb,pw)).eraseIdxIfInBounds (i+1)→Mg κ (arrOf z) (arrOf z') sa (sb+nb)→Q true z'):wpS (model prog w) A E s (mergeAt' i) Q z:=by
 refine wpS_bind (wpS_get ?_)
 rw[e1,e2]
 dsimp only
 refine wpS_bind (zMI ?_)
 have jb:sb<(arrOf z).size:=by (first|lia|omega)
 refine wpS_bind (m:=elem' (arrOf z) sb) (zW (getElem?_pos _ sb jb) ?_)
 refine wpS_bind (m:=zAC false (arrOf z)[sb] (arrOf z) sa na 0) (wD L (B:=fun t=>!κ.blt (KK κ (arrOf z) sb) (KK κ (arrOf z) (sa+t))) hz (pa _ (Array.getElem_mem jb)) pa (by (first|lia|omega)) (by (first|lia|omega)) (fun t t1 t2=>by rw[if_neg (by simp),← za t1,← za jb]) (fun t u tu un q=>?_) fun k tk=>?_)
 ·simp only[Bool.not_eq_true'] at q ⊢
  exact KeyOrd.kle_trans (ga _ _ (by (first|lia|omega)) (by (first|lia|omega)) (by (first|lia|omega))) q
 dsimp only
 have lo:∀ t,t<k→κ.kle (KK κ (arrOf z) (sa+t)) (KK κ (arrOf z) sb):=fun t t1=>by
  have q:=tk.yes t t1
  rw[Bool.not_eq_true'] at q
  exact q
 have lk:=tk.le
 by_cases c1:na-k=0
 ·rw[if_pos (by simpa using c1)]
  refine wpS_pure (h _ hz hf rfl ⟨Array.Perm.refl _,fun u0 u0=>rfl,fun i j i1 ij j2=>?_⟩)
  show κ.kle (KK κ (arrOf z) i) (KK κ (arrOf z) j)
  by_cases p1:i<sb
  ·by_cases p2:j<sb
   ·exact ga i j i1 ij p2
   ·have:=lo (i-sa) (by (first|lia|omega))
    rw[show sa+(i-sa)=i by (first|lia|omega)] at this
    exact KeyOrd.kle_trans this (gb sb j (by (first|lia|omega)) (by (first|lia|omega)) j2)
  ·exact gb i j (by (first|lia|omega)) ij j2
 rw[if_neg (by simpa using c1)]
 have ja:sa+k+(na-k)-1<(arrOf z).size:=by (first|lia|omega)
 refine wpS_bind (m:=elem' (arrOf z) (sa+k+(na-k)-1)) (zW (getElem?_pos (arrOf z) _ ja) ?_)
 have ej:sa+k+(na-k)-1=sb-1:=by (first|lia|omega)
 refine wpS_bind (m:=zAC true (arrOf z)[sa+k+(na-k)-1] (arrOf z) sb nb (nb-1)) (wD L (B:=fun t=>κ.blt (KK κ (arrOf z) (sb+t)) (KK κ (arrOf z) (sb-1))) hz (pa _ (Array.getElem_mem ja)) pa (by (first|lia|omega)) (by (first|lia|omega)) (fun t t1 t2=>by rw[if_pos rfl,← za t1,← za ja,ej]) (fun t u tu un q=>KeyOrd.klt_of_kle_of_klt (gb _ _ (by (first|lia|omega)) (by (first|lia|omega)) (by (first|lia|omega))) q) fun c tc=>?_)
 dsimp only
 have lc:=tc.le
 have hi:∀ t,c≤t→t<nb→κ.kle (KK κ (arrOf z) (sb-1)) (KK κ (arrOf z) (sb+t)):=fun t t1 t2=>tc.no t t1 t2
 by_cases c2:c=0
 ·rw[if_pos (by simpa using c2)]
  refine wpS_pure (h _ hz hf rfl ⟨Array.Perm.refl _,fun u0 u0=>rfl,fun i j i1 ij j2=>?_⟩)
  show κ.kle (KK κ (arrOf z) i) (KK κ (arrOf z) j)
  by_cases p1:i<sb
  ·by_cases p2:j<sb
   ·exact ga i j i1 ij p2
   ·have:=hi (j-sb) (by (first|lia|omega)) (by (first|lia|omega))
    rw[show sb+(j-sb)=j by (first|lia|omega)] at this
    exact KeyOrd.kle_trans (ga i (sb-1) i1 (by (first|lia|omega)) (by (first|lia|omega))) this
  ·exact gb i j (by (first|lia|omega)) ij j2
 rw[if_neg (by simpa using c2)]
 have px:∀ p∈(arrOf z).extract (sa+k) sb,P p:=fun p hp=>pa p (by
  rw[← Array.mem_toList_iff] at hp ⊢
  rw[Array.toList_extract,List.extract_eq_drop_take] at hp
  exact List.mem_of_mem_drop (List.mem_of_mem_take hp))
 have py:∀ p∈(arrOf z).extract sb (sb+c),P p:=fun p hp=>pa p (by
  rw[← Array.mem_toList_iff] at hp ⊢
  rw[Array.toList_extract,List.extract_eq_drop_take] at hp
  exact List.mem_of_mem_drop (List.mem_of_mem_take hp))
 have xs:((arrOf z).extract (sa+k) sb).size=sb-(sa+k):=by rw[Array.size_extract];(first|lia|omega)
 have ys:((arrOf z).extract sb (sb+c)).size=c:=by rw[Array.size_extract];(first|lia|omega)
 have ax:=zIe (κ:=κ) (xs:=arrOf z) (u:=sa+k) (v:=sb) (fun i j i1 ij j2=>ga i j (by (first|lia|omega)) ij j2) (by (first|lia|omega))
 have ay:=zIe (κ:=κ) (xs:=arrOf z) (u:=sb) (v:=sb+c) (fun i j i1 ij j2=>gb i j (by (first|lia|omega)) ij (by (first|lia|omega))) (by (first|lia|omega))
 have fs:∀ j,j<((arrOf z).extract (sa+k) sb).size→κ.kle (KK κ ((arrOf z).extract sb (sb+c)) 0) (KK κ ((arrOf z).extract (sa+k) sb) j):=fun j hj=>by
  rw[xs] at hj
  rw[zDH (by (first|lia|omega)) (by (first|lia|omega)),zDH (by (first|lia|omega)) (by (first|lia|omega))]
  have q:=tk.no (k+j) (by (first|lia|omega)) (by (first|lia|omega))
  rw[Bool.not_eq_false'] at q
  rw[Nat.add_zero,Nat.add_assoc]
  exact KeyOrd.kle_of_klt q
 have ls:∀ j,j<((arrOf z).extract sb (sb+c)).size→κ.kle (KK κ ((arrOf z).extract sb (sb+c)) j) (KK κ ((arrOf z).extract (sa+k) sb) (((arrOf z).extract (sa+k) sb).size-1)):=fun j hj=>by
  rw[ys] at hj
  rw[xs,zDH (by (first|lia|omega)) (by (first|lia|omega)),zDH (by (first|lia|omega)) (by (first|lia|omega)),show sa+k+(sb-(sa+k)-1)=sb-1 by (first|lia|omega)]
  exact KeyOrd.kle_of_klt (tc.yes j hj)
 have fin:∀(r:Array Keyed) (z':SortSt),MO κ ((arrOf z).extract (sa+k) sb) ((arrOf z).extract sb (sb+c)) r→Kp (SortSt.mk' (kindOf z) (arrOf z) (((pendingOf z).setIfInBounds i (sa,na+nb,pw)).eraseIdxIfInBounds (i+1)) (gallopOf z) (failedOf z)) z'→Q (failedOf z').isNone (setArr z' (zET (arrOf z') (sa+k) r.toList)):=fun r z' mo kp=>by
  rw[show(failedOf z').isNone=true by rw[kp.fl];show(failedOf z).isNone=true;rw[hf];rfl]
  refine h _ (kp.kd.trans hz) (kp.fl.trans hf) kp.pe ?_
  show Mg κ (arrOf z) (zET (arrOf z') (sa+k) r.toList) sa (sb+nb)
  rw[kp.ar]
  exact merged (by (first|lia|omega)) (by (first|lia|omega)) lc hs ga gb lo hi mo
 by_cases c3:na-k≤c
 ·rw[if_pos c3]
  refine wpS_bind (m:=zGk ((arrOf z).extract (sa+k) sb) ((arrOf z).extract sb (sb+c))) (zHs L hz px py (by (first|lia|omega)) (by (first|lia|omega)) ax ay fs ls fun r z' mo kp=>?_)
  exact wpS_bind (wpS_modify (wpS_bind (wpS_get (wpS_pure (fin r z' mo kp)))))
 ·rw[if_neg c3]
  refine wpS_bind (m:=zGl ((arrOf z).extract (sa+k) sb) ((arrOf z).extract sb (sb+c))) (zHt L hz px py (by (first|lia|omega)) (by (first|lia|omega)) ax ay fs ls fun r z' mo kp=>?_)
  exact wpS_bind (wpS_modify (wpS_bind (wpS_get (wpS_pure (fin r z' mo kp)))))
end
end HM
namespace HM
open PySem PySem.Spec PyProof.Rows HS
structure Ahd (lo:Nat) (z z':SortSt):Prop where
 pm:(arrOf z').Perm (arrOf z)
 kd:kindOf z'=kindOf z
 fl:failedOf z'=failedOf z
 pe:pendingOf z'=pendingOf z
 fr:∀ k,k<lo→(arrOf z')[k]?=(arrOf z)[k]?
theorem Ahd.refl(lo:Nat)(z:SortSt):Ahd lo z z:=⟨Array.Perm.refl _,rfl,rfl,rfl,fun u0 u0=>rfl⟩
theorem Ahd.sz{lo:Nat}{z z':SortSt}(h:Ahd lo z z'):(arrOf z').size=(arrOf z).size:=h.pm.size_eq
theorem Ahd.all{lo:Nat}{z z':SortSt}{P:Keyed→Prop}(h:Ahd lo z z')(p:∀ x∈arrOf z,P x):∀ x∈arrOf z',P x:=fun x hx=>p x (h.pm.mem_iff.mp hx)
theorem Ahd.rev{lo i j:Nat}{z z':SortSt}(h:Ahd lo z z')(hi:lo≤i)(hj:j≤(arrOf z').size):Ahd lo z (setArr z' (mirror (arrOf z') i j ((j-i) / 2))):=by
 refine⟨(mirror_perm _ _ _ _).trans h.pm,h.kd,h.fl,h.pe,fun k hk=>?_⟩
 show(mirror (arrOf z') i j ((j-i) / 2))[k]?=_
 rw[getElem?_mirror_all hj,if_neg (by (first|lia|omega))]
 exact h.fr k hk
theorem Ahd.down{lo i j:Nat}{z z':SortSt}(h:Ahd lo z z')(hi:lo≤i)(hij:i≤j)(hj:j<(arrOf z').size):Ahd lo z (setArr z' (bubble (arrOf z') j (j-i))):=by
 refine⟨(bubble_perm _ _ _).trans h.pm,h.kd,h.fl,h.pe,fun k hk=>?_⟩
 show(bubble (arrOf z') j (j-i))[k]?=_
 rw[getElem?_bubble hj (j-i) (by (first|lia|omega)),if_neg (by (first|lia|omega)),if_neg (by (first|lia|omega))]
 exact h.fr k hk
section
variable {κ:KeyKind}
noncomputable def Dsc(κ:KeyKind)(xs:Array Keyed)(lo hi:Nat):Prop:=∀ i j,lo≤i→i≤j→j<hi→κ.kle (KK κ xs j) (KK κ xs i)
theorem Seg.more{xs:Array Keyed}{lo hi:Nat}(u:Seg κ xs lo hi)(h:lo<hi→κ.kle (KK κ xs (hi-1)) (KK κ xs hi)):Seg κ xs lo (hi+1):=fun i j i1 ij jm=>by
 rcases Nat.lt_or_ge j hi with q | q
 ·exact u i j i1 ij q
 obtain rfl:j=hi:=by (first|lia|omega)
 rcases Nat.lt_or_ge i j with p | p
 ·exact KeyOrd.kle_trans (u i (j-1) i1 (by (first|lia|omega)) (by (first|lia|omega))) (h (by (first|lia|omega)))
 ·obtain rfl:i=j:=by (first|lia|omega)
  exact KeyOrd.kle_refl _
theorem Dsc.more{xs:Array Keyed}{lo hi:Nat}(u:Dsc κ xs lo hi)(h:lo<hi→κ.kle (KK κ xs hi) (KK κ xs (hi-1))):Dsc κ xs lo (hi+1):=fun i j i1 ij jm=>by
 rcases Nat.lt_or_ge j hi with q | q
 ·exact u i j i1 ij q
 obtain rfl:j=hi:=by (first|lia|omega)
 rcases Nat.lt_or_ge i j with p | p
 ·exact KeyOrd.kle_trans (h (by (first|lia|omega))) (u i (j-1) i1 (by (first|lia|omega)) (by (first|lia|omega)))
 ·obtain rfl:i=j:=by (first|lia|omega)
  exact KeyOrd.kle_refl _
theorem Dsc.congr{xs ys:Array Keyed}{lo hi:Nat}(e:∀ i,KK κ ys i=KK κ xs i)(u:Dsc κ xs lo hi):Dsc κ ys lo hi:=fun i j i1 ij jm=>by rw[e,e];exact u i j i1 ij jm
theorem Dsc.turn{xs:Array Keyed}{lo hi:Nat}(u:Dsc κ xs lo hi)(h:hi≤xs.size):Seg κ (mirror xs lo hi ((hi-lo) / 2)) lo hi:=fun i j i1 ij jm=>by
 rw[KK_mirror h,KK_mirror h,if_pos ⟨i1,by (first|lia|omega)⟩,if_pos ⟨by (first|lia|omega),jm⟩]
 exact u (lo+hi-1-j) (lo+hi-1-i) (by (first|lia|omega)) (by (first|lia|omega)) (by (first|lia|omega))
structure Fal (κ:KeyKind) (xs:Array Keyed) (lo m c:Nat):Prop where
 dn:Dsc κ xs lo (lo+m)
 le:c+1≤m
 eq:∀ i,lo+m-(c+1)≤i→i<lo+m→KK κ xs i=KK κ xs (lo+m-1)
theorem Fal.one{xs:Array Keyed}{lo m:Nat}(d:Dsc κ xs lo (lo+m))(h:1≤m):Fal κ xs lo m 0:=⟨d,h,fun i h1 h2=>by rw[show i=lo+m-1 by (first|lia|omega)]⟩
variable {prog:Program} {w:World} {A:Around} {E:Value→Shared→Prop} {s:Shared} {kd:SortKind} {P:Keyed→Prop}
variable (L:∀(z:SortSt) (x y:Keyed) (Q:Option Bool→SortSt→Prop),kindOf z=kd→P x→P y→Q (some (κ.blt (ky κ x) (ky κ y))) z→wpS (model prog w) A E s (lt' x y) Q z)
include L
theorem wR{i j:Nat}{z:SortSt}{Q:Option Bool→SortSt→Prop}(hz:kindOf z=kd)(pa:∀ p∈arrOf z,P p)(hi:i<(arrOf z).size)(hj:j<(arrOf z).size)(h:Q (some (κ.blt (KK κ (arrOf z) i) (KK κ (arrOf z) j))) z):wpS (model prog w) A E s (ltAt' i j) Q z:=by
 refine wpS_bind (wpS_get ?_)
 refine wpS_bind (m:=elem' (arrOf z) i) (zW (getElem?_pos (arrOf z) i hi) ?_)
 refine wpS_bind (m:=elem' (arrOf z) j) (zW (getElem?_pos (arrOf z) j hj) ?_)
 exact L _ _ _ _ hz (pa _ (Array.getElem_mem hi)) (pa _ (Array.getElem_mem hj)) (by rw[← za hi,← za hj];exact h)
theorem zGo{lo nrem:Nat}{z:SortSt}{Q:Option Nat→SortSt→Prop}(hz:kindOf z=kd)(pa:∀ p∈arrOf z,P p)(h1:1≤nrem)(hs:lo+nrem≤(arrOf z).size)
  (h:∀ n z',1≤n→n≤nrem→Ahd lo z z'→Seg κ (arrOf z') lo (lo+n)→Q (some n) z'):wpS (model prog w) A E s (countRun' lo nrem) Q z:=by
 refine wpS_bind (wpS_mono (wpS_forRange (β:=Option (Option Nat)×Nat) (I:=fun x c z'=>z'=z∧c=(none,x)∧Seg κ (arrOf z) lo (lo+x)) (Q:=fun c z'=>z'=z∧∃ n,c=(none,n)∧1≤n∧n≤nrem∧Seg κ (arrOf z) lo (lo+n)∧(n=nrem∨κ.klt (KK κ (arrOf z) (lo+n)) (KK κ (arrOf z) (lo+n-1)))) (fun x c z' x1 x2 ⟨e1,e2,u⟩=>?stp) (fun c z' ⟨e1,e2,u⟩=>?fin) ⟨rfl,rfl,fun i j i1 ij j2=>by obtain rfl:i=j:=(by (first|lia|omega));exact KeyOrd.kle_refl _⟩) fun c z' ⟨e1,n,e2,n1,n2,u,o⟩=>?pst)
 case fin =>
  rw[show max 1 nrem=nrem by (first|lia|omega)] at e2 u
  exact⟨e1,nrem,e2,h1,Nat.le_refl _,u,.inl rfl⟩
 case stp =>
  subst e1 e2
  refine wpS_bind (m:=ltAt' (lo+x) (lo+x-1)) (wR L hz pa (by (first|lia|omega)) (by (first|lia|omega)) ?_)
  dsimp only
  cases q:κ.blt (KK κ (arrOf z') (lo+x)) (KK κ (arrOf z') (lo+x-1)) with
  | true=>exact wpS_pure ⟨rfl,x,rfl,x1,by (first|lia|omega),u,.inr q⟩
  | false=>exact wpS_pure ⟨rfl,rfl,Seg.more u fun u0=>q⟩
 case pst =>
  subst e1 e2
  dsimp only
  by_cases e:n=nrem
  ·rw[if_pos (by simpa using e)]
   exact wpS_pure (h n z' n1 n2 (.refl _ _) u)
  rw[if_neg (by simpa using e)]
  have lt:=o.resolve_left e
  by_cases g:n>1
  ·rw[if_pos g]
   refine wpS_bind (m:=ltAt' lo (lo+n-1)) (wR L hz pa (by (first|lia|omega)) (by (first|lia|omega)) ?_)
   dsimp only
   cases q:κ.blt (KK κ (arrOf z') lo) (KK κ (arrOf z') (lo+n-1)) with
   | true=>exact wpS_pure (h n z' n1 n2 (.refl _ _) u)
   | false =>
    have sz:lo+n≤(arrOf z').size:=by (first|lia|omega)
    have al:∀ k,lo≤k→k<lo+n→KK κ (arrOf z') k=KK κ (arrOf z') (lo+n-1):=fun k k1 k2=>KeyOrd.kle_antisymm (u k (lo+n-1) k1 (by (first|lia|omega)) (by (first|lia|omega))) (KeyOrd.kle_trans q (u lo k (Nat.le_refl _) k1 k2))
    have d0:Dsc κ (arrOf z') lo (lo+n+1):=Dsc.more (fun i j i1 ij jn=>by rw[al i i1 (by (first|lia|omega)),al j (by (first|lia|omega)) jn];exact KeyOrd.kle_refl _) fun u0=>KeyOrd.kle_of_klt lt
    rw[if_neg (by simp)]
    refine wpS_bind (m:=reverseSlice' lo (lo+n)) (wpS_reverse ?_)
    have a1:=(Ahd.refl lo z').rev (i:=lo) (j:=lo+n) (Nat.le_refl _) sz
    have d1:Dsc κ (arrOf (setArr z' (mirror (arrOf z') lo (lo+n) ((lo+n-lo) / 2)))) lo (lo+(n+1)):=Dsc.congr (KK_mirror_equal sz al) d0
    generalize setArr z' (mirror (arrOf z') lo (lo+n) ((lo+n-lo) / 2))=z1 at a1 d1 ⊢
    refine wpS_bind (wpS_lift (wpAny_rule ⟨rfl,?_⟩))
    refine wpS_bind (wpS_mono (wpS_forRange (β:=Option (Option Nat)×Nat×Nat) (I:=fun x c z2=>∃ q,c=(none,x,q)∧Ahd lo z' z2∧Fal κ (arrOf z2) lo x q) (Q:=fun c z2=>∃ m q,c=(none,m,q)∧n+1≤m∧m≤nrem∧Ahd lo z' z2∧Fal κ (arrOf z2) lo m q) (fun m c z2 m1 m2 ⟨t,e3,a2,f2⟩=>?sp2) (fun c z2 ⟨t,e3,a2,f2⟩=>⟨nrem,t,by rw[e3,show max (n+1) nrem=nrem by (first|lia|omega)],by (first|lia|omega),Nat.le_refl _,a2,by rwa [show max (n+1) nrem=nrem by (first|lia|omega)] at f2⟩) ⟨0,rfl,a1,Fal.one d1 (by (first|lia|omega))⟩) fun c z2 ⟨m,t,e3,m1,m2,a2,f2⟩=>?ps2)
    case sp2 =>
     subst e3
     have s2:=a2.sz
     have fl2:=f2.le
     refine wpS_bind (m:=ltAt' (lo+m) (lo+m-1)) (wR L (a2.kd.trans hz) (a2.all pa) (by (first|lia|omega)) (by (first|lia|omega)) ?_)
     dsimp only
     cases q2:κ.blt (KK κ (arrOf z2) (lo+m)) (KK κ (arrOf z2) (lo+m-1)) with
     | true =>
      have d2:Dsc κ (arrOf z2) lo (lo+m+1):=Dsc.more f2.dn fun u0=>KeyOrd.kle_of_klt q2
      simp only[if_true]
      by_cases hc:t>0
      ·rw[if_pos hc]
       refine wpS_bind (m:=reverseSlice' (lo+m-(t+1)) (lo+m)) (wpS_reverse (wpS_pure ⟨0,rfl,a2.rev (by (first|lia|omega)) (by (first|lia|omega)),Fal.one ?_ (by (first|lia|omega))⟩))
       exact Dsc.congr (KK_mirror_equal (by (first|lia|omega)) f2.eq) d2
      ·rw[if_neg hc]
       exact wpS_pure ⟨0,rfl,a2,Fal.one d2 (by (first|lia|omega))⟩
     | false =>
      simp only[Bool.false_eq_true,if_false]
      refine wpS_bind (m:=ltAt' (lo+m-1) (lo+m)) (wR L (a2.kd.trans hz) (a2.all pa) (by (first|lia|omega)) (by (first|lia|omega)) ?_)
      dsimp only
      cases q3:κ.blt (KK κ (arrOf z2) (lo+m-1)) (KK κ (arrOf z2) (lo+m)) with
      | true=>exact wpS_pure ⟨m,t,rfl,m1,by (first|lia|omega),a2,f2⟩
      | false =>
       have ek:KK κ (arrOf z2) (lo+m)=KK κ (arrOf z2) (lo+m-1):=KeyOrd.kle_antisymm q3 q2
       simp only[Bool.false_eq_true,if_false]
       refine wpS_pure ⟨t+1,rfl,a2,Dsc.more f2.dn fun u0=>q3,by (first|lia|omega),fun i i1 i2=>?_⟩
       rw[show lo+(m+1)-1=lo+m by (first|lia|omega)]
       rcases Nat.lt_or_ge i (lo+m) with p | p
       ·rw[ek];exact f2.eq i (by (first|lia|omega)) p
       ·rw[show i=lo+m by (first|lia|omega)]
    case ps2 =>
     subst e3
     have s2:=a2.sz
     have fl2:=f2.le
     dsimp only
     by_cases hc:t>0
     ·rw[if_pos hc]
      refine wpS_bind (m:=reverseSlice' (lo+m-(t+1)) (lo+m)) (wpS_reverse ?_)
      have a4:=a2.rev (i:=lo+m-(t+1)) (j:=lo+m) (by (first|lia|omega)) (by (first|lia|omega))
      have d4:Dsc κ (arrOf (setArr z2 (mirror (arrOf z2) (lo+m-(t+1)) (lo+m) ((lo+m-(lo+m-(t+1))) / 2)))) lo (lo+m):=Dsc.congr (KK_mirror_equal (by (first|lia|omega)) f2.eq) f2.dn
      generalize setArr z2 (mirror (arrOf z2) (lo+m-(t+1)) (lo+m) ((lo+m-(lo+m-(t+1))) / 2))=z5 at a4 d4 ⊢
      have sw:=Ahd.sz a4
      refine wpS_bind (m:=reverseSlice' lo (lo+m)) (wpS_reverse ?_)
      have a3:=Ahd.rev (i:=lo) (j:=lo+m) a4 (Nat.le_refl _) (by (first|lia|omega))
      have u3:Seg κ (arrOf (setArr z5 (mirror (arrOf z5) lo (lo+m) ((lo+m-lo) / 2)))) lo (lo+m):=Dsc.turn d4 (by (first|lia|omega))
      generalize setArr z5 (mirror (arrOf z5) lo (lo+m) ((lo+m-lo) / 2))=z3 at a3 u3 ⊢
      have s3:=a3.sz
      refine wpS_bind (wpS_mono (wpS_forRange (β:=Option (Option Nat)×Nat) (I:=fun x c z4=>z4=z3∧c=(none,x)∧Seg κ (arrOf z3) lo (lo+x)) (Q:=fun c z4=>z4=z3∧∃ y,c=(none,y)∧m≤y∧y≤nrem∧Seg κ (arrOf z3) lo (lo+y)) (fun x c z4 x1 x2 ⟨y1,y2,y3⟩=>?_) (fun c z4 ⟨y1,y2,y3⟩=>⟨y1,nrem,by rw[y2,show max m nrem=nrem by (first|lia|omega)],m2,Nat.le_refl _,by rwa [show max m nrem=nrem by (first|lia|omega)] at y3⟩) ⟨rfl,rfl,u3⟩) fun c z4 ⟨y1,y,y2,y3,y4,y5⟩=>?_)
      ·subst y1 y2
       refine wpS_bind (m:=ltAt' (lo+x) (lo+x-1)) (wR L (a3.kd.trans hz) (a3.all pa) (by (first|lia|omega)) (by (first|lia|omega)) ?_)
       dsimp only
       cases q2:κ.blt (KK κ (arrOf z4) (lo+x)) (KK κ (arrOf z4) (lo+x-1)) with
       | true=>exact wpS_pure ⟨rfl,x,rfl,x1,by (first|lia|omega),y3⟩
       | false=>exact wpS_pure ⟨rfl,rfl,Seg.more y3 fun u0=>q2⟩
      ·subst y1 y2
       exact wpS_pure (h y z4 (by (first|lia|omega)) y4 a3 y5)
     ·rw[if_neg hc]
      have sw:=Ahd.sz a2
      refine wpS_bind (m:=reverseSlice' lo (lo+m)) (wpS_reverse ?_)
      have a3:=Ahd.rev (i:=lo) (j:=lo+m) a2 (Nat.le_refl _) (by (first|lia|omega))
      have u3:Seg κ (arrOf (setArr z2 (mirror (arrOf z2) lo (lo+m) ((lo+m-lo) / 2)))) lo (lo+m):=Dsc.turn f2.dn (by (first|lia|omega))
      generalize setArr z2 (mirror (arrOf z2) lo (lo+m) ((lo+m-lo) / 2))=z3 at a3 u3 ⊢
      have s3:=a3.sz
      refine wpS_bind (wpS_mono (wpS_forRange (β:=Option (Option Nat)×Nat) (I:=fun x c z4=>z4=z3∧c=(none,x)∧Seg κ (arrOf z3) lo (lo+x)) (Q:=fun c z4=>z4=z3∧∃ y,c=(none,y)∧m≤y∧y≤nrem∧Seg κ (arrOf z3) lo (lo+y)) (fun x c z4 x1 x2 ⟨y1,y2,y3⟩=>?_) (fun c z4 ⟨y1,y2,y3⟩=>⟨y1,nrem,by rw[y2,show max m nrem=nrem by (first|lia|omega)],m2,Nat.le_refl _,by rwa [show max m nrem=nrem by (first|lia|omega)] at y3⟩) ⟨rfl,rfl,u3⟩) fun c z4 ⟨y1,y,y2,y3,y4,y5⟩=>?_)
      ·subst y1 y2
       refine wpS_bind (m:=ltAt' (lo+x) (lo+x-1)) (wR L (a3.kd.trans hz) (a3.all pa) (by (first|lia|omega)) (by (first|lia|omega)) ?_)
       dsimp only
       cases q2:κ.blt (KK κ (arrOf z4) (lo+x)) (KK κ (arrOf z4) (lo+x-1)) with
       | true=>exact wpS_pure ⟨rfl,x,rfl,x1,by (first|lia|omega),y3⟩
       | false=>exact wpS_pure ⟨rfl,rfl,Seg.more y3 fun u0=>q2⟩
      ·subst y1 y2
       exact wpS_pure (h y z4 (by (first|lia|omega)) y4 a3 y5)
  ·rw[if_neg g]
   obtain rfl:n=1:=by (first|lia|omega)
   have a1:=Ahd.refl lo z'
   have d1:Dsc κ (arrOf z') lo (lo+(1+1)):=Dsc.more (hi:=lo+1) (fun i j i1 ij j2=>by obtain rfl:i=j:=(by (first|lia|omega));exact KeyOrd.kle_refl _) fun u0=>KeyOrd.kle_of_klt lt
   refine wpS_bind (wpS_lift (wpAny_rule ⟨rfl,?_⟩))
   refine wpS_bind (wpS_mono (wpS_forRange (β:=Option (Option Nat)×Nat×Nat) (I:=fun x c z2=>∃ q,c=(none,x,q)∧Ahd lo z' z2∧Fal κ (arrOf z2) lo x q) (Q:=fun c z2=>∃ m q,c=(none,m,q)∧1+1≤m∧m≤nrem∧Ahd lo z' z2∧Fal κ (arrOf z2) lo m q) (fun m c z2 m1 m2 ⟨t,e3,a2,f2⟩=>?sp2) (fun c z2 ⟨t,e3,a2,f2⟩=>⟨nrem,t,by rw[e3,show max (1+1) nrem=nrem by (first|lia|omega)],by (first|lia|omega),Nat.le_refl _,a2,by rwa [show max (1+1) nrem=nrem by (first|lia|omega)] at f2⟩) ⟨0,rfl,a1,Fal.one d1 (by (first|lia|omega))⟩) fun c z2 ⟨m,t,e3,m1,m2,a2,f2⟩=>?ps2)
   case sp2 =>
    subst e3
    have s2:=a2.sz
    have fl2:=f2.le
    refine wpS_bind (m:=ltAt' (lo+m) (lo+m-1)) (wR L (a2.kd.trans hz) (a2.all pa) (by (first|lia|omega)) (by (first|lia|omega)) ?_)
    dsimp only
    cases q2:κ.blt (KK κ (arrOf z2) (lo+m)) (KK κ (arrOf z2) (lo+m-1)) with
    | true =>
     have d2:Dsc κ (arrOf z2) lo (lo+m+1):=Dsc.more f2.dn fun u0=>KeyOrd.kle_of_klt q2
     simp only[if_true]
     by_cases hc:t>0
     ·rw[if_pos hc]
      refine wpS_bind (m:=reverseSlice' (lo+m-(t+1)) (lo+m)) (wpS_reverse (wpS_pure ⟨0,rfl,a2.rev (by (first|lia|omega)) (by (first|lia|omega)),Fal.one ?_ (by (first|lia|omega))⟩))
      exact Dsc.congr (KK_mirror_equal (by (first|lia|omega)) f2.eq) d2
     ·rw[if_neg hc]
      exact wpS_pure ⟨0,rfl,a2,Fal.one d2 (by (first|lia|omega))⟩
    | false =>
     simp only[Bool.false_eq_true,if_false]
     refine wpS_bind (m:=ltAt' (lo+m-1) (lo+m)) (wR L (a2.kd.trans hz) (a2.all pa) (by (first|lia|omega)) (by (first|lia|omega)) ?_)
     dsimp only
     cases q3:κ.blt (KK κ (arrOf z2) (lo+m-1)) (KK κ (arrOf z2) (lo+m)) with
     | true=>exact wpS_pure ⟨m,t,rfl,m1,by (first|lia|omega),a2,f2⟩
     | false =>
      have ek:KK κ (arrOf z2) (lo+m)=KK κ (arrOf z2) (lo+m-1):=KeyOrd.kle_antisymm q3 q2
      simp only[Bool.false_eq_true,if_false]
      refine wpS_pure ⟨t+1,rfl,a2,Dsc.more f2.dn fun u0=>q3,by (first|lia|omega),fun i i1 i2=>?_⟩
      rw[show lo+(m+1)-1=lo+m by (first|lia|omega)]
      rcases Nat.lt_or_ge i (lo+m) with p | p
      ·rw[ek];exact f2.eq i (by (first|lia|omega)) p
      ·rw[show i=lo+m by (first|lia|omega)]
   case ps2 =>
    subst e3
    have s2:=a2.sz
    have fl2:=f2.le
    dsimp only
    by_cases hc:t>0
    ·rw[if_pos hc]
     refine wpS_bind (m:=reverseSlice' (lo+m-(t+1)) (lo+m)) (wpS_reverse ?_)
     have a4:=a2.rev (i:=lo+m-(t+1)) (j:=lo+m) (by (first|lia|omega)) (by (first|lia|omega))
     have d4:Dsc κ (arrOf (setArr z2 (mirror (arrOf z2) (lo+m-(t+1)) (lo+m) ((lo+m-(lo+m-(t+1))) / 2)))) lo (lo+m):=Dsc.congr (KK_mirror_equal (by (first|lia|omega)) f2.eq) f2.dn
     generalize setArr z2 (mirror (arrOf z2) (lo+m-(t+1)) (lo+m) ((lo+m-(lo+m-(t+1))) / 2))=z5 at a4 d4 ⊢
     have sw:=Ahd.sz a4
     refine wpS_bind (m:=reverseSlice' lo (lo+m)) (wpS_reverse ?_)
     have a3:=Ahd.rev (i:=lo) (j:=lo+m) a4 (Nat.le_refl _) (by (first|lia|omega))
     have u3:Seg κ (arrOf (setArr z5 (mirror (arrOf z5) lo (lo+m) ((lo+m-lo) / 2)))) lo (lo+m):=Dsc.turn d4 (by (first|lia|omega))
     generalize setArr z5 (mirror (arrOf z5) lo (lo+m) ((lo+m-lo) / 2))=z3 at a3 u3 ⊢
     have s3:=a3.sz
     refine wpS_bind (wpS_mono (wpS_forRange (β:=Option (Option Nat)×Nat) (I:=fun x c z4=>z4=z3∧c=(none,x)∧Seg κ (arrOf z3) lo (lo+x)) (Q:=fun c z4=>z4=z3∧∃ y,c=(none,y)∧m≤y∧y≤nrem∧Seg κ (arrOf z3) lo (lo+y)) (fun x c z4 x1 x2 ⟨y1,y2,y3⟩=>?_) (fun c z4 ⟨y1,y2,y3⟩=>⟨y1,nrem,by rw[y2,show max m nrem=nrem by (first|lia|omega)],m2,Nat.le_refl _,by rwa [show max m nrem=nrem by (first|lia|omega)] at y3⟩) ⟨rfl,rfl,u3⟩) fun c z4 ⟨y1,y,y2,y3,y4,y5⟩=>?_)
     ·subst y1 y2
      refine wpS_bind (m:=ltAt' (lo+x) (lo+x-1)) (wR L (a3.kd.trans hz) (a3.all pa) (by (first|lia|omega)) (by (first|lia|omega)) ?_)
      dsimp only
      cases q2:κ.blt (KK κ (arrOf z4) (lo+x)) (KK κ (arrOf z4) (lo+x-1)) with
      | true=>exact wpS_pure ⟨rfl,x,rfl,x1,by (first|lia|omega),y3⟩
      | false=>exact wpS_pure ⟨rfl,rfl,Seg.more y3 fun u0=>q2⟩
     ·subst y1 y2
      exact wpS_pure (h y z4 (by (first|lia|omega)) y4 a3 y5)
    ·rw[if_neg hc]
     have sw:=Ahd.sz a2
     refine wpS_bind (m:=reverseSlice' lo (lo+m)) (wpS_reverse ?_)
     have a3:=Ahd.rev (i:=lo) (j:=lo+m) a2 (Nat.le_refl _) (by (first|lia|omega))
     have u3:Seg κ (arrOf (setArr z2 (mirror (arrOf z2) lo (lo+m) ((lo+m-lo) / 2)))) lo (lo+m):=Dsc.turn f2.dn (by (first|lia|omega))
     generalize setArr z2 (mirror (arrOf z2) lo (lo+m) ((lo+m-lo) / 2))=z3 at a3 u3 ⊢
     have s3:=a3.sz
     refine wpS_bind (wpS_mono (wpS_forRange (β:=Option (Option Nat)×Nat) (I:=fun x c z4=>z4=z3∧c=(none,x)∧Seg κ (arrOf z3) lo (lo+x)) (Q:=fun c z4=>z4=z3∧∃ y,c=(none,y)∧m≤y∧y≤nrem∧Seg κ (arrOf z3) lo (lo+y)) (fun x c z4 x1 x2 ⟨y1,y2,y3⟩=>?_) (fun c z4 ⟨y1,y2,y3⟩=>⟨y1,nrem,by rw[y2,show max m nrem=nrem by (first|lia|omega)],m2,Nat.le_refl _,by rwa [show max m nrem=nrem by (first|lia|omega)] at y3⟩) ⟨rfl,rfl,u3⟩) fun c z4 ⟨y1,y,y2,y3,y4,y5⟩=>?_)
     ·subst y1 y2
      refine wpS_bind (m:=ltAt' (lo+x) (lo+x-1)) (wR L (a3.kd.trans hz) (a3.all pa) (by (first|lia|omega)) (by (first|lia|omega)) ?_)
      dsimp only
      cases q2:κ.blt (KK κ (arrOf z4) (lo+x)) (KK κ (arrOf z4) (lo+x-1)) with
      | true=>exact wpS_pure ⟨rfl,x,rfl,x1,by (first|lia|omega),y3⟩
      | false=>exact wpS_pure ⟨rfl,rfl,Seg.more y3 fun u0=>q2⟩
     ·subst y1 y2
      exact wpS_pure (h y z4 (by (first|lia|omega)) y4 a3 y5)
theorem zHv{lo m ok:Nat}{z:SortSt}{Q:Bool→SortSt→Prop}(hz:kindOf z=kd)(pa:∀ p∈arrOf z,P p)(h1:1≤ok)(hok:ok≤m)(hs:lo+m≤(arrOf z).size)(u:Seg κ (arrOf z) lo (lo+ok))
  (h:∀ z',Ahd lo z z'→Seg κ (arrOf z') lo (lo+m)→Q true z'):wpS (model prog w) A E s (binarySort' lo m ok) Q z:=by
 refine wpS_bind (wpS_mono (wpS_forRange (β:=Option Bool×Unit) (I:=fun k c z'=>c=(none,())∧k≤m∧Ahd lo z z'∧Seg κ (arrOf z') lo (lo+k)) (Q:=fun c z'=>c=(none,())∧Ahd lo z z'∧Seg κ (arrOf z') lo (lo+m)) (fun k c z' k1 k2 ⟨e,km,a1,u'⟩=>?stp) (fun c z' ⟨e,km,a1,u'⟩=>?fin) ⟨rfl,by (first|lia|omega),.refl _ _,by rwa [show max ok 1=ok by (first|lia|omega)]⟩) fun c z' ⟨e,a1,u'⟩=>?pst)
 case fin=>exact⟨e,a1,by rwa [show max (max ok 1) m=m by (first|lia|omega)] at u'⟩
 case pst =>
  subst e
  exact wpS_pure (h z' a1 u')
 case stp =>
  subst e
  have s1:=a1.sz
  have hk:lo+k<(arrOf z').size:=by (first|lia|omega)
  refine wpS_bind (wpS_mono (wpS_forRange (β:=Option Bool×Nat×Nat) (I:=fun x c z''=>z''=z'∧∃ l r,c=(none,l,r)∧(l≤r∧r≤k∧r-l≤k-x)∧(∀ i,i<l→κ.kle (KK κ (arrOf z') (lo+i)) (KK κ (arrOf z') (lo+k)))∧∀ i,r≤i→i<k→κ.klt (KK κ (arrOf z') (lo+k)) (KK κ (arrOf z') (lo+i)))
   (Q:=fun c z''=>z''=z'∧∃ l,(∃ r,c=(none,l,r))∧l≤k∧(∀ i,i<l→κ.kle (KK κ (arrOf z') (lo+i)) (KK κ (arrOf z') (lo+k)))∧∀ i,l≤i→i<k→κ.klt (KK κ (arrOf z') (lo+k)) (KK κ (arrOf z') (lo+i))) (fun x c z'' x1 x2 ⟨e1,l,r,e2,⟨lr,rk,dx⟩,lw,hi⟩=>?is) (fun c z'' ⟨e1,l,r,e2,⟨lr,rk,dx⟩,lw,hi⟩=>?if_) ⟨rfl,0,k,rfl,⟨by (first|lia|omega),by (first|lia|omega),by (first|lia|omega)⟩,fun i q=>by (first|lia|omega),fun i q1 q2=>by (first|lia|omega)⟩) fun c z'' ⟨e1,l,⟨r,e2⟩,lk,lw,hi⟩=>?ip)
  case is =>
   subst e1 e2
   dsimp only
   by_cases g:l≥r
   ·rw[if_pos g]
    obtain rfl:l=r:=by (first|lia|omega)
    exact wpS_pure ⟨rfl,l,⟨_,rfl⟩,rk,lw,hi⟩
   ·rw[if_neg g]
    refine wpS_bind (m:=ltAt' (lo+k) (lo+(l+r) / 2)) (wR L (a1.kd.trans hz) (a1.all pa) hk (by (first|lia|omega)) ?_)
    dsimp only
    cases q:κ.blt (KK κ (arrOf z'') (lo+k)) (KK κ (arrOf z'') (lo+(l+r) / 2)) with
    | true=>exact wpS_pure ⟨rfl,l,(l+r) / 2,rfl,⟨by (first|lia|omega),by (first|lia|omega),by (first|lia|omega)⟩,lw,fun i i1 i2=>KeyOrd.klt_of_klt_of_kle q (u' _ _ (by (first|lia|omega)) (by (first|lia|omega)) (by (first|lia|omega)))⟩
    | false=>exact wpS_pure ⟨rfl,(l+r) / 2+1,r,rfl,⟨by (first|lia|omega),by (first|lia|omega),by (first|lia|omega)⟩,fun i i1=>KeyOrd.kle_trans (u' (lo+i) (lo+(l+r) / 2) (by (first|lia|omega)) (by (first|lia|omega)) (by (first|lia|omega))) (show κ.kle _ _ from q),hi⟩
  case if_ =>
   subst e1 e2
   obtain rfl:l=r:=by (first|lia|omega)
   exact⟨rfl,l,⟨_,rfl⟩,rk,lw,hi⟩
  case ip =>
   subst e1 e2
   refine wpS_bind (m:=moveDown' (lo+k) (lo+l)) ?_
   rw[moveDown'_eq]
   refine wpS_modify (wpS_pure ⟨rfl,by (first|lia|omega),a1.down (by (first|lia|omega)) (by (first|lia|omega)) hk,fun i j i1 ij jk=>?_⟩)
   show κ.kle (KK κ (bubble (arrOf z'') (lo+k) (lo+k-(lo+l))) i) (KK κ (bubble (arrOf z'') (lo+k) (lo+k-(lo+l))) j)
   rw[KK_bubble hk (by (first|lia|omega)),KK_bubble hk (by (first|lia|omega)),show lo+k-(lo+k-(lo+l))=lo+l by (first|lia|omega)]
   have lw':∀ t,lo≤t→t<lo+l→κ.kle (KK κ (arrOf z'') t) (KK κ (arrOf z'') (lo+k)):=fun t t1 t2=>by
    have:=lw (t-lo) (by (first|lia|omega))
    rwa [show lo+(t-lo)=t by (first|lia|omega)] at this
   have hi':∀ t,lo+l≤t→t<lo+k→κ.klt (KK κ (arrOf z'') (lo+k)) (KK κ (arrOf z'') t):=fun t t1 t2=>by
    have:=hi (t-lo) (by (first|lia|omega)) (by (first|lia|omega))
    rwa [show lo+(t-lo)=t by (first|lia|omega)] at this
   by_cases i2:i=lo+l
   ·rw[if_pos i2]
    by_cases j1:j=lo+l
    ·rw[if_pos j1];exact KeyOrd.kle_refl _
    ·rw[if_neg j1,if_pos ⟨by (first|lia|omega),by (first|lia|omega)⟩]
     exact KeyOrd.kle_of_klt (hi' (j-1) (by (first|lia|omega)) (by (first|lia|omega)))
   ·rw[if_neg i2]
    by_cases i3:lo+l<i∧i≤lo+k
    ·rw[if_pos i3,if_neg (by (first|lia|omega)),if_pos ⟨by (first|lia|omega),by (first|lia|omega)⟩]
     exact u' (i-1) (j-1) (by (first|lia|omega)) (by (first|lia|omega)) (by (first|lia|omega))
    ·rw[if_neg i3]
     by_cases j1:j=lo+l
     ·rw[if_pos j1];exact lw' i i1 (by (first|lia|omega))
     ·rw[if_neg j1]
      by_cases j2:lo+l<j∧j≤lo+k
      ·rw[if_pos j2];exact u' i (j-1) i1 (by (first|lia|omega)) (by (first|lia|omega))
      ·rw[if_neg j2];exact u' i j i1 ij (by (first|lia|omega))
end
end HM
namespace HM
open PySem PySem.Spec PyProof.Rows HS
section
variable {κ:KeyKind}
noncomputable def Runs(κ:KeyKind)(xs:Array Keyed):Nat→List (Nat×Nat×Nat)→Nat→Prop
 | lo,[],hi=>lo=hi
 | lo,t::r,hi=>t.1=lo∧1≤t.2.1∧Seg κ xs lo (lo+t.2.1)∧Runs κ xs (lo+t.2.1) r hi
theorem Runs.len{xs:Array Keyed}:∀ {p:List (Nat×Nat×Nat)} {lo hi:Nat},Runs κ xs lo p hi→p.length+lo≤hi
 | [],lo,hi,h=>by have:lo=hi:=h;simp;(first|lia|omega)
 | t::r,lo,hi,⟨_,h1,_,h2⟩=>by have:=Runs.len h2;rw[List.length_cons];(first|lia|omega)
theorem Runs.app{xs:Array Keyed}:∀ {p q:List (Nat×Nat×Nat)} {lo hi:Nat},Runs κ xs lo (p++q) hi↔∃ mid,Runs κ xs lo p mid∧Runs κ xs mid q hi
 | [],q,lo,hi=>⟨fun h=>⟨lo,rfl,h⟩,fun⟨mid,h1,h2⟩=>by have:lo=mid:=h1;subst this;exact h2⟩
 | t::r,q,lo,hi=>by
  constructor
  ·rintro⟨h1,h2,h3,h4⟩
   obtain⟨mid,h5,h6⟩:=Runs.app.mp h4
   exact⟨mid,⟨h1,h2,h3,h5⟩,h6⟩
  ·rintro⟨mid,⟨h1,h2,h3,h5⟩,h6⟩
   exact⟨h1,h2,h3,Runs.app.mpr ⟨mid,h5,h6⟩⟩
theorem Seg.congr{xs ys:Array Keyed}{lo hi:Nat}(e:∀ k,lo≤k→k<hi→ys[k]?=xs[k]?)(h:Seg κ xs lo hi):Seg κ ys lo hi:=fun i j i1 ij j2=>by
 rw[KK_congr (e i i1 (by (first|lia|omega))),KK_congr (e j (by (first|lia|omega)) j2)]
 exact h i j i1 ij j2
theorem Runs.congr{xs ys:Array Keyed}:∀ {p:List (Nat×Nat×Nat)} {lo hi:Nat},(∀ k,lo≤k→k<hi→ys[k]?=xs[k]?)→Runs κ xs lo p hi→Runs κ ys lo p hi
 | [],lo,hi,_,h=>h
 | t::r,lo,hi,e,⟨h1,h2,h3,h4⟩=>by
  have:=h4.len
  exact⟨h1,h2,h3.congr fun k k1 k2=>e k k1 (by (first|lia|omega)),Runs.congr (fun k k1 k2=>e k (by (first|lia|omega)) k2) h4⟩
theorem Runs.power{xs:Array Keyed}{f:Nat×Nat×Nat→Nat×Nat×Nat}(hf:∀ t,(f t).1=t.1∧(f t).2.1=t.2.1):∀ {p:List (Nat×Nat×Nat)} {lo hi i:Nat},Runs κ xs lo p hi→Runs κ xs lo (p.modify i f) hi
 | [],lo,hi,i,h=>by simpa using h
 | t::r,lo,hi,0,⟨h1,h2,h3,h4⟩=>by
  rw[List.modify_zero_cons]
  obtain⟨f1,f2⟩:=hf t
  exact⟨by rw[f1];exact h1,by rw[f2];exact h2,by rw[f2];exact h3,by rw[f2];exact h4⟩
 | t::r,lo,hi,i+1,⟨h1,h2,h3,h4⟩=>by
  rw[List.modify_succ_cons]
  exact⟨h1,h2,h3,Runs.power hf h4⟩
structure RS (κ:KeyKind) (a0:Array Keyed) (kd:SortKind) (lo:Nat) (z:SortSt):Prop where
 pm:(arrOf z).Perm a0
 kd:kindOf z=kd
 fl:failedOf z=none
 rn:Runs κ (arrOf z) 0 (pendingOf z).toList lo
theorem RS.ahd{a0:Array Keyed}{kd:SortKind}{lo:Nat}{z z':SortSt}(r:RS κ a0 kd lo z)(a:Ahd lo z z'):RS κ a0 kd lo z':=⟨a.pm.trans r.pm,a.kd.trans r.kd,a.fl.trans r.fl,by rw[a.pe];exact r.rn.congr fun k u0 k2=>a.fr k k2⟩
theorem zJi{p:List (Nat×Nat×Nat)}{i:Nat}(h:i+1<p.length):∃ p1 x y p2,p=p1++x::y::p2∧p1.length=i:=by
 refine⟨p.take i,p[i],p[i+1],p.drop (i+2),?_,by rw[List.length_take];(first|lia|omega)⟩
 rw[List.getElem_cons_drop,List.getElem_cons_drop,List.take_append_drop]
theorem zIf{p:Array (Nat×Nat×Nat)}{p1 p2:List (Nat×Nat×Nat)}{x y v:Nat×Nat×Nat}{i:Nat}(e:p.toList=p1++x::y::p2)(hi:p1.length=i):((p.setIfInBounds i v).eraseIdxIfInBounds (i+1)).toList=p1++v::p2:=by
 subst hi
 have h2:p1.length+1<(p.setIfInBounds p1.length v).size:=by
  rw[Array.size_setIfInBounds,← Array.length_toList,e]
  simp
 rw[Array.eraseIdxIfInBounds,dif_pos h2,Array.toList_eraseIdx,Array.toList_setIfInBounds,e,List.set_append_right _ _ (Nat.le_refl _),Nat.sub_self,List.set_cons_zero,List.eraseIdx_append_of_length_le (by (first|lia|omega))]
 rw[show p1.length+1-p1.length=1 by (first|lia|omega)]
 rfl
variable {prog:Program} {w:World} {A:Around} {E:Value→Shared→Prop} {s:Shared} {kd:SortKind} {P:Keyed→Prop} {a0:Array Keyed}
variable (L:∀(z:SortSt) (x y:Keyed) (Q:Option Bool→SortSt→Prop),kindOf z=kd→P x→P y→Q (some (κ.blt (ky κ x) (ky κ y))) z→wpS (model prog w) A E s (lt' x y) Q z)
include L
theorem zBA{i lo:Nat}{z:SortSt}{Q:Bool→SortSt→Prop}(pa:∀ p∈a0,P p)(r:RS κ a0 kd lo z)(hlo:lo≤a0.size)(hi:i+1<(pendingOf z).size)
  (h:∀ z',RS κ a0 kd lo z'→(pendingOf z').size+1=(pendingOf z).size→(∀ k,lo≤k→(arrOf z')[k]?=(arrOf z)[k]?)→Q true z'):wpS (model prog w) A E s (mergeAt' i) Q z:=by
 obtain⟨p1,x,y,p2,e,hl⟩:=zJi (p:=(pendingOf z).toList) (i:=i) (by simpa using hi)
 have rn:=r.rn
 rw[e] at rn
 obtain⟨mid,r1,q1,q2,q3,q4,q5,q6,q7⟩:=Runs.app.mp rn
 obtain⟨sa,na,pw⟩:=x
 obtain⟨sb,nb,pw2⟩:=y
 dsimp only at q1 q2 q3 q4 q5 q6 q7
 subst q1 q4
 have l7:=q7.len
 have sz:=r.pm.size_eq
 have e1:(pendingOf z)[i]?=some (sa,na,pw):=by
  rw[← Array.getElem?_toList,e,List.getElem?_append_right (by (first|lia|omega)),hl,Nat.sub_self]
  rfl
 have e2:(pendingOf z)[i+1]?=some (sa+na,nb,pw2):=by
  rw[← Array.getElem?_toList,e,List.getElem?_append_right (by (first|lia|omega)),hl,show i+1-i=1 by (first|lia|omega)]
  rfl
 refine zHu L r.kd r.fl (fun p hp=>pa p (r.pm.mem_iff.mp hp)) e1 e2 rfl q2 q5 (by (first|lia|omega)) q3 q6 fun z' k1 k2 k3 mg=>h z' ⟨mg.pm.trans r.pm,k1,k2,?_⟩ ?_ fun k hk=>mg.fr k (.inr (by (first|lia|omega)))
 ·rw[k3,zIf e hl]
  refine Runs.app.mpr ⟨sa,r1.congr fun k u0 k2=>mg.fr k (.inl k2),rfl,by show 1≤na+nb;(first|lia|omega),?_,?_⟩
  ·show Seg κ (arrOf z') sa (sa+(na+nb))
   rw[← Nat.add_assoc]
   exact mg.sg
  ·show Runs κ (arrOf z') (sa+(na+nb)) p2 lo
   rw[← Nat.add_assoc]
   exact q7.congr fun k k1 u0=>mg.fr k (.inr k1)
 ·have:=congrArg List.length (zIf (v:=(sa,na+nb,pw)) e hl)
  rw[← k3,Array.length_toList] at this
  rw[this,← Array.length_toList (xs:=pendingOf z),e]
  simp
  (first|lia|omega)
end
end HM
namespace HM
open PySem PySem.Spec PyProof.Rows HS
section
variable {κ:KeyKind} {prog:Program} {w:World} {A:Around} {E:Value→Shared→Prop} {s:Shared} {kd:SortKind} {P:Keyed→Prop} {a0:Array Keyed}
theorem zMK{c:Prop}[Decidable c]{a b m:Nat}(ha:a+1<m)(hb:b+1<m):(if c then a else b)+1<m:=by
 split
 ·exact ha
 ·exact hb
theorem RS.push{lo n pw:Nat}{z:SortSt}(r:RS κ a0 kd lo z)(u:Seg κ (arrOf z) lo (lo+n))(hn:1≤n):RS κ a0 kd (lo+n) (setPending z ((pendingOf z).push (lo,n,pw))):=by
 refine⟨r.pm,r.kd,r.fl,?_⟩
 show Runs κ (arrOf z) 0 ((pendingOf z).push (lo,n,pw)).toList (lo+n)
 rw[Array.toList_push]
 exact Runs.app.mpr ⟨lo,r.rn,rfl,hn,u,rfl⟩
theorem RS.repow{lo i:Nat}{z:SortSt}{f:Nat×Nat×Nat→Nat×Nat×Nat}(r:RS κ a0 kd lo z)(hf:∀ t,(f t).1=t.1∧(f t).2.1=t.2.1):RS κ a0 kd lo (setPending z ((pendingOf z).modify i f)):=by
 refine⟨r.pm,r.kd,r.fl,?_⟩
 show Runs κ (arrOf z) 0 ((pendingOf z).modify i f).toList lo
 rw[Array.toList_modify]
 exact r.rn.power hf
variable (L:∀(z:SortSt) (x y:Keyed) (Q:Option Bool→SortSt→Prop),kindOf z=kd→P x→P y→Q (some (κ.blt (ky κ x) (ky κ y))) z→wpS (model prog w) A E s (lt' x y) Q z)
include L
theorem zKs{z:SortSt}{Q:Unit→SortSt→Prop}(pa:∀ p∈a0,P p)(pm:(arrOf z).Perm a0)(hk:kindOf z=kd)(hf:failedOf z=none)(hp:pendingOf z=#[])(h1:1≤a0.size)
  (h:∀ z',(arrOf z').Perm a0→failedOf z'=none→SortedToK κ (arrOf z') a0.size→Q () z'):wpS (model prog w) A E s sortRuns' Q z:=by
 have sz:=pm.size_eq
 rw[sortRuns'_eq]
 refine wpS_bind (wpS_get ?_)
 dsimp only
 rw[sz]
 generalize minRun' a0.size a0.size 0=mr
 refine wpS_bind (wpS_mono (wpS_forRange (I:=fun x c z'=>∃ lo,c=(none,lo)∧lo≤a0.size∧(x≤lo∨lo=a0.size)∧RS κ a0 kd lo z') (Q:=fun c z'=>c=(none,a0.size)∧RS κ a0 kd a0.size z') (fun x c z1 x1 x2 ⟨lo,e1,l1,l2,r1⟩=>?stp) (fun c z1 ⟨lo,e1,l1,l2,r1⟩=>?fin) ⟨0,rfl,by (first|lia|omega),.inl (Nat.le_refl _),pm,hk,hf,by rw[hp];rfl⟩) fun c z1 ⟨e1,r1⟩=>?pst)
 case fin =>
  obtain rfl:lo=a0.size:=by (first|lia|omega)
  exact⟨e1,r1⟩
 case stp =>
  subst e1
  dsimp only
  by_cases g:lo≥a0.size
  ·rw[if_pos g]
   obtain rfl:lo=a0.size:=by (first|lia|omega)
   exact wpS_pure ⟨rfl,r1⟩
  rw[if_neg g]
  have s1:=r1.pm.size_eq
  refine wpS_bind (zGo L r1.kd (fun p q=>pa p (r1.pm.mem_iff.mp q)) (by (first|lia|omega)) (by (first|lia|omega)) fun n z2 n1 n2 a2 u2=>?_)
  have r2:=r1.ahd a2
  have s2:=r2.pm.size_eq
  dsimp only
  by_cases gn:n<mr
  ·rw[if_pos gn]
   refine wpS_bind (wpS_lift (wpAny_rule ⟨rfl,?_⟩))
   have fn:n≤min (a0.size-lo) mr:=by (first|lia|omega)
   have fs:lo+min (a0.size-lo) mr≤a0.size:=by (first|lia|omega)
   generalize min (a0.size-lo) mr=fc at fn fs
   refine wpS_bind (zHv L r2.kd (fun p q=>pa p (r2.pm.mem_iff.mp q)) n1 fn (by (first|lia|omega)) u2 fun z3 a3 u3=>?_)
   have r3:=r2.ahd a3
   rw[if_neg (by simp)]
   refine wpS_bind (wpS_get ?_)
   cases hb:(pendingOf z3).back? with
   | none=>exact wpS_bind (wpS_modify (wpS_pure ⟨lo+fc,rfl,by (first|lia|omega),by (first|lia|omega),r3.push u3 (by (first|lia|omega))⟩))
   | some t =>
    obtain⟨s1,n1,o1⟩:=t
    dsimp only
    refine wpS_bind (wpS_mono (wpS_forRange (I:=fun u0 c z'=>c=(none,())∧RS κ a0 kd lo z'∧Seg κ (arrOf z') lo (lo+fc)) (Q:=fun c z'=>c=(none,())∧RS κ a0 kd lo z'∧Seg κ (arrOf z') lo (lo+fc)) (fun x c z4 x1 x2 ⟨e4,r4,u4⟩=>?ms) (fun c z4 q=>q) ⟨rfl,r3,u3⟩) fun c z4 ⟨e4,r4,u4⟩=>?mp)
    case ms =>
     subst e4
     refine wpS_bind (wpS_get ?_)
     by_cases g2:(pendingOf z4).size>1
     ·rw[if_pos g2]
      rw[getElem?_pos (pendingOf z4) ((pendingOf z4).size-2) (by (first|lia|omega))]
      dsimp only
      split
      ·exact wpS_pure ⟨rfl,r4,u4⟩
      ·refine wpS_bind (zBA L pa r4 (by (first|lia|omega)) (by (first|lia|omega)) fun z5 r5 u0 f5=>?_)
       rw[if_neg (by simp)]
       exact wpS_pure ⟨rfl,r5,u4.congr fun k k1 u0=>f5 k k1⟩
     ·rw[if_neg g2]
      exact wpS_pure ⟨rfl,r4,u4⟩
    case mp =>
     subst e4
     dsimp only
     refine wpS_bind (wpS_modify (wpS_bind (wpS_modify (wpS_pure ⟨lo+fc,rfl,by (first|lia|omega),by (first|lia|omega),?_⟩))))
     refine RS.push (RS.repow r4 ?_) u4 (by (first|lia|omega))
     exact fun t=>⟨rfl,rfl⟩
  ·rw[if_neg gn]
   refine wpS_bind (wpS_get ?_)
   cases hb:(pendingOf z2).back? with
   | none=>exact wpS_bind (wpS_modify (wpS_pure ⟨lo+n,rfl,by (first|lia|omega),by (first|lia|omega),r2.push u2 (by (first|lia|omega))⟩))
   | some t =>
    obtain⟨s1,n1,o1⟩:=t
    dsimp only
    refine wpS_bind (wpS_mono (wpS_forRange (I:=fun u0 c z'=>c=(none,())∧RS κ a0 kd lo z'∧Seg κ (arrOf z') lo (lo+n)) (Q:=fun c z'=>c=(none,())∧RS κ a0 kd lo z'∧Seg κ (arrOf z') lo (lo+n)) (fun x c z4 x1 x2 ⟨e4,r4,u4⟩=>?ms) (fun c z4 q=>q) ⟨rfl,r2,u2⟩) fun c z4 ⟨e4,r4,u4⟩=>?mp)
    case ms =>
     subst e4
     refine wpS_bind (wpS_get ?_)
     by_cases g2:(pendingOf z4).size>1
     ·rw[if_pos g2]
      rw[getElem?_pos (pendingOf z4) ((pendingOf z4).size-2) (by (first|lia|omega))]
      dsimp only
      split
      ·exact wpS_pure ⟨rfl,r4,u4⟩
      ·refine wpS_bind (zBA L pa r4 (by (first|lia|omega)) (by (first|lia|omega)) fun z5 r5 u0 f5=>?_)
       rw[if_neg (by simp)]
       exact wpS_pure ⟨rfl,r5,u4.congr fun k k1 u0=>f5 k k1⟩
     ·rw[if_neg g2]
      exact wpS_pure ⟨rfl,r4,u4⟩
    case mp =>
     subst e4
     dsimp only
     refine wpS_bind (wpS_modify (wpS_bind (wpS_modify (wpS_pure ⟨lo+n,rfl,by (first|lia|omega),by (first|lia|omega),?_⟩))))
     refine RS.push (RS.repow r4 ?_) u4 (by (first|lia|omega))
     exact fun t=>⟨rfl,rfl⟩
 case pst =>
  subst e1
  dsimp only
  have ln:=r1.rn.len
  rw[Array.length_toList] at ln
  refine wpS_bind (wpS_mono (wpS_forRange (I:=fun x c z'=>c=(none,())∧RS κ a0 kd a0.size z'∧((pendingOf z').size+x≤a0.size∨(pendingOf z').size≤1)) (Q:=fun c z'=>c=(none,())∧RS κ a0 kd a0.size z'∧(pendingOf z').size≤1) (fun x c z4 x1 x2 ⟨e4,r4,o4⟩=>?ls) (fun c z4 ⟨e4,r4,o4⟩=>⟨e4,r4,by (first|lia|omega)⟩) ⟨rfl,r1,.inl (by (first|lia|omega))⟩) fun c z4 ⟨e4,r4,o4⟩=>?lp)
  case ls =>
   subst e4
   refine wpS_bind (wpS_get ?_)
   by_cases g2:(pendingOf z4).size≤1
   ·rw[if_pos g2]
    exact wpS_pure ⟨rfl,r4,g2⟩
   ·rw[if_neg g2]
    refine wpS_bind (zBA L pa r4 (Nat.le_refl _) (zMK (by (first|lia|omega)) (by (first|lia|omega))) fun z5 r5 q5 f5=>?_)
    rw[if_neg (by simp)]
    exact wpS_pure ⟨rfl,r5,by (first|lia|omega)⟩
  case lp =>
   subst e4
   refine wpS_pure (h z4 r4.pm r4.fl ?_)
   have rn:=r4.rn
   have lp:(pendingOf z4).toList.length≤1:=by simpa using o4
   match hpp:(pendingOf z4).toList,lp with
   | [],_ =>
    rw[hpp] at rn
    have:0=a0.size:=rn
    (first|lia|omega)
   | [t],_ =>
    rw[hpp] at rn
    obtain⟨t1,t2,t3,t4⟩:=rn
    have:0+t.2.1=a0.size:=t4
    rw[this] at t3
    exact fun i j ij ja=>t3 i j (Nat.zero_le _) ij ja
end
end HM
namespace HS
open PySem PySem.Spec PyProof.Rows
noncomputable def ltI:List Int→List Int→Bool
 | [],[]=>false
 | [],_::_=>true
 | _::_,[]=>false
 | a::r,b::t=>if a=b then ltI r t else decide (a<b)
theorem zIg:∀ a,ltI a a=false
 | []=>rfl
 | x::r=>by show(if x=x then ltI r r else _)=false;rw[if_pos rfl];exact zIg r
theorem zFV:∀ a b c,ltI a b=true→ltI b c=true→ltI a c=true
 | [],[],_,h,_=>by cases h
 | [],_::_,[],_,h=>by cases h
 | [],_::_,_::_,_,_=>rfl
 | _::_,[],_,h,_=>by cases h
 | _::_,_::_,[],_,h=>by cases h
 | x::a,y::b,z::c,h,h'=>by
  simp only[ltI] at h h' ⊢
  split at h<;>split at h'
  ·rename_i e1 e2;rw[if_pos (e1.trans e2)];exact zFV a b c h h'
  ·rename_i e1 e2;subst e1;rw[if_neg e2];exact h'
  ·rename_i e1 e2;subst e2;rw[if_neg e1];exact h
  ·simp only[decide_eq_true_eq] at h h'
   rw[if_neg (by (first|lia|omega))];simp;(first|lia|omega)
theorem zIh:∀ a b c,ltI a c=true→ltI a b=true∨ltI b c=true
 | [],[],_,h=>.inr h
 | [],_::_,_,_=>.inl rfl
 | _::_,_,[],h=>by cases h
 | _::_,[],_::_,_=>.inr rfl
 | x::a,y::b,z::c,h=>by
  simp only[ltI] at h ⊢
  split at h
  ·rename_i e1;subst e1
   by_cases e2:x=y
   ·subst e2;rw[if_pos rfl,if_pos rfl];exact zIh a b c h
   ·rw[if_neg e2,if_neg (Ne.symm e2)];simp;(first|lia|omega)
  ·rename_i e1
   simp only[decide_eq_true_eq] at h
   by_cases e2:x=y
   ·subst e2;right;rw[if_neg e1];simp;(first|lia|omega)
   ·by_cases e3:y=z
    ·subst e3;left;rw[if_neg e2];simp;(first|lia|omega)
    ·rw[if_neg e2,if_neg e3];simp;(first|lia|omega)
theorem zFz:∀ a b,ltI a b=false→ltI b a=false→a=b
 | [],[],_,_=>rfl
 | [],_::_,h,_=>by cases h
 | _::_,[],_,h=>by cases h
 | x::a,y::b,h,h'=>by
  simp only[ltI] at h h'
  by_cases e:x=y
  ·subst e;rw[if_pos rfl] at h h';rw[zFz a b h h']
  ·rw[if_neg e] at h;rw[if_neg (Ne.symm e)] at h'
   simp only[decide_eq_false_iff_not] at h h';(first|lia|omega)
noncomputable def tAt(h:Heap):Value→Option (List Int)
 | .ref a=>match h.get? a with
  | some o=>match o.data with
   | .seq its _=>some (its.toList.map numOf)
   | _=>none
  | none=>none
 | _=>none
noncomputable abbrev zAd(h:Heap):KeyKind where
 α:=List Int
 blt:=ltI
 irrefl:=zIg
 trans:=zFV
 negTrans:=zIh
 total:=zFz
 keyOf:=tAt h
 dflt:=[]
structure TI (h:Heap) (v:Value) (ns:List Int):Prop where
 ex:∃ a o its n,v=.ref a∧h.get? a=some o∧o.cls=.type "tuple"∧o.data=.seq its n∧IntsAre its.toList ns
 ne:ns≠[]
theorem TI.items{h:Heap}{v:Value}{ns:List Int}(t:TI h v ns):tAt h v=some ns:=by
 obtain⟨a,o,its,n,rfl,e,u0,d,i⟩:=t.ex
 unfold tAt
 simp only[e,d]
 rw[i.nums]
theorem zF0(b:Bool)(x y:Value):keyLt' (tuples' b) x y=(do
  let xs ← Builtin.List.listItems x;let ys ← Builtin.List.listItems y
  for ((p,q),i) in (xs.toList.zip ys.toList).zipIdx do
   if !(← eqBool p q) then return ← oneLt' (b&&i==0) p q
  return decide (xs.size<ys.size)):=rfl
section
variable {prog:Program} {w:World} {A:Around} {E:Value→Shared→Prop} {s:Shared}
theorem zHw{b:Bool}{i j:Int}{t u:Tok}{Q:Bool→Shared→Prop}(h:Q (decide (i<j)) s):wpAny (model prog w) A (oneLt' b (.int i t) (.int j u)) Q E s:=by
 cases b with
 | true=>exact oneLt_int h
 | false =>
  rw[oneLt'_eq]
  simp only[Bool.false_eq_true,if_false]
  refine wpAny_bind (m:=richCompare .Lt (.int i t) (.int j u)) (wpAny_lt_int ?_)
  exact wpAny_truthy_bool h
noncomputable def zDW:List Int→List Int→Option Bool
 | a::r,b::t=>if a=b then zDW r t else some (decide (a<b))
 | _,_=>none
theorem zGp:∀ ns ms,ltI ns ms=(zDW ns ms).getD (decide (ns.length<ms.length))
 | [],[]=>rfl
 | [],_::_=>by simp[ltI,zDW]
 | _::_,[]=>by simp[ltI,zDW]
 | a::r,b::t=>by
  simp only[ltI,zDW]
  split
  ·rw[zGp r t];simp
  ·rfl
theorem zIi{b:Bool}{Q:Option Bool×Unit→Shared→Prop}:∀(ps qs:List Value) (ns ms:List Int) (k:Nat),IntsAre ps ns→IntsAre qs ms→Q (zDW ns ms,()) s →
  wpAny (model prog w) A (forIn ((ps.zip qs).zipIdx k) ((none,()):Option Bool×Unit) fun x r=>do
   let e ← eqBool x.1.1 x.1.2
   if (!e)=true then do
    let c ← oneLt' (b&&x.2==0) x.1.1 x.1.2
    pure (ForInStep.done (some c,()))
   else pure (ForInStep.yield (none,()))) Q E s
 | _,_,_,_,k,.nil,_,h=>by
  simp only[List.zip_nil_left,List.zipIdx_nil,List.forIn_nil]
  exact wpAny_pure h
 | _,_,_,_,k,.cons a t i,.nil,h=>by
  simp only[List.zip_nil_right,List.zipIdx_nil,List.forIn_nil]
  exact wpAny_pure h
 | _,_,_,_,k,.cons a t i,.cons c u j,h=>by
  simp only[List.zip_cons_cons,List.zipIdx_cons,List.forIn_cons]
  refine wpAny_bind (wpAny_bind (wpAny_eqBool_int ?_))
  simp only[zDW] at h
  by_cases e:a=c
  ·subst e
   rw[if_pos rfl] at h
   rw[if_neg (by simp)]
   refine wpAny_pure ?_
   exact zIi _ _ _ _ (k+1) i j h
  ·rw[if_neg e] at h
   rw[if_pos (by simpa using e)]
   exact wpAny_bind (zHw (wpAny_pure (wpAny_pure h)))
theorem zJj{b:Bool}{x y:Value}{ns ms:List Int}{Q:Bool→Shared→Prop}(hx:TI s.heap x ns)(hy:TI s.heap y ms)(h:Q (ltI ns ms) s):wpAny (model prog w) A (keyLt' (tuples' b) x y) Q E s:=by
 obtain⟨a,o,its,n,rfl,e,u0,d,i⟩:=hx.ex
 obtain⟨a',o',its',n',rfl,e',u0,d',i'⟩:=hy.ex
 rw[zF0]
 refine wpAny_bind (listItems_at e d (wpAny_bind (listItems_at e' d' (wpAny_bind ?_))))
 refine zIi (Q:=_) its.toList its'.toList ns ms 0 i i' ?_
 rw[zGp] at h
 cases q:zDW ns ms with
 | some c =>
  rw[q] at h
  exact wpAny_pure h
 | none =>
  rw[q] at h
  refine wpAny_pure ?_
  have l1:=i.length
  have l2:=i'.length
  simp only[Array.length_toList] at l1 l2
  rw[l1,l2]
  exact h
theorem zJk{v:Value}{ns:List Int}{Q:Option Value→Shared→Prop}(hv:TI s.heap v ns)(h:∀ i t,Q (some (.int i t)) s):wpAny (model prog w) A (firstOfTuple' v) Q E s:=by
 obtain⟨a,o,its,n,rfl,e,c,d,i⟩:=hv.ex
 show wpAny _ _ (do
  if (← typeOf (.ref a)) != .type "tuple" then return none
  return (← Builtin.List.listItems (.ref a))[0]?) _ _ _
 refine wpAny_bind (wpAny_typeOf (T:="tuple") ⟨o,e,c⟩ ?_)
 rw[if_neg (by decide)]
 refine wpAny_bind (listItems_at e d (wpAny_pure ?_))
 obtain⟨l⟩:=its
 cases i with
 | nil=>exact absurd rfl hv.ne
 | cons k t r=>exact h k t
theorem zEV{Q:List (Option Value)→Shared→Prop}:∀(vs:List Value),(∀ v∈vs,∃ ns,TI s.heap v ns)→(∀ fs:List (Option Value),fs.length=vs.length→(∀ f∈fs,∃ i t,f=some (.int i t))→Q fs s)→wpAny (model prog w) A (vs.mapM firstOfTuple') Q E s
 | [],_,h=>by
  simp only[List.mapM_nil]
  exact wpAny_pure (h [] rfl (by simp))
 | v::r,hv,h=>by
  simp only[List.mapM_cons]
  obtain⟨ns,t⟩:=hv v (by simp)
  refine wpAny_bind (zJk t fun i t'=>wpAny_bind (zEV r (fun u hu=>hv u (by simp[hu])) fun fs hl hf=>wpAny_pure (h _ (by simp[hl]) fun f hm=>?_)))
  rcases List.mem_cons.mp hm with e | e
  ·exact⟨i,t',e⟩
  ·exact hf f e
theorem zBM:∀ {vs:List Value},(∀ v∈vs,∃ i t,v=.int i t)→vs.mapM typeOf=pure (vs.map fun u0=>Value.type "int")
 | [],_=>by simp
 | v::r,h=>by
  obtain⟨i,t,rfl⟩:=h v (by simp)
  rw[List.mapM_cons,zBM fun u hu=>h u (by simp[hu])]
  show(pure (Value.type "int")>>=fun b=>pure _>>=fun bs=>pure (b::bs))=_
  simp
theorem zAe:∀(fs:List (Option Value)),(∀ f∈fs,∃ i t,f=some (.int i t))→(∀ v∈fs.filterMap id,∃ i t,v=Value.int i t)∧(fs.filterMap id).length=fs.length
 | [],_=>⟨by simp,rfl⟩
 | f::r,h=>by
  obtain⟨i,t,rfl⟩:=h f (by simp)
  obtain⟨h1,h2⟩:=zAe r fun g hg=>h g (by simp[hg])
  simp only[List.filterMap_cons,id]
  exact⟨fun v hv=>by
   rcases List.mem_cons.mp hv with e | e
   ·exact⟨i,t,e⟩
   ·exact h1 v e,by simp[h2]⟩
theorem zGq{vs:List Value}{Q:SortKind→Shared→Prop}(h2:1≤vs.length)(hv:∀ v∈vs,∃ ns,TI s.heap v ns)(h:Q (tuples' true) s):wpAny (model prog w) A (keyKind' vs.toArray) Q E s:=by
 rw[keyKind'_eq]
 rw[List.mapM_toArray]
 refine wpAny_bind ?_
 rw[map_eq_pure_bind]
 refine wpAny_bind (zEV vs hv fun fs hl hf=>wpAny_pure ?_)
 rw[if_pos (by
  simp only[List.all_toArray,List.all_eq_true]
  intro f hm
  obtain⟨i,t,rfl⟩:=hf f hm
  rfl)]
 refine wpAny_bind (wpAny_rule (wpAny_bind ?_))
 obtain⟨q1,q2⟩:=zAe fs hf
 rw[oneTypeOnly'_eq]
 have e0:fs.toArray.filterMap id=(fs.filterMap id).toArray:=by simp
 rw[e0,List.mapM_toArray,zBM q1]
 simp only[map_pure,pure_bind]
 cases q:fs.filterMap id with
 | nil=>rw[q] at q2;simp at q2;(first|lia|omega)
 | cons u r =>
  have hall:((List.map (fun u0=>Value.type "int") (u::r)).toArray.all fun x=>x==Value.type "int")=true:=by
   simp only[List.all_toArray,List.all_map,List.all_eq_true]
   intro u0 u0;rfl
  have h0:(List.map (fun u0=>Value.type "int") (u::r)).toArray[0]?=some (Value.type "int"):=by simp
  rw[h0]
  simp only[hall,if_true]
  refine wpAny_pure (wpAny_pure ?_)
  exact h
theorem zBz{a:Addr}{vs:List Value}{n:Nat}{P:Fin→Shared→Prop}(ho:s.heap.get? a=some (seqObj "list" vs.toArray n))(hv:∀ v∈vs,(∃ ns,TI s.heap v ns)∧v≠.ref a)(h64:vs.length<10000)
  (h:∀ out:Array Value,out.toList.Perm vs→(∀ i j,i≤j→j<out.size→ltI ((tAt s.heap (out.getD j .none)).getD []) ((tAt s.heap (out.getD i .none)).getD [])=false)→P (.done (.ret .none)) { s with heap:=sortedHeap s.heap a vs out }) :
  wpAny (model prog w) A (Builtin.«list.sort» ⟨[.ref a],[]⟩) P E s:=by
 rw[list_sort_plain]
 have ha:a<s.heap.objs.size:=Heap.lt_size ho
 refine wpAny_bind (listItems_at ho rfl (wpAny_bind (listUpdate_at ho rfl ?_)))
 obtain⟨e1,ho1⟩:∃ e1,(s.heap.update a (Obj.mapSeq fun u0=>#[])).get? a=some (seqObj "list" #[] e1):=⟨_,get?_update_seq ho (fun u0=>#[])⟩
 refine wpAny_bind (seqEpoch_at ho1 rfl (wpAny_bind (wpAny_newTuple (wpAny_bind (wpAny_newList (wpAny_holding ?_))))))
 have up:∀ c o,c≠a→s.heap.get? c=some o→(((s.heap.update a (Obj.mapSeq fun u0=>#[])).push (seqObj "tuple" vs.toArray 0)).push (seqObj "list" #[] 0)).get? c=some o:=fun c o hc e=>Heap.get?_push_of_some _ (Heap.get?_push_of_some _ (by rw[Heap.get?_update_ne _ _ _ _ hc];exact e))
 have ho6:(((s.heap.update a (Obj.mapSeq fun u0=>#[])).push (seqObj "tuple" vs.toArray 0)).push (seqObj "list" #[] 0)).get? a=some (seqObj "list" #[] e1):=Heap.get?_push_of_some _ (Heap.get?_push_of_some _ ho1)
 show wpAny (model prog w) A _ P E { s with heap:=(((s.heap.update a (Obj.mapSeq fun u0=>#[])).push (seqObj "tuple" vs.toArray 0)).push (seqObj "list" #[] 0)) }
 generalize hg:((s.heap.update a (Obj.mapSeq fun u0=>#[])).push (seqObj "tuple" vs.toArray 0)).push (seqObj "list" #[] 0)=g at up ho6 ⊢
 have hv':∀ v∈vs,∃ ns,TI g v ns∧tAt s.heap v=some ns:=fun v hm=>by
  obtain⟨⟨ns,t⟩,na⟩:=hv v hm
  have t':=t
  obtain⟨⟨b,o,its,k,rfl,q1,q2,q3,q4⟩,ne⟩:=t
  exact⟨ns,⟨⟨b,o,its,k,rfl,up b o (fun z=>na (by rw[z])) q1,q2,q3,q4⟩,ne⟩,t'.items⟩
 dsimp only
 have fin:∀ z:SortSt,(arrOf z).Perm (pairsOf vs)→SortedToK (zAd g) (arrOf z) (pairsOf vs).size→P (.done (.ret .none)) { s with heap:=g.update a (Obj.mapSeq fun u0=>(arrOf z).map (·.2)) }:=by
  intro z pm st
  have pl:(arrOf z).toList.Perm (vs.zip vs):=by rw[← pairsOf_toList];exact Array.perm_iff_toList_perm.mp pm
  have mem:∀ p∈(arrOf z).toList,p.1=p.2∧p.1∈vs:=fun p hp=>mem_zip_self (pl.mem_iff.mp hp)
  have:=h ((arrOf z).map (·.2)) (by
   have q:=pl.map (·.2)
   rw[Array.toList_map]
   refine q.trans (.of_eq ?_)
   rw[List.map_snd_zip (Nat.le_refl _)]) fun i j ij hj=>by
    have hj':j<(arrOf z).size:=by simpa using hj
    have hi':i<(arrOf z).size:=by (first|lia|omega)
    have q:=st i j ij (by rw[← pm.size_eq];exact hj')
    have gk:∀ k,(hk:k<(arrOf z).size)→KK (zAd g) (arrOf z) k=(tAt s.heap (((arrOf z).map (·.2)).getD k .none)).getD []:=fun k hk=>by
     obtain⟨m1,m2⟩:=mem _ (show(arrOf z)[k]∈(arrOf z).toList by simp)
     obtain⟨ns,t1,t2⟩:=hv' _ m2
     have e1:KK (zAd g) (arrOf z) k=ns:=by
      unfold KK
      rw[getElem?_pos _ k hk]
      show(tAt g (arrOf z)[k].1).getD []=ns
      rw[t1.items];rfl
     have e2:((arrOf z).map (·.2)).getD k .none=(arrOf z)[k].1:=by
      rw[m1];simp[Array.getD,hk]
     rw[e1,e2,t2];rfl
    rw[← gk i hi',← gk j hj']
    exact q
  unfold sortedHeap at this
  rw[hg] at this
  exact this
 have hsz:vs.toArray.size=vs.length:=by simp
 by_cases h2:vs.toArray.size<2
 ·rw[if_pos h2,if_pos h2]
  refine wpAny_bind (wpAny_pure ?_)
  rw[StateT.run_pure]
  refine wpAny_bind (wpAny_pure (wpAny_bind (seqEpoch_at ho6 rfl (wpAny_bind (listUpdate_at ho6 rfl ?_ (hsz2:=by rw[Array.size_map];show(pairsOf vs).size≤_;rw[pairsOf_size,sizeLine_eq];(first|lia|omega)))))))
  simp only[bne_self_eq_false,Bool.false_eq_true,if_false]
  refine wpAny_pure (fin (SortSt.mk' general' (vs.toArray.zip vs.toArray) #[] 7 none) (Array.Perm.refl _) fun i j hij hj=>?_)
  obtain rfl:i=j:=by rw[pairsOf_size] at hj;(first|lia|omega)
  exact KeyOrd.kle_refl _
 ·rw[if_neg h2,if_neg h2]
  refine wpAny_bind (zGq (s:={ s with heap:=g }) (by (first|lia|omega)) (fun v hm=>by obtain⟨ns,t,u0⟩:=hv' v hm;exact⟨ns,t⟩) ?_)
  have L:∀(z:SortSt) (x y:Keyed) (Q:Option Bool→SortSt→Prop),kindOf z=tuples' true→x∈pairsOf vs→y∈pairsOf vs→Q (some ((zAd g).blt (HM.ky (zAd g) x) (HM.ky (zAd g) y))) z→wpS (model prog w) A E { s with heap:=g } (lt' x y) Q z:=by
   intro z x y Q b hi hj q
   have key:∀ p∈pairsOf vs,∃ ns,TI g p.1 ns∧HM.ky (zAd g) p=ns:=fun p hk=>by
    have hm:p∈vs.zip vs:=by rw[← pairsOf_toList];simpa using hk
    obtain⟨m1,m2⟩:=mem_zip_self hm
    obtain⟨ns,t,u0⟩:=hv' _ m2
    refine⟨ns,t,?_⟩
    unfold HM.ky
    show(tAt g p.1).getD []=ns
    rw[t.items];rfl
   obtain⟨ns,x2,x3⟩:=key x hi
   obtain⟨ms,y2,y3⟩:=key y hj
   rw[x3,y3] at q
   rw[lt'_eq]
   refine wpS_bind (wpS_get ?_)
   rw[b]
   exact wpS_bind (wpS_lift (wpAny_attempt (zJj (s:={ s with heap:=g }) x2 y2 ⟨rfl,wpS_pure q⟩)))
  refine wpAny_bind (wpAny_mono (HM.zKs (a0:=pairsOf vs) L (z:=SortSt.mk' (tuples' true) (vs.toArray.zip vs.toArray) #[] 7 none) (Q:=fun u0 z'=>(arrOf z').Perm (pairsOf vs)∧failedOf z'=none∧SortedToK (zAd g) (arrOf z') (pairsOf vs).size)
   (fun p hp=>hp) (Array.Perm.refl _) rfl rfl rfl (by rw[pairsOf_size];(first|lia|omega)) fun z' a1 a2 a3=>⟨a1,a2,a3⟩) ?_ fun u0 u0 e=>e)
  rintro⟨⟨⟩,z'⟩ s' ⟨e',pm,hf,st⟩
  subst e'
  dsimp only
  refine wpAny_bind (seqEpoch_at ho6 rfl (wpAny_bind (listUpdate_at ho6 rfl ?_ (hsz2:=by refine Nat.le_trans (Nat.le_of_eq ((Array.size_map ..).trans (pm.size_eq.trans (pairsOf_size _)))) ?_;rw[sizeLine_eq];(first|lia|omega)))))
  rw[hf]
  simp only[bne_self_eq_false,Bool.false_eq_true,if_false]
  exact wpAny_pure (fin z' pm st)
end
end HS
namespace HS
open PySem PySem.Spec PyProof.Rows
section
variable {prog:Program} {w:World} {A:Around} {E:Value→Shared→Prop} {s:Shared}
end
end HS
namespace L3
open PySem PySem.Spec PyProof.Rows L2 HS
section
variable {X:Cx} {e:Expr} {pos p:Pos} {tl:TL2}
noncomputable def tI(ns:List Int):D:=.tup (ns.map D.int)
end
end L3
namespace HT
open PySem PySem.Spec PyProof.Rows
section
variable {prog:Program} {w:World} {A:Around} {E:Value→Shared→Prop} {s:Shared}
end
end HT
namespace L3
open PySem PySem.Spec PyProof.Rows L2
section
variable {X:Cx} {a b c e o:Expr} {es:List Expr} {pos p:Pos} {ta tb te:zh}
end
end L3
namespace L3
open PySem PySem.Spec PyProof.Rows L2
section
variable {X:Cx} {a b c e o we:Expr} {es:List Expr} {pos p:Pos} {ta tb te tw:zh}
noncomputable def zOE(tc:TT2)(ta tb:zh):zh:=fun σ G R=>tc σ G fun z G1=>if z=true then ta σ G1 R else tb σ G1 R
theorem zO4{tc:TT2}(hc:T2 X c tc)(ha:E2 X a ta)(hb:E2 X b tb):E2 X (.IfExp c a b pos) (zOE tc ta tb):=by
 refine PE.mono (zJx hc ha hb) ?_
 rintro σ1 H Q ⟨σ,G,R,r,q,k⟩
 refine⟨σ,G,_,r,q,fun z G1 q1 H1 g1 r1=>?_⟩
 cases z with
 | true=>exact⟨σ,G1,R,r.to g1 r1,q1,fun d G' q' v H' g' r' d'=>k d G' q' v H' (g1.trans g') r' d'⟩
 | false=>exact⟨σ,G1,R,r.to g1 r1,q1,fun d G' q' v H' g' r' d'=>k d G' q' v H' (g1.trans g') r' d'⟩
end
end L3
namespace HI
open PySem PySem.Spec PyProof.Rows
noncomputable def yd(xs:Array Nat):Prop:=xs.toList.Pairwise (·<·)
theorem yd.lt{xs:Array Nat}(h:yd xs){i k:Nat}(ik:i<k)(hk:k<xs.size):xs[i]'(Nat.lt_trans ik hk)<xs[k]:=by
 have:=List.pairwise_iff_getElem.mp h i k (by simpa using Nat.lt_trans ik hk) (by simpa using hk) ik
 simpa using this
theorem zKt{xs:Array Nat}{j:Nat}(hr:yd xs):∀(fuel lo hi:Nat),hi≤xs.size→lo≤hi→hi-lo≤fuel→(∀ i,(q:i<xs.size)→i<lo→xs[i]<j)→(∀ i,(q:i<xs.size)→hi≤i→j≤xs[i]) →
  (∀ i,(q:i<xs.size)→i<SetTable.below.go xs j fuel lo hi→xs[i]<j)∧∀ i,(q:i<xs.size)→SetTable.below.go xs j fuel lo hi≤i→j≤xs[i]
 | 0,lo,hi,h1,h2,h3,a,b=>by
  unfold SetTable.below.go
  obtain rfl:lo=hi:=by (first|lia|omega)
  exact⟨fun i q e=>a i q e,fun i q e=>b i q e⟩
 | fuel+1,lo,hi,h1,h2,h3,a,b=>by
  unfold SetTable.below.go
  by_cases c:lo<hi
  ·rw[if_pos c]
   dsimp only
   have hm:(lo+hi) / 2<xs.size:=by (first|lia|omega)
   have eg:xs.getD ((lo+hi) / 2) j=xs[(lo+hi) / 2]:=by simp[Array.getD,hm]
   rw[eg]
   by_cases d:xs[(lo+hi) / 2]<j
   ·rw[if_pos d]
    refine zKt hr fuel ((lo+hi) / 2+1) hi h1 (by (first|lia|omega)) (by (first|lia|omega)) (fun i q e=>?_) b
    rcases Nat.lt_or_ge i ((lo+hi) / 2) with z | z
    ·exact Nat.lt_trans (hr.lt z hm) d
    ·obtain rfl:i=(lo+hi) / 2:=by (first|lia|omega)
     exact d
   ·rw[if_neg d]
    refine zKt hr fuel lo ((lo+hi) / 2) (by (first|lia|omega)) (by (first|lia|omega)) (by (first|lia|omega)) a (fun i q e=>?_)
    rcases Nat.lt_or_ge ((lo+hi) / 2) i with z | z
    ·exact Nat.le_trans (Nat.not_lt.mp d) (Nat.le_of_lt (hr.lt z q))
    ·obtain rfl:i=(lo+hi) / 2:=by (first|lia|omega)
     exact Nat.not_lt.mp d
  ·rw[if_neg c]
   obtain rfl:lo=hi:=by (first|lia|omega)
   exact⟨fun i q e=>a i q e,fun i q e=>b i q e⟩
theorem zCo{xs:Array Nat}{j:Nat}(hr:yd xs):(∀ i,(q:i<xs.size)→i<SetTable.below xs j→xs[i]<j)∧∀ i,(q:i<xs.size)→SetTable.below xs j≤i→j≤xs[i]:=by
 unfold SetTable.below
 exact zKt hr xs.size 0 xs.size (Nat.le_refl _) (Nat.zero_le _) (by (first|lia|omega)) (fun i q e=>absurd e (Nat.not_lt_zero _)) (fun i q e=>absurd q (Nat.not_lt.mpr e))
theorem zDt{xs:Array Nat}{j:Nat}(hr:yd xs)(hn:xs[SetTable.below xs j]?≠some j):yd (SetTable.insertAt xs (SetTable.below xs j) j):=by
 obtain⟨b1,b2⟩:=zCo (j:=j) hr
 generalize SetTable.below xs j=p at *
 unfold yd
 rw[SetTable.toList_insertAt]
 have hd:∀ a∈xs.toList.drop p,j<a:=fun a ha=>by
  obtain⟨i,hi,rfl⟩:=List.mem_iff_getElem.mp ha
  rw[List.length_drop,Array.length_toList] at hi
  have hpi:p+i<xs.size:=by (first|lia|omega)
  rw[List.getElem_drop,Array.getElem_toList]
  have h1:=b2 (p+i) hpi (by (first|lia|omega))
  rcases Nat.eq_or_lt_of_le h1 with e | e
  ·exfalso
   cases i with
   | zero =>
    apply hn
    rw[getElem?_pos xs p (by (first|lia|omega))]
    congr 1
    simpa using e.symm
   | succ i =>
    have hp:p<xs.size:=by (first|lia|omega)
    have:=b2 p hp (Nat.le_refl _)
    have l:=hr.lt (i:=p) (k:=p+(i+1)) (by (first|lia|omega)) hpi
    (first|lia|omega)
  ·exact e
 have ht:∀ a∈xs.toList.take p,a<j:=fun a ha=>by
  obtain⟨i,hi,rfl⟩:=List.mem_iff_getElem.mp ha
  rw[List.length_take,Array.length_toList] at hi
  rw[List.getElem_take,Array.getElem_toList]
  exact b1 i (by (first|lia|omega)) (by (first|lia|omega))
 refine List.pairwise_append.mpr ⟨hr.sublist (List.take_sublist _ _),List.pairwise_cons.mpr ⟨hd,hr.sublist (List.drop_sublist _ _)⟩,fun a ha b hb=>?_⟩
 rcases List.mem_cons.mp hb with e | e
 ·rw[e];exact ht a ha
 ·exact Nat.lt_trans (ht a ha) (hd b e)
theorem zGr{t:SetTable}{j:Nat}(h:t.slot j=.empty∨t.slot j=.dummy):t.place[SetTable.below t.place j]?≠some j:=fun e=>by
 unfold SetTable.slot at h
 simp only[e,beq_self_eq_true,if_true] at h
 rcases h with h | h<;>cases h
theorem wn{β:Type}(f:Nat→Option β):∀ l:List Nat,((l.filterMap fun j=>(f j).map (j,·)).map (·.1)).Sublist l
 | []=>.slnil
 | a::r=>by
  rw[List.filterMap_cons]
  cases f a with
  | none=>exact .cons _ (wn f r)
  | some b=>exact .cons₂ _ (wn f r)
end HI
namespace HI
open PySem PySem.Spec PyProof.Rows
section
variable {prog:Program} {w:World} {A:Around} {E:Value→Shared→Prop} {s:Shared}
end
section
variable {prog:Program} {w:World} {A:Around} {R:Result→Shared→Prop} {I:Addr} {fp wr:List Addr} {G:Array GenState→Array GenState→Prop} {n:Nat} {P:Nat→Value→Prop} {St:Nat→Shared→Prop}
end
end HI
namespace HI
open PySem PySem.Spec PyProof.Rows
noncomputable abbrev wY(w:World):Bool:=!(w.params.followText "set-order")
noncomputable abbrev wy(w:World):Obj:={ cls:=.type "set",dict:=none,data:=.set #[] 0 (.fresh 0 0 (wY w)) }
section
variable {prog:Program} {w:World} {A:Around} {E:Value→Shared→Prop} {s:Shared}
theorem zAp(v:Value){Q1:Value→Shared→Prop}(h:Q1 (.ref s.heap.objs.size) { s with heap:=s.heap.push (wy w) }) :
  codeAny (model prog w) A (.call (.builtin "set.__new__") ⟨[.type "set",v],[]⟩) (wants Q1 E) s:=by
 refine codeAny_of_tree ?_
 show wpAny _ A.in1 (do checkBuiltinCall "set.__new__" ⟨[.type "set",v],[]⟩;again (.builtin "set.__new__" ⟨[.type "set",v],[]⟩)) _ _ s
 refine wpAny_bind (wpAny_of_eq (F.newCall_set_1 v) (wpAny_pure ⟨plainId_quiet F.plain_set_new _,codeAny_builtin F.entry_set_new ?_⟩))
 rw[Around.under_plainId F.plain_set_new _]
 unfold Builtin.«set.__new__» Builtin.Frozenset.newClass
 have hsub:=sub_set_self
 obtain⟨hp,g,d,tk,os⟩:=s
 dsimp only
 wp_walk
 refine wpAny_askSetting (wpAny_pure ?_)
 dsimp only
 simp only[newObj]
 exact wpAny_bind (wpAny_alloc (wpAny_pure (wpAny_pure h)))
end
end HI
namespace HI
open PySem PySem.Spec PyProof.Rows
theorem wS:Slot "set_iterator" "__next__" "set_iterator.__next__" :=
 .of (owner:="set_iterator") (n:="__next__") (by rw[typeLookup_type,builtinLookup_eq_fast];kernel_rfl) (by decide +kernel) (by decide +kernel) (by decide +kernel) (by first | exact .inl (by decide +kernel) | exact .inr (by decide +kernel)) (by rw[isSubtype_type];kernel_rfl)
theorem zFW:entryFor table "set_iterator.__next__"=some Builtin.«set_iterator.__next__»:=entryFor_of_tree (by kernel_rfl)
theorem zGs(v:Value):argsOk "set_iterator.__next__" ⟨[v],[]⟩:=by unfold argsOk;kernel_rfl
theorem zCp:entryFor table "set.__iter__"=some Builtin.«frozenset.__iter__»:=entryFor_alias (id':="frozenset.__iter__") (by kernel_rfl) rfl (by decide +kernel) (by kernel_rfl)
theorem zIj{α:Type}:∀(l:List α) (i:Nat) (h:i<l.length),([l[i]]++l.eraseIdx i).Perm l
 | a::r,0,_=>.refl _
 | a::r,i+1,h=>by
  have hi:i<r.length:=by simpa using h
  have q:=zIj r i hi
  show([r[i]]++(a::r.eraseIdx i)).Perm (a::r)
  exact(List.Perm.swap a r[i] _).trans (q.cons a)
theorem zIk{α:Type}(f:Nat→Nat):∀(n k:Nat) (l:List α) (out:Array α),l.length=n→(pickOrder.go f n k l out).toList.Perm (out.toList++l)
 | 0,k,l,out,h=>by
  have:l=[]:=List.length_eq_zero_iff.mp h
  subst this
  unfold pickOrder.go
  simp
 | n+1,k,l,out,h=>by
  unfold pickOrder.go
  have hi:f k%l.length<l.length:=Nat.mod_lt _ (by (first|lia|omega))
  rw[List.getElem?_eq_getElem hi]
  dsimp only
  refine(zIk f n (k+1) _ _ (by rw[List.length_eraseIdx_of_lt hi];(first|lia|omega))).trans ?_
  rw[Array.toList_push,List.append_assoc]
  refine List.Perm.append_left _ ?_
  exact zIj l _ hi
theorem zAq{α:Type}(f:Nat→Nat)(xs:Array α):(pickOrder f xs).toList.Perm xs.toList:=by
 unfold pickOrder
 simpa using zIk f xs.size 0 xs.toList #[] (by simp)
section
variable {prog:Program} {w:World} {A:Around} {E:Value→Shared→Prop} {s:Shared}
theorem zBe{Q:Bool→Shared→Prop}(h:Q (w.params.followText "set-order") s):wpAny (model prog w) A setsByText Q E s:=by
 unfold setsByText
 exact wpAny_bind (wpAny_askSetting (wpAny_pure h))
noncomputable abbrev wz(f:Value)(i:Int)(a:Addr)(n:Nat)(ep:Nat):Obj:={ cls:=.type "set_iterator",dict:=none,data:=.fields #[f,rawInt i,.ref a,rawInt n,rawInt ep],slots:=#[] }
structure Sx (h:Heap) (a:Addr) (es:Array (Int×Value)) (ep:Nat) (t:SetTable):Prop where
 ex:∃ o,h.get? a=some o∧o.ExactSet∧o.data=.set es ep t
theorem Sx.keep{h h':Heap}{a:Addr}{es:Array (Int×Value)}{ep:Nat}{t:SetTable}(x:Sx h a es ep t)(k:∀ o,h.get? a=some o→h'.get? a=some o):Sx h' a es ep t:=let ⟨o,e,r⟩:=x.ex;⟨o,k o e,r⟩
noncomputable def Tells(prog:Program)(w:World)(a:Addr)(es:Array (Int×Value))(ep:Nat)(t:SetTable)(sl:Nat→Nat)(xs:List Value):Prop :=
 ∀(A:Around) (E:Value→Shared→Prop) (s:Shared) (i:Nat) (Q:Option (Value×Nat)→Shared→Prop),i≤xs.length→Sx s.heap a es ep t→Q ((xs[i]?).map fun v=>(v,sl (i+1))) s→wpAny (model prog w) A (setNext a (sl i) i ep) Q E s
theorem zBB{a:Addr}{es:Array (Int×Value)}{ep:Nat}{t:SetTable}(hf:t.fits es.size=true)(hb:w.params.followText "set-order"=true):Tells prog w a es ep t (fun u0=>0) ((pickOrder (w.params.setOrder a ep) es).toList.map (·.2)):=by
 intro A E s i Q hi hx h
 obtain⟨o,ho,u0,hd⟩:=hx.ex
 unfold setNext
 refine wpAny_bind (wpAny_setState_of ho hd hf ?_)
 dsimp only
 refine wpAny_bind (zBe ?_)
 rw[hb]
 simp only[↓reduceIte,bne_self_eq_false,Bool.false_eq_true]
 refine wpAny_bind ?_
 unfold setWalk
 refine wpAny_bind (wpAny_setState_of ho hd hf ?_)
 dsimp only
 refine wpAny_bind (zBe ?_)
 rw[hb]
 simp only[↓reduceIte]
 refine wpAny_bind (wpAny_askSetting (wpAny_pure (wpAny_pure ?_)))
 rw[List.getElem?_map,Option.map_map,Array.getElem?_toList] at h
 exact h
theorem below_at{xs:Array Nat}(hr:yd xs){i:Nat}(hi:i≤xs.size):(i<xs.size→SetTable.below xs (if i=0 then 0 else xs.getD (i-1) 0+1)=i)∧(i=xs.size→xs.size≤SetTable.below xs (if i=0 then 0 else xs.getD (i-1) 0+1)):=by
 generalize hj:(if i=0 then 0 else xs.getD (i-1) 0+1)=j
 obtain⟨b1,b2⟩:=zCo (j:=j) hr
 generalize SetTable.below xs j=p at b1 b2
 have lo:i≤p:=by
  rcases Nat.lt_or_ge p i with q | q
  ·exfalso
   have h1:=b2 p (by (first|lia|omega)) (Nat.le_refl _)
   rw[if_neg (by (first|lia|omega))] at hj
   have h0:i-1<xs.size:=by (first|lia|omega)
   have e:xs.getD (i-1) 0=xs[i-1]:=by simp[Array.getD,h0]
   rw[e] at hj
   rcases Nat.lt_or_ge p (i-1) with z | z
   ·have:=hr.lt z h0;(first|lia|omega)
   ·have e2:p=i-1:=by (first|lia|omega)
    subst e2;(first|lia|omega)
  ·exact q
 refine⟨fun h=>?_,fun h=>by (first|lia|omega)⟩
 rcases Nat.lt_or_ge i p with q | q
 ·exfalso
  have h1:=b1 i h q
  by_cases z:i=0
  ·rw[if_pos z] at hj;(first|lia|omega)
  ·rw[if_neg z] at hj
   have h0:i-1<xs.size:=by (first|lia|omega)
   have e:xs.getD (i-1) 0=xs[i-1]:=by simp[Array.getD,h0]
   have:=hr.lt (i:=i-1) (k:=i) (by (first|lia|omega)) h
   (first|lia|omega)
 ·(first|lia|omega)
theorem zAf{a:Addr}{es:Array (Int×Value)}{ep:Nat}{t:SetTable}(hf:t.fits es.size=true)(hr:yd t.place)(hb:w.params.followText "set-order"=false)(hl:t.led=true)(hp:(!t.plain&&decide (es.size>1))=false) :
  Tells prog w a es ep t (fun i=>if i=0 then 0 else t.place.getD (i-1) 0+1) (es.toList.map (·.2)):=by
 intro A E s i Q hi hx h
 obtain⟨o,ho,u0,hd⟩:=hx.ex
 have hs:t.place.size=es.size:=by
  simp only[SetTable.fits,Bool.and_eq_true,beq_iff_eq] at hf
  exact hf.1
 unfold setNext
 refine wpAny_bind (wpAny_setState_of ho hd hf ?_)
 dsimp only
 refine wpAny_bind (zBe ?_)
 rw[hb]
 simp only[Bool.false_eq_true,↓reduceIte]
 refine wpAny_ite_split (fun q=>absurd (show(!t.plain&&decide (es.size>1))=true from q) (by rw[hp];decide)) (fun u0=>?_)
 refine wpAny_bind (wpAny_ite_split (fun q=>absurd q (by rw[hl];simp)) (fun u0=>wpAny_pure (wpAny_pure ?_)))
 rw[List.length_map,Array.length_toList] at hi
 obtain⟨b1,b2⟩:=below_at hr (i:=i) (by (first|lia|omega))
 rw[List.getElem?_map,Option.map_map,Array.getElem?_toList] at h
 rcases Nat.lt_or_ge i es.size with q | q
 ·rw[b1 (by (first|lia|omega)),getElem?_pos es i q,getElem?_pos t.place i (by (first|lia|omega))]
  rw[getElem?_pos es i q] at h
  have e:t.place.getD (i+1-1) 0=t.place[i]'(by (first|lia|omega)):=by simp[Array.getD,hs,q]
  have h':Q (some (es[i].2,if i+1=0 then 0 else t.place.getD (i+1-1) 0+1)) s:=h
  rw[if_neg (by (first|lia|omega)),e] at h'
  exact h'
 ·have hn:es[SetTable.below t.place (if i=0 then 0 else t.place.getD (i-1) 0+1)]?=none:=by
   rw[Array.getElem?_eq_none_iff]
   have:=b2 (by (first|lia|omega))
   (first|lia|omega)
  have hn2:es[i]?=none:=by rw[Array.getElem?_eq_none_iff];exact q
  rw[hn]
  rw[hn2] at h
  exact h
end
end HI
namespace HI
open PySem PySem.Spec PyProof.Rows
section
variable {prog:Program} {w:World} {A:Around} {E:Value→Shared→Prop} {s:Shared}
theorem zCq{a it:Addr}{es:Array (Int×Value)}{ep:Nat}{t:SetTable}{sl:Nat→Nat}{xs:List Value}(T:Tells prog w a es ep t sl xs)(hf:t.fits es.size=true)(hx:xs.length=es.size){i:Nat}(hi:i<es.size)(hit:s.heap.get? it=some (wz (rawInt (sl i)) i a es.size ep))(hS:Sx s.heap a es ep t)(hne:a≠it){Q:Option Value→Shared→Prop}
  (hQ:∀ h' v,xs[i]?=some v→h'.get? it=some (wz (rawInt (sl (i+1))) ((i+1:Nat):Int) a es.size ep)→(∀ b o,b≠it→s.heap.get? b=some o→h'.get? b=some o)→Q (some v) { s with heap:=h' }):wpAny (model prog w) A (pyNext (.ref it)) Q E s:=by
 have hT:s.TypeIs (.ref it) "set_iterator":=⟨_,hit,rfl⟩
 obtain⟨o,ho,u0,hd⟩:=hS.ex
 unfold pyNext
 refine wpAny_bind (wpAny_attempt (wpAny_callSpecial?_slot (name:=Str.ofString "__next__") hT wS (wpAny_call_entry wS hT zFW ?_ (zGs _))))
 unfold Builtin.«set_iterator.__next__»
 refine wpAny_bind (m:=slotArgs "__next__" 0 _) (wpAny_pure ?_)
 refine wpAny_bind (wpAny_fieldsOf hit rfl ?_)
 simp only[rawInt]
 refine wpAny_bind (wpAny_setEntries_of ho hd hf ?_)
 simp only[bne_self_eq_false,Bool.false_eq_true,↓reduceIte]
 simp only[Int.toNat_natCast]
 refine wpAny_bind (T _ _ _ i _ (by (first|lia|omega)) hS ?_)
 rw[List.getElem?_eq_getElem (show i<xs.length by (first|lia|omega))]
 refine wpAny_bind (wpAny_setField_rec hit (by simp) fun h1 e1 s1=>wpAny_bind (wpAny_setField_rec e1 (by simp) fun h2 e2 s2=>wpAny_pure ⟨_,rfl,wpAny_pure (hQ h2 xs[i] (List.getElem?_eq_getElem _) ?_ fun b o hb e=>s2.extBut _ _ hb (s1.extBut _ _ hb e))⟩))
 exact e2
theorem zML{B:Around}{z:Shared}{Q:Fin→Shared→Prop}{E':Value→Shared→Prop}(hh:B.handled=none)(h:∀ h' e,(∀ b o,z.heap.get? b=some o→h'.get? b=some o)→(∃ o,h'.get? e=some o∧o.cls=.type "StopIteration")→E' (.ref e) { z with heap:=h' }) :
  wpAny (model prog w) B (do raiseNew (← newExc (.type "StopIteration") [])) Q E' z:=by
 refine wpAny_bind ?_
 simp only[newExc,newTuple]
 refine wpAny_bind (wpAny_newObj_type (wpAny_bind (m:=firstArgMember _ _) (wpAny_of_eq (a:=Value.none) (by first | rfl | (simp only[firstArgMember];rfl)) (wpAny_newObj_type ?_ (by size_fits)))) (by size_fits))
 simp only[raiseNew]
 refine wpAny_bind (wpAny_handled ?_)
 rw[hh]
 exact wpAny_bind (wpAny_pure (wpAny_throw (h _ _ (fun b o e=>Heap.get?_push_of_some _ (Heap.get?_push_of_some _ e)) ⟨_,Heap.get?_push_size _ rfl,rfl⟩)))
theorem zDu{a it:Addr}{es:Array (Int×Value)}{ep:Nat}{t:SetTable}{sl:Nat→Nat}{xs:List Value}(hh:A.handled=none)(T:Tells prog w a es ep t sl xs)(hf:t.fits es.size=true)(hx:xs.length=es.size)(hit:s.heap.get? it=some (wz (rawInt (sl es.size)) es.size a es.size ep))(hS:Sx s.heap a es ep t){Q:Option Value→Shared→Prop}
  (hQ:∀ h',(∀ b o,b≠it→s.heap.get? b=some o→h'.get? b=some o)→Q none { s with heap:=h' }):wpAny (model prog w) A (pyNext (.ref it)) Q E s:=by
 have hT:s.TypeIs (.ref it) "set_iterator":=⟨_,hit,rfl⟩
 obtain⟨o,ho,u0,hd⟩:=hS.ex
 unfold pyNext
 refine wpAny_bind (wpAny_attempt (wpAny_callSpecial?_slot (name:=Str.ofString "__next__") hT wS (wpAny_call_entry wS hT zFW ?_ (zGs _))))
 unfold Builtin.«set_iterator.__next__»
 refine wpAny_bind (m:=slotArgs "__next__" 0 _) (wpAny_pure ?_)
 refine wpAny_bind (wpAny_fieldsOf hit rfl ?_)
 simp only[rawInt]
 refine wpAny_bind (wpAny_setEntries_of ho hd hf ?_)
 simp only[bne_self_eq_false,Bool.false_eq_true,↓reduceIte]
 simp only[Int.toNat_natCast]
 refine wpAny_bind (T _ _ _ es.size _ (by (first|lia|omega)) hS ?_)
 rw[List.getElem?_eq_none (show xs.length≤es.size by (first|lia|omega))]
 refine wpAny_bind (wpAny_setField_rec hit (by simp) fun h1 e1 s1=>?_)
 refine zML (by simpa using hh) fun h' e kp he=>?_
 obtain⟨oe,q1,q2⟩:=he
 refine wpAny_bind (wpAny_isInstance (T:="StopIteration") (b:=true) ⟨oe,q1,q2⟩ isSubtype_stop (wpAny_pure (hQ _ fun b o hb e=>kp _ _ (s1.extBut _ _ hb e))))
end
end HI
namespace HI
open PySem PySem.Spec PyProof.Rows
theorem zGt:Slot "set_iterator" "__iter__" "set_iterator.__iter__" :=
 .of (owner:="set_iterator") (n:="__iter__") (by rw[typeLookup_type,builtinLookup_eq_fast];kernel_rfl) (by decide +kernel) (by decide +kernel) (by decide +kernel) (by first | exact .inl (by decide +kernel) | exact .inr (by decide +kernel)) (by rw[isSubtype_type];kernel_rfl)
theorem zJl:entryFor table "set_iterator.__iter__"=some Builtin.«dict_keyiterator.__iter__» :=
 entryFor_alias (id':="dict_keyiterator.__iter__") (by kernel_rfl) (by first | rfl | decide +kernel | (unfold String.splitOn;simp +decide [String.splitOnAux])) (by decide +kernel) (by kernel_rfl)
theorem zKu(v:Value):argsOk "set_iterator.__iter__" ⟨[v],[]⟩:=by unfold argsOk;kernel_rfl
section
variable {prog:Program} {w:World} {A:Around} {E:Value→Shared→Prop} {s:Shared}
theorem zCr{it:Addr}{f:Value}{i:Int}{a:Addr}{n ep:Nat}{Q:Value→Shared→Prop}(h:s.heap.get? it=some (wz f i a n ep))(q:Q (.ref it) s):wpAny (model prog w) A (pyIter (.ref it)) Q E s:=by
 have hT:s.TypeIs (.ref it) "set_iterator":=⟨_,h,rfl⟩
 refine wpAny_pyIter_slot hT zGt (wpAny_call_entry zGt hT zJl ?_ (zKu _))
 show wpAny _ _ (ret (.ref it)) _ _ s
 exact wpAny_pure ⟨_,rfl,"set_iterator",_,hT,wS.lookup,q⟩
end
end HI
namespace HI
open PySem PySem.Spec PyProof.Rows
section
variable {prog:Program} {w:World} {A:Around} {E:Value→Shared→Prop} {s:Shared}
theorem zAr{a:Addr}{o:Obj}{Q:Bool→Shared→Prop}(ho:s.heap.get? a=some o)(hc:o.cls=.type "set")(h:Q false s):wpAny (model prog w) A (Builtin.List.listLengthHint (.ref a)) Q E s:=by
 unfold Builtin.List.listLengthHint
 refine wpAny_bind (wpAny_specialOf ⟨o,ho,hc⟩ F.slot_set_len.lookup ?_)
 generalize hid:("set.__len__":String)=id0
 wp_delta
 rw[show splitId id0=some ("set","__len__") from by subst hid;decide +kernel]
 subst hid
 refine wpAny_bind (wpAny_isInstance (T:="set") (b:=true) ⟨o,ho,hc⟩ (by rw[isSubtype_type];kernel_rfl) ?_)
 refine wpAny_ite_split (fun hab=>absurd hab (by decide)) (fun u0=>?_)
 refine wpAny_ite_split (fun u0=>?_) (fun hab=>absurd (by decide +kernel) hab)
 exact wpAny_bind (wpAny_typeOf (T:="set") ⟨o,ho,hc⟩ (wpAny_pure h))
end
end HI
namespace L2
open PySem PySem.Spec PyProof.Rows HI
variable {X:Cx} {e:Expr} {t:TA} {p p2 pos pos2:Pos}
end L2
namespace L3
open PySem PySem.Spec PyProof.Rows L2
section
variable {X:Cx} {e:Expr} {p p2 pos pos2:Pos}
end
end L3
namespace HT2
open PySem
noncomputable abbrev Probe:=SetTable.Probe
noncomputable def adv(mask:Nat)(p:Probe):Probe :=
 if p.more>0 then { p with j:=p.j+1,more:=p.more-1 } else
 { p with j:=(SetTable.leap mask p.i p.perturb).1,more:=SetTable.runEnd mask (SetTable.leap mask p.i p.perturb).1-(SetTable.leap mask p.i p.perturb).1,i:=(SetTable.leap mask p.i p.perturb).1,perturb:=(SetTable.leap mask p.i p.perturb).2 }
noncomputable def zb(mask:Nat)(h:Int):Nat→Probe
 | 0=>{ j:=SetTable.bits h%(mask+1),more:=SetTable.runEnd mask (SetTable.bits h%(mask+1))-SetTable.bits h%(mask+1),i:=SetTable.bits h%(mask+1),perturb:=SetTable.bits h,dummy:=none }
 | n+1=>adv mask (zb mask h n)
noncomputable def lp(mask:Nat)(h:Int):Nat→Nat×Nat
 | 0=>(SetTable.bits h%(mask+1),SetTable.bits h)
 | n+1=>SetTable.leap mask (lp mask h n).1 (lp mask h n).2
section
variable {mask:Nat} {h:Int}
noncomputable def fM(M x:Nat):Nat:=(x*5+1)%M
noncomputable def itr(M:Nat):Nat→Nat→Nat
 | 0,x=>x
 | m+1,x=>fM M (itr M m x)
end
open HI (yd)
end HT2
namespace HT2
open PySem
open HI (yd)
end HT2
namespace HT2
open PySem PySem.Spec
open HI (yd)
section
variable {prog:Program} {w:World} {P:Addr→Prop} {A:Around} {E:Value→Shared→Prop} {s:Shared}
noncomputable abbrev hT(prog:Program)(w:World)(ns:List Int):Int:=tupleKeyHash (intKind prog w) ns
noncomputable def sf(es:Array (Int×Value))(i:Nat):Int:=(es[i]?.map (·.1)).getD 0
end
end HT2
namespace HT2
open PySem PySem.Spec
open HI (yd)
section
variable {t:SetTable} {es:Array (Int×Value)} {j:Nat} {h:Int} {x:Value}
end
section
variable {t:SetTable} {es:Array (Int×Value)} {i j:Nat}
end
end HT2
namespace HT2
open PySem PySem.Spec
open HI (yd)
section
variable {mask:Nat} {h:Int}
end
end HT2
namespace HT2
open PySem PySem.Spec
open HI (yd)
noncomputable def zKw:Value→Int
 | .int k _=>k
 | _=>0
noncomputable def kyT(h:Heap)(e:Int×Value):List Int:=match e.2 with
 | .ref c=>(match h.get? c with | some o=>(match o.data with | .seq its _=>its.toList.map zKw | _=>[]) | none=>[])
 | _=>[]
section
variable {prog:Program} {w:World} {P:Addr→Prop} {A:Around} {E:Value→Shared→Prop} {s:Shared}
end
end HT2
namespace HT2
open PySem PySem.Spec
open HI (yd)
section
variable {prog:Program} {w:World} {P:Addr→Prop} {A:Around} {E:Value→Shared→Prop} {s:Shared}
end
end HT2
namespace HT2
open PySem PySem.Spec PyProof.Rows
open HI (yd wy wY zAp)
section
variable {prog:Program} {w:World} {P:Addr→Prop} {A:Around} {R:Result→Shared→Prop} {h0:Heap} {S I:Addr} {fp wr:List Addr} {n:Nat} {its:Array Value} {val:Nat→List Int} {St:Nat→Heap→Prop} {g:Array GenState} {d:Drawn} {os:OsState}
end
end HT2
namespace HT2
open PySem PySem.Spec
open HI (yd)
section
variable {prog:Program} {w:World} {P:Addr→Prop} {A:Around} {E:Value→Shared→Prop} {s:Shared}
end
end HT2
namespace HT2
open PySem PySem.Spec
open HI (yd wy wY)
section
variable {prog:Program} {w:World} {P:Addr→Prop} {A:Around} {E:Value→Shared→Prop} {s:Shared}
end
end HT2
namespace HT2
open PySem PySem.Spec PyProof.Rows
open HI (yd wy wY zBe zAq)
section
variable {prog:Program} {w:World} {P:Addr→Prop} {A:Around} {E:Value→Shared→Prop} {s:Shared}
end
end HT2
namespace HT2
open PySem PySem.Spec PyProof.Rows
open HI (yd wy wY zAp)
section
variable {prog:Program} {w:World} {P:Addr→Prop} {A:Around} {E:Value→Shared→Prop} {s:Shared}
end
end HT2
namespace HT2
open PySem PySem.Spec PyProof.Rows
open HI (yd Sx Tells wz zCq zDu zCr zBe wS zCp zBB zAf zAq zAr)
section
variable {prog:Program} {w:World} {P:Addr→Prop} {A:Around} {E:Value→Shared→Prop} {s:Shared}
end
end HT2
namespace HT2
open PySem PySem.Spec PyProof.Rows
open HI (zAr)
open HS (TI tAt ltI zBz)
section
variable {prog:Program} {w:World} {P:Addr→Prop} {A:Around} {E:Value→Shared→Prop} {s:Shared}
end
end HT2
namespace HT2
open PySem PySem.Spec PyProof.Rows
section
variable {prog:Program} {w:World} {P:Addr→Prop} {A:Around} {E:Value→Shared→Prop} {s:Shared}
end
end HT2
namespace L2
open PySem PySem.Spec PyProof.Rows
end L2
namespace L3
open PySem PySem.Spec PyProof.Rows L2 HS
section
variable {X:Cx} {pins:List (Addr×Obj)} {σ:L2.St} {H:Hp} {s:Shared}
end
end L3
namespace L3
open PySem PySem.Spec PyProof.Rows L2 HS
end L3
namespace L3
open PySem PySem.Spec PyProof.Rows L2
section
variable {X:Cx} {elt iter:Expr} {pos:Pos} {te:zh} {ifs:List Expr} {sc:Scope} {N0:List Str} {wi:TI2} {tc:TT2}
end
end L3
namespace HZ
open PySem PySem.Spec PyProof.Rows
section
variable {prog:Program} {w:World} {A:Around} {E:Value→Shared→Prop} {s:Shared} {e it l:Addr} {xs:Array Value} (Z:Zs prog w it l xs)
end
end HZ
namespace L2
open PySem PySem.Spec PyProof.Rows HZ
end L2
namespace L3
open PySem PySem.Spec PyProof.Rows L2
end L3
namespace HZ
open PySem PySem.Spec PyProof.Rows
end HZ
namespace L2
open PySem PySem.Spec PyProof.Rows HZ
end L2
namespace L3
open PySem PySem.Spec PyProof.Rows L2
end L3
namespace HI
open PySem PySem.Spec PyProof.Rows
section
variable {prog:Program} {w:World} {A:Around} {E:Value→Shared→Prop} {s:Shared}
end
end HI
namespace L2
open PySem PySem.Spec PyProof.Rows HI
variable {X:Cx} {e:Expr} {t:TA} {p p2 pos pos2:Pos}
end L2
namespace L3
open PySem PySem.Spec PyProof.Rows L2
section
variable {X:Cx} {e:Expr} {p p2 pos pos2:Pos}
end
end L3
namespace L2
open PySem PySem.Spec PyProof.Rows
section
variable {X:Cx} {pos:Pos}
theorem zJm(hc:X.calm=true):yg X (.builtin "sum") (fun xs H Q=>∃(l:Addr) (ns:List Int),xs=[.ref l]∧SqL X.K H l (ns.map V.int)∧ns.length≤100∧(∀ a∈ns,0≤a∧a≤1000000)∧Q (.int ns.sum) H):=by
 intro pins s σ H xs us Q I r h
 obtain⟨l,ns,rfl,hs,hp,hb,q⟩:=h
 obtain⟨u,rfl,ru⟩:=vals1 r
 cases (show u=Value.ref l from ru)
 obtain⟨its,rv,pl,hz⟩:=I.list hs
 have hi:IntsAre its ns:=intsAre_of rv
 have ha:AllInts its.toArray:=hi.allInts
 have hn:numsOf its.toArray.toList=ns:=by rw[show its.toArray.toList=its from rfl,hi.numsOf]
 have hl:=pl.isList
 have hl2:its.length=ns.length:=hi.length
 have hz2:its.toArray.size=ns.length:=by simp;(first|lia|omega)
 generalize its.toArray=arr at ha hn hl hz2
 obtain⟨zs,rfl⟩:=ha.items
 rw[nums_intItems] at hn
 have hsz:zs.size=ns.length:=by simpa[intItems] using hz2
 have sm:∀(l:List Int),(∀ a∈l,0≤a∧a≤1000000)→0≤l.sum∧l.sum≤1000000*l.length:=fun l=>by
  induction l with
  | nil=>intro u0;simp
  | cons a r ih =>
   intro h
   have h1:=h a List.mem_cons_self
   have h2:=ih fun x hx=>h x (List.mem_cons_of_mem _ hx)
   rw[List.sum_cons,List.length_cons]
   (first|lia|omega)
 refine sum_intList (I.ok.hd hc) hl (fun j hj=>?_) fun h' tk t' hk=>?_
 ·have hm:numAt zs j∈ns:=by rw[← hn,numAt_eq];exact getD_mem (by rw[List.length_map,Array.length_toList];(first|lia|omega))
  have h1:=hb _ hm
  rw[preSum_eq]
  have h2:=sm ((zs.toList.map (·.1)).take (j+1)) fun a ha=>hb a (by rw[← hn];exact List.mem_of_mem_take ha)
  have h3:((zs.toList.map (·.1)).take (j+1)).length≤100:=by
   have:(zs.toList.map (·.1)).length=zs.size:=by simp
   rw[List.length_take,this];(first|lia|omega)
  unfold InLong
  exact⟨by constructor<;>(first|lia|omega),by constructor<;>(first|lia|omega)⟩
 ·refine⟨.int _,H,I.kept (t':=tk) hk,⟨_,rfl⟩,?_⟩
  rw[preSum_eq,List.take_of_length_le (by simp),hn]
  exact q
end
end L2
namespace L3
open PySem PySem.Spec PyProof.Rows L2
section
variable {X:Cx} {e o:Expr} {te to:zh} {t:wL} {tl:TL2} {pos p apos cpos:Pos}
noncomputable def zM0:Sp2:=fun ds G R=>∃ ns:List Int,ds=ns.map D.int∧ns.length≤100∧(∀ a∈ns,0≤a∧a≤1000000)∧R (.int ns.sum) G
theorem zMM(hc:X.calm=true)(hg:Gl X "sum")(hm:X.mg "sum"=none)(ha:F2 X e tl)(he:starEach [e] X.env=(false,eval e X.env)::starEach [] X.env:=by rfl)(hpl:(backTo pos (starEach [] X.env)).any (·.1)=false:=by rfl) :
  E2 X (.Call (.Name "sum" p) [e] [] pos) (zk zM0 tl):=zEA (zJm hc) (by
   rintro ds G R l xs H Q ⟨ns,rfl,hp,hb,h⟩ r e d k
   have:=d.ints_inv
   subst this
   exact⟨l,ns,rfl,.of e,hp,hb,k _ G h _ H (.refl H) r (by unfold zN;rfl)⟩) hg hm (by decide +kernel) ha (by decide) (by decide) he hpl
theorem zPa{st:Stmt}:P2 X st (fun u0 u0 u0=>False):=by
 rintro pins s σ H E I ⟨σ',G,D2,r,q,k⟩
 exact q.elim
end
end L3
namespace K
open PySem PySem.Spec PyProof.Rows L2 L3
theorem zFY{σ:S2}{G:Gp}{tl:TL2}{R:Q2}(h:tl σ G fun ds G1=>∀ l,G1.m l=none→R (.adr l) (zS G1 l ds)):zq tl σ G R:=h
theorem zMN{σ:S2}{G:Gp}{f:D→D→Gp→Q2→Prop}{ta tb:zh}{R:Q2}(h:ta σ G fun x G1=>tb σ G1 fun y G2=>f x y G2 R):zX f ta tb σ G R:=h
end K
namespace K
open PySem PySem.Spec PyProof.Rows L2 L3
section
variable {n:Nat} {q:Nat×Nat→Bool}
end
end K
namespace K
open PySem PySem.Spec PyProof.Rows L2 L3
section
variable {n:Nat} {q:Nat×Nat→Bool}
end
end K
namespace K
open PySem PySem.Spec PyProof.Rows L2 L3
theorem zDv:∀ l:List Int,HT.lexLt l l=false
 | []=>rfl
 | a::r=>by rw[HT.zAz,if_pos rfl,zDv r]
theorem zIl:∀ x y:List Int,HT.lexLt x y=false→HT.lexLt y x=false→x=y
 | [],[],_,_=>rfl
 | [],b::s,h,_=>by rw[HT.zAL] at h;cases h
 | a::r,[],_,h=>by rw[HT.zAL] at h;cases h
 | a::r,b::s,h,h'=>by
  rw[HT.zAz] at h h'
  by_cases e:a=b
  ·subst e
   rw[if_pos rfl] at h h'
   rw[zIl r s h h']
  ·rw[if_neg e] at h
   rw[if_neg (Ne.symm e)] at h'
   simp at h h'
   (first|lia|omega)
theorem zFZ:∀ x y z:List Int,HT.lexLt x y=true→HT.lexLt y z=true→HT.lexLt x z=true
 | [],[],_,h,_=>by cases h
 | [],b::s,[],_,h=>by cases h
 | [],b::s,c::t,_,_=>rfl
 | a::r,[],_,h,_=>by cases h
 | a::r,b::s,[],_,h=>by cases h
 | a::r,b::s,c::t,h,h'=>by
  rw[HT.zAz] at h h' ⊢
  by_cases e:a=b
  ·subst e
   rw[if_pos rfl] at h
   by_cases e2:a=c
   ·subst e2
    rw[if_pos rfl] at h' ⊢
    exact zFZ r s t h h'
   ·rw[if_neg e2] at h' ⊢
    exact h'
  ·rw[if_neg e] at h
   simp at h
   by_cases e2:b=c
   ·subst e2
    rw[if_neg e]
    simpa using h
   ·rw[if_neg e2] at h'
    simp at h'
    rw[if_neg (by (first|lia|omega))]
    simp
    (first|lia|omega)
noncomputable def zEi(m:List Int)(L:List (List Int)):Prop:=m∈L∧∀ x∈L,HT.lexLt x m=false
theorem zEi.uniq{m m':List Int}{L L':List (List Int)}(h:zEi m L)(h':zEi m' L')(e:∀ x,x∈L↔x∈L'):m=m' :=
 zIl m m' (h'.2 m ((e m).mp h.1)) (h.2 m' ((e m').mpr h'.1))
theorem zCu{m x:List Int}{L:List (List Int)}(h:zEi m L):zEi (zB6 m x) (L++[x]):=by
 unfold zB6
 cases q:HT.lexLt x m with
 | true =>
  rw[if_pos rfl]
  refine⟨by simp,fun y hy=>?_⟩
  rcases List.mem_append.mp hy with hy | hy
  ·cases q2:HT.lexLt y x with
   | false=>rfl
   | true=>have:=h.2 y hy;rw[zFZ y x m q2 q] at this;cases this
  ·rw[List.mem_singleton.mp hy];exact zDv x
 | false =>
  rw[if_neg (by simp)]
  refine⟨List.mem_append.mpr (.inl h.1),fun y hy=>?_⟩
  rcases List.mem_append.mp hy with hy | hy
  ·exact h.2 y hy
  ·rw[List.mem_singleton.mp hy];exact q
noncomputable def trn{α:Type}(l:List α)(b:Nat):List α:=l.drop b++l.take b
noncomputable def wo(l:List Int):Nat→List Int
 | 0=>l
 | b+1=>zB6 (zB6 (wo l b) (trn l b)) (trn l.reverse b)
noncomputable def zAT(l:List Int):List Int:=wo l l.length
noncomputable def yR(l:List Int):Nat→List Int
 | 0=>l
 | b+1=>zB6 (zB6 (yR l b) (trn l b)) (trn l b).reverse
noncomputable def zEj(l:List Int):Nat→List (List Int)
 | 0=>[l]
 | b+1=>(zEj l b++[trn l b])++[trn l.reverse b]
noncomputable def zCQ(l:List Int):Nat→List (List Int)
 | 0=>[l]
 | b+1=>(zCQ l b++[trn l b])++[(trn l b).reverse]
theorem zDY(l:List Int):∀ b,zEi (wo l b) (zEj l b)
 | 0=>⟨by simp[wo,zEj],fun x hx=>by simp[zEj] at hx;subst hx;exact zDv _⟩
 | b+1=>zCu (zCu (zDY l b))
theorem zCv(l:List Int):∀ b,zEi (yR l b) (zCQ l b)
 | 0=>⟨by simp[yR,zCQ],fun x hx=>by simp[zCQ] at hx;subst hx;exact zDv _⟩
 | b+1=>zCu (zCu (zCv l b))
theorem zFa{l x:List Int}:∀ {b:Nat},x∈zEj l b↔x=l∨∃ k,k<b∧(x=trn l k∨x=trn l.reverse k)
 | 0=>by simp[zEj]
 | b+1=>by
  unfold zEj
  rw[List.mem_append,List.mem_append,zFa (b:=b),List.mem_singleton,List.mem_singleton]
  constructor
  ·rintro(((h | ⟨k,h1,h2⟩) | h) | h)
   ·exact .inl h
   ·exact .inr ⟨k,by (first|lia|omega),h2⟩
   ·exact .inr ⟨b,by (first|lia|omega),.inl h⟩
   ·exact .inr ⟨b,by (first|lia|omega),.inr h⟩
  ·rintro(h | ⟨k,h1,h2⟩)
   ·exact .inl (.inl (.inl h))
   ·by_cases e:k=b
    ·subst e
     rcases h2 with h2 | h2
     ·exact .inl (.inr h2)
     ·exact .inr h2
    ·exact .inl (.inl (.inr ⟨k,by (first|lia|omega),h2⟩))
theorem zEk{l x:List Int}:∀ {b:Nat},x∈zCQ l b↔x=l∨∃ k,k<b∧(x=trn l k∨x=(trn l k).reverse)
 | 0=>by simp[zCQ]
 | b+1=>by
  unfold zCQ
  rw[List.mem_append,List.mem_append,zEk (b:=b),List.mem_singleton,List.mem_singleton]
  constructor
  ·rintro(((h | ⟨k,h1,h2⟩) | h) | h)
   ·exact .inl h
   ·exact .inr ⟨k,by (first|lia|omega),h2⟩
   ·exact .inr ⟨b,by (first|lia|omega),.inl h⟩
   ·exact .inr ⟨b,by (first|lia|omega),.inr h⟩
  ·rintro(h | ⟨k,h1,h2⟩)
   ·exact .inl (.inl (.inl h))
   ·by_cases e:k=b
    ·subst e
     rcases h2 with h2 | h2
     ·exact .inl (.inr h2)
     ·exact .inr h2
    ·exact .inl (.inl (.inr ⟨k,by (first|lia|omega),h2⟩))
theorem zEl{α:Type}(l:List α):trn l 0=l:=by simp[trn]
theorem zIm{α:Type}(l:List α){b:Nat}(h:b≤l.length):(trn l b).reverse=trn l.reverse (l.length-b):=by
 unfold trn
 rw[List.reverse_append,List.reverse_drop,List.reverse_take]
theorem zK0(l:List Int):yR l l.length=zAT l:=by
 refine(zCv l l.length).uniq (zDY l l.length) fun x=>?_
 rw[zFa,zEk]
 constructor
 ·rintro(h | ⟨k,h1,h2 | h2⟩)
  ·exact .inl h
  ·exact .inr ⟨k,h1,.inl h2⟩
  ·rw[zIm l (by (first|lia|omega))] at h2
   by_cases e:k=0
   ·subst e
    rw[Nat.sub_zero] at h2
    refine .inr ⟨0,h1,.inr ?_⟩
    rw[h2,zEl]
    unfold trn
    rw[List.drop_of_length_le (by simp),List.take_of_length_le (by simp)];rfl
   ·exact .inr ⟨l.length-k,by (first|lia|omega),.inr h2⟩
 ·rintro(h | ⟨k,h1,h2 | h2⟩)
  ·exact .inl h
  ·exact .inr ⟨k,h1,.inl h2⟩
  ·by_cases e:k=0
   ·subst e
    refine .inr ⟨0,h1,.inr ?_⟩
    rw[h2,zEl,zEl]
   ·refine .inr ⟨l.length-k,by (first|lia|omega),.inr ?_⟩
    rw[h2,zIm l (by (first|lia|omega))]
    congr 1
    (first|lia|omega)
theorem zGv{x y:List Int}(h:x.length=y.length):(zB6 x y).length=x.length:=by
 unfold zB6
 split<;>(first|lia|omega)
theorem zIn{α:Type}(l:List α)(b:Nat):(trn l b).length=l.length:=by unfold trn;simp;(first|lia|omega)
theorem zDZ(l:List Int):∀ b,(wo l b).length=l.length
 | 0=>rfl
 | b+1=>by
  unfold wo
  have e1:=zDZ l b
  have e2:(zB6 (wo l b) (trn l b)).length=l.length:=by rw[zGv (by rw[e1,zIn]),e1]
  rw[zGv (by rw[e2,zIn,List.length_reverse]),e2]
theorem zIo{α β:Type}(f:α→β)(l:List α)(b:Nat):(trn l b).map f=trn (l.map f) b:=by unfold trn;simp
theorem zOK{l:List D}{k:Nat}(h:k≤l.length):L3.cutD l none (some (k:Int))=l.take k:=by
 unfold L3.cutD
 rw[HT.zGM,HT.zDm]
 simp[h]
theorem zK1{l:List D}{k:Nat}(h:k≤l.length):L3.cutD l (some (k:Int)) none=l.drop k:=by
 unfold L3.cutD
 rw[HT.zGM,HT.zDm,Nat.min_eq_left h]
 rw[List.take_of_length_le (by simp)]
theorem zM1{σ:S2}{G:Gp}{t u:zh}{xs:List D}{k:Nat}(h:zn t σ G (.tup xs))(h1:zn u σ G (nD k))(hk:k≤xs.length):zn (zy t zx (yE u)) σ G (.tup (xs.take k)):=fun G2 e R q=>h G2 e _ (h1 G2 e _ (by show R (.tup (L3.cutD xs none (some (k:Int)))) G2;rw[zOK hk];exact q))
theorem zIp{σ:S2}{G:Gp}{t u:zh}{xs:List D}{k:Nat}(h:zn t σ G (.tup xs))(h1:zn u σ G (nD k))(hk:k≤xs.length):zn (zy t (yE u) zx) σ G (.tup (xs.drop k)):=fun G2 e R q=>h G2 e _ (h1 G2 e _ (by show R (.tup (L3.cutD xs (some (k:Int)) none)) G2;rw[zK1 hk];exact q))
theorem zK2{σ:S2}{G:Gp}{t u:zh}{xs:List D}{k:Nat}(h:zn t σ G (.tup xs))(h1:zn u σ G (nD k))(hk:k≤xs.length)(hl:xs.length≤1000000):zn (zX zw (zy t (yE u) zx) (zy t zx (yE u))) σ G (.tup (trn xs k)) :=
 zEO (zIp h h1 hk) (zM1 h h1 hk) (by simp;(first|lia|omega))
noncomputable def zu:Sp2:=fun ds G R=>∃(xs:List D) (k:Nat),ds=[.tup xs,nD k]∧k≤xs.length∧xs.length≤1000∧R (.tup (trn xs k)) G
noncomputable def zAU:wK:=(yN (zX zw (zy (zB 0) (yE (zB 1)) zx) (zy (zB 0) zx (yE (zB 1)))))
theorem zEm(ds:List D)(G:Gp)(R:Q2)(h:zu ds G R):ds.length=2∧zAU (zm R) (zU ["ring","by"] ds) G:=by
 obtain⟨xs,k,rfl,hk,hl,h⟩:=h
 exact⟨rfl,zIZ (zK2 (zE rfl) (zE rfl) hk (by (first|lia|omega))) ⟨G,.refl _,h⟩⟩
noncomputable def wG:Sp2:=fun ds G R=>∃ xs:List D,ds=[.tup xs]∧xs.length≤1000∧R (.tup xs.reverse) G
noncomputable def zCR:wK:=(yN (zM zHp (zA (zB 0) zI)))
theorem zH4(ds:List D)(G:Gp)(R:Q2)(h:wG ds G R):ds.length=1∧zCR (zm R) (zU ["ring"] ds) G:=by
 obtain⟨xs,rfl,hl,h⟩:=h
 exact⟨rfl,zIZ (d:=.tup xs.reverse) (wM (zH (zE (d:=.tup xs) rfl) zT) fun u0 u0 u0 q=>⟨by (first|lia|omega),q⟩) ⟨G,.refl _,h⟩⟩
noncomputable def wv:Sp2:=fun ds G R=>∃ l:List Int,ds=[tupI l]∧l.length≤1000∧R (tupI (zAT l)) G
noncomputable def zDw:wK:=(zZ (zf (zM wG (zA (zB 0) zI)) (gN 1)) (zZ (zf (zB 0) (gN 2)) (zZ (yu (iR1 (zA (zM yD (zA (zB 0) zI)) zI)) (gN 3) (zf (zM zHr (zA (zB 2) (zA (zM zu (zA (zB 0) (zA (zB 3) zI))) (zA (zM zu (zA (zB 1) (zA (zB 3) zI))) zI)))) (gN 2))) (yN (zB 2)))))
theorem zFb{σ:S2}{G:Gp}{t u:zh}{l:List Int}{k:Nat}(h:zn t σ G (tupI l))(h1:zn u σ G (nD k))(hk:k≤l.length)(hl:l.length≤1000):zn (zM zu (zA t (zA u zI))) σ G (tupI (trn l k)) :=
 wM (zH h (zH h1 zT)) fun u0 u0 u0 q=>⟨l.map D.int,k,rfl,by simpa using hk,by simpa using hl,by rw[← zIo];exact q⟩
theorem zGw{σ:S2}{G:Gp}{t:zh}{l:List Int}(h:zn t σ G (tupI l))(hl:l.length≤1000):zn (zM wG (zA t zI)) σ G (tupI l.reverse) :=
 wM (zH h zT) fun u0 u0 u0 q=>⟨l.map D.int,rfl,by simpa using hl,by rw[← List.map_reverse];exact q⟩
theorem zMO{σ:S2}{G:Gp}{t u v:zh}{x y z:List Int}(h:zn t σ G (tupI x))(h1:zn u σ G (tupI y))(h2:zn v σ G (tupI z)):zn (zM zHr (zA t (zA u (zA v zI)))) σ G (tupI (zB6 (zB6 x y) z)) :=
 wM (zH h (zH h1 (zH h2 zT))) fun u0 u0 u0 q=>⟨x,y,z,rfl,by rw[zGi];exact q⟩
theorem zMP{σ:S2}{G:Gp}{t u v:zh}{x y z:List Int}(h:zn t σ G (tupI x))(h1:zn u σ G (tupI y))(h2:zn v σ G (tupI z)):zn (zk zOA (wV (zA t (zA u (zA v zI))))) σ G (tupI (zB6 (zB6 x y) z)):=fun G2 e R q=>by
 show wV _ σ G2 _
 exact zBc (zH h (zH h1 (zH h2 zT)) G2 e _ ⟨by rw[sizeLine_eq];simp,[x,y,z],rfl,by simp,by rw[zGi];exact q⟩)
theorem zIq{σ:S2}{G:Gp}{t:zh}{l:List Int}(h:zn t σ G (tupI l)):zn (zM yD (zA t zI)) σ G (nD l.length):=by
 have:=zN6 (ds:=l.map D.int) h
 rwa [List.length_map] at this
theorem zMQ(ds:List D)(G:Gp)(R:Q2)(h:wv ds G R):ds.length=1∧zDw (zm R) (zU ["ring","back","best","by"] ds) G:=by
 obtain⟨l,rfl,hl,h⟩:=h
 refine⟨rfl,?_⟩
 unfold zDw
 refine zA9 (zGw (l:=l) (zE rfl) hl) ?_
 refine zA9 (d:=tupI l) (zE rfl) ?_
 refine zHg (n:=l.length) (zH (zIq (zE rfl)) zT) hl ?_
 refine⟨fun i σ' G'=>(∃ o,σ'=[some (tupI l),some (tupI l.reverse),some (tupI (wo l i)),o])∧G'=G,⟨⟨none,rfl⟩,rfl⟩,fun u0 u0 u0 u0 u0=>trivial,?_,?_⟩
 ·rintro i x σ' G' hi ⟨⟨o,rfl⟩,rfl⟩
  obtain⟨rfl,hi⟩:=zFu hi
  show zf _ _ _ [some (tupI l),some (tupI l.reverse),some (tupI (wo l i)),some (nD i)] G'
  refine zMO (zE rfl) (zFb (l:=l) (k:=i) (zE rfl) (zE rfl) (by (first|lia|omega)) hl) (zFb (l:=l.reverse) (k:=i) (zE rfl) (zE rfl) (by rw[List.length_reverse];(first|lia|omega)) (by rw[List.length_reverse];exact hl)) G' (.refl _) _ ?_
  exact .of ⟨⟨some (nD i),rfl⟩,rfl⟩
 ·rintro σ' G' ⟨⟨o,rfl⟩,rfl⟩
  rw[List.length_map,List.length_range]
  show yN (zB 2) (zm R) [some (tupI l),some (tupI l.reverse),some (tupI (wo l l.length)),o] G'
  exact zIZ (zE rfl) ⟨G',.refl _,h⟩
theorem zK3{sp:Sp2}(hs:sp=wv){σ:S2}{G:Gp}{t:zh}{l:List Int}(h:zn t σ G (tupI l))(hl:l.length≤1000):zn (zM sp (zA t zI)) σ G (tupI (zAT l)):=by
 subst hs
 exact wM (zH h zT) fun u0 u0 u0 q=>⟨l,rfl,hl,q⟩
noncomputable def zAV:=wv
noncomputable def zB0:wK:=(zZ (zf (zB 0) (gN 1)) (zZ (yu (iR1 (zA (zM yD (zA (zB 0) zI)) zI)) (gN 2) (zZ (zf (zX zw (zy (zB 0) (yE (zB 2)) zx) (zy (zB 0) zx (yE (zB 2)))) (gN 3)) (zf (zk zOA (wV (zA (zB 1) (zA (zB 3) (zA (zIV (zB 3)) zI))))) (gN 1)))) (yN (zB 1))))
theorem zJn(ds:List D)(G:Gp)(R:Q2)(h:zAV ds G R):ds.length=1∧zB0 (zm R) (zU ["ring","found","by","some"] ds) G:=by
 obtain⟨l,rfl,hl,h⟩:=h
 refine⟨rfl,?_⟩
 unfold zB0
 refine zA9 (d:=tupI l) (zE rfl) ?_
 refine zHg (n:=l.length) (zH (zIq (zE rfl)) zT) hl ?_
 refine⟨fun i σ' G'=>(∃ o o2,σ'=[some (tupI l),some (tupI (yR l i)),o,o2])∧G'=G,⟨⟨none,none,rfl⟩,rfl⟩,fun u0 u0 u0 u0 u0=>trivial,?_,?_⟩
 ·rintro i x σ' G' hi ⟨⟨o,o2,rfl⟩,rfl⟩
  obtain⟨rfl,hi⟩:=zFu hi
  show zZ _ _ _ [some (tupI l),some (tupI (yR l i)),some (nD i),o2] G'
  have t1:zn (zX zw (zy (zB 0) (yE (zB 2)) zx) (zy (zB 0) zx (yE (zB 2)))) [some (tupI l),some (tupI (yR l i)),some (nD i),o2] G' (tupI (trn l i)):=by
   have:=zK2 (σ:=[some (tupI l),some (tupI (yR l i)),some (nD i),o2]) (G:=G') (t:=zB 0) (u:=zB 2) (xs:=l.map D.int) (k:=i) (zE rfl) (zE rfl) (by rw[List.length_map];(first|lia|omega)) (by rw[List.length_map];(first|lia|omega))
   rwa [← zIo] at this
  refine zA9 t1 ?_
  show zf _ _ _ [some (tupI l),some (tupI (yR l i)),some (nD i),some (tupI (trn l i))] G'
  have t2:zn (zIV (zB 3)) [some (tupI l),some (tupI (yR l i)),some (nD i),some (tupI (trn l i))] G' (tupI (trn l i).reverse):=by
   have:=zMA (σ:=[some (tupI l),some (tupI (yR l i)),some (nD i),some (tupI (trn l i))]) (G:=G') (t:=zB 3) (xs:=(trn l i).map D.int) (zE rfl)
   rwa [← List.map_reverse] at this
  refine zMP (zE rfl) (zE rfl) t2 G' (.refl _) _ ?_
  exact .of ⟨⟨some (nD i),some (tupI (trn l i)),rfl⟩,rfl⟩
 ·rintro σ' G' ⟨⟨o,o2,rfl⟩,rfl⟩
  rw[List.length_map,List.length_range]
  show yN (zB 1) (zm R) [some (tupI l),some (tupI (yR l l.length)),o,o2] G'
  exact zIZ (d:=tupI (yR l l.length)) (zE rfl) ⟨G',.refl _,by rw[zK0];exact h⟩
end K
namespace K
open PySem PySem.Spec PyProof.Rows L2 L3
end K
namespace K
open PySem PySem.Spec PyProof.Rows L2 L3
noncomputable abbrev uD(l:List Nat):D:=.tup (l.map nD)
theorem zM2{σ:S2}{G:Gp}{te:zh}{g:TG2}{E:yM}{d:D}(h:zn te σ G d)(h':g d σ G fun σ' G'=>E.nx σ' G'):zf te g E σ G:=h G (.refl G) _ h'
theorem zK4{σ:S2}{G:Gp}{te:zh}{g:TG2}{E:yM}(h:te σ G fun d G1=>g d σ G1 fun σ' G'=>E.nx σ' G'):zf te g E σ G:=h
theorem zO8{σ:S2}{G:Gp}{ta tb:zh}{l:Addr}{R:List D→Gp→Prop}(h:zn ta σ G (.adr l))(h':tb σ G fun y G2=>match D.adr l,y with | .adr l,.adr m=>∃ xs ys,G2.m l=some xs∧G2.m m=some ys∧xs.length+ys.length≤1000000∧R (xs++ys) G2 | _,_=>False):zKU ta tb σ G R:=h G (.refl G) _ h'
theorem zCw{G G':Gp}(h:L3.Sub G G'){a:Addr}(n:G'.m a=none):G.m a=none:=by
 cases q:G.m a with
 | none=>rfl
 | some u=>rw[h.m a u q] at n;cases n
end K
namespace K
open L3
theorem zF9{σ:S2}{G:Gp}{te:zh}{E:yM}(h:te σ G fun u0 G1=>E.nx σ G1):wB te E σ G:=h
end K
namespace K
open PySem PySem.Spec PyProof.Rows L2 L3
end K
namespace L3
open PySem PySem.Spec PyProof.Rows L2
section
variable {X:Cx} {a b e:Expr} {ta tb te:zh} {t:wL} {p pos:Pos}
end
end L3
namespace L3
open PySem PySem.Spec PyProof.Rows L2 HS
end L3
namespace L3
open PySem PySem.Spec PyProof.Rows L2
section
variable {X:Cx} {e:Expr} {p pos:Pos}
end
end L3
namespace L3
open PySem PySem.Spec PyProof.Rows L2
section
variable {X:Cx} {a b:Expr} {ta tb:zh} {pos:Pos}
theorem zM3(ha:E2 X a ta)(hb:E2 X b tb):E2 X (.BinOp a .LShift b pos) (zX (yh zDe fun i j=>.int (i*2 ^ j.toNat)) ta tb):=zGR zNV (zCZ fun u0 u0=>⟨rfl,rfl⟩) ha hb
theorem zMz(ha:E2 X a ta)(hb:E2 X b tb):E2 X (.BinOp a .BitXor b pos) (zX (fII fun i j=>.int (Builtin.bitXor i j)) ta tb):=zGR zNW (zD6 fun u0 u0=>⟨rfl,rfl⟩) ha hb
end
theorem zGx(a b:Nat):(a ^^^ b)+2*(a &&& b)=a+b:=by
 induction a using Nat.strongRecOn generalizing b with
 | _ a ih =>
  by_cases h:a=0
  ·subst h;simp
  ·have h0:=ih (a / 2) (by (first|lia|omega)) (b / 2)
   rw[← Nat.xor_div_two,← Nat.and_div_two] at h0
   have h1:=@Nat.xor_mod_two_eq_one a b
   have h2:=@Nat.and_mod_two_eq_one a b
   have h3:(a ^^^ b)%2+2*((a &&& b)%2)=a%2+b%2:=by
    clear h0 ih h
    rcases Nat.mod_two_eq_zero_or_one a with x | x<;>rcases Nat.mod_two_eq_zero_or_one b with y | y<;>rcases Nat.mod_two_eq_zero_or_one (a &&& b) with z | z<;>rcases Nat.mod_two_eq_zero_or_one (a ^^^ b) with w | w<;>rw[x,y,z,w]<;>rw[x,y,z] at h2<;>rw[x,y,w] at h1<;>simp at h1 h2 ⊢
   generalize a ^^^ b=u at h0 h3 ⊢
   generalize a &&& b=v at h0 h3 ⊢
   (first|lia|omega)
theorem zH5(a b:Nat):Builtin.bitXor (a:Int) (b:Int)=((a ^^^ b:Nat):Int):=by
 have e:Builtin.bitAnd (a:Int) (b:Int)=((a &&& b:Nat):Int):=by
  unfold Builtin.bitAnd
  have h1:decide ((0:Int)≤(a:Int))=true:=decide_eq_true (by (first|lia|omega))
  have h2:decide ((0:Int)≤(b:Int))=true:=decide_eq_true (by (first|lia|omega))
  rw[h1,h2]
  rfl
 have h:=zGx a b
 rw[PyProof.Rows.bitXor_and,e]
 (first|lia|omega)
end L3
namespace K
noncomputable def red(free:List Nat)(x:Nat):Nat:=free.foldl (fun x b=>min x (x ^^^ b)) x
noncomputable def zPA(free:List Nat)(row:Nat):List Nat:=if red free row≠0 then free++[red free row] else free
end K
namespace K
open PySem PySem.Spec PyProof.Rows L2 L3
theorem snoc_ind{P:List Nat→Prop}(nil:P [])(append_singleton:∀ l o,P l→P (l++[o]))(l:List Nat):P l:=by
 rw[← List.reverse_reverse l]
 induction l.reverse with
 | nil=>exact nil
 | cons a r ih=>rw[List.reverse_cons];exact append_singleton _ _ ih
noncomputable def wf(l:List Nat):Nat:=(l.map fun o=>2 ^ o).sum
theorem zMR:∀(l:List Nat) (m:Nat),l.Pairwise (·<·)→(∀ x∈l,x<m)→wf l<2 ^ m:=by
 intro l
 induction l using snoc_ind with
 | nil=>intro m u0 u0;exact Nat.two_pow_pos m
 | append_singleton l o ih =>
  intro m hp hm
  have hp':=List.pairwise_append.mp hp
  have h1:=ih o hp'.1 fun x hx=>hp'.2.2 x hx o (by simp)
  have ho:=hm o (by simp)
  have h2:2 ^ (o+1)≤2 ^ m:=Nat.pow_le_pow_right (by (first|lia|omega)) ho
  unfold wf at *
  rw[List.map_append,List.sum_append]
  simp only[List.map_cons,List.map_nil,List.sum_cons,List.sum_nil]
  rw[Nat.pow_succ] at h2
  (first|lia|omega)
theorem zGy:∀(l:List Nat),l.Pairwise (·<·)→∀ i,(wf l).testBit i=decide (i∈l):=by
 intro l
 induction l using snoc_ind with
 | nil=>intro u0 i;simp[wf]
 | append_singleton l o ih =>
  intro hp i
  have hp':=List.pairwise_append.mp hp
  have hl:=zMR l o hp'.1 fun x hx=>hp'.2.2 x hx o (by simp)
  have h1:=ih hp'.1 i
  have e:wf (l++[o])=2 ^ o*1+wf l:=by
   unfold wf
   rw[List.map_append,List.sum_append]
   simp;(first|lia|omega)
  rw[e,Nat.testBit_two_pow_mul_add _ hl]
  by_cases hi:i<o
  ·rw[if_pos hi,h1]
   have:i≠o:=by (first|lia|omega)
   simp[this]
  ·rw[if_neg hi]
   have hni:i∉l:=fun z=>by have:=hp'.2.2 i z o (by simp);(first|lia|omega)
   by_cases hio:i=o
   ·subst hio;simp
   ·obtain⟨j,hj⟩:∃ j,i-o=j+1:=⟨i-o-1,by (first|lia|omega)⟩
    rw[hj,Nat.testBit_succ]
    simp[hni,hio]
noncomputable def oth(n:Nat)(ps:List Nat):List Nat:=(List.range n).filter fun x=>!decide (x∈ps)
noncomputable def mask(q:Nat×Nat→Bool)(i:Nat)(os:List Nat):Nat:=wf (os.filter (adj q i))
theorem zK6(l:List Nat):(l.map fun(x:Nat)=>(x:Int)).sum=((l.sum:Nat):Int):=by
 induction l with
 | nil=>rfl
 | cons a r ih=>rw[List.map_cons,List.sum_cons,ih,List.sum_cons];(first|lia|omega)
noncomputable def rk(n:Nat)(q:Nat×Nat→Bool)(ps:List Nat):List Nat:=(ps.map fun i=>mask q i (oth n ps)).foldl zPA []
theorem zMS{σ:S2}{G:Gp}{t u:zh}{a b:Nat}(h:zn t σ G (nD a))(h':zn u σ G (nD b)):zn (zX (fII fun i j=>.int (Builtin.bitXor i j)) t u) σ G (nD (a ^^^ b)):=by
 have:=zEF (g:=fun i j=>.int (Builtin.bitXor i j)) h h'
 rw[zH5] at this
 exact this
end K
namespace K
open PySem PySem.Spec PyProof.Rows L2 L3
end K
namespace K
open PySem PySem.Spec PyProof.Rows L2 L3
theorem zGz:∀ l l':List Nat,eqDs (l.map nD) (l'.map nD)=decide (l=l')
 | [],[]=>by simp[eqDs]
 | [],_::_=>by simp[eqDs]
 | _::_,[]=>by simp[eqDs]
 | a::r,b::t=>by
  simp only[List.map_cons,eqDs]
  rw[zHn,zGz r t,Bool.eq_iff_iff]
  simp
end K
namespace K
open PySem PySem.Spec PyProof.Rows L2 L3 HS
end K
namespace L2
open PySem PySem.Spec PyProof.Rows
section
variable {X:Cx} {z:Str} {tg elt iter:Expr} {ifs:List Expr} {sc:Scope} {pos:Pos} {N0 own:List Str} {wi:TI} {g:TG} {tc:TT} {te:TE}
end
end L2
namespace L3
open PySem PySem.Spec PyProof.Rows L2
section
variable {X:Cx} {elt iter:Expr} {pos:Pos} {te:zh} {ifs:List Expr} {sc:Scope} {N0:List Str} {wi:TI2} {tc:TT2}
end
end L3
namespace K
open PySem PySem.Spec PyProof.Rows L2 L3
end K
namespace K
open PySem PySem.Spec PyProof.Rows L2 L3
end K
namespace K
open PySem PySem.Spec PyProof.Rows L2 L3
theorem zPB{G0:Gp}{A l:Addr}{x y:List D}(h:A≠l):zS (zS G0 A x) l y=zS (zS G0 l y) A x:=by
 unfold zS
 dsimp only
 congr 1
 funext z
 by_cases hz:z=l
 ·subst hz
  simp only[if_true,if_neg (Ne.symm h)]
 ·by_cases hzA:z=A
  ·subst hzA
   simp only[if_true,if_neg h]
  ·simp only[if_neg hz,if_neg hzA]
theorem Dr.swap{G0 G3:Gp}{A l:Addr}{x:List D}(h:A≠l)(d:Dr l (zS G0 A x) G3)(st:zAY G0 l):∃ G1,Dr l G0 G1∧G3=zS G1 A x:=by
 obtain⟨s',b',rfl,ok⟩:=d
 exact⟨zS G0 l [.int s',.bl b'],⟨s',b',rfl,ok⟩,zPB h⟩
end K
namespace HZ
open PySem PySem.Spec PyProof.Rows
end HZ
namespace L2
open PySem PySem.Spec PyProof.Rows HZ
end L2
namespace L3
open PySem PySem.Spec PyProof.Rows L2
end L3
namespace K
open PySem PySem.Spec PyProof.Rows L2 L3 HS
theorem zMU{T:String}{σ:S2}{G:Gp}{t:zh}{a:Addr}{xs:List D}(h:zn t σ G (.adr a))(hl:Ls G a xs):zn (zHY T t) σ G (.bl (decide (T="list"))):=fun G2 e R q=>h G2 e _ ⟨⟨xs,e.ls hl⟩,q⟩
noncomputable def uI(p:List Nat):List Int:=p.map fun(k:Nat)=>(k:Int)
theorem zDx(n:Nat):zr 1 n=(List.range n).map fun k=>nD (k+1):=by
 unfold zr
 refine List.map_congr_left fun k u0=>?_
 show D.int _=D.int _
 congr 1
 (first|lia|omega)
theorem zDy{n i:Nat}{x:D}(h:((List.range n).map fun k=>nD (k+1))[i]?=some x):x=nD (i+1)∧i<n:=by
 rw[List.getElem?_map] at h
 by_cases hi:i<n
 ·rw[List.getElem?_range hi] at h
  cases h
  exact⟨rfl,hi⟩
 ·rw[List.getElem?_eq_none (by rw[List.length_range];(first|lia|omega))] at h
  cases h
end K
namespace K
open L3
end K
namespace K
open L3
noncomputable def mkW(r:List Nat)(a j:Nat):Nat:=((r.drop a).take j).foldl (fun m x=>m ^^^ 2 ^ x) 0
noncomputable def tog(l:List Nat)(x:Nat):List Nat:=if x∈l then l.filter (fun y=>decide (y≠x)) else l++[x]
noncomputable def odW(r:List Nat)(a j:Nat):List Nat:=((r.drop a).take j).foldl tog []
theorem zMV{l:List Nat}{x i:Nat}:i∈tog l x↔(i∈l∧i≠x)∨(i=x∧x∉l):=by
 unfold tog
 by_cases h:x∈l
 ·rw[if_pos h,List.mem_filter]
  simp only[decide_eq_true_eq]
  constructor
  ·intro q;exact .inl q
  ·rintro(q | ⟨u0,q⟩)
   ·exact q
   ·exact absurd h q
 ·rw[if_neg h,List.mem_append,List.mem_singleton]
  constructor
  ·rintro(q | q)
   ·exact .inl ⟨q,fun z=>h (by rw[← z];exact q)⟩
   ·exact .inr ⟨q,h⟩
  ·rintro(q | q)
   ·exact .inl q.1
   ·exact .inr q.1
theorem zJo{l:List Nat}{x:Nat}(h:l.Nodup):(tog l x).Nodup:=by
 unfold tog
 by_cases hx:x∈l
 ·rw[if_pos hx];exact h.filter _
 ·rw[if_neg hx]
  exact List.nodup_append.mpr ⟨h,by simp,fun a ha b hb e=>by rw[List.mem_singleton.mp hb] at e;exact hx (by rw[← e];exact ha)⟩
theorem zFc:∀(xs l:List Nat) (m:Nat),l.Nodup→(∀ i,m.testBit i=decide (i∈l))→(xs.foldl tog l).Nodup∧∀ i,(xs.foldl (fun m x=>m ^^^ 2 ^ x) m).testBit i=decide (i∈xs.foldl tog l)
 | [],l,m,h,e=>⟨h,e⟩
 | x::xs,l,m,h,e=>by
  refine zFc xs (tog l x) (m ^^^ 2 ^ x) (zJo h) fun i=>?_
  rw[Nat.testBit_xor,e,Nat.testBit_two_pow,Bool.eq_iff_iff]
  simp only[decide_eq_true_eq,bne_iff_ne,ne_eq,decide_eq_decide,zMV]
  by_cases h1:i∈l<;>by_cases h2:x=i
  ·subst h2;simp[h1]
  ·simp[h1,h2,Ne.symm h2,eq_comm]
  ·subst h2;simp[h1]
  ·simp[h1,h2,Ne.symm h2,eq_comm]
theorem zOM(r:List Nat)(a j:Nat):(odW r a j).Nodup∧∀ i,(mkW r a j).testBit i=decide (i∈odW r a j):=zFc _ [] 0 List.nodup_nil fun i=>by simp
theorem zK7{r near:List Nat}{a j:Nat}(hr:near.Pairwise (·<·)):mkW r a j=wf near↔zGf (odW r a j)=near:=by
 obtain⟨nd,hb⟩:=zOM r a j
 have ndn:near.Nodup:=hr.imp fun x=>Nat.ne_of_lt x
 constructor
 ·intro e
  have mem:∀ i,i∈odW r a j↔i∈near:=fun i=>by
   have:=hb i
   rw[e,zGy near hr] at this
   have:=Bool.eq_iff_iff.mp this
   simp only[decide_eq_true_eq] at this
   exact this.symm
  have pm:(odW r a j).Perm near:=(List.perm_ext_iff_of_nodup nd ndn).mpr mem
  exact List.Perm.eq_of_pairwise (le:=(·≤·)) (fun a b u0 u0 x y=>Nat.le_antisymm x y) (zGg _) (hr.imp fun x=>Nat.le_of_lt x) ((zCK _).trans pm)
 ·intro e
  have pm:near.Perm (odW r a j):=by rw[← e];exact zCK _
  refine Nat.eq_of_testBit_eq fun i=>?_
  rw[hb,zGy near hr,Bool.eq_iff_iff]
  simp only[decide_eq_true_eq]
  exact pm.mem_iff.symm
theorem zG1{r:List Nat}{a j:Nat}(h:a+j<r.length):mkW r a (j+1)=mkW r a j ^^^ 2 ^ (r.getD (a+j) 0):=by
 unfold mkW
 have e:(r.drop a)[j]?=some (r.getD (a+j) 0):=by
  rw[List.getElem?_drop]
  simp[List.getD,h]
 rw[wC e,List.foldl_append];rfl
theorem zMW{r:List Nat}{a j:Nat}(h:r.length≤a+j):mkW r a (j+1)=mkW r a j:=by
 unfold mkW
 rw[List.take_of_length_le (by rw[List.length_drop];(first|lia|omega)),List.take_of_length_le (by rw[List.length_drop];(first|lia|omega))]
theorem zK8{r:List Nat}{a j:Nat}(h:a+j<r.length):odW r a (j+1)=tog (odW r a j) (r.getD (a+j) 0):=by
 unfold odW
 have e:(r.drop a)[j]?=some (r.getD (a+j) 0):=by
  rw[List.getElem?_drop]
  simp[List.getD,h]
 rw[wC e,List.foldl_append];rfl
noncomputable def zEn(r:List Nat)(p a b:Nat):List Nat:=r.take a++[p]++(r.drop a).take (b-a)++[p]++r.drop b
noncomputable def zCS(r:List Nat)(p W a j:Nat):List (List Nat):=((List.range j).filter fun d=>decide (mkW r a d=W)).map fun d=>zEn r p a (a+d)
noncomputable def wH(r:List Nat)(p W:Nat):Nat→List (List Nat)
 | 0=>[]
 | i+1=>wH r p W i++zCS r p W (i+1) (r.length-i)
noncomputable def wch(r:List Nat)(p W:Nat):List (List Nat):=wH r p W r.length
theorem zAH{r:List Nat}{p W a j:Nat}:zCS r p W a (j+1)=zCS r p W a j++(if mkW r a j=W then [zEn r p a (a+j)] else []):=by
 unfold zCS
 rw[List.range_succ,List.filter_append,List.map_append]
 by_cases h:mkW r a j=W<;>simp[h]
theorem zG2{f:Nat→Bool}:∀ j,(∀ d,d+1<j→¬ (f d=true∧f (d+1)=true))→((List.range j).filter f).length≤(j+1) / 2
 | 0,_=>by simp
 | 1,_=>by
  have:=List.length_filter_le f (List.range 1)
  simpa using this
 | j+2,h=>by
  have ih:=zG2 j fun d hd=>h d (by (first|lia|omega))
  rw[List.range_succ,List.range_succ,List.filter_append,List.filter_append,List.length_append,List.length_append]
  have:=h j (by (first|lia|omega))
  cases h1:f j<;>cases h2:f (j+1)<;>simp_all<;>(first|lia|omega)
theorem zCx{r:List Nat}{p W a j:Nat}(hj:a+j≤r.length+1):(zCS r p W a j).length≤(j+1) / 2:=by
 unfold zCS
 rw[List.length_map]
 refine zG2 j fun d hd=>?_
 rintro⟨h1,h2⟩
 have h1:=of_decide_eq_true h1
 have h2:=of_decide_eq_true h2
 rw[zG1 (by (first|lia|omega)),h1] at h2
 have h3:=congrArg (fun z=>z ^^^ W) h2
 simp only[Nat.xor_self] at h3
 rw[Nat.xor_comm W,Nat.xor_assoc,Nat.xor_self,Nat.xor_zero] at h3
 have:0<2 ^ (r.getD (a+d) 0):=Nat.pow_pos (by (first|lia|omega))
 (first|lia|omega)
noncomputable def zK9(L:Nat):Nat→Nat
 | 0=>0
 | i+1=>zK9 L i+(L-i+1) / 2
theorem zFd{r:List Nat}{p W:Nat}:∀ i,i≤r.length→(wH r p W i).length≤zK9 r.length i
 | 0,_=>Nat.le_refl _
 | i+1,h=>by
  have:=zFd i (by (first|lia|omega)) (r:=r) (p:=p) (W:=W)
  have h2:=zCx (r:=r) (p:=p) (W:=W) (a:=i+1) (j:=r.length-i) (by (first|lia|omega))
  show(wH r p W i++zCS r p W (i+1) (r.length-i)).length≤zK9 r.length i+(r.length-i+1) / 2
  rw[List.length_append]
  (first|lia|omega)
theorem zMX{r:List Nat}{p a b:Nat}(h:a≤b)(hb:b≤r.length):(zEn r p a b).length=r.length+2∧∀ x∈zEn r p a b,x=p∨x∈r:=by
 unfold zEn
 constructor
 ·simp only[List.length_append,List.length_take,List.length_drop,List.length_cons,List.length_nil]
  (first|lia|omega)
 ·intro x hx
  simp only[List.mem_append,List.mem_cons,List.not_mem_nil,or_false] at hx
  rcases hx with (((hx | hx) | hx) | hx) | hx
  ·exact .inr (List.mem_of_mem_take hx)
  ·exact .inl hx
  ·exact .inr (List.mem_of_mem_drop (List.mem_of_mem_take hx))
  ·exact .inl hx
  ·exact .inr (List.mem_of_mem_drop hx)
theorem zFe{r:List Nat}{p W:Nat}{x:List Nat}:∀ i,i≤r.length→x∈wH r p W i→x.length=r.length+2∧∀ y∈x,y=p∨y∈r
 | 0,_,h=>by cases h
 | i+1,hi,h=>by
  rcases List.mem_append.mp (show x∈wH r p W i++zCS r p W (i+1) (r.length-i) from h) with h | h
  ·exact zFe i (by (first|lia|omega)) h
  ·obtain⟨d,hd,rfl⟩:=List.mem_map.mp h
   have hd:=List.mem_range.mp (List.mem_filter.mp hd).1
   exact zMX (by (first|lia|omega)) (by (first|lia|omega))
noncomputable def nrQ(q:Nat×Nat→Bool)(p:Nat):List Nat:=(List.range p).filter (adj q p)
theorem zEo(q:Nat×Nat→Bool)(p:Nat):(nrQ q p).Pairwise (·<·):=List.pairwise_lt_range.sublist List.filter_sublist
noncomputable def rgs(q:Nat×Nat→Bool):Nat→List (List Nat)
 | 0=>[[0,0]]
 | i+1=>(rgs q i).flatMap fun r=>wch r (i+1) (wf (nrQ q (i+1)))
theorem zDP(q:Nat×Nat→Bool):∀ i,∀ r∈rgs q i,r.length=2*(i+1)∧∀ y∈r,y≤i
 | 0,r,h=>by
  rw[rgs,List.mem_singleton] at h
  subst h
  exact⟨rfl,fun y hy=>by simp at hy;(first|lia|omega)⟩
 | i+1,r,h=>by
  obtain⟨s,hs,h⟩:=List.mem_flatMap.mp (show r∈(rgs q i).flatMap _ from h)
  obtain⟨h1,h2⟩:=zDP q i s hs
  obtain⟨h3,h4⟩:=zFe s.length (Nat.le_refl _) h
  refine⟨by (first|lia|omega),fun y hy=>?_⟩
  rcases h4 y hy with rfl | z
  ·exact Nat.le_refl _
  ·have:=h2 y z;(first|lia|omega)
theorem zCy{α β:Type}{f:α→List β}{c:Nat}:∀ l:List α,(∀ x∈l,(f x).length≤c)→(l.flatMap f).length≤l.length*c
 | [],_=>by simp
 | a::l,h=>by
  have h1:=h a (List.mem_cons_self ..)
  have h2:=zCy l fun x hx=>h x (List.mem_cons_of_mem _ hx)
  rw[List.flatMap_cons,List.length_append,List.length_cons,Nat.add_mul]
  (first|lia|omega)
noncomputable def zPC:Nat→Nat
 | 0=>1
 | i+1=>zPC i*zK9 (2*(i+1)) (2*(i+1))
theorem zGA(q:Nat×Nat→Bool):∀ i,(rgs q i).length≤zPC i
 | 0=>Nat.le_refl _
 | i+1=>by
  have h1:=zCy (f:=fun r=>wch r (i+1) (wf (nrQ q (i+1)))) (c:=zK9 (2*(i+1)) (2*(i+1))) (rgs q i) fun r hr=>by
   have:=zFd (r:=r) (p:=i+1) (W:=wf (nrQ q (i+1))) r.length (Nat.le_refl _)
   rw[(zDP q i r hr).1] at this
   show(wH r _ _ r.length).length≤_
   rw[(zDP q i r hr).1]
   exact this
  exact Nat.le_trans h1 (Nat.mul_le_mul_right _ (zGA q i))
theorem zJp(q:Nat×Nat→Bool){i:Nat}(h:i≤4):(rgs q i).length≤2880:=by
 refine Nat.le_trans (zGA q i) ?_
 match i,h with
 | 0,_=>decide
 | 1,_=>decide
 | 2,_=>decide
 | 3,_=>decide
 | 4,_=>decide
end K
namespace L3
open PySem PySem.Spec PyProof.Rows L2
section
variable {X:Cx} {pins:List (Addr×Obj)} {σ1:L2.St} {H:Hp} {s:Shared} {A:Around}
end
section
variable {X:Cx} {a b:Expr} {pos p:Pos} {ta tb te:zh}
end
end L3
namespace K
open PySem PySem.Spec PyProof.Rows L2 L3
noncomputable def WkT(t:TT2)(σ:S2)(G:Gp)(b:Bool):Prop:=∀ G2,Ext G G2→∀ R:Bool→Gp→Prop,(∀ G3,Ext G2 G3→R b G3)→t σ G2 R
noncomputable def WkE(t:zh)(σ:S2)(G:Gp)(d:D):Prop:=∀ G2,Ext G G2→∀ R:D→Gp→Prop,(∀ G3,Ext G2 G3→R d G3)→t σ G2 R
end K
namespace K
open PySem PySem.Spec PyProof.Rows L2 L3 HS
theorem yp{σ:S2}{G:Gp}{sp:List D→Gp→(List D→Gp→Prop)→Prop}{t:wL}{R:List D→Gp→Prop}(h:t σ G fun ds G1=>sp ds G1 R):zj sp t σ G R:=h
theorem zAI{wi:TI2}{g:TG2}{tb u:wK}{E:yM}{σ:S2}{G:Gp}(h:yu wi g tb { E with nx:=u E } σ G):zZ (yu wi g tb) u E σ G:=h
theorem zIr{σ:S2}{G:Gp}{tc:TT2}{t u:wK}{E:yM}{b:Bool}(h:WkT tc σ G b)(hy:b=true→∀ G3,Ext G G3→t E σ G3)(hn:b=false→∀ G3,Ext G G3→u E σ G3):xIf tc t u E σ G:=h G (.refl G) _ fun G3 e=>by
 cases b
 ·rw[if_neg (by simp)];exact hn rfl G3 e
 ·rw[if_pos rfl];exact hy rfl G3 e
theorem zPc{σ:S2}{G:Gp}{t:zh}{b:Bool}(h:WkE t σ G (.bl b)):WkT (xB t) σ G b:=fun G2 e R q=>h G2 e _ q
theorem zGB{σ:S2}{G:Gp}{to:zh}{t:wL}{R:Q2}{l:Addr}{xs:List D}(ho:zn to σ G (.adr l))(h:G.m l=some xs)(ht:t σ G fun ds G2=>match ds with | [d]=>∃ ys,G2.m l=some ys∧ys.length≤1000000∧R .non (zS G2 l (ys++[d])) | _=>False):zFp to t σ G R:=by
 refine ho G (.refl G) _ ?_
 show match G.m l with | some _=>_ | none=>_
 rw[h]
 have:∀(ds:List D) (G2:Gp),(match ds with | [d]=>∃ ys,G2.m l=some ys∧ys.length≤1000000∧R .non (zS G2 l (ys++[d])) | _=>False)=(match ds with | [d]=>(match G2.m l with | some xs=>xs.length≤1000000∧R .non (zS G2 l (xs++[d])) | none=>False) | _=>False):=fun ds G2=>by
  split
  ·rename_i d
   cases q:G2.m l with
   | none=>simp
   | some ys=>simp
  ·rfl
 simp only[this] at ht
 exact ht
end K
namespace HT3
open PySem
noncomputable abbrev Probe:=SetTable.Probe
noncomputable def adv(mask:Nat)(p:Probe):Probe :=
 if p.more>0 then { p with j:=p.j+1,more:=p.more-1 } else
 { p with j:=(SetTable.leap mask p.i p.perturb).1,more:=SetTable.runEnd mask (SetTable.leap mask p.i p.perturb).1-(SetTable.leap mask p.i p.perturb).1,i:=(SetTable.leap mask p.i p.perturb).1,perturb:=(SetTable.leap mask p.i p.perturb).2 }
theorem zAR(t:SetTable)(p:Probe):t.advance p=adv t.mask p:=by
 unfold SetTable.advance adv
 split<;>rfl
theorem zDI(mask:Nat)(p:Probe)(d:Option Nat):adv mask { p with dummy:=d }={ adv mask p with dummy:=d }:=by
 unfold adv
 split<;>rfl
noncomputable def zb(mask:Nat)(h:Int):Nat→Probe
 | 0=>{ j:=SetTable.bits h%(mask+1),more:=SetTable.runEnd mask (SetTable.bits h%(mask+1))-SetTable.bits h%(mask+1),i:=SetTable.bits h%(mask+1),perturb:=SetTable.bits h,dummy:=none }
 | n+1=>adv mask (zb mask h n)
noncomputable def lp(mask:Nat)(h:Int):Nat→Nat×Nat
 | 0=>(SetTable.bits h%(mask+1),SetTable.bits h)
 | n+1=>SetTable.leap mask (lp mask h n).1 (lp mask h n).2
theorem zHx(mask i:Nat):SetTable.runEnd mask i-i≤9:=by
 unfold SetTable.runEnd
 split<;>(first|lia|omega)
section
variable {mask:Nat} {h:Int}
theorem zAD{n i r q:Nat}(e:zb mask h n=⟨i,r,i,q,none⟩):∀ m,m≤r→zb mask h (n+m)=⟨i+m,r-m,i,q,none⟩
 | 0,_=>by simpa using e
 | m+1,hm=>by
  have:=zAD e m (by (first|lia|omega))
  show adv mask (zb mask h (n+m))=_
  rw[this]
  unfold adv
  rw[if_pos (show r-m>0 by (first|lia|omega))]
  simp only[SetTable.Probe.mk.injEq,and_true]
  (first|lia|omega)
theorem zDJ:∀ k,∃ n,n≤10*k∧zb mask h n=⟨(lp mask h k).1,SetTable.runEnd mask (lp mask h k).1-(lp mask h k).1,(lp mask h k).1,(lp mask h k).2,none⟩
 | 0=>⟨0,Nat.le_refl _,rfl⟩
 | k+1=>by
  obtain⟨n,hn,e⟩:=zDJ k
  have hr:=zHx mask (lp mask h k).1
  have:=zAD e _ (Nat.le_refl _)
  refine⟨n+(SetTable.runEnd mask (lp mask h k).1-(lp mask h k).1)+1,by (first|lia|omega),?_⟩
  show adv mask (zb mask h _)=_
  rw[this]
  unfold adv
  rw[if_neg (by simp)]
  rfl
theorem zEW:∀ k,(lp mask h k).2=SetTable.bits h / 32 ^ k
 | 0=>by simp[lp]
 | k+1=>by
  show(SetTable.leap mask (lp mask h k).1 (lp mask h k).2).2=_
  unfold SetTable.leap
  simp only
  rw[zEW k,Nat.div_div_eq_div_mul,Nat.pow_succ]
theorem zF1:SetTable.bits h<2 ^ 64:=by
 unfold SetTable.bits
 have h1:=Int.emod_lt_of_pos h (show(0:Int)<2 ^ 64 by decide)
 have h2:=Int.emod_nonneg h (show(2 ^ 64:Int)≠0 by decide)
 (first|lia|omega)
theorem zOF{k:Nat}(hk:13≤k):(lp mask h k).2=0:=by
 rw[zEW]
 apply Nat.div_eq_of_lt
 have h1:=zF1 (h:=h)
 have h2:32 ^ 13≤32 ^ k:=Nat.pow_le_pow_right (by (first|lia|omega)) hk
 have h3:(2:Nat) ^ 64≤32 ^ 13:=by decide
 (first|lia|omega)
noncomputable def fM(M x:Nat):Nat:=(x*5+1)%M
noncomputable def itr(M:Nat):Nat→Nat→Nat
 | 0,x=>x
 | m+1,x=>fM M (itr M m x)
theorem yf(M:Nat)(a:Nat):∀ b x,itr M (a+b) x=itr M a (itr M b x):=by
 induction a with
 | zero=>intro b x;simp[itr]
 | succ a ih=>intro b x;rw[Nat.add_right_comm];show fM M _=fM M _;rw[ih]
theorem zBf:∀ m,(lp mask h (13+m)).1=itr (mask+1) m (lp mask h 13).1
 | 0=>rfl
 | m+1=>by
  show(SetTable.leap mask (lp mask h (13+m)).1 (lp mask h (13+m)).2).1=fM _ _
  unfold SetTable.leap fM
  simp only
  rw[zOF (by (first|lia|omega)),zBf m]
theorem zGu(k:Nat):(lp mask h k).1<mask+1:=by
 cases k with
 | zero=>exact Nat.mod_lt _ (by (first|lia|omega))
 | succ k=>exact Nat.mod_lt _ (by (first|lia|omega))
end
noncomputable def Cyc(M:Nat):Prop:=∀ i,i<M→∀ j,j<M→∃ m,m<M∧itr M m i=j
noncomputable def sm:Nat→Nat
 | 0=>0
 | m+1=>sm m*5+1
theorem zEp{M:Nat}(hM:0<M):∀ m,itr M m 0=sm m%M
 | 0=>by simp[itr,sm]
 | m+1=>by
  show(itr M m 0*5+1)%M=(sm m*5+1)%M
  rw[zEp hM m,Nat.add_mod,Nat.mod_mul_mod,← Nat.add_mod]
theorem zLA:∀ m,4*sm m+1=5 ^ m
 | 0=>rfl
 | m+1=>by
  have:=zLA m
  show 4*(sm m*5+1)+1=5 ^ (m+1)
  rw[Nat.pow_succ];(first|lia|omega)
theorem zH6(a:Nat):∀ b,sm (a+b)=5 ^ b*sm a+sm b
 | 0=>by simp[sm]
 | b+1=>by
  show sm (a+b)*5+1=5 ^ (b+1)*sm a+(sm b*5+1)
  rw[zH6 a b,Nat.pow_succ,Nat.add_mul,Nat.mul_right_comm]
  (first|lia|omega)
theorem zLB:∀ m,sm m%2=m%2
 | 0=>rfl
 | m+1=>by
  have:=zLB m
  show(sm m*5+1)%2=(m+1)%2
  (first|lia|omega)
theorem zLC(e:Nat):sm (e+e)=2*((2*sm e+1)*sm e):=by
 rw[zH6,← zLA e,← Nat.mul_assoc,Nat.mul_add,Nat.mul_one,← Nat.mul_assoc,Nat.add_mul,Nat.add_mul]
 simp only[Nat.mul_assoc]
 (first|lia|omega)
theorem zLD:∀ k d,2 ^ k ∣ sm d→2 ^ k ∣ d
 | 0,d,_=>by simp
 | k+1,d,h=>by
  have h2:2 ∣ sm d:=Nat.dvd_trans ⟨2 ^ k,by rw[Nat.pow_succ,Nat.mul_comm]⟩ h
  have hp:=zLB d
  obtain⟨e,rfl⟩:∃ e,d=e+e:=⟨d / 2,by (first|lia|omega)⟩
  rw[zLC,Nat.pow_succ,Nat.mul_comm (2 ^ k)] at h
  have h:=Nat.dvd_of_mul_dvd_mul_left (by (first|lia|omega)) h
  have hc:Nat.Coprime (2 ^ k) (2*sm e+1):=Nat.Coprime.pow_left k (by
   show Nat.gcd 2 (2*sm e+1)=1
   rw[Nat.gcd_rec,show(2*sm e+1)%2=1 by (first|lia|omega)];rfl)
  obtain⟨c,hc⟩:=zLD k e (hc.dvd_of_dvd_mul_left h)
  exact⟨c,by rw[Nat.pow_succ,Nat.mul_right_comm,← hc];(first|lia|omega)⟩
theorem zLE:∀ k,2 ^ k ∣ sm (2 ^ k)
 | 0=>by simp
 | k+1=>by
  rw[show(2:Nat) ^ (k+1)=2 ^ k+2 ^ k by rw[Nat.pow_succ];(first|lia|omega),zLC]
  obtain⟨c,hc⟩:=zLE k
  generalize sm (2 ^ k)=x at hc
  rw[hc]
  exact⟨(2*(2 ^ k*c)+1)*c,by rw[Nat.mul_left_comm _ (2 ^ k) c,← Nat.two_mul,Nat.mul_assoc 2 (2 ^ k)]⟩
theorem zLF{k a b:Nat}(hab:a≤b)(hb:b-a<2 ^ k)(e:sm a%2 ^ k=sm b%2 ^ k):a=b:=by
 have e2:sm b=5 ^ a*sm (b-a)+sm a:=by
  have:=zH6 (b-a) a
  rw[show b-a+a=b by (first|lia|omega)] at this
  exact this
 have hd:2 ^ k ∣ 5 ^ a*sm (b-a):=by
  have:2 ^ k ∣ sm b-sm a:=Nat.dvd_of_mod_eq_zero (Nat.sub_mod_eq_zero_of_mod_eq e.symm)
  rw[e2,Nat.add_sub_cancel] at this
  exact this
 have hc:Nat.Coprime (2 ^ k) (5 ^ a):=Nat.Coprime.pow k a (by decide)
 have h3:=zLD k (b-a) (hc.dvd_of_dvd_mul_left hd)
 rcases Nat.eq_zero_or_pos (b-a) with z | z
 ·(first|lia|omega)
 ·have:=Nat.le_of_dvd z h3
  (first|lia|omega)
theorem zIs(k:Nat):Cyc (2 ^ k):=by
 have hM:0<2 ^ k:=Nat.pow_pos (by (first|lia|omega))
 have inj:∀ a b,a≤b→b<2 ^ k→sm a%2 ^ k=sm b%2 ^ k→a=b:=fun a b hab hb e=>zLF hab (by (first|lia|omega)) e
 have at0:∀ j,j<2 ^ k→∃ m,m<2 ^ k∧itr (2 ^ k) m 0=j:=fun j hj=>by
  have nd:((List.range (2 ^ k)).map fun m=>sm m%2 ^ k).Nodup:=by
   refine List.pairwise_map.mpr (List.Pairwise.imp_of_mem (fun {a b} ha hb (ne:a≠b) e=>ne ?_) List.nodup_range)
   have ha:=List.mem_range.mp ha
   have hb:=List.mem_range.mp hb
   rcases Nat.le_total a b with z | z
   ·exact inj a b z hb e
   ·exact(inj b a z ha e.symm).symm
  by_cases q:j∈(List.range (2 ^ k)).map fun m=>sm m%2 ^ k
  ·obtain⟨m,hm,e⟩:=List.mem_map.mp q
   exact⟨m,List.mem_range.mp hm,by rw[zEp hM];exact e⟩
  ·exfalso
   have sub:((List.range (2 ^ k)).map fun m=>sm m%2 ^ k) ⊆ (List.range (2 ^ k)).filter (fun x=>decide (x≠j)):=fun x hx=>by
    obtain⟨m,u0,rfl⟩:=List.mem_map.mp hx
    exact List.mem_filter.mpr ⟨List.mem_range.mpr (Nat.mod_lt _ hM),decide_eq_true fun z=>q (by rw[← z];exact hx)⟩
   have h1:=nd.length_le_of_subset sub
   have h2:((List.range (2 ^ k)).filter (fun x=>decide (x≠j))).length<(List.range (2 ^ k)).length:=List.length_filter_lt_length_iff_exists.mpr ⟨j,List.mem_range.mpr hj,by simp⟩
   rw[List.length_map] at h1
   (first|lia|omega)
 have hz:itr (2 ^ k) (2 ^ k) 0=0:=by
  rw[zEp hM]
  exact Nat.mod_eq_zero_of_dvd (zLE k)
 intro i hi j hj
 obtain⟨a,ha,rfl⟩:=at0 i hi
 obtain⟨b,hb,rfl⟩:=at0 j hj
 generalize 2 ^ k=M at *
 rcases Nat.lt_or_ge b a with hab | hab
 ·refine⟨M+b-a,by (first|lia|omega),?_⟩
  rw[← yf,show M+b-a+a=b+M by (first|lia|omega),yf,hz]
 ·refine⟨b-a,by (first|lia|omega),?_⟩
  rw[← yf,show b-a+a=b by (first|lia|omega)]
theorem zIt{k i m m':Nat}(hi:i<2 ^ k)(h:m≤m')(hd:m'-m<2 ^ k)(e:itr (2 ^ k) m i=itr (2 ^ k) m' i):m=m':=by
 have hM:0<2 ^ k:=Nat.pow_pos (by (first|lia|omega))
 obtain⟨a,u0,rfl⟩:=zIs k 0 hM i hi
 rw[← yf,← yf,zEp hM,zEp hM] at e
 have:=zLF (a:=m+a) (b:=m'+a) (by (first|lia|omega)) (by (first|lia|omega)) e
 (first|lia|omega)
noncomputable def Msk(mask:Nat):Prop:=∃ k,3≤k∧mask+1=2 ^ k
theorem Msk.cyc{mask:Nat}(h:Msk mask):Cyc (mask+1):=by
 obtain⟨k,u0,e⟩:=h
 rw[e]
 exact zIs k
theorem Msk.ge{mask:Nat}(h:Msk mask):7≤mask:=by
 obtain⟨k,hk,e⟩:=h
 have:2 ^ 3≤2 ^ k:=Nat.pow_le_pow_right (by (first|lia|omega)) hk
 (first|lia|omega)
theorem Msk.odd{mask:Nat}(h:Msk mask):(mask%2==0)=false:=by
 obtain⟨k,hk,e⟩:=h
 obtain⟨c,rfl⟩:∃ c,k=c+1:=⟨k-1,by (first|lia|omega)⟩
 rw[Nat.pow_succ] at e
 have:mask%2=1:=by (first|lia|omega)
 rw[this];rfl
theorem zG3(n:Nat):∀(fuel a:Nat),n<2 ^ a*2 ^ fuel→∃ b,a≤b∧SetTable.sizeAbove.go n fuel (2 ^ a)=2 ^ b∧n<2 ^ b∧(b=a∨2 ^ b≤2*n)
 | 0,a,h=>⟨a,Nat.le_refl _,rfl,by simpa using h,.inl rfl⟩
 | fuel+1,a,h=>by
  unfold SetTable.sizeAbove.go
  by_cases q:2 ^ a≤n
  ·rw[if_pos q]
   obtain⟨b,h1,h2,h3,h4⟩:=zG3 n fuel (a+1) (by rw[Nat.pow_succ,Nat.mul_assoc,← Nat.pow_succ'];exact h)
   refine⟨b,by (first|lia|omega),by rw[← Nat.pow_succ];exact h2,h3,.inr ?_⟩
   rcases h4 with rfl | h4
   ·rw[Nat.pow_succ];(first|lia|omega)
   ·exact h4
  ·rw[if_neg q]
   exact⟨a,Nat.le_refl _,rfl,by (first|lia|omega),.inl rfl⟩
theorem zLG{n:Nat}(h:n≤1000000):∃ b,3≤b∧SetTable.sizeAbove n=2 ^ b∧n<2 ^ b∧(2 ^ b=8∨2 ^ b≤2*n):=by
 obtain⟨b,h1,h2,h3,h4⟩:=zG3 n 64 3 (Nat.lt_of_le_of_lt h (by decide))
 refine⟨b,h1,h2,h3,?_⟩
 rcases h4 with rfl | h4
 ·exact .inl rfl
 ·exact .inr h4
theorem heads{mask:Nat}{h:Int}(hm:Cyc (mask+1)){j:Nat}(hj:j≤mask):∃ k,k≤13+mask∧(lp mask h k).1=j:=by
 obtain⟨m,h1,h2⟩:=hm (lp mask h 13).1 (zGu 13) j (by (first|lia|omega))
 exact⟨13+m,by (first|lia|omega),by rw[zBf];exact h2⟩
open HI (yd)
noncomputable def Ent(t:SetTable)(es:Array (Int×Value))(j:Nat)(h:Int)(x:Value):Prop:=∃ i:Nat,t.place[i]?=some j∧es[i]?=some (h,x)
noncomputable def wd(t:SetTable)(j:Nat):Prop:=t.slot j≠.empty
theorem zBg{xs:Array Nat}(hr:yd xs){i j:Nat}(e:xs[i]?=some j):SetTable.below xs j=i:=by
 obtain⟨b1,b2⟩:=HI.zCo (j:=j) hr
 obtain⟨hi,e⟩:=Array.getElem?_eq_some_iff.mp e
 rcases Nat.lt_trichotomy (SetTable.below xs j) i with z | z | z
 ·have h1:=b2 (SetTable.below xs j) (by (first|lia|omega)) (Nat.le_refl _)
  have h2:=hr.lt z hi
  (first|lia|omega)
 ·exact z
 ·have:=b1 i hi z
  (first|lia|omega)
theorem zAs{t:SetTable}(hr:yd t.place){i j:Nat}(e:t.place[i]?=some j):t.slot j=.live i:=by
 unfold SetTable.slot
 simp only
 rw[zBg hr e,e]
 simp
theorem zF2{t:SetTable}{i j:Nat}(e:t.slot j=.live i):t.place[i]?=some j:=by
 unfold SetTable.slot at e
 simp only at e
 split at e
 ·rename_i q
  cases e
  simpa using q
 ·split at e<;>cases e
theorem zBC{xs:Array Nat}(hr:yd xs){j:Nat}:SetTable.has xs j=true↔j∈xs:=by
 unfold SetTable.has
 constructor
 ·intro q
  have q:xs[SetTable.below xs j]?=some j:=by simpa using q
  exact Array.mem_of_getElem? q
 ·intro q
  obtain⟨i,hi,e⟩:=Array.getElem_of_mem q
  have e':xs[i]?=some j:=by simp[hi,e]
  rw[zBg hr e',e']
  simp
theorem yF{t:SetTable}(hr:yd t.place)(hd:yd t.dummies){j:Nat}:wd t j↔j∈t.place∨j∈t.dummies:=by
 unfold wd
 constructor
 ·intro q
  unfold SetTable.slot at q
  simp only at q
  split at q
  ·rename_i z
   exact .inl (Array.mem_of_getElem? (by simpa using z))
  ·split at q
   ·rename_i z
    exact .inr ((zBC hd).mp z)
   ·exact(q rfl).elim
 ·rintro(q | q) z
  ·obtain⟨i,hi,e⟩:=Array.getElem_of_mem q
   rw[zAs hr (i:=i) (by simp[hi,e])] at z
   cases z
  ·unfold SetTable.slot at z
   simp only at z
   split at z
   ·cases z
   ·rw[if_pos ((zBC hd).mpr q)] at z
    cases z
structure Tab (t:SetTable) (es:Array (Int×Value)):Prop where
 msk:Msk t.mask
 size:t.place.size=es.size
 ris:yd t.place
 risD:yd t.dummies
 le:∀ j∈t.place,j≤t.mask
 leD:∀ j∈t.dummies,j≤t.mask
 room:t.fill≤t.mask
 way:∀ j h x,Ent t es j h x→∃ n,(zb t.mask h n).j=j∧∀ m,m<n→wd t (zb t.mask h m).j
 dis:∀ j∈t.dummies,j∉t.place
theorem zBh{P:Nat→Prop}[DecidablePred P]{M:Nat}{l:List Nat}(h:∀ j,j<M→P j→j∈l)(hl:l.length<M):∃ j,j<M∧¬ P j:=by
 by_cases q:∃ j,j<M∧¬ P j
 ·exact q
 ·have hs:List.range M ⊆ l:=fun j hj=>by
   have hj:=List.mem_range.mp hj
   by_cases z:P j
   ·exact h j hj z
   ·exact(q ⟨j,hj,z⟩).elim
  have:=List.Nodup.length_le_of_subset List.nodup_range hs
  simp at this
  (first|lia|omega)
theorem Tab.free{t:SetTable}{es:Array (Int×Value)}(T:Tab t es):∃ j,j≤t.mask∧t.slot j=.empty:=by
 have:=zBh (P:=fun j=>t.slot j≠.empty) (M:=t.mask+1) (l:=t.place.toList++t.dummies.toList) (fun j u0 q=>by
  rcases(yF T.ris T.risD).mp q with z | z
  ·exact List.mem_append_left _ (by simpa using z)
  ·exact List.mem_append_right _ (by simpa using z)) (by
  have:=T.room
  unfold SetTable.fill at this
  simp
  (first|lia|omega))
 obtain⟨j,h1,h2⟩:=this
 exact⟨j,by (first|lia|omega),Decidable.not_not.mp h2⟩
theorem zLH{p:Nat→Prop}:∀ n,p n→∃ m,m≤n∧p m∧∀ k,k<m→¬ p k:=by
 intro n
 induction n using Nat.strongRecOn with
 | ind n ih =>
  intro hn
  by_cases q:∃ m,m<n∧p m
  ·obtain⟨m,hm,hp⟩:=q
   obtain⟨k,h1,h2⟩:=ih m hm hp
   exact⟨k,by (first|lia|omega),h2⟩
  ·exact⟨n,Nat.le_refl _,hn,fun k hk z=>q ⟨k,hk,z⟩⟩
theorem Tab.stop{t:SetTable}{es:Array (Int×Value)}(T:Tab t es)(h:Int):∃ N,N≤10*(13+t.fill)∧t.slot (zb t.mask h N).j=.empty∧∀ m,m<N→wd t (zb t.mask h m).j:=by
 obtain⟨j,hj,he⟩:=T.free
 obtain⟨kk,k3,ek⟩:=id T.msk
 obtain⟨m0,h1,h2⟩:=T.msk.cyc (lp t.mask h 13).1 (zGu 13) j (by (first|lia|omega))
 obtain⟨m,hm0,hm,hmin⟩:=zLH (p:=fun m=>t.slot (lp t.mask h (13+m)).1=.empty) m0 (by
  show t.slot (lp t.mask h (13+m0)).1=.empty
  rw[zBf,h2];exact he)
 have hfill:m≤t.fill:=by
  have nd:((List.range m).map fun x=>(lp t.mask h (13+x)).1).Nodup:=by
   refine List.pairwise_map.mpr (List.Pairwise.imp_of_mem (fun {a b} ha hb (ne:a≠b) e=>ne ?_) List.nodup_range)
   have ha:=List.mem_range.mp ha
   have hb:=List.mem_range.mp hb
   rw[zBf,zBf] at e
   have hl:=zGu (mask:=t.mask) (h:=h) 13
   rw[ek] at e hl
   rcases Nat.le_total a b with z | z
   ·exact zIt hl z (by (first|lia|omega)) e
   ·exact(zIt hl z (by (first|lia|omega)) e.symm).symm
  have sub:((List.range m).map fun x=>(lp t.mask h (13+x)).1) ⊆ t.place.toList++t.dummies.toList:=fun x hx=>by
   obtain⟨y,hy,rfl⟩:=List.mem_map.mp hx
   rcases(yF T.ris T.risD).mp (hmin y (List.mem_range.mp hy)) with z | z
   ·exact List.mem_append_left _ (by simpa using z)
   ·exact List.mem_append_right _ (by simpa using z)
  have:=nd.length_le_of_subset sub
  unfold SetTable.fill
  simpa using this
 obtain⟨n,h3,h4⟩:=zDJ (mask:=t.mask) (h:=h) (13+m)
 have hn:n≤10*(13+t.fill):=by (first|lia|omega)
 have e:t.slot (zb t.mask h n).j=.empty:=by rw[h4];exact hm
 have:∀ n,t.slot (zb t.mask h n).j=.empty→∃ N,N≤n∧t.slot (zb t.mask h N).j=.empty∧∀ m,m<N→wd t (zb t.mask h m).j:=by
  intro n
  induction n using Nat.strongRecOn with
  | ind n ih =>
   intro q
   by_cases z:∃ m,m<n∧t.slot (zb t.mask h m).j=.empty
   ·obtain⟨m,hm,q'⟩:=z
    obtain⟨N,h1,h2⟩:=ih m hm q'
    exact⟨N,by (first|lia|omega),h2⟩
   ·exact⟨n,Nat.le_refl _,q,fun m hm q'=>z ⟨m,hm,q'⟩⟩
 obtain⟨N,h1,h2,h3⟩:=this n e
 exact⟨N,by (first|lia|omega),h2,h3⟩
end HT3
namespace HT3
open PySem
open HI (yd)
noncomputable abbrev At(mask:Nat)(h:Int)(n:Nat)(d:Option Nat):Probe:={ zb mask h n with dummy:=d }
theorem At.adv{mask:Nat}{h:Int}{n:Nat}{d:Option Nat}:adv mask (At mask h n d)=At mask h (n+1) d:=zDI mask (zb mask h n) d
noncomputable def zAt(t:SetTable)(h:Int)(N:Nat)(d:Option Nat):Prop:=∀ j,d=some j→t.slot j=.dummy∧∃ m,m<N∧(zb t.mask h m).j=j
theorem zEX{t:SetTable}{f:Nat→Int}{h:Int}{n fuel:Nat}{d:Option Nat}(hs:t.slot (zb t.mask h n).j=.empty):SetTable.probe.go t f h (fuel+1) (At t.mask h n d)=some (.empty (zb t.mask h n).j d):=by
 rw[SetTable.probe.go]
 simp only[hs]
theorem zEY{t:SetTable}{f:Nat→Int}{h:Int}{n fuel:Nat}{d:Option Nat}(hs:t.slot (zb t.mask h n).j=.dummy):SetTable.probe.go t f h (fuel+1) (At t.mask h n d)=SetTable.probe.go t f h fuel (At t.mask h (n+1) (some (zb t.mask h n).j)):=by
 rw[SetTable.probe.go]
 simp only[hs]
 rw[zAR]
 exact congrArg _ (At.adv (n:=n) (d:=some (zb t.mask h n).j))
theorem zF3{t:SetTable}{f:Nat→Int}{h:Int}{n fuel i:Nat}{d:Option Nat}(hs:t.slot (zb t.mask h n).j=.live i):SetTable.probe.go t f h (fuel+1) (At t.mask h n d)=if f i=h then some (.candidate (zb t.mask h n).j i (At t.mask h (n+1) d)) else SetTable.probe.go t f h fuel (At t.mask h (n+1) d):=by
 rw[SetTable.probe.go]
 simp only[hs]
 have e:t.advance (At t.mask h n d)=At t.mask h (n+1) d:=by rw[zAR];exact At.adv
 rw[e]
 by_cases hh:f i=h
 ·rw[if_pos hh,if_pos (by simpa using hh)]
 ·rw[if_neg hh,if_neg (by simpa using hh)]
theorem zDL{t:SetTable}{f:Nat→Int}{h:Int}{N:Nat}(hN:t.slot (zb t.mask h N).j=.empty)(hF:∀ m,m<N→wd t (zb t.mask h m).j) :
  ∀(k n fuel:Nat) (d:Option Nat),N-n=k→n≤N→k<fuel→zAt t h N d →
   (∃ d',zAt t h N d'∧SetTable.probe.go t f h fuel (At t.mask h n d)=some (.empty (zb t.mask h N).j d')∧∀ m,n≤m→m<N→∀ i,t.slot (zb t.mask h m).j=.live i→f i≠h) ∨
   (∃ m i d',n≤m∧m<N∧zAt t h N d'∧t.slot (zb t.mask h m).j=.live i∧f i=h∧SetTable.probe.go t f h fuel (At t.mask h n d)=some (.candidate (zb t.mask h m).j i (At t.mask h (m+1) d'))∧∀ m',n≤m'→m'<m→∀ i',t.slot (zb t.mask h m').j=.live i'→f i'≠h):=by
 intro k
 induction k with
 | zero =>
  intro n fuel d hk hn hf hd
  obtain rfl:n=N:=by (first|lia|omega)
  obtain⟨fuel,rfl⟩:∃ g,fuel=g+1:=⟨fuel-1,by (first|lia|omega)⟩
  exact .inl ⟨d,hd,zEX hN,fun m h1 h2=>by (first|lia|omega)⟩
 | succ k ih =>
  intro n fuel d hk hn hf hd
  have lt:n<N:=by (first|lia|omega)
  obtain⟨fuel,rfl⟩:∃ g,fuel=g+1:=⟨fuel-1,by (first|lia|omega)⟩
  have fl:=hF n lt
  cases hs:t.slot (zb t.mask h n).j with
  | empty=>exact(fl hs).elim
  | dummy =>
   rw[zEY hs]
   have hd':zAt t h N (some (zb t.mask h n).j):=fun j e=>by cases e;exact⟨hs,n,lt,rfl⟩
   rcases ih (n+1) fuel (some (zb t.mask h n).j) (by (first|lia|omega)) (by (first|lia|omega)) (by (first|lia|omega)) hd' with ⟨d',a1,a2,a3⟩ | ⟨m,i,d',a1,a2,a3,a4,a5,a6,a7⟩
   ·refine .inl ⟨d',a1,a2,fun m h1 h2 i q=>?_⟩
    rcases Nat.eq_or_lt_of_le h1 with z | z
    ·subst z;rw[hs] at q;cases q
    ·exact a3 m (by (first|lia|omega)) h2 i q
   ·refine .inr ⟨m,i,d',by (first|lia|omega),a2,a3,a4,a5,a6,fun m' h1 h2 i' q=>?_⟩
    rcases Nat.eq_or_lt_of_le h1 with z | z
    ·subst z;rw[hs] at q;cases q
    ·exact a7 m' (by (first|lia|omega)) h2 i' q
  | live i0 =>
   rw[zF3 hs]
   by_cases hh:f i0=h
   ·exact .inr ⟨n,i0,d,Nat.le_refl _,lt,hd,hs,hh,if_pos hh,fun m' h1 h2=>by (first|lia|omega)⟩
   ·rw[if_neg hh]
    rcases ih (n+1) fuel d (by (first|lia|omega)) (by (first|lia|omega)) (by (first|lia|omega)) hd with ⟨d',a1,a2,a3⟩ | ⟨m,i,d',a1,a2,a3,a4,a5,a6,a7⟩
    ·refine .inl ⟨d',a1,a2,fun m h1 h2 i q=>?_⟩
     rcases Nat.eq_or_lt_of_le h1 with z | z
     ·subst z;rw[hs] at q;cases q;exact hh
     ·exact a3 m (by (first|lia|omega)) h2 i q
    ·refine .inr ⟨m,i,d',by (first|lia|omega),a2,a3,a4,a5,a6,fun m' h1 h2 i' q=>?_⟩
     rcases Nat.eq_or_lt_of_le h1 with z | z
     ·subst z;rw[hs] at q;cases q;exact hh
     ·exact a7 m' (by (first|lia|omega)) h2 i' q
end HT3
namespace HT3
open PySem PySem.Spec
open HI (yd)
section
variable {prog:Program} {w:World} {P:Addr→Prop} {A:Around} {E:Value→Shared→Prop} {s:Shared}
noncomputable abbrev TK(prog:Program)(w:World)(P:Addr→Prop)(h:Heap)(ns:List Int)(b:Addr):Prop:=IsTupleKey (intKind prog w) h ns b∧P b
noncomputable abbrev hT(prog:Program)(w:World)(ns:List Int):Int:=tupleKeyHash (intKind prog w) ns
theorem zBi{ns:List Int}{vs:List Value}(h:ItemsAre (intKind prog w) ns vs):∀ v∈vs,∃ k t,v=.int k t:=by
 induction h with
 | nil=>intro v hv;cases hv
 | cons h1 _ ih =>
  intro v hv
  rcases List.mem_cons.mp hv with rfl | hv
  ·obtain⟨t,rfl⟩:=Value.isInt_shape h1;exact⟨_,_,rfl⟩
  ·exact ih v hv
theorem zEZ{ns:List Int}{b:Addr}{Q:Bool→Shared→Prop}(hb:TK prog w P s.heap ns b)(h:Q false s):wpAny (model prog w) A (ofAClassStatement 8 (.ref b)) Q E s:=by
 obtain⟨o,its,n,ho,hc,hd,hi⟩:=hb.1
 unfold ofAClassStatement
 refine wpAny_bind (wpAny_typeOf hb.1.typeIs ?_)
 simp only[beq_self_eq_true,↓reduceIte,pure_bind,Bool.not_true,Bool.false_eq_true]
 refine wpAny_bind (wpAny_seqItems ho hd ?_)
 simp only
 refine wpAny_bind ?_
 rw[← Array.forIn_toList]
 refine wpAny_forIn_list _ (fun rest r s'=>r.1=none∧s'=s∧∀ v∈rest,∃ k t,v=Value.int k t) _ ?_ ?_ _ _ ⟨rfl,rfl,zBi hi⟩
 ·rintro v rest r s' ⟨hr,rfl,hall⟩
  obtain⟨k,t,rfl⟩:=hall v List.mem_cons_self
  unfold ofAClassStatement
  refine wpAny_bind (wpAny_pure ?_)
  simp only[Bool.false_eq_true,if_false]
  exact wpAny_pure ⟨rfl,rfl,fun u hu'=>hall u (List.mem_cons_of_mem _ hu')⟩
 ·rintro⟨r1,r2⟩ s' ⟨hr,rfl,u0⟩
  simp only at hr
  subst hr
  exact wpAny_pure h
theorem zEa{ns:List Int}{b:Addr}{Q:Bool→Shared→Prop}(hb:TK prog w P s.heap ns b)(h:Q true s):wpAny (model prog w) A (hashByValue 8 (.ref b)) Q E s:=by
 obtain⟨o,its,n,ho,hc,hd,hi⟩:=hb.1
 unfold hashByValue
 refine wpAny_bind (wpAny_specialOf hb.1.typeIs F.slot_tuple_hash.lookup ?_)
 simp only
 refine wpAny_bind (wpAny_seqItems ho hd ?_)
 simp only[Option.getD_some]
 refine wpAny_bind ?_
 rw[← Array.forIn_toList]
 refine wpAny_forIn_list _ (fun rest r s'=>r.1=none∧s'=s∧∀ v∈rest,∃ k t,v=Value.int k t) _ ?_ ?_ _ _ ⟨rfl,rfl,zBi hi⟩
 ·rintro v rest r s' ⟨hr,rfl,hall⟩
  obtain⟨k,t,rfl⟩:=hall v List.mem_cons_self
  unfold hashByValue
  refine wpAny_bind (wpAny_pure ?_)
  simp only[Bool.not_true,Bool.false_eq_true,if_false]
  exact wpAny_pure ⟨rfl,rfl,fun u hu'=>hall u (List.mem_cons_of_mem _ hu')⟩
 ·rintro⟨r1,r2⟩ s' ⟨hr,rfl,u0⟩
  simp only at hr
  subst hr
  exact wpAny_pure h
theorem zF4{ns:List Int}{b:Addr}{l:List Value}{Q:Bool→Shared→Prop}(hb:TK prog w P s.heap ns b)(hl:∀ v∈l,∃ c ms,v=.ref c∧TK prog w P s.heap ms c)(h:Q false s):wpAny (model prog w) A (searchCouldBeSeen (.ref b) l) Q E s:=by
 unfold searchCouldBeSeen
 refine wpAny_bind ?_
 refine wpAny_forIn_list _ (fun rest r s'=>r.1=none∧s'=s∧∀ v∈rest,∃ c ms,v=Value.ref c∧TK prog w P s.heap ms c) _ ?_ ?_ _ _ ⟨rfl,rfl,hl⟩
 ·rintro v rest r s' ⟨hr,rfl,hall⟩
  obtain⟨c,ms,rfl,hc⟩:=hall v List.mem_cons_self
  have go:∀ u∈rest,∃ c ms,u=Value.ref c∧TK prog w P s'.heap ms c:=fun u hu'=>hall u (List.mem_cons_of_mem _ hu')
  dsimp only
  by_cases e:(b==c)=true
  ·rw[if_pos (by simp[e])]
   exact wpAny_pure ⟨rfl,rfl,go⟩
  ·rw[if_neg (by simp[e,carriedByValue])]
   refine wpAny_bind ((tupleKind (intKind prog w)).quiet (k:=ns) hb.1 ?_)
   simp only[Bool.not_true,Bool.false_eq_true,if_false]
   refine wpAny_bind ((tupleKind (intKind prog w)).quiet (k:=ms) hc.1 ?_)
   simp only[Bool.not_true,Bool.false_eq_true,if_false]
   refine wpAny_bind (zEZ hb ?_)
   simp only[Bool.false_eq_true,if_false]
   refine wpAny_bind (zEZ hc ?_)
   simp only[Bool.false_eq_true,if_false]
   exact wpAny_pure ⟨rfl,rfl,go⟩
 ·rintro⟨r1,r2⟩ s' ⟨hr,rfl,u0⟩
  simp only at hr
  subst hr
  exact wpAny_pure h
noncomputable def OkT(prog:Program)(w:World)(P:Addr→Prop)(h:Heap)(es:Array (Int×Value)):Prop:=∀(i:Nat) (e:Int×Value),es[i]?=some e→∃ c ms,e=(hT prog w ms,.ref c)∧TK prog w P h ms c
noncomputable def sf(es:Array (Int×Value))(i:Nat):Int:=(es[i]?.map (·.1)).getD 0
theorem zHy{b:Addr}{ns:List Int}{t:SetTable}{l:List Value}{K1 K2:Sem SetFound}{Q:SetFound→Shared→Prop}(hb:TK prog w P s.heap ns b)(hl:∀ v∈l,∃ c ms,v=.ref c∧TK prog w P s.heap ms c)(h:wpAny (model prog w) A K2 Q E s) :
  wpAny (model prog w) A (if (!t.led)=true then searchCouldBeSeen (.ref b) l>>=fun c=>if c=true then K1 else K2 else K2) Q E s:=by
 split
 ·refine wpAny_bind (zF4 hb hl ?_)
  rw[if_neg (by simp)]
  exact h
 ·exact h
theorem zOI{a b:Addr}{ns:List Int}{o:Obj}{es:Array (Int×Value)}{ep:Nat}{t:SetTable}{adding:Bool}{Q:SetFound→Shared→Prop}(hA:A.units<cLine)(ho:s.heap.get? a=some o)(hd:o.data=.set es ep t)(T:Tab t es)(ok:OkT prog w P s.heap es)(hb:TK prog w P s.heap ns b)
  {N:Nat} (hNle:N≤10*(13+t.mask)) (hN:t.slot (zb t.mask (hT prog w ns) N).j=.empty) (hF:∀ m,m<N→wd t (zb t.mask (hT prog w ns) m).j)
  (q1:∀(i:Nat) c,es[i]?=some (hT prog w ns,.ref c)→TK prog w P s.heap ns c→Q (.there (if adding then none else some i)) s)
  (q2:(∀(i:Nat) e c ms,es[i]?=some e→e.2=.ref c→TK prog w P s.heap ms c→ms≠ns)→∀ d,zAt t (hT prog w ns) N d→Q (.free (d.getD (zb t.mask (hT prog w ns) N).j) d.isSome) s) :
  ∀(k n fuel:Nat) (d:Option Nat) (stand:Option SetTable.Probe),N-n=k→n≤N→k<fuel→zAt t (hT prog w ns) N d→stand.getD (t.probeStart (hT prog w ns))=At t.mask (hT prog w ns) n d →
   (∀ m,m<n→∀(i:Nat),t.slot (zb t.mask (hT prog w ns) m).j=.live i→∀ e c ms,es[i]?=some e→e.2=.ref c→TK prog w P s.heap ms c→ms≠ns)→wpAny (model prog w) A (setSearchFrom a (.ref b) (hT prog w ns) adding fuel stand) Q E s:=by
 have hft:t.fits es.size=true:=by
  unfold SetTable.fits
  simp[T.size,T.room]
 have hgw:t.gaveWay=false:=T.msk.odd
 intro k
 induction k using Nat.strongRecOn with
 | ind k ih =>
  intro n fuel d stand hk hn hf hdm hst hno
  obtain⟨fuel,rfl⟩:∃ g,fuel=g+1:=⟨fuel-1,by (first|lia|omega)⟩
  unfold setSearchFrom
  refine wpAny_bind (wpAny_setState_of ho hd hft ?_)
  dsimp only
  rw[hgw]
  simp only[Bool.false_eq_true,↓reduceIte]
  rw[hst]
  have met:=zDL (t:=t) (f:=sf es) (h:=hT prog w ns) hN hF (N-n) n (10*SetTable.turns t.mask) d rfl hn (by
   unfold SetTable.turns
   (first|lia|omega)) hdm
  generalize hp:SetTable.probe t _ _ _=r
  rcases met with ⟨d',a1,a2,a3⟩ | ⟨m,i,d',a1,a2,a3,a4,a5,a6,a7⟩
  ·have hr:r=some (.empty (zb t.mask (hT prog w ns) N).j d'):=hp.symm.trans a2
   subst hr
   dsimp only
   have none:∀(i:Nat) e c ms,es[i]?=some e→e.2=.ref c→TK prog w P s.heap ms c→ms≠ns:=by
    intro i e c ms e1 e2 e3 e4
    subst e4
    obtain⟨c',ms',z1,z2⟩:=ok i e e1
    have:c'=c:=by rw[z1] at e2;cases e2;rfl
    subst this
    have:=z2.1.inj e3.1
    subst this
    have hi:i<t.place.size:=by rw[T.size];exact(Array.getElem?_eq_some_iff.mp e1).1
    have pl:t.place[i]?=some t.place[i]:=by simp[hi]
    obtain⟨n',w1,w2⟩:=T.way t.place[i] (hT prog w ms') (.ref c') ⟨i,pl,by rw[e1,z1]⟩
    have sl:=zAs T.ris pl
    have lt:n'<N:=by
     rcases Nat.lt_trichotomy n' N with z | z | z
     ·exact z
     ·subst z;rw[w1,sl] at hN;cases hN
     ·exact(w2 N z hN).elim
    rw[← w1] at sl
    rcases Nat.lt_or_ge n' n with z | z
    ·exact hno n' z i sl e c' ms' e1 e2 e3 rfl
    ·refine a3 n' z lt i sl ?_
     unfold sf
     rw[e1,z1]
     rfl
   cases d' with
   | none=>exact wpAny_pure (q2 none Option.none a1)
   | some dj =>
    dsimp only
    have hdj:=(a1 dj rfl).1
    rw[if_neg (by simp[hdj])]
    exact wpAny_pure (q2 none (some dj) a1)
  ·have hr:r=some (.candidate (zb t.mask (hT prog w ns) m).j i (At t.mask (hT prog w ns) (m+1) d')):=hp.symm.trans a6
   subst hr
   dsimp only
   have pl:=zF2 a4
   have hi:i<es.size:=by rw[← T.size];exact(Array.getElem?_eq_some_iff.mp pl).1
   obtain⟨c,ms,z1,z2⟩:=ok i es[i] (by simp[hi])
   have ei:es[i]?=some (hT prog w ms,.ref c):=by simp[hi,z1]
   have hseen:∀ v∈(Array.filter (fun x=>x.1==hT prog w ns) es).toList.map (fun x=>x.2),∃ c ms,v=.ref c∧TK prog w P s.heap ms c:=fun v hv=>by
    obtain⟨e,he,rfl⟩:=List.mem_map.mp hv
    rw[Array.toList_filter] at he
    obtain⟨i',hi',e'⟩:=List.getElem_of_mem (List.mem_filter.mp he).1
    obtain⟨c',ms',y1,y2⟩:=ok i' e (by rw[← e'];simpa using hi')
    exact⟨c',ms',by rw[y1],y2⟩
   refine zHy hb hseen ?_
   simp only[ei]
   refine wpAny_bind (wpAny_holding ((tupleKind (intKind prog w)).eqBool (x:=ms) (y:=ns) hA z2.1 hb.1 ?_))
   refine wpAny_bind (wpAny_setState_of ho hd hft ?_)
   dsimp only
   have sm:t.sameMemory t.moves t.mask=some true:=by
    unfold SetTable.sameMemory
    simp
   by_cases e:ms=ns
   ·subst e
    cases adding with
    | true =>
     rw[if_pos (by simp)]
     exact wpAny_pure (q1 i c ei z2)
    | false =>
     rw[if_neg (by simp),sm]
     simp only[↓reduceIte,a4,ei]
     refine wpAny_bind (wpAny_isSame_ref_self ?_)
     simp only[↓reduceIte,pure_bind,decide_true]
     exact wpAny_pure (q1 i c ei z2)
   ·rw[if_neg (by simp[e]),sm]
    simp only[↓reduceIte,a4,ei]
    refine wpAny_bind (wpAny_isSame_ref_self ?_)
    simp only[↓reduceIte,pure_bind,decide_eq_true_eq,e]
    refine ih (N-(m+1)) (by (first|lia|omega)) (m+1) fuel d' _ rfl (by (first|lia|omega)) (by (first|lia|omega)) a3 rfl ?_
    intro m' hm' i' sl' e' c' ms' f1 f2 f3 f4
    subst f4
    rcases Nat.lt_or_ge m' n with z | z
    ·exact hno m' z i' sl' e' c' ms' f1 f2 f3 rfl
    ·rcases Nat.eq_or_lt_of_le (Nat.le_of_lt_succ hm') with y | y
     ·subst y
      rw[a4] at sl'
      cases sl'
      rw[ei] at f1
      cases f1
      cases f2
      exact e (z2.1.inj f3.1)
     ·obtain⟨c2,ms2,y1,y2⟩:=ok i' e' f1
      have:c2=c':=by rw[y1] at f2;cases f2;rfl
      subst this
      have:=y2.1.inj f3.1
      subst this
      refine a7 m' z y i' sl' ?_
      unfold sf
      rw[f1,y1]
      rfl
end
end HT3
namespace HT3
open PySem PySem.Spec
open HI (yd)
theorem zAS(mask:Nat)(h:Int):∀ n,(zb mask h n).j+(zb mask h n).more≤mask∧(zb mask h n).i≤mask
 | 0=>by
  have hi:SetTable.bits h%(mask+1)≤mask:=by have:=Nat.mod_lt (SetTable.bits h) (show 0<mask+1 by (first|lia|omega));(first|lia|omega)
  show SetTable.bits h%(mask+1)+(SetTable.runEnd mask (SetTable.bits h%(mask+1))-SetTable.bits h%(mask+1))≤mask∧SetTable.bits h%(mask+1)≤mask
  generalize SetTable.bits h%(mask+1)=i at *
  unfold SetTable.runEnd
  split<;>(first|lia|omega)
 | n+1=>by
  have ih:=zAS mask h n
  show(adv mask (zb mask h n)).j+(adv mask (zb mask h n)).more≤mask∧(adv mask (zb mask h n)).i≤mask
  unfold adv
  split
  ·simp only
   (first|lia|omega)
  ·simp only
   have hi:(SetTable.leap mask (zb mask h n).i (zb mask h n).perturb).1≤mask:=by
    unfold SetTable.leap
    simp only
    have:=Nat.mod_lt ((zb mask h n).i*5+1+(zb mask h n).perturb / 32) (show 0<mask+1 by (first|lia|omega))
    (first|lia|omega)
   generalize (SetTable.leap mask (zb mask h n).i (zb mask h n).perturb).1=i at *
   unfold SetTable.runEnd
   split<;>(first|lia|omega)
theorem zAE{t:SetTable}{es:Array (Int×Value)}{j:Nat}{h:Int}{x:Value}:Ent t es j h x↔(j,(h,x))∈t.place.toList.zip es.toList:=by
 unfold Ent
 rw[List.mem_iff_getElem?]
 constructor
 ·rintro⟨i,e1,e2⟩
  exact⟨i,by rw[List.getElem?_zip_eq_some];simpa using⟨e1,e2⟩⟩
 ·rintro⟨i,e⟩
  rw[List.getElem?_zip_eq_some] at e
  exact⟨i,by simpa using e.1,by simpa using e.2⟩
theorem zF5{α β:Type}{l:List α}{l':List β}(hl:l.length=l'.length)(p:Nat)(a:α)(b:β)(z:α×β):z∈(l.take p++a::l.drop p).zip (l'.take p++b::l'.drop p)↔z=(a,b)∨z∈l.zip l':=by
 rw[List.zip_append (by simp[hl])]
 have e:l.zip l'=(l.take p).zip (l'.take p)++(l.drop p).zip (l'.drop p):=by
  rw[← List.zip_append (by simp[hl]),List.take_append_drop,List.take_append_drop]
 rw[e]
 simp only[List.zip_cons_cons,List.mem_append,List.mem_cons]
 constructor
 ·rintro(h | h | h)
  ·exact .inr (.inl h)
  ·exact .inl h
  ·exact .inr (.inr h)
 ·rintro(h | h | h)
  ·exact .inr (.inl h)
  ·exact .inl h
  ·exact .inr (.inr h)
theorem zK{α:Type}(xs:Array α)(p:Nat):(SetTable.eraseAt xs p).toList=xs.toList.take p++xs.toList.drop (p+1):=by
 simp[SetTable.eraseAt,List.extract_eq_take_drop,List.take_of_length_le]
theorem zBD{α:Type}(l:List α)(p:Nat):(l.take p++l.drop (p+1)).Sublist l:=by
 conv=>rhs;rw[← List.take_append_drop p l]
 exact(List.Sublist.refl _).append (by rw[← List.drop_drop];exact List.drop_sublist 1 _)
theorem zEb{α:Type}{l:List α}{p:Nat}{x y:α}(hp:l[p]?=some x)(hy:y∈l)(hne:y≠x):y∈l.take p++l.drop (p+1):=by
 rw[← List.take_append_drop p l] at hy
 rcases List.mem_append.mp hy with h | h
 ·exact List.mem_append_left _ h
 ·obtain⟨hlt,e⟩:=List.getElem?_eq_some_iff.mp hp
  rw[List.drop_eq_getElem_cons hlt,e] at h
  rcases List.mem_cons.mp h with h | h
  ·exact(hne h).elim
  ·exact List.mem_append_right _ h
theorem zF6{α:Type}{l:List α}{p:Nat}{x:α}(hp:l[p]?=some x):l.Perm (x::(l.take p++l.drop (p+1))):=by
 obtain⟨hlt,e⟩:=List.getElem?_eq_some_iff.mp hp
 conv=>lhs;rw[← List.take_append_drop p l,List.drop_eq_getElem_cons hlt,e]
 exact List.perm_middle
theorem zEc{xs:Array Nat}(hr:yd xs){p j:Nat}(hp:xs.toList[p]?=some j):j∉xs.toList.take p++xs.toList.drop (p+1):=by
 have nd:xs.toList.Nodup:=List.Pairwise.imp (fun h=>Nat.ne_of_lt h) hr
 exact(List.nodup_cons.mp ((zF6 hp).nodup_iff.mp nd)).1
theorem zAu{xs:Array Nat}(hr:yd xs)(p:Nat):yd (SetTable.eraseAt xs p):=by
 unfold yd
 rw[zK]
 exact List.Pairwise.sublist (zBD _ _) hr
section
variable {t:SetTable} {es:Array (Int×Value)} {j:Nat} {h:Int} {x:Value}
theorem zBE(hs:t.slot j=.dummy):SetTable.has t.dummies j=true:=by
 unfold SetTable.slot at hs
 simp only at hs
 split at hs
 ·cases hs
 ·split at hs
  ·rename_i q;exact q
  ·cases hs
theorem zF7(T:Tab t es){j':Nat}{h':Int}{x':Value}:Ent (t.put j).1 (SetTable.insertAt es (t.put j).2 (h,x)) j' h' x'↔(j'=j∧h'=h∧x'=x)∨Ent t es j' h' x':=by
 rw[zAE,zAE]
 show(j',(h',x'))∈(SetTable.insertAt t.place (SetTable.below t.place j) j).toList.zip (SetTable.insertAt es (SetTable.below t.place j) (h,x)).toList↔_
 rw[SetTable.toList_insertAt,SetTable.toList_insertAt,zF5 (by simpa using T.size)]
 simp
theorem zBj(T:Tab t es)(hnl:t.slot j=.empty∨t.slot j=.dummy)(rD:yd (t.put j).1.dummies)(rP:yd (t.put j).1.place){i:Nat}(hf:wd t i):wd (t.put j).1 i:=by
 rw[yF rP rD]
 have pm:∀ y,y∈(t.put j).1.place↔y=j∨y∈t.place:=fun y=>by
  show y∈SetTable.insertAt t.place (SetTable.below t.place j) j↔_
  rw[← Array.mem_toList_iff,(SetTable.insertAt_perm _ _ _).mem_iff]
  simp[or_comm]
 rcases(yF T.ris T.risD).mp hf with q | q
 ·exact .inl ((pm i).mpr (.inr q))
 ·by_cases e:i=j
  ·exact .inl ((pm i).mpr (.inl e))
  ·refine .inr ?_
   show i∈(if SetTable.has t.dummies j then SetTable.eraseAt t.dummies (SetTable.below t.dummies j) else t.dummies)
   split
   ·rename_i hh
    rw[← Array.mem_toList_iff,zK]
    have hp:t.dummies.toList[SetTable.below t.dummies j]?=some j:=by
     unfold SetTable.has at hh
     simpa using hh
    exact zEb hp (by simpa using q) e
   ·exact q
theorem Tab.put(T:Tab t es){n:Nat}(hj:(zb t.mask h n).j=j)(hw:∀ m,m<n→wd t (zb t.mask h m).j)(hnl:t.slot j=.empty∨t.slot j=.dummy)(rm:t.fill+1≤t.mask) :
  Tab (t.put j).1 (SetTable.insertAt es (t.put j).2 (h,x))∧(t.put j).1.fill≤t.fill+1∧(t.slot j=.dummy→(t.put j).1.fill=t.fill):=by
 have hnl':t.place[SetTable.below t.place j]?≠some j:=HI.zGr hnl
 have rP:yd (t.put j).1.place:=HI.zDt T.ris hnl'
 have rD:yd (t.put j).1.dummies:=by
  show yd (if SetTable.has t.dummies j then SetTable.eraseAt t.dummies (SetTable.below t.dummies j) else t.dummies)
  split
  ·exact zAu T.risD _
  ·exact T.risD
 have jm:j≤t.mask:=by have:=(zAS t.mask h n).1;(first|lia|omega)
 have pz:(t.put j).1.place.size=t.place.size+1:=by
  have:=(SetTable.insertAt_perm t.place (SetTable.below t.place j) j).length_eq
  show(SetTable.insertAt t.place (SetTable.below t.place j) j).size=_
  simpa using this
 have dz:(t.put j).1.dummies.size≤t.dummies.size∧(t.slot j=.dummy→(t.put j).1.dummies.size+1=t.dummies.size):=by
  show(if SetTable.has t.dummies j then SetTable.eraseAt t.dummies (SetTable.below t.dummies j) else t.dummies).size≤_∧(_→(if SetTable.has t.dummies j then SetTable.eraseAt t.dummies (SetTable.below t.dummies j) else t.dummies).size+1=_)
  split
  ·rename_i hh
   have hp:t.dummies.toList[SetTable.below t.dummies j]?=some j:=by
    unfold SetTable.has at hh
    simpa using hh
   have hlt:=(List.getElem?_eq_some_iff.mp hp).1
   have e:(SetTable.eraseAt t.dummies (SetTable.below t.dummies j)).size=t.dummies.size-1:=by
    rw[← Array.length_toList,zK,List.length_append,List.length_take,List.length_drop]
    simp only[Array.length_toList] at *
    (first|lia|omega)
   simp only[Array.length_toList] at hlt
   (first|lia|omega)
  ·rename_i hh
   exact⟨Nat.le_refl _,fun q=>(hh (zBE q)).elim⟩
 have fz:(t.put j).1.fill=(t.put j).1.place.size+(t.put j).1.dummies.size:=rfl
 have fz0:t.fill=t.place.size+t.dummies.size:=rfl
 refine⟨⟨T.msk,?_,rP,rD,fun y hy=>?_,fun y hy=>?_,?_,fun j' h' x' he=>?_,fun y hy hy'=>?_⟩,by (first|lia|omega),fun q=>by have:=dz.2 q;(first|lia|omega)⟩
 ·rw[pz,T.size]
  have:=(SetTable.insertAt_perm es (t.put j).2 (h,x)).length_eq
  simp at this
  (first|lia|omega)
 ·have:y∈SetTable.insertAt t.place (SetTable.below t.place j) j:=hy
  rw[← Array.mem_toList_iff,(SetTable.insertAt_perm _ _ _).mem_iff] at this
  rcases(by simpa using this:y∈t.place∨y=j) with q | q
  ·exact T.le y q
  ·rw[q];exact jm
 ·have:y∈(if SetTable.has t.dummies j then SetTable.eraseAt t.dummies (SetTable.below t.dummies j) else t.dummies):=hy
  refine T.leD y ?_
  split at this
  ·rw[← Array.mem_toList_iff,zK] at this
   simpa using(zBD _ _).subset this
  ·exact this
 ·show(t.put j).1.fill≤t.mask
  (first|lia|omega)
 ·rcases(zF7 T).mp he with ⟨rfl,rfl,rfl⟩ | q
  ·exact⟨n,hj,fun m hm=>zBj T hnl rD rP (hw m hm)⟩
  ·obtain⟨n',w1,w2⟩:=T.way j' h' x' q
   exact⟨n',w1,fun m hm=>zBj T hnl rD rP (w2 m hm)⟩
 ·have hz:y∈(if SetTable.has t.dummies j then SetTable.eraseAt t.dummies (SetTable.below t.dummies j) else t.dummies):=hy
  have hz':y∈SetTable.insertAt t.place (SetTable.below t.place j) j:=hy'
  clear hy hy'
  rw[← Array.mem_toList_iff,(SetTable.insertAt_perm _ _ _).mem_iff] at hz'
  have hz':y∈t.place∨y=j:=by simpa using hz'
  by_cases hh:SetTable.has t.dummies j=true
  ·rw[if_pos hh] at hz
   have hp:t.dummies.toList[SetTable.below t.dummies j]?=some j:=by
    unfold SetTable.has at hh
    simpa using hh
   rw[← Array.mem_toList_iff,zK] at hz
   rcases hz' with q | q
   ·exact T.dis y (by simpa using(zBD _ _).subset hz) q
   ·rw[q] at hz
    exact zEc T.risD hp hz
  ·rw[if_neg hh] at hz
   rcases hz' with q | q
   ·exact T.dis y hz q
   ·rw[q] at hz
    exact hh ((zBC T.risD).mpr hz)
end
section
variable {t:SetTable} {es:Array (Int×Value)} {i j:Nat}
theorem zHz{α β:Type}{l:List α}{l':List β}(hl:l.length=l'.length)(p:Nat){z:α×β}(h:z∈(l.take p++l.drop (p+1)).zip (l'.take p++l'.drop (p+1))):z∈l.zip l':=by
 rw[List.zip_append (by simp[hl])] at h
 have e:l.zip l'=(l.take p).zip (l'.take p)++(l.drop p).zip (l'.drop p):=by
  rw[← List.zip_append (by simp[hl]),List.take_append_drop,List.take_append_drop]
 rw[e]
 rcases List.mem_append.mp h with q | q
 ·exact List.mem_append_left _ q
 ·refine List.mem_append_right _ ?_
  rw[← List.drop_drop,← List.drop_drop] at q
  generalize l.drop p=a at q ⊢
  generalize l'.drop p=b at q ⊢
  cases a with
  | nil=>simp at q
  | cons a0 a1 =>
   cases b with
   | nil=>simp at q
   | cons b0 b1 =>
    have q:z∈a1.zip b1:=by simpa using q
    show z∈(a0,b0)::a1.zip b1
    exact List.mem_cons_of_mem _ q
theorem Tab.drop(T:Tab t es)(hi:t.place[i]?=some j):Tab (t.drop i) (SetTable.eraseAt es i)∧(t.drop i).fill=t.fill:=by
 have ed:t.drop i={ t with place:=SetTable.eraseAt t.place i,dummies:=SetTable.insertAt t.dummies (SetTable.below t.dummies j) j }:=by
  unfold SetTable.drop
  rw[hi]
 have hp:t.place.toList[i]?=some j:=by simpa using hi
 have jp:j∈t.place:=Array.mem_of_getElem? hi
 have jd:j∉t.dummies:=fun q=>T.dis j q jp
 have hlt:i<t.place.size:=(Array.getElem?_eq_some_iff.mp hi).1
 have rP:yd (SetTable.eraseAt t.place i):=zAu T.ris i
 have rD:yd (SetTable.insertAt t.dummies (SetTable.below t.dummies j) j):=HI.zDt T.risD fun q=>jd (Array.mem_of_getElem? q)
 have pz:(SetTable.eraseAt t.place i).size=t.place.size-1:=by
  rw[← Array.length_toList,zK,List.length_append,List.length_take,List.length_drop]
  simp only[Array.length_toList]
  (first|lia|omega)
 have ez:(SetTable.eraseAt es i).size=es.size-1:=by
  have:=T.size
  rw[← Array.length_toList,zK,List.length_append,List.length_take,List.length_drop]
  simp only[Array.length_toList]
  (first|lia|omega)
 have dz:(SetTable.insertAt t.dummies (SetTable.below t.dummies j) j).size=t.dummies.size+1:=by
  have:=(SetTable.insertAt_perm t.dummies (SetTable.below t.dummies j) j).length_eq
  simpa using this
 have dm:∀ y,y∈SetTable.insertAt t.dummies (SetTable.below t.dummies j) j↔y∈t.dummies∨y=j:=fun y=>by
  rw[← Array.mem_toList_iff,(SetTable.insertAt_perm _ _ _).mem_iff]
  simp
 rw[ed]
 have fl:∀ y,wd t y→wd { t with place:=SetTable.eraseAt t.place i,dummies:=SetTable.insertAt t.dummies (SetTable.below t.dummies j) j } y:=fun y q=>by
  rw[yF rP rD]
  rcases(yF T.ris T.risD).mp q with z | z
  ·by_cases e:y=j
   ·exact .inr ((dm y).mpr (.inr e))
   ·left
    show y∈SetTable.eraseAt t.place i
    rw[← Array.mem_toList_iff,zK]
    exact zEb hp (by simpa using z) e
  ·exact .inr ((dm y).mpr (.inl z))
 have sb:∀ y,y∈SetTable.eraseAt t.place i→y∈t.place:=fun y hy=>by
  rw[← Array.mem_toList_iff,zK] at hy
  simpa using(zBD _ _).subset hy
 have fz:SetTable.fill { t with place:=SetTable.eraseAt t.place i,dummies:=SetTable.insertAt t.dummies (SetTable.below t.dummies j) j }=t.fill:=by
  show(SetTable.eraseAt t.place i).size+(SetTable.insertAt t.dummies (SetTable.below t.dummies j) j).size=t.place.size+t.dummies.size
  (first|lia|omega)
 refine⟨⟨T.msk,?_,rP,rD,fun y hy=>T.le y (sb y hy),fun y hy=>?_,?_,fun j' h' x' he=>?_,fun y hy hy'=>?_⟩,fz⟩
 ·show(SetTable.eraseAt t.place i).size=_
  rw[pz,ez,T.size]
 ·rcases(dm y).mp hy with q | q
  ·exact T.leD y q
  ·rw[q];exact T.le j jp
 ·rw[fz];exact T.room
 ·rw[zAE] at he
  have he:(j',(h',x'))∈(SetTable.eraseAt t.place i).toList.zip (SetTable.eraseAt es i).toList:=he
  rw[zK,zK] at he
  obtain⟨n',w1,w2⟩:=T.way j' h' x' (zAE.mpr (zHz (by simpa using T.size) i he))
  exact⟨n',w1,fun m hm=>fl _ (w2 m hm)⟩
 ·rcases(dm y).mp hy with q | q
  ·exact T.dis y q (sb y hy')
  ·subst q
   have hy':y∈SetTable.eraseAt t.place i:=hy'
   rw[← Array.mem_toList_iff,zK] at hy'
   exact zEc T.ris hp hy'
end
end HT3
namespace HT3
open PySem PySem.Spec
open HI (yd)
noncomputable def hd(mask:Nat)(h:Int):Nat→Nat
 | 0=>0
 | k+1=>hd mask h k+(SetTable.runEnd mask (lp mask h k).1-(lp mask h k).1)+1
section
variable {mask:Nat} {h:Int}
theorem zEd:∀ k,zb mask h (hd mask h k)=⟨(lp mask h k).1,SetTable.runEnd mask (lp mask h k).1-(lp mask h k).1,(lp mask h k).1,(lp mask h k).2,none⟩
 | 0=>rfl
 | k+1=>by
  have:=zAD (zEd k) _ (Nat.le_refl _)
  show adv mask (zb mask h (hd mask h k+(SetTable.runEnd mask (lp mask h k).1-(lp mask h k).1)))=_
  rw[this]
  unfold adv
  rw[if_neg (by simp)]
  rfl
theorem zCN{k m:Nat}(hm:m≤SetTable.runEnd mask (lp mask h k).1-(lp mask h k).1):(zb mask h (hd mask h k+m)).j=(lp mask h k).1+m:=by rw[zAD (zEd k) m hm]
theorem zH0(mask i:Nat):i≤SetTable.runEnd mask i:=by
 unfold SetTable.runEnd
 split<;>(first|lia|omega)
noncomputable def Tk(owner:Array (Option Nat))(j:Nat):Prop:=(owner.getD j (some 0)).isSome=true
theorem zEe{owner:Array (Option Nat)}{R:Nat}(hR:¬ Tk owner (lp mask h R).1):∀(fuel r:Nat),r≤R→R-r<fuel→(∀ m,m<hd mask h r→Tk owner (zb mask h m).j) →
  ∃ j n,SetTable.layClean.free mask owner fuel (lp mask h r).1 (lp mask h r).2=some j∧(zb mask h n).j=j∧¬ Tk owner j∧∀ m,m<n→Tk owner (zb mask h m).j:=by
 intro fuel
 induction fuel with
 | zero=>intro r u0 h;(first|lia|omega)
 | succ fuel ih =>
  intro r hr hf hb
  unfold SetTable.layClean.free
  have hge:=zH0 mask (lp mask h r).1
  cases hfd:(List.range (SetTable.runEnd mask (lp mask h r).1+1-(lp mask h r).1)).find? fun k=>(owner.getD ((lp mask h r).1+k) (some 0)).isNone with
  | some k0 =>
   obtain⟨f1,f2,f3⟩:=List.find?_range_eq_some.mp hfd
   have f2:=List.mem_range.mp f2
   refine⟨(lp mask h r).1+k0,hd mask h r+k0,by simp only[hfd],?_,?_,?_⟩
   ·exact zCN (by (first|lia|omega))
   ·unfold Tk
    rw[Option.isNone_iff_eq_none] at f1
    rw[f1];simp
   ·intro m hm
    rcases Nat.lt_or_ge m (hd mask h r) with z | z
    ·exact hb m z
    ·obtain⟨d,rfl⟩:∃ d,m=hd mask h r+d:=⟨m-hd mask h r,by (first|lia|omega)⟩
     rw[zCN (by (first|lia|omega))]
     have:=f3 d (by (first|lia|omega))
     unfold Tk
     cases q:owner.getD ((lp mask h r).1+d) (some 0) with
     | none=>rw[q] at this;simp at this
     | some _=>rfl
  | none =>
   rw[List.find?_range_eq_none] at hfd
   have all:∀ d,d≤SetTable.runEnd mask (lp mask h r).1-(lp mask h r).1→Tk owner ((lp mask h r).1+d):=fun d hd'=>by
    have:=hfd d (by (first|lia|omega))
    unfold Tk
    cases q:owner.getD ((lp mask h r).1+d) (some 0) with
    | none=>rw[q] at this;simp at this
    | some _=>rfl
   have hne:r≠R:=fun e=>by
    subst e
    exact hR (by simpa using all 0 (Nat.zero_le _))
   simp only
   refine ih (r+1) (by (first|lia|omega)) (by (first|lia|omega)) fun m hm=>?_
   have hm:m<hd mask h r+(SetTable.runEnd mask (lp mask h r).1-(lp mask h r).1)+1:=hm
   rcases Nat.lt_or_ge m (hd mask h r) with z | z
   ·exact hb m z
   ·obtain⟨d,rfl⟩:∃ d,m=hd mask h r+d:=⟨m-hd mask h r,by (first|lia|omega)⟩
    rw[zCN (by (first|lia|omega))]
    exact all d (by (first|lia|omega))
end
theorem wT{β:Type}{f g:Nat→Option β}:∀ {l:List Nat},(∀ i∈l,g i=f i)→l.filterMap g=l.filterMap f
 | [],_=>rfl
 | a::l,h=>by
  have ea:=h a List.mem_cons_self
  have ih:=wT fun i hi=>h i (List.mem_cons_of_mem _ hi)
  cases q:f a with
  | none=>rw[List.filterMap_cons_none (ea.trans q),List.filterMap_cons_none q,ih]
  | some c=>rw[List.filterMap_cons_some (ea.trans q),List.filterMap_cons_some q,ih]
theorem zEf{β:Type}{f:Nat→Option β}:∀ {l:List Nat},(∀ i∈l,(f i).isSome=true)→(l.filterMap f).length=l.length
 | [],_=>rfl
 | a::l,h=>by
  have ih:=zEf fun i hi=>h i (List.mem_cons_of_mem _ hi)
  have ea:=h a List.mem_cons_self
  cases q:f a with
  | none=>rw[q] at ea;cases ea
  | some c=>rw[List.filterMap_cons_some q,List.length_cons,List.length_cons,ih]
theorem zEg{β:Type}{f g:Nat→Option β}{j:Nat}{b:β}(hf:f j=none)(hg:g j=some b):∀ {l:List Nat},l.Nodup→j∈l→(∀ i∈l,i≠j→g i=f i)→(l.filterMap g).Perm (b::l.filterMap f)
 | [],_,hj,_=>by cases hj
 | a::l,nd,hj,ho=>by
  obtain⟨n1,n2⟩:=List.nodup_cons.mp nd
  by_cases e:a=j
  ·subst e
   have:l.filterMap g=l.filterMap f:=by
    apply wT
    intro i hi
    exact ho i (List.mem_cons_of_mem _ hi) fun e=>n1 (e▸hi)
   rw[List.filterMap_cons_some hg,List.filterMap_cons_none hf,this]
  ·have hj':j∈l:=by
    rcases List.mem_cons.mp hj with q | q
    ·exact(e q.symm).elim
    ·exact q
   have ih:=zEg hf hg n2 hj' fun i hi hne=>ho i (List.mem_cons_of_mem _ hi) hne
   have ea:=ho a List.mem_cons_self e
   cases q:f a with
   | none=>rw[List.filterMap_cons_none (ea.trans q),List.filterMap_cons_none q];exact ih
   | some c =>
    rw[List.filterMap_cons_some (ea.trans q),List.filterMap_cons_some q]
    exact(List.Perm.cons c ih).trans (List.Perm.swap _ _ _)
structure zBF (mask:Nat) (hs:List Int) (owner:Array (Option Nat)) (k:Nat):Prop where
 size:owner.size=mask+1
 way:∀(j k':Nat),owner.getD j none=some k'→∃ h n,hs[k']?=some h∧(zb mask h n).j=j∧∀ m,m<n→(owner.getD (zb mask h m).j none).isSome=true
 perm:((List.range (mask+1)).filterMap fun j=>owner.getD j none).Perm (List.range k)
theorem zBF.gap{mask:Nat}{hs:List Int}{owner:Array (Option Nat)}{k:Nat}(I:zBF mask hs owner k)(hk:k≤mask):∃ j,j≤mask∧owner.getD j none=none:=by
 by_cases q:∃ j,j≤mask∧owner.getD j none=none
 ·exact q
 ·have:=zEf (f:=fun j=>owner.getD j none) (l:=List.range (mask+1)) fun i hi=>by
   have hi:=List.mem_range.mp hi
   cases z:owner.getD i none with
   | none=>exact(q ⟨i,by (first|lia|omega),z⟩).elim
   | some _=>rfl
  rw[I.perm.length_eq,List.length_range,List.length_range] at this
  (first|lia|omega)
theorem zCO{mask:Nat}{hs:List Int}{owner:Array (Option Nat)}{k:Nat}(I:zBF mask hs owner k){j:Nat}(hj:j≤mask):Tk owner j↔(owner.getD j none).isSome=true:=by
 have:j<owner.size:=by rw[I.size];(first|lia|omega)
 unfold Tk
 simp[Array.getD,this]
theorem zBF.step{mask:Nat}{hs:List Int}{owner:Array (Option Nat)}{k:Nat}{h:Int}(hm:Msk mask)(I:zBF mask hs owner k)(hk:k≤mask)(e:hs[k]?=some h) :
  ∃ j,SetTable.layClean.free mask owner (SetTable.turns mask) (SetTable.bits h%(mask+1)) (SetTable.bits h)=some j∧zBF mask hs (owner.setIfInBounds j (some k)) (k+1):=by
 obtain⟨j0,h1,h2⟩:=I.gap hk
 obtain⟨R,r1,r2⟩:=heads (h:=h) hm.cyc h1
 obtain⟨j,n,f1,f2,f3,f4⟩:=zEe (mask:=mask) (h:=h) (owner:=owner) (R:=R) (by rw[r2,zCO I h1,h2];simp) (SetTable.turns mask) 0 (Nat.zero_le _) (by unfold SetTable.turns;(first|lia|omega)) (fun m hm=>absurd hm (Nat.not_lt_zero _))
 have hj:j≤mask:=by have:=(zAS mask h n).1;(first|lia|omega)
 have hjs:j<owner.size:=by rw[I.size];(first|lia|omega)
 rw[zCO I hj] at f3
 have fn:owner.getD j none=none:=by
  cases q:owner.getD j none with
  | none=>rfl
  | some _=>rw[q] at f3;exact(f3 rfl).elim
 have gs:∀ i,(owner.setIfInBounds j (some k)).getD i none=if i=j then some k else owner.getD i none:=fun i=>by
  by_cases e:i=j
  ·subst e;rw[if_pos rfl];simp[Array.getD,hjs]
  ·rw[if_neg e]
   rw[Array.getD_eq_getD_getElem?,Array.getD_eq_getD_getElem?,Array.getElem?_setIfInBounds_ne (Ne.symm e)]
 have mono:∀ i,(owner.getD i none).isSome=true→((owner.setIfInBounds j (some k)).getD i none).isSome=true:=fun i q=>by
  rw[gs]
  split
  ·rfl
  ·exact q
 refine⟨j,f1,⟨by rw[Array.size_setIfInBounds];exact I.size,fun j' k' q=>?_,?_⟩⟩
 ·rw[gs] at q
  split at q
  ·rename_i e'
   cases q
   refine⟨h,n,e,f2.trans e'.symm,fun m hm'=>mono _ ?_⟩
   rw[← zCO I (by have:=(zAS mask h m).1;(first|lia|omega))]
   exact f4 m hm'
  ·obtain⟨h',n',w1,w2,w3⟩:=I.way j' k' q
   exact⟨h',n',w1,w2,fun m hm'=>mono _ (w3 m hm')⟩
 ·rw[show List.range (k+1)=List.range k++[k] from List.range_succ]
  refine(zEg (f:=fun i=>owner.getD i none) (g:=fun i=>(owner.setIfInBounds j (some k)).getD i none) (j:=j) (b:=k) fn ((gs j).trans (if_pos rfl)) List.nodup_range (List.mem_range.mpr (by (first|lia|omega))) fun i u0 hne=>(gs i).trans (if_neg hne)).trans ?_
  refine(List.Perm.cons k I.perm).trans ?_
  exact(List.perm_append_singleton k _).symm
theorem zEh{mask:Nat}(hm:Msk mask){hs:List Int}(hn:hs.length≤mask):∀(l done:List Int) (owner:Array (Option Nat)),hs=done++l→zBF mask hs owner done.length →
  ∃ owner',(l.foldl (fun(acc:Option (Array (Option Nat)×Nat)) h=>do
   let (owner,k) ← acc
   let j ← SetTable.layClean.free mask owner (SetTable.turns mask) (SetTable.bits h%(mask+1)) (SetTable.bits h)
   pure (owner.setIfInBounds j (some k),k+1)) (some (owner,done.length))).map (·.1)=some owner'∧zBF mask hs owner' hs.length
 | [],done,owner,e,I=>⟨owner,rfl,by rw[e,List.append_nil] at *;exact I⟩
 | h::l,done,owner,e,I=>by
  have hk:done.length≤mask:=by rw[e] at hn;simp at hn;(first|lia|omega)
  obtain⟨j,f1,I'⟩:=I.step hm hk (h:=h) (by rw[e];simp)
  obtain⟨owner',g1,g2⟩:=zEh hm hn l (done++[h]) (owner.setIfInBounds j (some done.length)) (by rw[e];simp) (by simpa using I')
  refine⟨owner',?_,g2⟩
  rw[← g1]
  rw[List.foldl_cons]
  congr 2
  show(do
   let j ← SetTable.layClean.free mask owner (SetTable.turns mask) (SetTable.bits h%(mask+1)) (SetTable.bits h)
   pure (owner.setIfInBounds j (some done.length),done.length+1))=_
  rw[f1]
  simp
theorem zH1{mask:Nat}(hm:Msk mask){hashes:Array Int}(hn:hashes.size≤mask):∃ owner,SetTable.layClean mask hashes=some owner∧zBF mask hashes.toList owner hashes.size:=by
 have g0:∀ j,(Array.replicate (mask+1) (none:Option Nat)).getD j none=none:=fun j=>by
  simp only[Array.getD]
  split
  ·simp
  ·rfl
 obtain⟨owner,h1,h2⟩:=zEh hm (hs:=hashes.toList) (by simpa using hn) hashes.toList [] (Array.replicate (mask+1) none) rfl ⟨by simp,fun j k' q=>(by rw[g0] at q;cases q),by
  have:((List.range (mask+1)).filterMap fun j=>(Array.replicate (mask+1) (none:Option Nat)).getD j none)=[]:=by
   rw[wT (f:=fun u0=>none) fun i u0=>g0 i]
   simp
  rw[this]
  exact .refl _⟩
 refine⟨owner,?_,by simpa using h2⟩
 unfold SetTable.layClean
 rw[← Array.foldl_toList]
 exact h1
theorem zF8{mask finger moves:Nat}{led plain:Bool}{es:Array (Int×Value)}(hm:Msk mask)(hn:es.size≤mask) :
  ∃ t order,SetTable.laid mask finger moves led plain (es.map (·.1))=some (t,order)∧Tab t (order.filterMap (es[·]?))∧(order.filterMap (es[·]?)).toList.Perm es.toList∧t.mask=mask∧t.led=led∧t.plain=plain∧t.dummies=#[]∧t.place.size=es.size:=by
 obtain⟨owner,h1,I⟩:=zH1 hm (hashes:=es.map (·.1)) (by simpa using hn)
 rw[Array.size_map] at I
 have lk:∀ l:List Nat,(l.filterMap fun j=>(owner.getD j none).map (j,·)).map (·.2)=l.filterMap fun j=>owner.getD j none:=fun l=>by
  rw[List.map_filterMap]
  apply wT
  intro i u0
  cases owner.getD i none<;>rfl
 have lm:∀(l:List Nat) (p:Nat×Nat),p∈(l.filterMap fun j=>(owner.getD j none).map (j,·))↔p.1∈l∧owner.getD p.1 none=some p.2:=fun l p=>by
  rw[List.mem_filterMap]
  constructor
  ·rintro⟨j,hj,e⟩
   cases q:owner.getD j none with
   | none=>rw[q] at e;cases e
   | some k=>rw[q] at e;cases e;exact⟨hj,q⟩
  ·rintro⟨a,b⟩
   exact⟨p.1,a,by rw[b];rfl⟩
 have pm:=I.perm
 have kn:∀ k∈((List.range (mask+1)).filterMap fun j=>(owner.getD j none).map (j,·)).map (·.2),k<es.size:=fun k hk=>by
  rw[lk] at hk
  exact List.mem_range.mp (pm.mem_iff.mp hk)
 have es':(((List.range (mask+1)).filterMap fun j=>(owner.getD j none).map (j,·)).map (·.2)).filterMap (es[·]?)=(((List.range (mask+1)).filterMap fun j=>(owner.getD j none).map (j,·)).map (·.2)).map fun k=>es.getD k (0,.none):=by
  have:∀ l:List Nat,(∀ k∈l,k<es.size)→l.filterMap (es[·]?)=l.map fun k=>es.getD k (0,.none):=by
   intro l
   induction l with
   | nil=>intro u0;rfl
   | cons a l ih =>
    intro hl
    have ha:=hl a List.mem_cons_self
    rw[List.filterMap_cons_some (b:=es.getD a (0,.none)) (by simp[Array.getD,ha]),List.map_cons,ih fun k hk=>hl k (List.mem_cons_of_mem _ hk)]
  exact this _ kn
 have hlen:((List.range (mask+1)).filterMap fun j=>(owner.getD j none).map (j,·)).length=es.size:=by
  have:=congrArg List.length (lk (List.range (mask+1)))
  rw[List.length_map,pm.length_eq,List.length_range] at this
  exact this
 generalize hL:(List.range (mask+1)).filterMap (fun j=>(owner.getD j none).map (j,·))=L at *
 refine⟨{ mask,place:=(L.map (·.1)).toArray,dummies:=#[],finger,led,moves,plain },(L.map (·.2)).toArray,?_,?_⟩
 ·unfold SetTable.laid
  rw[h1]
  show some _=_
  rw[hL]
 ·have eo:((L.map (·.2)).toArray.filterMap (es[·]?)).toList=L.map fun p=>es.getD p.2 (0,.none):=by
   rw[Array.toList_filterMap]
   show(L.map (·.2)).filterMap (es[·]?)=_
   rw[es',List.map_map]
   rfl
  have rs:yd (L.map (·.1)).toArray:=by
   unfold yd
   have:=HI.wn (fun j=>owner.getD j none) (List.range (mask+1))
   rw[hL] at this
   exact List.Pairwise.sublist this List.pairwise_lt_range
  have ls:∀ p,p∈L→p.1≤mask∧owner.getD p.1 none=some p.2:=fun p hp=>by
   have:=(lm (List.range (mask+1)) p).mp (by rw[hL];exact hp)
   exact⟨by have:=List.mem_range.mp this.1;(first|lia|omega),this.2⟩
  have rd:yd (#[]:Array Nat):=List.Pairwise.nil
  refine⟨⟨hm,?_,rs,rd,fun j hj=>?_,fun j hj=>by simp at hj,?_,fun j h x he=>?_,fun j hj=>by simp at hj⟩,?_,rfl,rfl,rfl,rfl,?_⟩
  ·have:=congrArg List.length eo
   rw[Array.length_toList,List.length_map] at this
   show(L.map (·.1)).toArray.size=_
   rw[this]
   simp
  ·have:j∈L.map (·.1):=by simpa using hj
   obtain⟨p,hp,rfl⟩:=List.mem_map.mp this
   exact(ls p hp).1
  ·show(L.map (·.1)).toArray.size+0≤mask
   simp
   (first|lia|omega)
  ·obtain⟨i,e1,e2⟩:=he
   have e1':(L.map (·.1))[i]?=some j:=by simpa using e1
   have e2':(L.map fun p=>es.getD p.2 (0,.none))[i]?=some (h,x):=by rw[← eo];simpa using e2
   rw[List.getElem?_map] at e1' e2'
   cases q:L[i]? with
   | none=>rw[q] at e1';cases e1'
   | some p =>
    rw[q] at e1' e2'
    have e1'':p.1=j:=by simpa using e1'
    have e2'':es.getD p.2 (0,.none)=(h,x):=by simpa using e2'
    obtain⟨u0,l2⟩:=ls p (List.mem_of_getElem? q)
    obtain⟨h',n,w1,w2,w3⟩:=I.way p.1 p.2 l2
    have hk:p.2<es.size:=kn p.2 (List.mem_map.mpr ⟨p,List.mem_of_getElem? q,rfl⟩)
    have:h'=h:=by
     have w1':(es.map (·.1)).toList[p.2]?=some h':=w1
     simp[hk] at w1'
     have:es[p.2]=(h,x):=by simpa[Array.getD,hk] using e2''
     rw[this] at w1'
     exact w1'.symm
    subst this
    refine⟨n,w2.trans e1'',fun m hm'=>?_⟩
    rw[yF rs rd]
    left
    have:=w3 m hm'
    have lt:=(zAS mask h' m).1
    cases z:owner.getD (zb mask h' m).j none with
    | none=>rw[z] at this;cases this
    | some k2 =>
     have:((zb mask h' m).j,k2)∈L:=by
      rw[← hL]
      exact(lm _ _).mpr ⟨List.mem_range.mpr (by simp only;(first|lia|omega)),z⟩
     show(zb mask h' m).j∈(L.map (·.1)).toArray
     simp only[List.mem_toArray]
     exact List.mem_map.mpr ⟨_,this,rfl⟩
  ·rw[eo]
   have e3:es.toList=(List.range es.size).map fun k=>es.getD k (0,.none):=by
    apply List.ext_getElem
    ·simp
    ·intro i h1 h2
     have:i<es.size:=by simpa using h1
     simp[Array.getD,this]
   rw[e3]
   have e4:(L.map fun p=>es.getD p.2 (0,.none))=(L.map (·.2)).map fun k=>es.getD k (0,.none):=by rw[List.map_map];rfl
   rw[e4]
   refine List.Perm.map _ ?_
   have:=lk (List.range (mask+1))
   rw[hL] at this
   rw[this]
   exact pm
  ·show(L.map (·.1)).toArray.size=_
   simp[hlen]
end HT3
namespace HT3
open PySem PySem.Spec
open HI (yd)
noncomputable def zKw:Value→Int
 | .int k _=>k
 | _=>0
noncomputable def kyT(h:Heap)(e:Int×Value):List Int:=match e.2 with
 | .ref c=>(match h.get? c with | some o=>(match o.data with | .seq its _=>its.toList.map zKw | _=>[]) | none=>[])
 | _=>[]
section
variable {prog:Program} {w:World} {P:Addr→Prop} {A:Around} {E:Value→Shared→Prop} {s:Shared}
theorem zDM{ns:List Int}{vs:List Value}(h:ItemsAre (intKind prog w) ns vs):vs.map zKw=ns:=by
 induction h with
 | nil=>rfl
 | cons h1 _ ih =>
  obtain⟨t,rfl⟩:=Value.isInt_shape h1
  rw[List.map_cons,ih]
  rfl
theorem zAB{h:Heap}{ns:List Int}{c:Addr}(x:TK prog w P h ns c)(n:Int):kyT h (n,.ref c)=ns:=by
 obtain⟨⟨o,its,m,ho,hc,hd,hi⟩,u0⟩:=x
 unfold kyT
 simp only[ho,hd]
 exact zDM hi
theorem OkT.mem{h:Heap}{es:Array (Int×Value)}(x:OkT prog w P h es):∀ e∈es.toList,∃ c,e=(hT prog w (kyT h e),.ref c)∧TK prog w P h (kyT h e) c:=fun e he=>by
 obtain⟨i,hi,rfl⟩:=List.getElem_of_mem he
 obtain⟨c,ms,e1,e2⟩:=x i es.toList[i] (by simpa using hi)
 have:kyT h es.toList[i]=ms:=by rw[e1];exact zAB e2 _
 rw[this]
 exact⟨c,e1,e2⟩
theorem OkT.of{h:Heap}{es:Array (Int×Value)}(x:∀ e∈es.toList,∃ c ms,e=(hT prog w ms,.ref c)∧TK prog w P h ms c):OkT prog w P h es:=fun i e he=>x e (by
 have:=List.mem_of_getElem? (l:=es.toList) (i:=i) (a:=e) (by simpa using he)
 exact this)
theorem OkT.perm{h:Heap}{es es':Array (Int×Value)}(x:OkT prog w P h es)(p:es'.toList.Perm es.toList):OkT prog w P h es':=.of fun e he=>by
 obtain⟨c,e1,e2⟩:=x.mem e (p.mem_iff.mp he)
 exact⟨c,_,e1,e2⟩
theorem TK.keep{h h':Heap}{ns:List Int}{c:Addr}(x:TK prog w P h ns c)(k:∀ o,h.get? c=some o→h'.get? c=some o):TK prog w P h' ns c:=let ⟨⟨o,i,n,e,r⟩,q⟩:=x;⟨⟨o,i,n,k o e,r⟩,q⟩
theorem OkT.keep{h h':Heap}{es:Array (Int×Value)}(x:OkT prog w P h es)(k:∀ c o its n,h.get? c=some o→o.data=.seq its n→h'.get? c=some o):OkT prog w P h' es∧es.toList.map (kyT h')=es.toList.map (kyT h):=by
 have tk:∀ {ns c},TK prog w P h ns c→TK prog w P h' ns c:=fun {ns c} q=>let ⟨⟨o,i,n,e,c1,d,r⟩,q⟩:=q;⟨⟨o,i,n,k _ o i n e d,c1,d,r⟩,q⟩
 refine⟨fun i e he=>?_,List.map_congr_left fun e he=>?_⟩
 ·obtain⟨c,ms,e1,e2⟩:=x i e he
  exact⟨c,ms,e1,tk e2⟩
 ·obtain⟨c,e1,e2⟩:=x.mem e he
  have h1:=zAB (tk e2) (hT prog w (kyT h e))
  rw[← e1] at h1
  exact h1
noncomputable def ST(prog:Program)(w:World)(P:Addr→Prop)(h:Heap)(a:Addr)(kys:List (List Int)):Prop:=∃ o es ep t,h.get? a=some o∧o.ExactSet∧o.data=.set es ep t∧Tab t es∧OkT prog w P h es∧t.plain=true∧t.led=HI.wY w∧t.fill*5<t.mask*3∧kys.Perm (es.toList.map (kyT h))∧kys.Nodup∧t.dummies.size=0
theorem ST.keep{h h':Heap}{a:Addr}{kys:List (List Int)}(x:ST prog w P h a kys)(k:∀ b o,h.get? b=some o→h'.get? b=some o):ST prog w P h' a kys:=by
 obtain⟨o,es,ep,t,h1,h2,h3,h4,h5,h6,h7,h8,h9,h10⟩:=x
 obtain⟨k1,k2⟩:=h5.keep fun c o u0 u0 e u0=>k c o e
 exact⟨o,es,ep,t,k _ _ h1,h2,h3,h4,k1,h6,h7,h8,by rw[k2];exact h9,h10⟩
theorem size_of(n:Nat)(h:n≤40000):Msk (SetTable.sizeAbove (n*4)-1)∧n*5<(SetTable.sizeAbove (n*4)-1)*3∧SetTable.sizeAbove (n*4)≤600000:=by
 obtain⟨b,h1,h2,h3,h4⟩:=zLG (n:=n*4) (by (first|lia|omega))
 rw[h2]
 exact⟨⟨b,h1,by (first|lia|omega)⟩,by (first|lia|omega),by (first|lia|omega)⟩
end
end HT3
namespace HT3
open PySem PySem.Spec
open HI (yd)
section
variable {prog:Program} {w:World} {P:Addr→Prop} {A:Around} {E:Value→Shared→Prop} {s:Shared}
theorem fits_of{t:SetTable}{es:Array (Int×Value)}(T:Tab t es):t.fits es.size=true:=by
 unfold SetTable.fits
 simp[T.size,T.room]
theorem zCt{h:Heap}{a:Addr}{o:Obj}{es:Array (Int×Value)}{ep:Nat}{t:SetTable}{es':Array (Int×Value)}{t':SetTable}(ho:h.get? a=some o)(hd:o.data=.set es ep t) :
  (h.update a (Obj.putSet es' t')).get? a=some { o with data:=.set es' (ep+1) t' }:=by
 rw[← putSet_of es' t' hd]
 exact Heap.get?_update_self _ ho (by rw[putSet_of es' t' hd];rfl)
theorem zKx{a:Addr}{o:Obj}{es:Array (Int×Value)}{ep:Nat}{t:SetTable}{n:Nat}{Q:Unit→Shared→Prop}(ho:s.heap.get? a=some o)(hd:o.data=.set es ep t)(T:Tab t es)(hm:Msk (SetTable.sizeAbove n-1))(hn:es.size≤SetTable.sizeAbove n-1)(hz:SetTable.sizeAbove n≤600000)
  (h:∀ es' t',Tab t' es'→es'.toList.Perm es.toList→t'.plain=t.plain→t'.led=t.led→t'.mask=SetTable.sizeAbove n-1→t'.fill=es.size→Q () { s with heap:=s.heap.update a (Obj.putSet es' t') }) :
  wpAny (model prog w) A (setRelay a n) Q E s:=by
 obtain⟨t',order,h1,h2,h3,h4,h5,h6,h7,h8⟩:=zF8 (mask:=SetTable.sizeAbove n-1) (finger:=t.finger) (moves:=t.movedTo (SetTable.sizeAbove n-1)) (led:=t.led) (plain:=t.plain) hm hn
 unfold setRelay
 refine wpAny_bind (wpAny_setState_of ho hd (fits_of T) ?_)
 dsimp only
 rw[if_neg (by rw[sizeLine_eq];(first|lia|omega))]
 have hr:t.relaid (es.map (·.1)) n=some (t',order):=h1
 have sz:(order.filterMap (es[·]?)).size=es.size:=by
  have:=h3.length_eq
  rw[Array.length_toList,Array.length_toList] at this
  exact this
 refine wpAny_bind (wpAny_of_eq (a:=(order.filterMap (es[·]?),t')) ?_ ?_)
 ·rw[hr]
  show(if ((order.filterMap (es[·]?)).size != es.size)=true then _ else _)=_
  rw[if_neg (by rw[sz];simp)]
 ·dsimp only
  refine wpAny_storeSet_of ho hd (h _ t' h2 h3 h6 h5 h4 ?_) ?_
  ·show t'.place.size+t'.dummies.size=_
   rw[h7,h8];rfl
  ·rw[sz,sizeLine_eq];(first|lia|omega)
theorem zH2{a b:Addr}{ns:List Int}{kys:List (List Int)}{Q:Bool→Shared→Prop}(hA:A.units<cLine)(hS:ST prog w P s.heap a kys)(hb:TK prog w P s.heap ns b)(room:kys.length≤9000)
  (h:∀ h' kys' r,Heap.SameBut a s.heap h'→ST prog w P h' a kys'→kys'.Perm (if ns∈kys then kys else kys++[ns])→Q r { s with heap:=h' }):wpAny (model prog w) A (setAddHashed a (.ref b) (hT prog w ns)) Q E s:=by
 obtain⟨o,es,ep,t,h1,h2,h3,h4,h5,h6,h7,h8,h9,h10,h11⟩:=id hS
 have esz:es.size=kys.length:=by have:=h9.length_eq;simp at this;(first|lia|omega)
 have hky:∀(i:Nat) e c ms,es[i]?=some e→e.2=.ref c→TK prog w P s.heap ms c→ms∈kys:=fun i e c ms e1 e2 e3=>by
  rw[h9.mem_iff]
  refine List.mem_map.mpr ⟨e,List.mem_of_getElem? (l:=es.toList) (i:=i) (by simpa using e1),?_⟩
  obtain⟨e0,ev⟩:=e
  simp only at e2
  subst e2
  exact zAB e3 _
 unfold setAddHashed
 refine wpAny_holding ?_
 unfold setAddHashedIn
 refine wpAny_bind (wpAny_setState_of h1 h3 (fits_of h4) ?_)
 dsimp only
 rw[if_neg (by simp[byScan,Value.scannable])]
 obtain⟨N,n1,n2,n3⟩:=h4.stop (hT prog w ns)
 refine wpAny_bind ?_
 unfold setSearch
 refine zOI (Q:=_) hA h1 h3 h4 h5 hb (by have:=h4.room;(first|lia|omega)) n2 n3 (adding:=true) (fun i c e1 e2=>?_) (fun hno d hd=>?_) (N-0) 0 100000 none none rfl (Nat.zero_le _) ?_ (fun j q=>by cases q) rfl (fun m hm=>absurd hm (Nat.not_lt_zero _))
 ·have hin:ns∈kys:=hky i _ c ns e1 rfl e2
  simp only[↓reduceIte]
  refine wpAny_pure ?_
  exact h s.heap kys false ⟨rfl,fun u0 u0=>rfl⟩ hS (by rw[if_pos hin])
 ·have hnk:ns∉kys:=fun q=>by
   rw[h9.mem_iff] at q
   obtain⟨e,he,hk⟩:=List.mem_map.mp q
   obtain⟨c,e1,e2⟩:=h5.mem e he
   obtain⟨i,hi,e3⟩:=List.getElem_of_mem he
   rw[hk] at e2
   exact hno i e c ns (by rw[← e3];simpa using hi) (by rw[e1]) e2 rfl
  dsimp only
  refine wpAny_bind (wpAny_setState_of h1 h3 (fits_of h4) ?_)
  dsimp only
  have mge:7≤t.mask:=h4.msk.ge
  -- the place
  have hp:∃ n j,d.getD (zb t.mask (hT prog w ns) N).j=j∧(zb t.mask (hT prog w ns) n).j=j∧(∀ m,m<n→wd t (zb t.mask (hT prog w ns) m).j)∧(t.slot j=.empty∨t.slot j=.dummy)∧(d.isSome=true→t.slot j=.dummy):=by
   cases d with
   | none=>exact⟨N,_,rfl,rfl,n3,.inl n2,fun q=>by cases q⟩
   | some j =>
    obtain⟨d1,m,d2,d3⟩:=hd j rfl
    exact⟨m,j,rfl,d3,fun m' hm'=>n3 m' (by (first|lia|omega)),.inr d1,fun u0=>d1⟩
  obtain⟨n,j,j1,j2,j3,j4,j5⟩:=hp
  rw[j1]
  obtain⟨T',f1,f2⟩:=h4.put (x:=.ref b) j2 j3 j4 (by (first|lia|omega))
  have pl:(t.put j).1.plain=true:=h6
  have ld:(t.put j).1.led=HI.wY w:=h7
  have mk:(t.put j).1.mask=t.mask:=rfl
  generalize hes':SetTable.insertAt es (t.put j).2 (hT prog w ns,.ref b)=es' at T'
  have pm:es'.toList.Perm (es.toList++[(hT prog w ns,.ref b)]):=by
   rw[← hes']
   have:=SetTable.insertAt_perm es (t.put j).2 (hT prog w ns,.ref b)
   simpa using this
  have sz':es'.size=es.size+1:=by have:=pm.length_eq;simp at this;(first|lia|omega)
  rw[pl]
  simp only[↓reduceIte]
  refine wpAny_bind (zEa hb ?_)
  simp only[↓reduceIte]
  refine wpAny_bind (wpAny_storeSet_of h1 h3 ?_ (by rw[sizeLine_eq];(first|lia|omega)))
  -- behind the store
  have ok1:OkT prog w P s.heap es':=.of fun e he=>by
   rcases List.mem_append.mp (pm.mem_iff.mp he) with q | q
   ·obtain⟨c,e1,e2⟩:=h5.mem e q;exact⟨c,_,e1,e2⟩
   ·rw[List.mem_singleton] at q;exact⟨b,ns,q,hb⟩
  have kp1:kys++[ns]=kys++[ns]:=rfl
  have pk:(kys++[ns]).Perm (es'.toList.map (kyT s.heap)):=by
   refine List.Perm.trans ?_ (pm.map _).symm
   rw[List.map_append]
   refine h9.append ?_
   rw[List.map_singleton,zAB hb]
  have nd1:(kys++[ns]).Nodup:=List.nodup_append.mpr ⟨h10,by simp,fun x hx y hy e=>by rw[List.mem_singleton] at hy;exact hnk (by rw[← hy,← e];exact hx)⟩
  have fin:∀(es2:Array (Int×Value)) (t2:SetTable) (ep2:Nat) (h':Heap),Heap.SameBut a s.heap h'→h'.get? a=some { o with data:=.set es2 ep2 t2 }→Tab t2 es2→es2.toList.Perm es'.toList→t2.plain=true→t2.led=HI.wY w→t2.fill*5<t2.mask*3→t2.dummies.size=0→Q true { s with heap:=h' }:=fun es2 t2 ep2 h' sb g T2 p2 pl2 ld2 fl2 dm2=>by
   have kk:∀ c o' its n,s.heap.get? c=some o'→o'.data=.seq its n→h'.get? c=some o':=fun c o' its n e1 e2=>by
    rw[sb.2 c (fun q=>by subst q;rw[h1] at e1;cases e1;rw[h3] at e2;cases e2)];exact e1
   obtain⟨k1,k2⟩:=(ok1.perm p2).keep kk
   refine h h' (kys++[ns]) true sb ⟨_,es2,ep2,t2,g,h2,rfl,T2,k1,pl2,ld2,fl2,?_,nd1,dm2⟩ (by rw[if_neg hnk])
   rw[k2]
   exact pk.trans (p2.map _).symm
  have g1:=zCt (es':=es') (t':=(t.put j).1) h1 h3
  have s1:Heap.SameBut a s.heap (s.heap.update a (Obj.putSet es' (t.put j).1)):=Heap.SameBut.update ..
  by_cases hrl:(!d.isSome&&(t.put j).1.tooFull)=true
  ·rw[if_pos hrl]
   have so:=size_of (es.size+1) (by (first|lia|omega))
   have gw:SetTable.grown (es.size+1)=(es.size+1)*4:=by unfold SetTable.grown;rw[if_neg (by (first|lia|omega))]
   rw[gw]
   refine wpAny_bind (zKx (s:={ s with heap:=s.heap.update a (Obj.putSet es' (t.put j).1) }) g1 rfl T' so.1 (by rw[sz'];(first|lia|omega)) so.2.2 fun es2 t2 T2 p2 pl2 ld2 mk2 fl2=>?_)
   refine wpAny_pure (fin es2 t2 _ _ (s1.trans (Heap.SameBut.update ..)) (zCt (o:={ o with data:=.set es' (ep+1) (t.put j).1 }) g1 rfl) T2 p2 (pl2.trans pl) (ld2.trans ld) ?_ ?_)
   ·rw[fl2,mk2,sz']
    exact so.2.1
   ·have a:=T2.size
    have b:=p2.length_eq
    rw[Array.length_toList,Array.length_toList] at b
    unfold SetTable.fill at fl2
    (first|lia|omega)
  ·rw[if_neg hrl]
   refine wpAny_pure (fin es' (t.put j).1 _ _ s1 g1 T' (.refl _) pl ld ?_ ?_)
   rotate_left
   ·have a:=T'.size
    have c:=h4.size
    unfold SetTable.fill at f1
    (first|lia|omega)
   cases hd':d.isSome with
   | true =>
    rw[f2 (j5 hd'),mk]
    exact h8
   | false =>
    rw[hd'] at hrl
    have:(t.put j).1.tooFull=false:=by simpa using hrl
    unfold SetTable.tooFull at this
    simpa using this
 ·have a:=h4.size
  unfold SetTable.fill at n1
  (first|lia|omega)
end
end HT3
namespace HT3
open PySem PySem.Spec PyProof.Rows
open HI (yd wy wY zAp)
noncomputable def Kp(h0 h:Heap):Prop:=∀ b o,h0.get? b=some o→h.get? b=some o
section
variable {prog:Program} {w:World} {P:Addr→Prop} {A:Around} {R:Result→Shared→Prop} {h0:Heap} {S I:Addr} {fp wr:List Addr} {n:Nat} {its:Array Value} {val:Nat→List Int} {St:Nat→Heap→Prop} {g:Array GenState} {d:Drawn} {os:OsState}
theorem zDN(W:Walks prog w A.in1 I fp wr n (fun i v=>its[i]?=some v) St)(hA:A.in1.units<cLine)(hSf:S∉fp)(hS:h0.get? S=none)(hwr:∀ b∈wr,h0.get? b=none)(hwd:∀ i h,St i h→∀ b∈wr,∀ o,h.get? b=some o→∀ its n,o.data≠.seq its n)(hb:n≤9000)
  (ht:∀ i v,its[i]?=some v→∃ c,v=.ref c∧TK prog w P h0 (val i) c) :
  ∀(k i:Nat) (h:Heap) (tk:Nat) (kys:List (List Int)),n-i=k→i≤n→Kp h0 h→St i h→ST prog w P h S kys→kys.length≤i→(∀ x,x∈kys↔∃ m,m<i∧val m=x) →
   (∀ h' tk' kys',Kp h0 h'→ST prog w P h' S kys'→kys'.length≤n→(∀ x,x∈kys'↔∃ m,m<n∧val m=x)→R (.ok (.ret .none)) ⟨h',g,d,tk',os⟩) →
   codeAny (model prog w) A (.builtin "set.update.loop" ⟨[.ref S,.ref I],[]⟩) R ⟨h,g,d,tk,os⟩:=by
 have hSw:S∉wr:=fun q=>hSf (W.sub _ q)
 have kpw:∀ {h h':Heap},Kp h0 h→(∀ b o,b∉wr→h.get? b=some o→h'.get? b=some o)→Kp h0 h':=fun {h h'} kp e b o q=>e b o (fun z=>by rw[hwr b z] at q;cases q) (kp b o q)
 have stw:∀ {h h':Heap} {kys},ST prog w P h S kys→(∀ b o,b∉wr→h.get? b=some o→h'.get? b=some o)→(∀ b o,b∈wr→h.get? b=some o→∀ its n,o.data≠.seq its n)→ST prog w P h' S kys:=fun {h h' kys} x e e2=>by
  obtain⟨o,es,ep,t,h1,h2,h3,h4,h5,h6,h7,h8,h9,h10⟩:=x
  obtain⟨k1,k2⟩:=h5.keep fun c o its n q1 q2=>e c o (fun z=>e2 c o z q1 its n q2) q1
  exact⟨o,es,ep,t,e _ _ hSw h1,h2,h3,h4,k1,h6,h7,h8,by rw[k2];exact h9,h10⟩
 intro k
 induction k with
 | zero =>
  intro i h tk kys hk hi kp st hst hl mem hR
  obtain rfl:i=n:=by (first|lia|omega)
  refine codeAny_builtin F.entry_set_update_loop ?_
  rw[Around.under_plainId F.plain_set_update_loop _]
  show wpAny _ A.in1 (pyNext (.ref I)>>=_) _ _ _
  refine wpAny_bind (W.done _ _ _ st fun h' tk' e=>wpAny_pure (hR h' tk' kys (kpw kp e) (stw hst e fun b o z q=>hwd _ _ st b z o q) hl mem))
 | succ k ih =>
  intro i h tk kys hk hi kp st hst hl mem hR
  have lt:i<n:=by (first|lia|omega)
  refine codeAny_builtin F.entry_set_update_loop ?_
  rw[Around.under_plainId F.plain_set_update_loop _]
  show wpAny _ A.in1 (pyNext (.ref I)>>=_) _ _ _
  refine wpAny_bind (W.item i _ _ _ lt st fun v h1 tk1 hP st1 e1=>?_)
  obtain⟨c,rfl,hc⟩:=ht i v hP
  have kp1:Kp h0 h1:=kpw kp e1
  have hst1:=stw hst e1 fun b o z q=>hwd _ _ st b z o q
  have hc1:TK prog w P h1 (val i) c:=hc.keep fun o q=>kp1 c o q
  show wpAny _ A.in1 (holding [Value.ref c] (setAdd S (.ref c))>>=_) _ _ _
  refine wpAny_bind (wpAny_holding ?_)
  unfold setAdd
  refine wpAny_holding (wpAny_bind ((tupleKind (intKind prog w)).pyHash (k:=val i) hA hc1.1 ?_))
  refine zH2 (s:=⟨h1,g,d,tk1+((val i).length+1),os⟩) hA hst1 hc1 (by (first|lia|omega)) fun h2 kys2 r sb st2 pm=>?_
  have len2:kys2.length≤i+1:=by
   rw[pm.length_eq]
   split
   ·(first|lia|omega)
   ·rw[List.length_append];simp;(first|lia|omega)
  have mem2:∀ x,x∈kys2↔∃ m,m<i+1∧val m=x:=fun x=>by
   rw[pm.mem_iff]
   constructor
   ·intro q
    split at q
    ·obtain⟨m,h1,h2⟩:=(mem x).mp q
     exact⟨m,by (first|lia|omega),h2⟩
    ·rcases List.mem_append.mp q with q | q
     ·obtain⟨m,h1,h2⟩:=(mem x).mp q
      exact⟨m,by (first|lia|omega),h2⟩
     ·rw[List.mem_singleton] at q
      exact⟨i,by (first|lia|omega),q.symm⟩
   ·rintro⟨m,h1,h2⟩
    rcases Nat.lt_or_ge m i with z | z
    ·have:=(mem x).mpr ⟨m,z,h2⟩
     split
     ·exact this
     ·exact List.mem_append_left _ this
    ·obtain rfl:m=i:=by (first|lia|omega)
     split
     ·rename_i q;rw[← h2];exact q
     ·rw[← h2];simp
  have kp2:Kp h0 h2:=fun b o q=>by
   rw[sb.2 b (fun z=>by subst z;rw[hS] at q;cases q)]
   exact kp1 b o q
  refine wpAny_pure ⟨plainId_quiet F.plain_set_update_loop _,ih (i+1) h2 _ kys2 (by (first|lia|omega)) lt kp2 (W.frame _ _ _ st1 fun b hb' o e=>?_) st2 len2 mem2 hR⟩
  rw[sb.2 b (fun q:b=S=>hSf (by rw[← q];exact hb'))];exact e
end
end HT3
namespace HT3
open PySem PySem.Spec PyProof.Rows
open HI (yd wy wY zAp)
section
variable {prog:Program} {w:World} {P:Addr→Prop} {A:Around} {E:Value→Shared→Prop} {s:Shared}
theorem zH3{h:Heap}:ST prog w P (h.push (wy w)) h.objs.size []:=by
 refine⟨wy w,#[],0,.fresh 0 0 (wY w),Heap.get?_push_size _ rfl,⟨rfl,rfl,rfl⟩,rfl,⟨⟨3,Nat.le_refl _,rfl⟩,rfl,List.Pairwise.nil,List.Pairwise.nil,fun j hj=>(by simp[SetTable.fresh] at hj),fun j hj=>(by simp[SetTable.fresh] at hj),Nat.zero_le _,fun j h x he=>?_,fun j hj=>(by simp[SetTable.fresh] at hj)⟩,fun i e he=>by simp at he,rfl,rfl,(by show 0*5<7*3;decide),.refl _,List.nodup_nil,rfl⟩
 obtain⟨i,e,u0⟩:=he
 simp[SetTable.fresh] at e
theorem zFX{l:Addr}{its:Array Value}{val:Nat→List Int}{Q:Value→Shared→Prop}(hh:A.handled=none)(hA:A.in1.in1.in1.units<cLine)(hl:s.heap.IsList l its)(ht:∀ i v,its[i]?=some v→∃ c,v=.ref c∧TK prog w P s.heap (val i) c)(hb:its.size≤9000)
  (h:∀(h':Heap) (tk:Nat) (kys:List (List Int)),ST prog w P h' s.heap.objs.size kys→kys.length≤its.size→(∀ x,x∈kys↔∃ m,m<its.size∧val m=x)→Kp s.heap h'→Q (.ref s.heap.objs.size) { s with heap:=h',toks:=tk }) :
  wpAny (model prog w) A (call (.type "set") [.ref l]) Q E s:=by
 obtain⟨c,tl,hmro⟩:=F.called_set.mro
 have hmade:=F.called_set.made
 have hsub:=F.called_set.sub
 refine wpAny_call (codeAny_of_tree (show wpAny _ _ (callAny (.type "set") _) _ _ _ from wpAny_pure ⟨Code.quiet_builtin _ (by decide +kernel),codeAny_builtin F.entry_type_call ?_⟩))
 rw[Around.under_plain (weight_type_call_type "set" [.ref l] []) rfl]
 have h1:=F.called_set.notType
 have h2:=F.called_set.canCreate
 have hct:=F.typeCall_set_1 (.ref l)
 (repeat (any_goals (first | assumption | wp_step)))
 refine codeAny_mono (zAp (.ref l) (E:=E) (Q1:=fun obj z=>obj=.ref s.heap.objs.size∧z={ s with heap:=s.heap.push (wy w) }) ⟨rfl,rfl⟩) fun r z hr=>?_
 cases r with
 | error e=>exact hr
 | ok fl =>
  cases fl with
  | ret obj =>
   obtain⟨rfl,rfl⟩:=hr
   have hT:Shared.TypeIs { s with heap:=s.heap.push (wy w) } (.ref s.heap.objs.size) "set":=⟨_,Heap.get?_push_size _ rfl,rfl⟩
   have hli:=F.called_set.init.lookup
   have hbi:=F.called_set.init.bind (.ref s.heap.objs.size)
   (repeat (any_goals (first | assumption | wp_step)))
   refine codeAny_mono (codeAny_call_builtin (R:=wants (fun r z2=>r=.none∧∃ h' tk kys,z2={ s with heap:=h',toks:=tk }∧ST prog w P h' s.heap.objs.size kys∧kys.length≤its.size∧(∀ x,x∈kys↔∃ m,m<its.size∧val m=x)∧Kp s.heap h') E) F.called_set.init.plain F.entry_set_init (check_set_init_1 hT ?_)) fun r2 z2 hr2=>?_
   ·obtain⟨ol,hol,hcl,nl,hdl⟩:=hl
    obtain⟨ocls,odict,odata,oslots⟩:=ol
    simp only at hcl hdl
    subst hcl;subst hdl
    have hol':(s.heap.push (wy w)).get? l=some { cls:=.type "list",dict:=odict,data:=.seq its nl,slots:=oslots }:=Heap.get?_push_of_some _ hol
    have hsls:isSubtype (.type "list") (.type "set")=pure false:=by rw[isSubtype_type];kernel_rfl
    have hslf:isSubtype (.type "list") (.type "frozenset")=pure false:=by rw[isSubtype_type];kernel_rfl
    have hne:(Value.type "list"==Value.type "dict")=false:=by decide
    have hl1:(s.heap.push (wy w)).IsList l its:=⟨_,hol',rfl,nl,rfl⟩
    unfold Builtin.«set.__init__» noKeywords Builtin.Frozenset.updateFrom
    generalize hPI:pyIter=PI
    wp_walk
    subst hPI
    refine wpAny_pyIter_list hl1 (wpAny_bind (wpAny_runValue ?_))
    have lS:l<s.heap.objs.size:=Heap.lt_size hol
    have hh3:A.in1.in1.in1.handled=none:=by simp[hh]
    have neI:l≠(s.heap.push (wy w)).objs.size:=by rw[Heap.size_push];exact Nat.ne_of_lt (Nat.lt_succ_of_lt lS)
    have hSf:s.heap.objs.size∉[(s.heap.push (wy w)).objs.size,l]:=by
     rw[Heap.size_push];simp only[List.mem_cons,List.mem_singleton,List.not_mem_nil,or_false,not_or]
     exact⟨Nat.ne_of_lt (Nat.lt_succ_self _),Nat.ne_of_gt lS⟩
    have st0:ST prog w P ((s.heap.push (wy w)).push { cls:=.type "list_iterator",data:=.fields #[.ref l,.int 0 0] }) s.heap.objs.size []:=zH3.keep fun b o e=>Heap.get?_push_of_some _ e
    refine zDN (h0:=s.heap) (Walks.list hh3 _ l neI its) hA hSf (Heap.get?_none_of_le (Nat.le_refl _)) (fun b hb'=>by
     rw[List.mem_singleton] at hb'
     rw[hb',Heap.size_push]
     exact Heap.get?_none_of_le (Nat.le_succ _)) (fun i h st b hb' o e its n q=>by
     rw[List.mem_singleton] at hb'
     subst hb'
     obtain⟨o2,e2,c2,d2⟩:=st.1
     rw[e2] at e
     cases e
     rw[d2] at q
     cases q) hb ht (its.size-0) 0 _ _ [] (by (first|lia|omega)) (Nat.zero_le _) (fun b o e=>Heap.get?_push_of_some _ (Heap.get?_push_of_some _ e)) ⟨⟨_,Heap.get?_push_size _ rfl,rfl,rfl⟩,hl1.push _⟩ st0 (Nat.le_refl _) (fun x=>⟨fun q=>(by simp at q),fun⟨m,q,_⟩=>absurd q (Nat.not_lt_zero _)⟩) ?_
    intro h' tk' kys' kp st len mem
    show wpAny _ _ _ _ _ _
    refine wpAny_pure ?_
    show wpAny _ _ (ret Value.none) _ _ _
    exact wpAny_pure ⟨rfl,h',tk',kys',rfl,st,len,mem,kp⟩
   ·cases r2 with
    | error e=>exact hr2
    | ok fl2 =>
     cases fl2 with
     | ret r =>
      obtain⟨rfl,h',tk,kys,rfl,st,len,mem,kp⟩:=hr2
      (repeat (any_goals (first | assumption | wp_step)))
      exact h _ _ kys st len mem kp
     | _=>exact hr2.elim
  | _=>exact hr.elim
end
end HT3
namespace HT3
open PySem PySem.Spec PyProof.Rows
open HI (yd Sx Tells wz zCq zDu zCr zBe wS zCp zBB zAf zAq zAr)
section
variable {prog:Program} {w:World} {P:Addr→Prop} {A:Around} {E:Value→Shared→Prop} {s:Shared}
theorem zKy{a it:Addr}{es:Array (Int×Value)}{ep:Nat}{t:SetTable}{sl:Nat→Nat}{xs:List Value}(hh:A.handled=none)(T:Tells prog w a es ep t sl xs)(hf:t.fits es.size=true)(hx:xs.length=es.size)(hne:a≠it) :
  Walks prog w A it [it,a] [it] es.size (fun i v=>xs[i]?=some v) (fun i h=>h.get? it=some (wz (rawInt (sl i)) i a es.size ep)∧Sx h a es ep t) where
 sub:=fun b hb=>by simp at hb ⊢;exact .inl hb
 frame:=fun i h h' st k=>⟨k it (by simp) _ st.1,st.2.keep fun o e=>k a (by simp) o e⟩
 item:=fun i s Q E hi st hQ=>zCq T hf hx hi st.1 st.2 hne fun h' v hxv e kp=>hQ _ h' s.toks hxv ⟨e,st.2.keep fun o q=>kp a o hne q⟩ fun b o hb q=>kp b o (by simpa using hb) q
 done:=fun s Q E st hQ=>zDu hh T hf hx st.1 st.2 fun h' kp=>hQ h' s.toks fun b o hb q=>kp b o (by simpa using hb) q
 self:=fun i s Q E st hQ=>zCr st.1 hQ
noncomputable def Mem(prog:Program)(w:World)(P:Addr→Prop)(h:Heap)(xs:List Value)(kys:List (List Int)):Prop:=(∀ v∈xs,∃ c ns,v=.ref c∧TK prog w P h ns c)∧(xs.map fun v=>kyT h (0,v)).Perm kys
theorem zDO{a:Addr}{kys:List (List Int)}{Q:Value→Shared→Prop}(hS:ST prog w P s.heap a kys)
  (h:∀(h1:Heap) (it:Addr) (fp:List Addr) (St:Nat→Heap→Prop) (xs:List Value),(∀ b o,s.heap.get? b=some o→h1.get? b=some o)→(∀ b∈fp,b=a∨s.heap.objs.size≤b)→s.heap.objs.size≤it →
   (∀ B:Around,B.handled=none→Walks prog w B it fp [it] xs.length (fun i v=>xs[i]?=some v) St)→St 0 h1→Mem prog w P s.heap xs kys→xs.length=kys.length→Q (.ref it) { s with heap:=h1 }):wpAny (model prog w) A (pyIter (.ref a)) Q E s:=by
 obtain⟨o,es,ep,t,ho,hex,hd,T0,ok,pl,hl,fl,pk,nd⟩:=hS
 have hf:=fits_of T0
 have hr:=T0.ris
 have hT:s.TypeIs (.ref a) "set":=⟨o,ho,hex.1⟩
 have la:a<s.heap.objs.size:=Heap.lt_size ho
 refine wpAny_pyIter_slot hT F.slot_set_iter (wpAny_call_entry F.slot_set_iter hT zCp ?_ (F.args_set_iter_1 _))
 unfold Builtin.«frozenset.__iter__» Builtin.Frozenset.slot0
 refine wpAny_bind (m:=do Builtin.Frozenset.addrOf (← slotArgs "__iter__" 0 _).1) (show wpAny _ _ (pure a) _ _ _ from wpAny_pure ?_)
 unfold Builtin.Frozenset.sizeOf
 refine wpAny_bind (wpAny_bind (wpAny_setEntries_of ho hd hf (wpAny_pure ?_)))
 unfold setDrawn
 refine wpAny_bind (wpAny_bind (wpAny_setState_of ho hd hf (wpAny_bind (zBe (wpAny_pure ?_)))))
 dsimp only
 have fin:∀(sl:Nat→Nat) (xs:List Value),sl 0=0→Tells prog w a es ep t sl xs→xs.Perm (es.toList.map (·.2))→wpAny (model prog w) A.in1 (do let e ← setEpoch a;let r ← newFields "set_iterator" [rawInt 0,rawInt 0,.ref a,rawInt es.size,rawInt e];ret r) (fun fin s'=>∃ v,fin=.done (.ret v)∧∃ T' r,s'.TypeIs v T'∧typeLookup (.type T') "__next__"=pure (some r)∧Q v s') E s:=fun sl xs h0 T pm=>by
  have hx:xs.length=es.size:=by rw[pm.length_eq];simp
  refine wpAny_bind (wpAny_setEpoch_of ho hd hf (wpAny_bind (wpAny_newObj_type (wpAny_pure ⟨_,rfl,"set_iterator",_,⟨_,Heap.get?_push_size _ rfl,rfl⟩,wS.lookup,?_⟩))))
  refine h (s.heap.push (wz (rawInt 0) 0 a es.size ep)) s.heap.objs.size [s.heap.objs.size,a] (fun i h=>h.get? s.heap.objs.size=some (wz (rawInt (sl i)) i a es.size ep)∧Sx h a es ep t) xs (fun b o e=>Heap.get?_push_of_some _ e) (fun b hb=>?_) (Nat.le_refl _) (fun B hB=>by rw[hx];exact zKy hB T hf hx (Nat.ne_of_lt la)) ⟨?_,⟨o,Heap.get?_push_of_some _ ho,hex,hd⟩⟩ ⟨fun v hv=>?_,?_⟩ ?_
  ·simp only[List.mem_cons,List.not_mem_nil,or_false] at hb
   rcases hb with e | e
   ·exact .inr (Nat.le_of_eq e.symm)
   ·exact .inl e
  ·rw[h0];exact Heap.get?_push_size _ rfl
  ·obtain⟨e,he,rfl⟩:=List.mem_map.mp (pm.mem_iff.mp hv)
   obtain⟨c,e1,e2⟩:=ok.mem e he
   exact⟨c,_,by rw[e1],e2⟩
  ·refine(pm.map _).trans ?_
   rw[List.map_map]
   exact pk.symm
  ·rw[hx]
   have:=pk.length_eq
   simp at this
   (first|lia|omega)
 cases bt:w.params.followText "set-order" with
 | true =>
  rw[if_neg (by simp)]
  exact fin (fun u0=>0) _ rfl (zBB hf bt) ((zAq (w.params.setOrder a ep) es).map _)
 | false =>
  have hl':t.led=true:=by rw[hl];unfold HI.wY;rw[bt];rfl
  have hp:(!t.plain&&decide (es.size>1))=false:=by rw[pl];rfl
  refine wpAny_ite_split (fun q=>absurd q (show ¬ (!false&&(!t.plain&&decide (es.size>1)))=true by rw[hp];simp)) (fun u0=>?_)
  exact fin _ _ rfl (zAf hf hr bt hl' hp) (.refl _)
end
end HT3
namespace HT3
open PySem PySem.Spec PyProof.Rows
open HI (zAr)
open HS (TI tAt ltI zBz)
section
variable {prog:Program} {w:World} {P:Addr→Prop} {A:Around} {E:Value→Shared→Prop} {s:Shared}
theorem zCP{ns:List Int}{vs:List Value}(h:ItemsAre (intKind prog w) ns vs):IntsAre vs ns:=by
 induction h with
 | nil=>exact .nil
 | cons h1 _ ih =>
  obtain⟨t,rfl⟩:=Value.isInt_shape h1
  exact .cons _ _ ih
theorem zBk{R:Result→Shared→Prop}{a:Addr}{kys:List (List Int)}(hh:A.handled=none)(hS:ST prog w P s.heap a kys)(hlen:kys.length≤10000)(L:Addr)(res:Value)(c0:Nat)(hL:s.heap.get? L=some { cls:=.type "list",data:=.seq #[] c0 })
  (hR:∀ h' tk acc c,(∀ b o,b≠L→s.heap.get? b=some o→h'.get? b=some o)→h'.get? L=some { cls:=.type "list",dict:=none,data:=.seq acc c,slots:=#[] }→Mem prog w P s.heap acc.toList kys→acc.size=kys.length→R (.ok (.ret res)) { s with heap:=h',toks:=tk }) :
  wpAny (model prog w) A.in1 (Builtin.List.listExtendWith (.ref L) (.ref a) res)
   (fun fin s'=>match fin with | .done f=>R (.ok f) s' | .again c'=>c'.quiet=true∧codeAny (model prog w) A c' R s') (fun e s'=>R (.error e) s') s:=by
 obtain⟨o,es,ep,t,ho,hex,hrest⟩:=id hS
 have La:L≠a:=fun e=>by rw[e,ho] at hL;cases hL;have:=hex.1;simp at this
 have lL:L<s.heap.objs.size:=Heap.lt_size hL
 unfold Builtin.List.listExtendWith
 refine wpAny_bind (wpAny_typeOf (T:="set") ⟨o,ho,hex.1⟩ ?_)
 have h1:Builtin.List.listSameRef (.ref L) (.ref a)=false:=by simp[Builtin.List.listSameRef,La]
 have h2:(Value.type "set"==Value.type "list")=false:=by decide
 have h3:(Value.type "set"==Value.type "tuple")=false:=by decide
 simp only[h1,h2,h3,Bool.or_false,Bool.false_eq_true,if_false]
 refine wpAny_bind (zDO hS fun g it fp St xs kp hfp hit W st me xl=>?_)
 have hSf:L∉fp:=fun q=>by
  rcases hfp L q with e | e
  ·exact La e
  ·exact absurd lL (Nat.not_lt.mpr e)
 have W1:=(W A.in1 (by simpa using hh)).toS
 refine wpAny_bind (wpAny_holding (zAr (s:={ s with heap:=g }) (kp a o ho) hex.1 ?_))
 have hL1:=kp L _ hL
 refine wpAny_ite_split (fun u0=>?_) (fun q=>absurd (by decide +kernel) q)
 refine wpAny_bind (wpAny_rule (wpAny_bind ?_))
 show wpAny _ _ (updateSeq L (·.push .none)>>=fun u0=>updateSeq L (·.pop)) _ _ _
 refine wpAny_bind (wpAny_updateSeq hL1 rfl ?_)
 have hL2:=Heap.get?_update_self (Obj.mapSeq (·.push Value.none)) hL1 rfl
 refine wpAny_updateSeq (hz:=by seq_fits) hL2 rfl ?_
 have hL3:=Heap.get?_update_self (Obj.mapSeq (·.pop)) hL2 rfl
 refine wpAny_pure ⟨plainId_quiet F.plain_extend_loop _,?_⟩
 have old:∀ b ob,b≠L→g.get? b=some ob→((g.update L (Obj.mapSeq (·.push Value.none))).update L (Obj.mapSeq (·.pop))).get? b=some ob:=fun b ob hb e=>by
  rw[Heap.get?_update_ne _ _ _ _ hb,Heap.get?_update_ne _ _ _ _ hb];exact e
 refine codeAny_extend_loopS W1 (by rw[sizeLine_eq];(first|lia|omega)) L hSf res xs.length 0 _ #[] _ rfl (Nat.zero_le _) ?_ hL3 (ItemsOf.nil _) fun s' acc c hm hL' hacc=>?_
 ·exact(W A.in1 (by simpa using hh)).frame 0 _ _ st fun b hb ob e=>old b ob (fun z=>hSf (by rw[← z];exact hb)) e
 ·have ea:acc.toList=xs:=by
   refine List.ext_getElem (by simp[hacc.1]) fun i h1 h2=>?_
   have hi:i<acc.size:=by simpa using h1
   have:xs[i]?=some acc[i]:=hacc.2 i acc[i] (getElem?_pos acc i hi)
   rw[List.getElem?_eq_getElem h2] at this
   have:=Option.some.inj this
   rw[this]
   simp
  rw[Moved.eq_with hm]
  refine hR s'.heap s'.toks acc c (fun b ob hb e=>hm.heap b ob (fun hmem=>?_) (old b ob hb (kp b ob e))) hL' (by rw[ea];exact me) (by rw[hacc.1];exact xl)
  rcases List.mem_cons.mp hmem with e' | hmem
  ·exact hb e'
  ·exact absurd (Heap.lt_size e) (by rw[List.mem_singleton.mp hmem];exact Nat.not_lt.mpr hit)
theorem zBG{a:Addr}{kys:List (List Int)}{Q:List Value→Shared→Prop}(hh:A.handled=none)(hS:ST prog w P s.heap a kys)(hlen:kys.length≤10000)
  (hQ:∀ h' tk vs,(∀ b o,s.heap.get? b=some o→h'.get? b=some o)→s.heap.objs.size≤h'.objs.size→Mem prog w P s.heap vs kys→vs.length=kys.length→Q vs { s with heap:=h',toks:=tk }):wpAny (model prog w) A (collect (.ref a)) Q E s:=by
 unfold collect
 refine wpAny_bind (wpAny_runValue (codeAny_builtin PySem.F.entry_proto_collect ?_))
 rw[Around.under_plainId PySem.F.plain_proto_collect _]
 show wpAny _ A.in1 (newList []>>=fun l=>again (.builtin "list.__iadd__" ⟨[l,.ref a],[]⟩)) _ _ s
 refine wpAny_bind (wpAny_newObj_type (wpAny_pure ⟨plainId_quiet PySem.F.plain_list_iadd _,codeAny_builtin PySem.F.entry_list_iadd ?_⟩))
 rw[Around.under_plainId PySem.F.plain_list_iadd _]
 show wpAny _ A.in1 (Builtin.List.listExtendWith (.ref s.heap.objs.size) (.ref a) (.ref s.heap.objs.size)) _ _ _
 have hL:(s.heap.push { cls:=.type "list",data:=.seq ([]:List Value).toArray }).get? s.heap.objs.size=some { cls:=.type "list",data:=.seq #[] 0 }:=Heap.get?_push_size _ rfl
 have memb:∀ {vs:List Value},Mem prog w P (s.heap.push { cls:=.type "list",data:=.seq ([]:List Value).toArray }) vs kys→Mem prog w P s.heap vs kys:=fun {vs} m=>by
  have back:∀ {ns c},TK prog w P (s.heap.push { cls:=.type "list",data:=.seq ([]:List Value).toArray }) ns c→TK prog w P s.heap ns c:=fun {ns c} q=>by
   obtain⟨⟨ob,its,n,e,hc,r⟩,qp⟩:=q
   refine⟨⟨ob,its,n,?_,hc,r⟩,qp⟩
   by_cases z:c=s.heap.objs.size
   ·rw[z,Heap.get?_push_size _ rfl] at e
    cases e
    simp at hc
   ·rw[Heap.get?_push_ne _ _ _ z] at e
    exact e
  refine⟨fun v hv=>?_,?_⟩
  ·obtain⟨c,ns,rfl,q⟩:=m.1 v hv
   exact⟨c,ns,rfl,back q⟩
  ·refine List.Perm.trans (.of_eq (List.map_congr_left fun v hv=>?_)) m.2
   obtain⟨c,ns,rfl,q⟩:=m.1 v hv
   rw[zAB (back q),zAB q]
 let Pst:Result→Shared→Prop:=fun res s'=>∃(h':Heap) (tk:Nat) (acc:Array Value) (c:Nat),res=.ok (.ret (.ref s.heap.objs.size))∧s'={ s with heap:=h',toks:=tk }∧(∀ b o,s.heap.get? b=some o→h'.get? b=some o)∧h'.get? s.heap.objs.size=some { cls:=.type "list",dict:=none,data:=.seq acc c,slots:=#[] }∧Mem prog w P s.heap acc.toList kys∧acc.size=kys.length
 refine wpAny_mono (zBk (A:=A) (R:=Pst) (s:={ s with heap:=s.heap.push { cls:=.type "list",data:=.seq ([]:List Value).toArray } }) hh (hS.keep fun b o e=>Heap.get?_push_of_some _ e) hlen s.heap.objs.size (.ref s.heap.objs.size) 0 hL fun h' tk acc c kp q1 q2 q3=>?_) (fun fin s' h=>?_) (fun e s' h=>?_)
 ·exact⟨h',tk,acc,c,rfl,rfl,fun b o e=>kp b o (Nat.ne_of_lt (Heap.lt_size e)) (Heap.get?_push_of_some _ e),q1,memb q2,q3⟩
 ·have fin':∀ {r' s''},Pst r' s''→wpAny (model prog w) A (match Value.ref s.heap.objs.size with
     | Value.ref a=>do
      match (← load a).data with
       | Data.seq xs _=>pure xs.toList
       | _=>unsupported "internal:collect"
     | _=>unsupported "internal:collect") Q E s'':=by
   rintro r' s'' ⟨h',tk,acc,c,rfl,rfl,kp,q1,q2,q3⟩
   show wpAny _ A (load s.heap.objs.size>>=_) _ _ _
   exact wpAny_bind (wpAny_load q1 (wpAny_pure (hQ h' tk _ kp (Nat.le_of_lt (Heap.lt_size q1)) q2 (by simpa using q3))))
  cases fin with
  | done f =>
   have hf:=h
   obtain⟨h',tk,acc,c,e,u0⟩:=h
   cases e
   exact fin' hf
  | again c'=>exact⟨h.1,codeAny_mono h.2 fun r s'' hr=>by
    have hf:=hr
    obtain⟨h',tk,acc,c,e,u0⟩:=hr
    subst e
    exact fin' hf⟩
 ·obtain⟨u0,u0,u0,u0,e,u0⟩:=h
  cases e
theorem zDX{a:Addr}{kys:List (List Int)}{Q:Value→Shared→Prop}(hh:A.handled=none)(hS:ST prog w P s.heap a kys)(h64:kys.length<9000)(hne:∀ ns∈kys,ns≠[])
  (h:∀ h' tk l (out:List Value) e,(∀ b o,s.heap.get? b=some o→h'.get? b=some o)→s.heap.objs.size≤l→h'.get? l=some (seqObj "list" out.toArray e)→Mem prog w P s.heap out kys→(out.map fun v=>kyT s.heap (0,v)).Pairwise (fun a b=>ltI b a=false)→Q (.ref l) { s with heap:=h',toks:=tk }) :
  wpAny (model prog w) A (call (.builtin "sorted") [.ref a]) Q E s:=by
 refine Calls.call_function_entry kind_sorted plain_sorted entry_sorted (args_sorted1 _) ?_
 unfold Builtin.«sorted»
 refine wpAny_bind (m:=checkCount "sorted" 1 1 _) (wpAny_pure (wpAny_bind (zBG (by simpa using hh) hS (by (first|lia|omega)) fun g tk vs kp lg me vl=>wpAny_bind (wpAny_newList ?_ (by rw[sizeLine_eq];(first|lia|omega))))))
 have hoL:(g.push (seqObj "list" vs.toArray 0)).get? g.objs.size=some (seqObj "list" vs.toArray 0):=Heap.get?_push_size _ rfl
 have up:∀ b o,s.heap.get? b=some o→(g.push (seqObj "list" vs.toArray 0)).get? b=some o:=fun b o e=>Heap.get?_push_of_some _ (kp b o e)
 show wpAny _ _ _ _ _ { s with heap:=g.push (seqObj "list" vs.toArray 0),toks:=tk }
 have ti:∀ v∈vs,TI (g.push (seqObj "list" vs.toArray 0)) v (kyT s.heap (0,v))∧v≠.ref g.objs.size:=fun v hv=>by
  obtain⟨c,ns,rfl,q⟩:=me.1 v hv
  have ek:=zAB q 0
  rw[ek]
  obtain⟨⟨o,its,n,e,hc,hd,hi⟩,u0⟩:=q
  refine⟨⟨⟨c,o,its,n,rfl,up c o e,hc,hd,zCP hi⟩,hne ns (me.2.mem_iff.mp (List.mem_map.mpr ⟨_,hv,ek⟩))⟩,fun z=>?_⟩
  cases z
  exact absurd (Heap.lt_size (kp _ _ e)) (Nat.lt_irrefl _)
 refine wpAny_bind (wpAny_holding (wpAny_call_entry slot_list_sort ⟨_,hoL,rfl⟩ entry_list_sort (zBz (s:={ s with heap:=g.push (seqObj "list" vs.toArray 0),toks:=tk }) hoL (fun v hv=>⟨⟨_,(ti v hv).1⟩,(ti v hv).2⟩) (by (first|lia|omega)) fun out a2 a3=>⟨_,rfl,wpAny_pure ⟨_,rfl,?_⟩⟩) (args_list_sort _)))
 have at1:((g.push (seqObj "list" vs.toArray 0)).update g.objs.size (Obj.mapSeq fun u0=>#[])).get? g.objs.size=some (seqObj "list" #[] _):=get?_update_seq hoL (fun u0=>#[])
 have at2:((((g.push (seqObj "list" vs.toArray 0)).update g.objs.size (Obj.mapSeq fun u0=>#[])).push (seqObj "tuple" vs.toArray 0)).push (seqObj "list" #[] 0)).get? g.objs.size=some (seqObj "list" #[] _):=Heap.get?_push_of_some _ (Heap.get?_push_of_some _ at1)
 have at3:=get?_update_seq at2 (fun u0=>out)
 refine h _ tk g.objs.size out.toList _ (fun b o e=>?_) lg at3 ⟨fun v hv=>me.1 v (a2.mem_iff.mp hv),(a2.map _).trans me.2⟩ ?_
 ·have hb:b≠g.objs.size:=Nat.ne_of_lt (Heap.lt_size (kp b o e))
  unfold sortedHeap
  rw[Heap.get?_update_ne _ _ _ _ hb]
  exact Heap.get?_push_of_some _ (Heap.get?_push_of_some _ (by rw[Heap.get?_update_ne _ _ _ _ hb];exact Heap.get?_push_of_some _ (kp b o e)))
 ·rw[List.pairwise_iff_getElem]
  intro i j hi hj ij
  have hj':j<out.size:=by simpa using hj
  have hi':i<out.size:=by (first|lia|omega)
  have q:=a3 i j (Nat.le_of_lt ij) hj'
  have gt:∀ k,(hk:k<out.size)→(tAt (g.push (seqObj "list" vs.toArray 0)) (out.getD k .none)).getD []=kyT s.heap (0,out[k]):=fun k hk=>by
   have e:out.getD k .none=out[k]:=by simp[Array.getD,hk]
   rw[e,(ti out[k] (a2.mem_iff.mp (by simp))).1.items]
   rfl
  rw[gt i hi',gt j hj'] at q
  simpa using q
end
end HT3
namespace L3
open PySem PySem.Spec PyProof.Rows L2 HT3 HS
theorem zJq{prog:Program}{w:World}{ns:List Int}{vs:List Value}(h:IntsAre vs ns):ItemsAre (intKind prog w) ns vs:=by
 induction h with
 | nil=>exact .nil
 | cons n t _ ih=>exact .cons (intKind_is _ _ _ _) ih
section
variable {X:Cx} {pins:List (Addr×Obj)} {σ:L2.St} {H:Hp} {s:Shared}
noncomputable def PdU(K:PySem.W.Frag)(H:Hp)(c:Addr):Prop:=∃ ms,zN K H (tI ms) (.ref c)
theorem zLI(I:zP X pins σ H s){ns:List Int}{c:Addr}(d:zN X.K H (tI ns) (.ref c)):TK X.prog X.w (PdU X.K H) s.heap ns c:=by
 refine⟨?_,ns,d⟩
 unfold tI zN at d
 obtain⟨a,zs,e,hs,hd⟩:=d
 cases e
 have hz:=hd.ints_inv
 subst hz
 obtain⟨its,rv,⟨o,h1,h2,n,h3⟩,u0⟩:=I.tuple hs
 exact⟨o,its.toArray,n,h1,h2,h3,zJq (by simpa using intsAre_of rv)⟩
theorem zMY(I:zP X pins σ H s){nss:List (List Int)}{ys:List V}{its:List Value}(d:Dens X.K H (nss.map tI) ys)(rv:zR ys its):∀ i v,its.toArray[i]?=some v→∃ c,v=.ref c∧TK X.prog X.w (PdU X.K H) s.heap (nss.getD i []) c:=fun i v hv=>by
 have hv:its[i]?=some v:=by simpa using hv
 have hi:=(List.getElem?_eq_some_iff.mp hv).1
 have l1:=rv.length
 have l2:=d.length
 rw[List.length_map] at l2
 have hn:i<nss.length:=by (first|lia|omega)
 obtain⟨y,e1,e2⟩:=d.get (i:=i) (d:=tI nss[i]) (by rw[List.getElem?_map];simp[hn])
 obtain⟨u,e3,e4⟩:=rv.get e1
 rw[hv] at e3
 cases e3
 have e5:=e2
 unfold tI zN at e5
 obtain⟨a,zs,rfl,u0,u0⟩:=e5
 cases (show v=Value.ref a from e4)
 have eg:nss.getD i []=nss[i]:=by simp[List.getD,hn]
 rw[eg]
 exact⟨a,rfl,zLI I e2⟩
theorem zM4{h:Heap}(I:zP X pins σ H s):∀ {out:List Value},(∀ v∈out,∃ c ns,v=.ref c∧TK X.prog X.w (PdU X.K H) s.heap ns c)→∃ ys:List V,zR ys out∧Dens X.K H ((out.map fun v=>kyT s.heap (0,v)).map tI) ys
 | [],_=>⟨[],.nil,.nil⟩
 | v::out,hh=>by
  obtain⟨ys,r,d⟩:=zM4 (h:=h) I (out:=out) fun v hv=>hh v (List.mem_cons_of_mem _ hv)
  obtain⟨c,ns,rfl,tk⟩:=hh v List.mem_cons_self
  obtain⟨ms,dm⟩:=tk.2
  have:=(zLI I dm).1.inj tk.1
  subst this
  refine⟨.ref c::ys,.cons rfl r,?_⟩
  simp only[List.map_cons]
  rw[zAB tk 0]
  exact .cons dm d
end
noncomputable def zPd(K:PySem.W.Frag)(t:TA):TE:=fun σ H Q=>t σ H fun vs H1=>∃(p:Addr) (ys:List V) (nl:List (List Int)),vs=[.ref p]∧SqL K H1 p ys∧Dens K H1 (nl.map tI) ys∧nl.length≤8000∧(∀ x∈nl,x≠[]) ∧
 ∀(l:Addr) (ys':List V) (nss':List (List Int)),H1 l=none→nss'.Nodup→(∀ x,x∈nss'↔x∈nl)→nss'.Pairwise (fun a b=>ltI b a=false)→Dens K H1 (nss'.map tI) ys'→Q (.ref l) (yz H1 l (.lst ys'))
theorem zG4{X:Cx}{e:Expr}{t:TA}{p p1 pos pos1:Pos}{k:Nat}(hr:yo k X.A)(hc:X.calm=true)(hg:Gl X "sorted")(hm:X.mg "sorted"=none)(hg2:Gl X "set")(hm2:X.mg "set"=none)(ha:PA X [e] t)
  (he:starEach [.Call (.Name "set" p1) [e] [] pos1] X.env=(false,eval (.Call (.Name "set" p1) [e] [] pos1) X.env)::starEach [] X.env) (hpl:(backTo pos (starEach [] X.env)).any (·.1)=false)
  (he1:starEach [e] X.env=(false,eval e X.env)::starEach [] X.env) (hpl1:(backTo pos1 (starEach [] X.env)).any (·.1)=false) :
  PE X (.Call (.Name "sorted" p) [.Call (.Name "set" p1) [e] [] pos1] [] pos) (zPd X.K t):=by
 intro pins s σ H Q I h
 have hu:=hr.units
 have uA:∀ n,n≤50→X.A.units+n<cLine:=fun n hn=>by (first|lia|omega)
 refine wpAny_Call_Name_kw (zAj I hg hm boot_sorted (PyProof.Rows.callWith_builtin1 ?_ he hpl))
 rw[he]
 refine Calls.spliced_cons (wpAny_Call_Name_kw (zAj I hg2 hm2 boot_set (PyProof.Rows.callWith_type1 (yr (ha pos1 pins s σ H _ I h) fun us s1 ⟨vs,H1,I1,r1,q1⟩=>?_) he1 hpl1)))
 obtain⟨p0,ys,nl,rfl,hp,dl,n1,une,fin⟩:=q1
 obtain⟨u,rfl,rx⟩:=vals1 r1
 cases rx
 obtain⟨its,rv,pt,u0⟩:=I1.list hp
 have l1:=rv.length
 have l2:=dl.length
 rw[List.length_map] at l2
 refine zFX (P:=PdU X.K H1) (val:=fun i=>nl.getD i []) (I1.ok.hd hc) (by show X.A.units+3<cLine;exact uA 3 (by (first|lia|omega))) pt.isList (zMY I1 dl rv) (by rw[List.size_toArray];(first|lia|omega)) fun h1 tk1 kl stl len1 meml kp1=>?_
 refine Calls.spliced_nil ?_
 have I2:zP X pins σ H1 { s1 with heap:=h1,toks:=tk1 }:=I1.kept (t':=tk1) kp1
 have ml:∀ x,x∈kl↔x∈nl:=fun x=>by
  rw[meml x]
  constructor
  ·rintro⟨m,hm',rfl⟩
   rw[List.size_toArray] at hm'
   have:m<nl.length:=by (first|lia|omega)
   simp[List.getD,this]
  ·intro hx
   obtain⟨m,hm',rfl⟩:=List.getElem_of_mem hx
   exact⟨m,by rw[List.size_toArray];(first|lia|omega),by simp[List.getD,hm']⟩
 refine zDX (s:={ s1 with heap:=h1,toks:=tk1 }) (P:=PdU X.K H1) (I1.ok.hd hc) stl (by rw[List.size_toArray] at len1;(first|lia|omega)) (fun ns hns=>une ns ((ml ns).mp hns)) fun h4 tk4 l out ee kp4 hl4 hget me so=>?_
 have sz:s1.heap.objs.size≤h1.objs.size:=by
  have g1:s1.heap.objs.size<h1.objs.size:=by obtain⟨o,u0,u0,u0,ho,u0⟩:=stl;exact Heap.lt_size ho
  (first|lia|omega)
 have sl:s1.heap.objs.size≤l:=Nat.le_trans sz hl4
 obtain⟨ys',rv',d'⟩:=zM4 (h:=h4) I2 me.1
 have hn:H1 l=none:=I1.hok.fresh sl
 have nd:kl.Nodup:=let ⟨_,_,_,_,_,_,_,_,_,_,_,_,_,q⟩:=stl;q.1
 have ol:out.length=kl.length:=by have:=me.2.length_eq;simpa using this
 refine⟨.ref l,_,I2.laid (t':=tk4) (o:=.lst ys') kp4 hl4 ⟨by have:=rv'.length;rw[List.size_toArray] at len1;rw[sizeLine_eq];(first|lia|omega),out,ee,rv',by rw[hget]⟩,rfl,fin l ys' _ hn (me.2.nodup_iff.mpr nd) (fun x=>(me.2.mem_iff).trans (ml x)) so d'⟩
noncomputable def zMZ(t:TL2):TL2:=fun σ G R=>t σ G fun ds G1=>∃ nl:List (List Int),ds=nl.map tI∧nl.length≤8000∧(∀ x∈nl,x≠[])∧∀ nss':List (List Int),nss'.Nodup→(∀ x,x∈nss'↔x∈nl)→nss'.Pairwise (fun a b=>ltI b a=false)→R (nss'.map tI) G1
theorem zEq{X:Cx}{e:Expr}{t:TL2}{p p1 pos pos1:Pos}{k:Nat}(hr:yo k X.A)(hc:X.calm=true)(hg:Gl X "sorted")(hm:X.mg "sorted"=none)(hg2:Gl X "set")(hm2:X.mg "set"=none)(ha:F2 X e t)
  (he:starEach [.Call (.Name "set" p1) [e] [] pos1] X.env=(false,eval (.Call (.Name "set" p1) [e] [] pos1) X.env)::starEach [] X.env:=by rfl) (hpl:(backTo pos (starEach [] X.env)).any (·.1)=false:=by rfl)
  (he1:starEach [e] X.env=(false,eval e X.env)::starEach [] X.env:=by rfl) (hpl1:(backTo pos1 (starEach [] X.env)).any (·.1)=false:=by rfl) :
  F2 X (.Call (.Name "sorted" p) [.Call (.Name "set" p1) [e] [] pos1] [] pos) (zMZ t):=by
 refine PE.mono (zG4 hr hc hg hm hg2 hm2 (wk ha zAy he1) he hpl he1 hpl1) ?_
 rintro σ1 H Q ⟨σ,G,R,rl,q,k'⟩
 refine⟨σ,G,_,rl,q,fun ds G1 q1 l xs H1 g1 r1 n e1 d1=>?_⟩
 obtain⟨nl,rfl,b1,b2,q1⟩:=q1
 exact⟨l,xs,nl,rfl,.of e1,d1,b1,b2,fun l' ys' nss' n' c1 c2 c3 c4=>k' _ G1 (q1 nss' c1 c2 c3) l' _ _ (g1.trans (.fresh n')) (r1.fresh n') (r1.free n') zd (c4.grow (.fresh n'))⟩
end L3
namespace K
open PySem PySem.Spec PyProof.Rows L2 L3 HS
noncomputable def yj:Sp2:=fun ds G R=>∃ a b:Nat,ds=[nD a,nD b]∧a≤b∧R .non G
noncomputable def wp:wK:=(xIf (xB (zX (fII fun i j=>.bl (decide (j<i))) (zB 0) (zB 1))) (fun u0 u0 u0=>False) ye)
theorem zE5(ds:List D)(G:Gp)(R:Q2)(h:yj ds G R):ds.length=2∧wp (zm R) (zU ["many","most"] ds) G:=by
 obtain⟨a,b,rfl,hab,h⟩:=h
 refine⟨rfl,?_⟩
 unfold wp
 have:=zEF (g:=fun i j=>.bl (decide (j<i))) (zE (σ:=[some (nD a),some (nD b)]) (G:=G) (i:=0) (d:=nD a) rfl) (zE (i:=1) (d:=nD b) rfl)
 rw[decide_eq_false (show ¬ ((b:Int)<(a:Int)) by (first|lia|omega))] at this
 exact zO1 (σ:=[some (nD a),some (nD b)]) (zDA this) (FgR.of h)
theorem zMa{l:List D}{a b:Nat}(h:a≤b)(hb:b≤l.length):L3.cutD l (some (a:Int)) (some (b:Int))=(l.drop a).take (b-a):=by
 unfold L3.cutD
 rw[HT.zDm,HT.zDm,Nat.min_eq_left hb,Nat.min_eq_left (by (first|lia|omega))]
theorem zIu{σ:S2}{G:Gp}{u v:zh}{r:List Nat}{p a b:Nat}(h0:look σ 0=some (uD r))(h1:look σ 1=some (nD p))(hu:zn u σ G (nD a))(hv:zn v σ G (nD b))(hab:a≤b)(hb:b≤r.length)(hl:r.length≤1000) :
  zn (zX zw (zX zw (zX zw (zX zw (zy (zB 0) zx (yE u)) (yV (zA (zB 1) zI))) (zy (zB 0) (yE u) (yE v))) (yV (zA (zB 1) zI))) (zy (zB 0) (yE v) zx)) σ G (uD (zEn r p a b)):=by
 have lm:(r.map nD).length=r.length:=List.length_map _
 have s1:=zM1 (xs:=r.map nD) (zE (σ:=σ) (G:=G) h0) hu (by (first|lia|omega))
 have s2:=zKo (xs:=r.map nD) (zE (σ:=σ) (G:=G) h0) hu hv
 rw[zMa hab (by (first|lia|omega))] at s2
 have s3:=zIp (xs:=r.map nD) (zE (σ:=σ) (G:=G) h0) hv (by (first|lia|omega))
 have s4:zn (yV (zA (zB 1) zI)) σ G (.tup [nD p]):=zAk (zH (zE h1) zT) (by simp)
 have e:uD (zEn r p a b)=.tup (((((r.map nD).take a++[nD p])++((r.map nD).drop a).take (b-a))++[nD p])++(r.map nD).drop b):=by
  show D.tup ((zEn r p a b).map nD)=_
  unfold zEn
  simp only[List.map_append,List.map_take,List.map_drop,List.map_cons,List.map_nil]
 rw[e]
 refine zEO (zEO (zEO (zEO s1 s4 ?_) s2 ?_) s4 ?_) s3 ?_ <;>
 ·simp only[List.length_append,List.length_take,List.length_drop,List.length_cons,List.length_nil,List.length_map]
  (first|lia|omega)
theorem zIv(a n:Nat):zr (a:Int) n=(List.range n).map fun k=>nD (a+k):=by
 unfold zr
 refine List.map_congr_left fun k u0=>?_
 show D.int _=D.int _
 congr 1
theorem zIw{a n i:Nat}{x:D}(h:((List.range n).map fun k=>nD (a+k))[i]?=some x):x=nD (a+i)∧i<n:=by
 rw[List.getElem?_map] at h
 by_cases hi:i<n
 ·rw[List.getElem?_range hi] at h
  cases h
  exact⟨rfl,hi⟩
 ·rw[List.getElem?_eq_none (by rw[List.length_range];(first|lia|omega))] at h
  cases h
theorem zIx{σ:S2}{G:Gp}{tc:TT2}{t u v:wK}{E:yM}{b:Bool}(h:PuT tc σ G b)(hy:b=true→t { E with nx:=v E } σ G)(hn:b=false→u { E with nx:=v E } σ G):zZ (xIf tc t u) v E σ G:=h G (.refl G) _ (by
 cases b
 ·rw[if_neg (by simp)];exact hn rfl
 ·rw[if_pos rfl];exact hy rfl)
theorem ifB{σ:S2}{G:Gp}{tc:TT2}{t u:wK}{E:yM}{b:Bool}(h:PuT tc σ G b)(hy:b=true→t E σ G)(hn:b=false→u E σ G):xIf tc t u E σ G:=h G (.refl G) _ (by
 cases b
 ·rw[if_neg (by simp)];exact hn rfl
 ·rw[if_pos rfl];exact hy rfl)
theorem zCz{σ:S2}{G:Gp}{r:List Nat}(h0:look σ 0=some (uD r)):zn (zX zw (zM yD (zA (zB 0) zI)) (xC (.int 1))) σ G (nD (r.length+1)):=zKh (zIY (zE h0)) wt
noncomputable def yJ:List D→Gp→(List D→Gp→Prop)→Prop:=fun ds G R=>∃(r cs:List Nat) (p:Nat) (l:Addr),ds=[uD r,nD p,.adr l]∧Ls G l (cs.map nD)∧r.length≤20∧(∀ x∈r,x≤9)∧(∀ x∈cs,x≤9)∧cs.length≤9∧R ((wch r p (wf cs)).map uD) G
theorem zDi:∀ ds G R R',(∀ ls G',R ls G'→R' ls G')→yJ ds G R→yJ ds G R':=by
 rintro ds G R R' h ⟨r,cs,p,l,e,h1,h2,h3,h4,h5,q⟩
 exact⟨r,cs,p,l,e,h1,h2,h3,h4,h5,h _ _ q⟩
noncomputable def zAF:wK:=(zZ (zf (zk zM0 (yL (iV (zB 2)) bd1 zCa (zX (yh zDe fun i j=>.int (i*2 ^ j.toNat)) (xC (.int 1)) (zB 8)))) (gN 3)) (zZ (zf (zq (wV zI)) (gN 4)) (zZ (yu (iR2 (zA (xC (.int 1)) (zA (zX zw (zM yD (zA (zB 0) zI)) (xC (.int 1))) zI))) (gN 5) (zZ (zf (xC (.int 0)) (gN 6)) (yu (iR2 (zA (zB 5) (zA (zX zw (zM yD (zA (zB 0) zI)) (xC (.int 1))) zI))) (gN 7) (zZ (xIf (xB (zX (fEq false) (zB 6) (zB 3))) (wB (zFp (zB 4) (zA (zX zw (zX zw (zX zw (zX zw (zy (zB 0) zx (yE (zB 5))) (yV (zA (zB 1) zI))) (zy (zB 0) (yE (zB 5)) (yE (zB 7)))) (yV (zA (zB 1) zI))) (zy (zB 0) (yE (zB 7)) zx)) zI))) ye) (xIf (xB (zX (fII fun i j=>.bl (decide (i<j))) (zB 7) (zM yD (zA (zB 0) zI)))) (zf (zX (fII fun i j=>.int (Builtin.bitXor i j)) (zB 6) (zX (yh zDe fun i j=>.int (i*2 ^ j.toNat)) (xC (.int 1)) (zX fIx (zB 0) (zB 7)))) (gN 6)) ye))))) (yN (zB 4)))))
theorem zBH{r:List Nat}{p W:Nat}(h:r.length≤20):∀ i,i≤r.length→(wH r p W i).length≤21*i
 | 0,_=>Nat.le_refl _
 | i+1,hi=>by
  have h1:=zBH h i (by (first|lia|omega)) (p:=p) (W:=W)
  have h2:=zCx (r:=r) (p:=p) (W:=W) (a:=i+1) (j:=r.length-i) (by (first|lia|omega))
  show(wH r p W i++zCS r p W (i+1) (r.length-i)).length≤_
  rw[List.length_append]
  (first|lia|omega)
theorem zGC(ds:List D)(G:Gp)(R:Q2)(h:spL yJ ds G R):ds.length=3∧zAF (zm R) (zU ["ring","place","crossed","wanted","found","first","inside","second"] ds) G:=by
 obtain⟨r,cs,p,l,rfl,hl,hr,hrx,hcx,hcl,h⟩:=h
 refine⟨rfl,?_⟩
 unfold zAF
 rw[show zU ["ring","place","crossed","wanted","found","first","inside","second"] [uD r,nD p,.adr l]=[some (uD r),some (nD p),some (.adr l),none,none,none,none,none] from rfl]
 -- wanted
 have c:=zFr (σ:=[some (uD r),some (nD p),some (.adr l),none,none,none,none,none]) (G:=G) (bd:=bd1) (te:=(zX (yh zDe fun i j=>.int (i*2 ^ j.toNat)) (xC (.int 1)) (zB 8))) (fun d=>match d with | .int v=>nD (2 ^ v.toNat) | _=>.non) (fun d=>[d]) (zBq (zE (i:=2) (d:=.adr l) rfl) hl) fun x hx=>by
  obtain⟨k,hk,rfl⟩:=List.mem_map.mp hx
  refine⟨rfl,zAb (x:=.int 1) (y:=nD k) wt (zE rfl) fun u0 u0 u0 q'=>⟨⟨by (first|lia|omega),by have:=hcx k hk;(first|lia|omega),by decide⟩,?_⟩⟩
  dsimp only
  have:(1:Int)*2 ^ ((k:Int)).toNat=((2 ^ k:Nat):Int):=by simp
  rw[this]
  exact q'
 have e:List.map (fun d=>match d with | .int v=>nD (2 ^ v.toNat) | _=>.non) (cs.map nD)=((cs.map fun o=>2 ^ o).map fun(x:Nat)=>(x:Int)).map D.int:=by
  rw[List.map_map,List.map_map,List.map_map];rfl
 rw[e] at c
 refine zA9 (d:=nD (wf cs)) (fun G2 e2 R' q'=>c G2 e2 _ ⟨_,rfl,by simp only[List.length_map];(first|lia|omega),fun a ha=>by
   obtain⟨b,hb,rfl⟩:=List.mem_map.mp ha
   obtain⟨o,ho',rfl⟩:=List.mem_map.mp hb
   have:=hcx o ho'
   have h2:2 ^ o≤2 ^ 9:=Nat.pow_le_pow_right (by (first|lia|omega)) (by (first|lia|omega))
   generalize 2 ^ o=z at h2 ⊢
   (first|lia|omega),by rw[zK6];exact q'⟩) ?_
 simp only[gN,List.set_cons_succ,List.set_cons_zero]
 generalize wf cs=W at h
 clear c e
 refine yZ (zBL (ds:=[]) (fun G2 e R q=>zBc (wP ⟨by rw[sizeLine_eq];simp,q⟩)) fun f hf=>?_)
 simp only[gN,List.set_cons_succ,List.set_cons_zero]
 refine zAI (zDE (i:=1) (j:=((r.length+1:Nat):Int)) (zH wt (zH (zCz rfl) zT)) (by (first|lia|omega)) ?_)
 rw[show(((r.length+1:Nat):Int)-1).toNat=r.length by (first|lia|omega),zDx]
 refine zBt (fun i G'=>G'.m f=some ((wH r p W i).map uD)∧L3.Sub G G') ⟨zG,.new hf⟩ (fun u0 u0 u0=>trivial) ?_ ?_
 ·rintro i x hx G1 ⟨gf,sb⟩
  obtain⟨rfl,hi⟩:=zDy hx
  simp only[gN,List.set_cons_succ,List.set_cons_zero]
  refine zA9 (d:=nD 0) wt ?_
  simp only[gN,List.set_cons_succ,List.set_cons_zero]
  refine zDE (i:=((i+1:Nat):Int)) (j:=((r.length+1:Nat):Int)) (zH (zE rfl) (zH (zCz rfl) zT)) (by (first|lia|omega)) ?_
  rw[show(((r.length+1:Nat):Int)-((i+1:Nat):Int)).toNat=r.length-i by (first|lia|omega),zIv]
  have wl:=zBH (p:=p) (W:=W) hr i (by (first|lia|omega))
  refine⟨fun j σ' G'=>σ'=[some (uD r),some (nD p),some (.adr l),some (nD W),some (.adr f),some (nD (i+1)),some (nD (mkW r (i+1) j)),none]∧G'.m f=some ((wH r p W i++zCS r p W (i+1) j).map uD)∧L3.Sub G G',⟨rfl,?_,sb⟩,fun u0 u0 u0 u0 u0=>trivial,?_,?_⟩
  ·show G1.m f=some ((wH r p W i++[]).map uD)
   rw[List.append_nil];exact gf
  ·rintro j x σ' G2 hx ⟨rfl,gf2,sb2⟩
   obtain⟨rfl,hj⟩:=zIw hx
   simp only[gN,List.set_cons_succ,List.set_cons_zero]
   have wr:=zCx (r:=r) (p:=p) (W:=W) (a:=i+1) (j:=j) (by (first|lia|omega))
   have t1:PuT (xB (zX (fEq false) (zB 6) (zB 3))) [some (uD r),some (nD p),some (.adr l),some (nD W),some (.adr f),some (nD (i+1)),some (nD (mkW r (i+1) j)),some (nD (i+1+j))] G2 (decide (mkW r (i+1) j=W)):=zDA (zMy (x:=nD (mkW r (i+1) j)) (y:=nD W) (zE rfl) (zE rfl) rfl rfl (by rw[if_neg (by simp),zHn]))
   have tail:∀(E:yM) (G3:Gp),G3.m f=some ((wH r p W i++zCS r p W (i+1) (j+1)).map uD)→L3.Sub G G3→(∀ o7,E.nx [some (uD r),some (nD p),some (.adr l),some (nD W),some (.adr f),some (nD (i+1)),some (nD (mkW r (i+1) (j+1))),o7] G3) →
     (xIf (xB (zX (fII fun i j=>.bl (decide (i<j))) (zB 7) (zM yD (zA (zB 0) zI)))) (zf (zX (fII fun i j=>.int (Builtin.bitXor i j)) (zB 6) (zX (yh zDe fun i j=>.int (i*2 ^ j.toNat)) (xC (.int 1)) (zX fIx (zB 0) (zB 7)))) (gN 6)) ye) E [some (uD r),some (nD p),some (.adr l),some (nD W),some (.adr f),some (nD (i+1)),some (nD (mkW r (i+1) j)),some (nD (i+1+j))] G3:=fun E G3 g3 s3 fin=>by
    have t2:PuT (xB (zX (fII fun i j=>.bl (decide (i<j))) (zB 7) (zM yD (zA (zB 0) zI)))) [some (uD r),some (nD p),some (.adr l),some (nD W),some (.adr f),some (nD (i+1)),some (nD (mkW r (i+1) j)),some (nD (i+1+j))] G3 (decide (i+1+j<r.length)):=by
     have:=zEF (g:=fun i j=>.bl (decide (i<j))) (zE (σ:=[some (uD r),some (nD p),some (.adr l),some (nD W),some (.adr f),some (nD (i+1)),some (nD (mkW r (i+1) j)),some (nD (i+1+j))]) (G:=G3) (i:=7) (d:=nD (i+1+j)) rfl) (zIY (ps:=r) (zE (i:=0) rfl))
     have e:decide ((((i+1+j:Nat)):Int)<(r.length:Int))=decide (i+1+j<r.length):=by rw[Bool.eq_iff_iff];simp only[decide_eq_true_eq];(first|lia|omega)
     rw[← e];exact zDA this
    refine ifB t2 (fun hb=>?_) fun hb=>?_
    ·have hlt:=of_decide_eq_true hb
     have hx9:r.getD (i+1+j) 0≤9:=by
      have:r.getD (i+1+j) 0=r[i+1+j]:=by simp[List.getD,hlt]
      rw[this]
      exact hrx _ (List.getElem_mem _)
     refine zM2 (d:=nD (mkW r (i+1) j ^^^ 2 ^ (r.getD (i+1+j) 0))) (zMS (zE rfl) (zAb (x:=.int 1) (y:=nD (r.getD (i+1+j) 0)) wt (zKn (ps:=r) (zE rfl) (zE rfl) hlt) fun u0 u0 u0 q'=>⟨⟨by (first|lia|omega),by (first|lia|omega),by decide⟩,?_⟩)) ?_
     ·dsimp only
      have:(1:Int)*2 ^ (((r.getD (i+1+j) 0:Nat):Int)).toNat=((2 ^ (r.getD (i+1+j) 0):Nat):Int):=by simp
      rw[this]
      exact q'
     ·simp only[gN,List.set_cons_succ,List.set_cons_zero]
      rw[← zG1 hlt]
      exact fin _
    ·have hge:=of_decide_eq_false hb
     have:=fin (some (nD (i+1+j)))
     rw[zMW (by (first|lia|omega))] at this
     exact this
   refine zIx t1 (fun hb=>?_) fun hb=>?_
   ·have hW:=of_decide_eq_true hb
    refine zF9 (zGB (l:=f) (zE rfl) gf2 (yI (d:=uD (zEn r p (i+1) (i+1+j))) (zIu rfl rfl (zE rfl) (zE rfl) (by (first|lia|omega)) (by (first|lia|omega)) (by (first|lia|omega))) (wP ⟨_,gf2,by rw[List.length_map,List.length_append];(first|lia|omega),?_⟩)))
    refine tail _ _ ?_ (sb2.put hf) fun o7=>?_
    ·rw[zG,zAH,if_pos hW,← List.append_assoc]
     simp only[List.map_append,List.map_cons,List.map_nil]
    ·refine⟨_,_,.keep (.keep (.keep (.keep (.keep (.keep (.keep (.skip .nil))))))),.refl _,rfl,?_,sb2.put hf⟩
     rw[zG,zAH,if_pos hW,← List.append_assoc]
     simp only[List.map_append,List.map_cons,List.map_nil]
   ·have hW:=of_decide_eq_false hb
    refine tail _ _ ?_ sb2 fun o7=>?_
    ·rw[zAH,if_neg hW,List.append_nil];exact gf2
    ·refine⟨_,_,.keep (.keep (.keep (.keep (.keep (.keep (.keep (.skip .nil))))))),.refl _,rfl,?_,sb2⟩
     rw[zAH,if_neg hW,List.append_nil];exact gf2
  ·rintro σ' G2 ⟨rfl,gf2,sb2⟩
   rw[List.length_map,List.length_range] at gf2
   exact⟨.keep (.keep (.keep (.keep (.keep (.skip (.skip (.skip .nil))))))),G2,.refl _,gf2,sb2⟩
 ·rintro G1 ⟨gf,sb⟩
  rw[List.length_map,List.length_range] at gf
  show FgR R (.adr f) G1
  refine⟨zS G f ((wch r p W).map uD),⟨fun a o e=>?_,fun a o e=>sb.ro a o e⟩,h f hf⟩
  by_cases ha:a=f
  ·subst ha;rw[zG] at e;cases e;exact gf
  ·rw[zV ha] at e;exact sb.m a o e
end K
namespace K
open PySem PySem.Spec PyProof.Rows L2 L3 HS
theorem zMb{σ:S2}{G:Gp}{tc:TT2}{ta tb:zh}{b:Bool}{R:Q2}(h:PuT tc σ G b)(h1:b=true→ta σ G R)(h2:b=false→tb σ G R):zOE tc ta tb σ G R:=h G (.refl G) _ (by
 cases b
 ·rw[if_neg (by simp)];exact h2 rfl
 ·rw[if_pos rfl];exact h1 rfl)
theorem zIy(r:List Nat)(a:Nat):∀ j,(odW r a j).length≤j:=fun j=>by
 have:∀(xs l:List Nat),(xs.foldl tog l).length≤l.length+xs.length:=by
  intro xs
  induction xs with
  | nil=>intro l;simp
  | cons x xs ih =>
   intro l
   rw[List.foldl_cons]
   have h1:=ih (tog l x)
   have h2:(tog l x).length≤l.length+1:=by
    unfold tog
    split
    ·have:=List.length_filter_le (fun y=>decide (y≠x)) l;(first|lia|omega)
    ·simp
   simp only[List.length_cons]
   (first|lia|omega)
 have h1:=this ((r.drop a).take j) []
 unfold odW
 simp only[List.length_nil,List.length_take] at h1 ⊢
 (first|lia|omega)
noncomputable def yk:List D→Gp→(List D→Gp→Prop)→Prop:=fun ds G R=>∃(r near:List Nat) (p:Nat) (l:Addr),ds=[uD r,nD p,.adr l]∧Ls G l (near.map nD)∧near.Pairwise (·<·)∧r.length≤20∧R ((wch r p (wf near)).map uD) G
theorem zE6:∀ ds G R R',(∀ ls G',R ls G'→R' ls G')→yk ds G R→yk ds G R':=by
 rintro ds G R R' h ⟨r,cs,p,l,e,h1,h2,h3,q⟩
 exact⟨r,cs,p,l,e,h1,h2,h3,h _ _ q⟩
noncomputable def zBI:wK:=(zZ (zf (zq (wV zI)) (gN 3)) (zZ (yu (iR2 (zA (xC (.int 1)) (zA (zX zw (zM yD (zA (zB 0) zI)) (xC (.int 1))) zI))) (gN 4) (zZ (zf (zq (wV zI)) (gN 5)) (yu (iR2 (zA (zB 4) (zA (zX zw (zM yD (zA (zB 0) zI)) (xC (.int 1))) zI))) (gN 6) (zZ (xIf (xB (zX (fII fun i j=>.bl (decide (j<i))) (zB 6) (zB 4))) (zZ (zf (zX fIx (zB 0) (zX (fII fun i j=>.int (i-j)) (zB 6) (xC (.int 1)))) (gN 7)) (zf (zOE (xB (zX (fIn false) (zB 7) (zB 5))) (zq (yL (iV (zB 5)) bd1 (xB (zX (fEq true) (zB 8) (zB 7))) (zB 8))) (zq (zKU (zB 5) (zq (wV (zA (zB 7) zI)))))) (gN 5))) ye) (xIf (xB (zX (fEq false) (zq (zBr (zA (zB 5) zI))) (zB 2))) (wB (zFp (zB 3) (zA (zX zw (zX zw (zX zw (zX zw (zy (zB 0) zx (yE (zB 4))) (yV (zA (zB 1) zI))) (zy (zB 0) (yE (zB 4)) (yE (zB 6)))) (yV (zA (zB 1) zI))) (zy (zB 0) (yE (zB 6)) zx)) zI))) ye))))) (yN (zB 3))))
theorem zH7(ds:List D)(G:Gp)(R:Q2)(h:spL yk ds G R):ds.length=3∧zBI (zm R) (zU ["word","place","wished","found","one","odd","other","last"] ds) G:=by
 obtain⟨r,near,p,l,rfl,hl,hnr,hr,h⟩:=h
 refine⟨rfl,?_⟩
 unfold zBI
 rw[show zU ["word","place","wished","found","one","odd","other","last"] [uD r,nD p,.adr l]=[some (uD r),some (nD p),some (.adr l),none,none,none,none,none] from rfl]
 generalize hW:wf near=W at h
 refine yZ (zBL (ds:=[]) (fun G2 e R q=>zBc (wP ⟨by rw[sizeLine_eq];simp,q⟩)) fun f hf=>?_)
 simp only[gN,List.set_cons_succ,List.set_cons_zero]
 refine zAI (zDE (i:=1) (j:=((r.length+1:Nat):Int)) (zH wt (zH (zCz rfl) zT)) (by (first|lia|omega)) ?_)
 rw[show(((r.length+1:Nat):Int)-1).toNat=r.length by (first|lia|omega),zDx]
 refine zBt (fun i G'=>G'.m f=some ((wH r p W i).map uD)∧L3.Sub G G') ⟨zG,.new hf⟩ (fun u0 u0 u0=>trivial) ?_ ?_
 ·rintro i x hx G1 ⟨gf,sb⟩
  obtain⟨rfl,hi⟩:=zDy hx
  simp only[gN,List.set_cons_succ,List.set_cons_zero]
  refine yZ (zBL (ds:=[]) (fun G2 e R q=>zBc (wP ⟨by rw[sizeLine_eq];simp,q⟩)) fun lo0 hlo0=>?_)
  simp only[gN,List.set_cons_succ,List.set_cons_zero]
  have n0:lo0≠f:=fun z=>by rw[z,gf] at hlo0;cases hlo0
  refine zDE (i:=((i+1:Nat):Int)) (j:=((r.length+1:Nat):Int)) (zH (zE rfl) (zH (zCz rfl) zT)) (by (first|lia|omega)) ?_
  rw[show(((r.length+1:Nat):Int)-((i+1:Nat):Int)).toNat=r.length-i by (first|lia|omega),zIv]
  have wl:=zBH (p:=p) (W:=W) hr i (by (first|lia|omega))
  refine⟨fun j σ' G'=>∃ lo,σ'=[some (uD r),some (nD p),some (.adr l),some (.adr f),some (nD (i+1)),some (.adr lo),none,none]∧lo≠f∧G'.m lo=some ((odW r (i+1) (j-1)).map nD)∧G'.m f=some ((wH r p W i++zCS r p W (i+1) j).map uD)∧L3.Sub G G',⟨lo0,rfl,n0,zG,?_,sb.trans (.new hlo0)⟩,fun u0 u0 u0 u0 u0=>trivial,?_,?_⟩
  ·show(zS G1 lo0 []).m f=some ((wH r p W i++[]).map uD)
   rw[List.append_nil,zV (Ne.symm n0)];exact gf
  ·rintro j x σ' G2 hx ⟨lo,rfl,nlo,glo,gf2,sb2⟩
   obtain⟨rfl,hj⟩:=zIw hx
   simp only[gN,List.set_cons_succ,List.set_cons_zero]
   have wr:=zCx (r:=r) (p:=p) (W:=W) (a:=i+1) (j:=j) (by (first|lia|omega))
   have ol:=zIy r (i+1) j
   -- the second test
   have tail:∀(E:yM) (G3:Gp) (lo':Addr) (o7:Option D),lo'≠f→G3.m lo'=some ((odW r (i+1) j).map nD)→G3.m f=some ((wH r p W i++zCS r p W (i+1) j).map uD)→L3.Sub G G3 →
     (∀ G4,G4.m lo'=some ((odW r (i+1) j).map nD)→G4.m f=some ((wH r p W i++zCS r p W (i+1) (j+1)).map uD)→L3.Sub G G4→E.nx [some (uD r),some (nD p),some (.adr l),some (.adr f),some (nD (i+1)),some (.adr lo'),some (nD (i+1+j)),o7] G4) →
     (xIf (xB (zX (fEq false) (zq (zBr (zA (zB 5) zI))) (zB 2))) (wB (zFp (zB 3) (zA (zX zw (zX zw (zX zw (zX zw (zy (zB 0) zx (yE (zB 4))) (yV (zA (zB 1) zI))) (zy (zB 0) (yE (zB 4)) (yE (zB 6)))) (yV (zA (zB 1) zI))) (zy (zB 0) (yE (zB 6)) zx)) zI))) ye) E [some (uD r),some (nD p),some (.adr l),some (.adr f),some (nD (i+1)),some (.adr lo'),some (nD (i+1+j)),o7] G3:=fun E G3 lo' o7 nl' gl' gf' sb' fin=>by
    have hs:=zK7 (r:=r) (a:=i+1) (j:=j) hnr
    rw[hW] at hs
    have t1:WkT (xB (zX (fEq false) (zq (zBr (zA (zB 5) zI))) (zB 2))) [some (uD r),some (nD p),some (.adr l),some (.adr f),some (nD (i+1)),some (.adr lo'),some (nD (i+1+j)),o7] G3 (decide (mkW r (i+1) j=W)):=fun G4 e4 R q'=>zMN (zBL (zHm (d:=.adr lo') (l:=odW r (i+1) j) (zH (zE rfl) zT) (e4.ls (.inl gl')) (by (first|lia|omega))) fun ls hls=>(zE (i:=2) (d:=.adr l) rfl) _ (.refl _) _ (by
     refine⟨_,_,.own,(e4.ls (hl.sub sb')).sub (.new hls),zBa _,zBa _,?_⟩
     rw[if_neg (by simp),zGz]
     have e:decide (zGf (odW r (i+1) j)=near)=decide (mkW r (i+1) j=W):=by
      rw[Bool.eq_iff_iff];simp only[decide_eq_true_eq];exact hs.symm
     rw[e]
     exact q' _ (.new hls)))
    refine zIr t1 (fun hb G4 e4=>?_) fun hb G4 e4=>?_
    ·have hh:=of_decide_eq_true hb
     have g4:=e4.sub.m _ _ gf'
     refine zF9 (zGB (l:=f) (zE rfl) g4 (yI (d:=uD (zEn r p (i+1) (i+1+j))) (zIu rfl rfl (zE rfl) (zE rfl) (by (first|lia|omega)) (by (first|lia|omega)) (by (first|lia|omega))) (wP ⟨_,g4,by rw[List.length_map,List.length_append];(first|lia|omega),?_⟩)))
     refine fin _ ?_ ?_ ((sb'.trans e4.sub).put hf)
     ·rw[zV nl'];exact e4.sub.m _ _ gl'
     ·rw[zG,zAH,if_pos hh,← List.append_assoc]
      simp only[List.map_append,List.map_cons,List.map_nil]
    ·have hh:=of_decide_eq_false hb
     refine fin G4 (e4.sub.m _ _ gl') ?_ (sb'.trans e4.sub)
     rw[zAH,if_neg hh,List.append_nil]
     exact e4.sub.m _ _ gf'
   have t0:PuT (xB (zX (fII fun i j=>.bl (decide (j<i))) (zB 6) (zB 4))) [some (uD r),some (nD p),some (.adr l),some (.adr f),some (nD (i+1)),some (.adr lo),some (nD (i+1+j)),none] G2 (decide (0<j)):=by
    have:=zEF (g:=fun i j=>.bl (decide (j<i))) (zE (σ:=[some (uD r),some (nD p),some (.adr l),some (.adr f),some (nD (i+1)),some (.adr lo),some (nD (i+1+j)),none]) (G:=G2) (i:=6) (d:=nD (i+1+j)) rfl) (zE (i:=4) (d:=nD (i+1)) rfl)
    have e:decide ((((i+1:Nat)):Int)<((i+1+j:Nat):Int))=decide (0<j):=by rw[Bool.eq_iff_iff];simp only[decide_eq_true_eq];(first|lia|omega)
    rw[← e];exact zDA this
   refine zIx t0 (fun hb=>?_) fun hb=>?_
   ·obtain⟨k,rfl⟩:∃ k,j=k+1:=⟨j-1,by have:=of_decide_eq_true hb;(first|lia|omega)⟩
    rw[Nat.add_sub_cancel] at glo
    have hlt:i+1+k<r.length:=by (first|lia|omega)
    have ixx:zn (zX fIx (zB 0) (zX (fII fun i j=>.int (i-j)) (zB 6) (xC (.int 1)))) [some (uD r),some (nD p),some (.adr l),some (.adr f),some (nD (i+1)),some (.adr lo),some (nD (i+1+(k+1))),none] G2 (nD (r.getD (i+1+k) 0)):=by
     refine zKn (ps:=r) (zE rfl) ?_ hlt
     have:=zEF (g:=fun i j=>.int (i-j)) (zE (σ:=[some (uD r),some (nD p),some (.adr l),some (.adr f),some (nD (i+1)),some (.adr lo),some (nD (i+1+(k+1))),none]) (G:=G2) (i:=6) (d:=nD (i+1+(k+1))) rfl) (wt (d:=.int 1))
     rw[show((i+1+(k+1):Nat):Int)-1=((i+1+k:Nat):Int) by (first|lia|omega)] at this
     exact this
    refine zA9 ixx ?_
    simp only[gN,List.set_cons_succ,List.set_cons_zero]
    have hod:=zK8 (r:=r) (a:=i+1) (j:=k) hlt
    generalize r.getD (i+1+k) 0=x at hod
    have tin:PuT (xB (zX (fIn false) (zB 7) (zB 5))) [some (uD r),some (nD p),some (.adr l),some (.adr f),some (nD (i+1)),some (.adr lo),some (nD (i+1+(k+1))),some (nD x)] G2 (decide (x∈odW r (i+1) k)):=zDA (zAb (x:=nD x) (y:=.adr lo) (zE rfl) (zE rfl) fun G3 e R q'=>⟨_,e.ls (.inl glo),rfl,zBa _,by rw[if_neg (by simp),zHh];exact q'⟩)
    refine zK4 (zMb tin (fun hx=>?_) fun hx=>?_)
    ·have hx:=of_decide_eq_true hx
     have c:=zBs (σ:=[some (uD r),some (nD p),some (.adr l),some (.adr f),some (nD (i+1)),some (.adr lo),some (nD (i+1+(k+1))),some (nD x)]) (G:=G2) (bd:=bd1) (tc:=(xB (zX (fEq true) (zB 8) (zB 7)))) (te:=zB 8) (fun d=>match d with | .int v=>decide (v.toNat≠x) | _=>false) (fun d=>d) (fun d=>[d]) (zBq (zE (i:=5) (d:=.adr lo) rfl) (.inl glo)) fun y hy=>by
      obtain⟨z,u0,rfl⟩:=List.mem_map.mp hy
      refine⟨rfl,zDA (zMy (x:=nD z) (y:=nD x) (zE rfl) (zE rfl) rfl rfl ?_),fun u0=>zE rfl⟩
      rw[if_pos rfl,zHn]
      simp
     have e:List.map (fun d=>d) (List.filter (fun d=>match d with | .int v=>decide (v.toNat≠x) | _=>false) ((odW r (i+1) k).map nD))=(odW r (i+1) (k+1)).map nD:=by
      rw[List.map_id',List.filter_map,hod]
      unfold tog
      rw[if_pos hx];rfl
     rw[e] at c
     refine zBL c fun lo' hlo'=>?_
     have nl':lo'≠f:=fun z=>by rw[z,gf2] at hlo';cases hlo'
     simp only[gN,List.set_cons_succ,List.set_cons_zero]
     refine tail _ _ lo' _ nl' zG (by rw[zV (Ne.symm nl')];exact gf2) (sb2.trans (.new hlo')) fun G4 a1 a2 a3=>?_
     exact⟨_,G4,.keep (.keep (.keep (.keep (.keep (.keep (.skip (.skip .nil))))))),.refl _,lo',rfl,nl',a1,a2,a3⟩
    ·have hx:=of_decide_eq_false hx
     refine zFY (zO8 (zE (d:=.adr lo) rfl) (zBL (ds:=[nD x]) (fun G2 e R q=>zBc (zH (zE rfl) zT G2 e _ ⟨by rw[sizeLine_eq];simp,q⟩)) fun l2 hl2=>?_))
     have n2:lo≠l2:=fun z=>by rw[← z,glo] at hl2;cases hl2
     refine⟨_,_,by rw[zV n2];exact glo,zG,by rw[List.length_map];have:=zIy r (i+1) k;simp only[List.length_cons,List.length_nil];(first|lia|omega),fun lo' hlo'=>?_⟩
     have f2:f≠l2:=fun z=>by rw[← z,gf2] at hl2;cases hl2
     have gf3:(zS G2 l2 [nD x]).m f=some ((wH r p W i++zCS r p W (i+1) (k+1)).map uD):=by rw[zV f2];exact gf2
     have nl':lo'≠f:=fun z=>by rw[z,gf3] at hlo';cases hlo'
     have e:(odW r (i+1) k).map nD++[nD x]=(odW r (i+1) (k+1)).map nD:=by
      rw[hod]
      unfold tog
      rw[if_neg hx,List.map_append];rfl
     rw[e]
     simp only[gN,List.set_cons_succ,List.set_cons_zero]
     refine tail _ _ lo' _ nl' zG (by rw[zV (Ne.symm nl')];exact gf3) ((sb2.trans (.new hl2)).trans (.new hlo')) fun G4 a1 a2 a3=>?_
     exact⟨_,G4,.keep (.keep (.keep (.keep (.keep (.keep (.skip (.skip .nil))))))),.refl _,lo',rfl,nl',a1,a2,a3⟩
   ·obtain rfl:j=0:=by have:=of_decide_eq_false hb;(first|lia|omega)
    refine tail _ _ lo _ nlo glo gf2 sb2 fun G4 a1 a2 a3=>?_
    exact⟨_,G4,.keep (.keep (.keep (.keep (.keep (.keep (.skip (.skip .nil))))))),.refl _,lo,rfl,nlo,a1,a2,a3⟩
  ·rintro σ' G2 ⟨lo,rfl,nlo,glo,gf2,sb2⟩
   rw[List.length_map,List.length_range] at gf2
   exact⟨.keep (.keep (.keep (.keep (.skip (.skip (.skip (.skip .nil))))))),G2,.refl _,gf2,sb2⟩
 ·rintro G1 ⟨gf,sb⟩
  rw[List.length_map,List.length_range] at gf
  show FgR R (.adr f) G1
  refine⟨zS G f ((wch r p W).map uD),⟨fun a o e=>?_,fun a o e=>sb.ro a o e⟩,h f hf⟩
  by_cases ha:a=f
  ·subst ha;rw[zG] at e;cases e;exact gf
  ·rw[zV ha] at e;exact sb.m a o e
end K
namespace K
open PySem PySem.Spec PyProof.Rows L2 L3 HS
noncomputable def yK:List D→Gp→(List D→Gp→Prop)→Prop:=fun ds G R=>∃(n:Nat) (q:Nat×Nat→Bool) (i:Nat) (os:List Nat),ds=[zo n q,nD i,uD os]∧i<n∧(∀ x∈os,x<n)∧R ((os.filter (adj q i)).map nD) G
theorem zDj:∀ ds G R R',(∀ ls G',R ls G'→R' ls G')→yK ds G R→yK ds G R':=by
 rintro ds G R R' h ⟨n,q,i,os,e,h1,h2,q'⟩
 exact⟨n,q,i,os,e,h1,h2,h _ _ q'⟩
noncomputable def zAG:wK:=(yN (zq (yL (iV (zB 2)) bd1 (xB (zM zBu (zA (zB 0) (zA (zB 1) (zA (zB 3) zI))))) (zB 3))))
theorem zGD(ds:List D)(G:Gp)(R:Q2)(h:spL yK ds G R):ds.length=3∧zAG (zm R) (zU ["web","place","others"] ds) G:=by
 obtain⟨n,q,i,os,rfl,hi,ho,h⟩:=h
 refine⟨rfl,?_⟩
 unfold zAG yN zq
 have c:=zBs (σ:=zU ["web","place","others"] [zo n q,nD i,uD os]) (G:=G) (bd:=bd1) (tc:=(xB (zM zBu (zA (zB 0) (zA (zB 1) (zA (zB 3) zI)))))) (te:=zB 3) (fun d=>match d with | .int v=>adj q i v.toNat | _=>false) (fun d=>d) (fun d=>[d]) (zDB (zE (i:=2) (d:=uD os) rfl)) fun x hx=>by
  obtain⟨k,hk,rfl⟩:=List.mem_map.mp hx
  exact⟨rfl,zDA (wM (zH (zE (d:=zo n q) rfl) (zH (zE (d:=nD i) rfl) (zH (zE (d:=nD k) rfl) zT))) fun u0 u0 u0 q'=>⟨n,q,i,k,rfl,hi,ho k hk,q'⟩),fun u0=>zE rfl⟩
 have e:List.map (fun d=>d) (List.filter (fun d=>match d with | .int v=>adj q i v.toNat | _=>false) (os.map nD))=(os.filter (adj q i)).map nD:=by
  rw[List.map_id',List.filter_map];rfl
 rw[e] at c
 exact c G (.refl G) _ fun l hl=>FgR.of (h l hl)
theorem zC0{r:List Nat}{p W:Nat}(h:r.length≤20):(wch r p W).length≤420:=by
 have:=zBH (p:=p) (W:=W) h r.length (Nat.le_refl _)
 show(wH r p W r.length).length≤420
 (first|lia|omega)
noncomputable def zg:List D→Gp→(List D→Gp→Prop)→Prop:=fun ds G R=>∃(rs:List (List Nat)) (cs:List Nat) (p:Nat) (lr lc:Addr),ds=[.adr lr,nD p,.adr lc]∧Ls G lr (rs.map uD)∧Ls G lc (cs.map nD)∧(∀ r∈rs,r.length≤20∧∀ x∈r,x≤9)∧(∀ x∈cs,x≤9)∧cs.length≤9∧rs.length≤1000∧R ((rs.flatMap fun r=>wch r p (wf cs)).map uD) G
theorem zB7:∀ ds G R R',(∀ ls G',R ls G'→R' ls G')→zg ds G R→zg ds G R':=by
 rintro ds G R R' h ⟨rs,cs,p,lr,lc,e,h1,h2,h3,h4,h5,h6,q⟩
 exact⟨rs,cs,p,lr,lc,e,h1,h2,h3,h4,h5,h6,h _ _ q⟩
noncomputable def yq:wK:=(zZ (zf (zq (wV zI)) (gN 3)) (zZ (yu (iV (zB 0)) (gN 4) (wB (zJL (zB 3) (zj yJ (zA (zB 4) (zA (zB 1) (zA (zB 2) zI))))))) (yN (zB 3))))
theorem zFf{rs:List (List Nat)}{g:List Nat→List (List Nat)}{k:Nat}{r:List Nat}(h:rs[k]?=some r):((rs.take (k+1)).flatMap g).map uD=((rs.take k).flatMap g).map uD++(g r).map uD:=by
 rw[wC h,List.flatMap_append,List.map_append]
 congr 1
 simp
theorem zDQ(ds:List D)(G:Gp)(R:Q2)(h:spL zg ds G R):ds.length=3∧yq (zm R) (zU ["rings","place","crossed","longer","ring"] ds) G:=by
 obtain⟨rs,cs,p,lr,lc,rfl,hlr,hlc,hrs,hcx,hcl,hrl,h⟩:=h
 refine⟨rfl,?_⟩
 unfold yq
 rw[show zU ["rings","place","crossed","longer","ring"] [.adr lr,nD p,.adr lc]=[some (.adr lr),some (nD p),some (.adr lc),none,none] from rfl]
 refine yZ (zBL (ds:=[]) (fun G2 e R q=>zBc (wP ⟨by rw[sizeLine_eq];simp,q⟩)) fun f hf=>?_)
 simp only[gN,List.set_cons_succ,List.set_cons_zero]
 refine zAI (zDD (show iV _ _ _ _ from(zE (i:=0) (d:=.adr lr) rfl) _ (.refl _) _ ⟨rs.map uD,hlr.sub (.new hf),?_⟩))
 refine zBt (fun k G'=>G'.m f=some (((rs.take k).flatMap fun r=>wch r p (wf cs)).map uD)∧L3.Sub G G') ⟨zG,.new hf⟩ (fun k G' ⟨_,sb⟩=>hlr.sub sb) ?_ ?_
 ·rintro k x hx G1 ⟨gf,sb⟩
  obtain⟨r,hr,rfl⟩:=zCV hx
  obtain⟨r1,r2⟩:=hrs r (List.mem_of_getElem? hr)
  simp only[gN,List.set_cons_succ,List.set_cons_zero]
  have b1:=zC0 (p:=p) (W:=wf cs) r1
  have b2:=zCy (f:=fun r=>wch r p (wf cs)) (c:=420) (rs.take k) fun r hr=>zC0 (hrs r (List.mem_of_mem_take hr)).1
  have b3:(rs.take k).length≤1000:=by rw[List.length_take];(first|lia|omega)
  refine zF9 (zFv (i:=3) (l:=f) (zs:=(wch r p (wf cs)).map uD) rfl gf (fun Q q'=>yp (yI (zE rfl) (yI (zE rfl) (yI (zE rfl) (wP ⟨r,cs,p,lc,rfl,hlc.sub sb,r1,r2,hcx,hcl,q'⟩))))) (by rw[List.length_map,List.length_map];(first|lia|omega)) ?_)
  refine⟨.keep (.keep (.keep (.keep (.skip .nil)))),_,.refl _,?_,sb.put hf⟩
  rw[zG,zFf hr]
 ·rintro G1 ⟨gf,sb⟩
  rw[List.length_map,List.take_length] at gf
  show FgR R (.adr f) G1
  refine⟨zS G f ((rs.flatMap fun r=>wch r p (wf cs)).map uD),⟨fun a o e=>?_,fun a o e=>sb.ro a o e⟩,h f hf⟩
  by_cases ha:a=f
  ·subst ha;rw[zG] at e;cases e;exact gf
  ·rw[zV ha] at e;exact sb.m a o e
noncomputable def zDk(n:Nat)(q:Nat×Nat→Bool):List (List Int):=(rgs q (n-1)).map fun r=>zAT (uI r)
noncomputable def zl:List D→Gp→(List D→Gp→Prop)→Prop:=fun ds G R=>∃(n:Nat) (q:Nat×Nat→Bool),ds=[zo n q]∧1≤n∧n≤5∧∀ m:List (List Int),m.Nodup→(∀ x,x∈m↔x∈zDk n q)→m.Pairwise (fun a b=>ltI b a=false)→R (m.map tI) G
theorem zAW:∀ ds G R R',(∀ ls G',R ls G'→R' ls G')→zl ds G R→zl ds G R':=by
 rintro ds G R R' h ⟨n,q,e,h1,h5,k⟩
 exact⟨n,q,e,h1,h5,fun m a b c=>h _ _ (k m a b c)⟩
noncomputable def yv:=zl
theorem zGE:∀ ds G R R',(∀ ls G',R ls G'→R' ls G')→yv ds G R→yv ds G R':=zAW
theorem zG5{n:Nat}{q:Nat×Nat→Bool}{m m':List (List Int)}(h:m.Nodup)(h':m'.Nodup)(e:∀ x,x∈m↔x∈zDk n q)(e':∀ x,x∈m'↔x∈zDk n q)(s:m.Pairwise (fun a b=>ltI b a=false))(s':m'.Pairwise (fun a b=>ltI b a=false)):m=m' :=
 List.Perm.eq_of_pairwise (fun a b u0 u0 x y=>zFz _ _ y x) s s' ((List.perm_ext_iff_of_nodup h h').mpr fun x=>(e x).trans (e' x).symm)
theorem zG6{n:Nat}{q:Nat×Nat→Bool}(h:n≤5):(zDk n q).length≤2880:=by
 unfold zDk
 rw[List.length_map]
 exact zJp q (by (first|lia|omega))
theorem zMc{n:Nat}{q:Nat×Nat→Bool}:∀ x∈zDk n q,x≠[]:=fun x hx z=>by
 obtain⟨r,hr,rfl⟩:=List.mem_map.mp hx
 have h1:=zDZ (uI r) (uI r).length
 have h2:=(zDP q (n-1) r hr).1
 have h3:(zAT (uI r)).length=0:=by rw[z];rfl
 have h4:(zAT (uI r)).length=(uI r).length:=h1
 have h5:(uI r).length=r.length:=List.length_map _
 (first|lia|omega)
theorem zMd(r:List Nat):uD r=tupI (uI r):=by
 show D.tup (r.map nD)=D.tup ((uI r).map D.int)
 unfold uI
 rw[List.map_map];rfl
theorem zIz{σ:S2}{G:Gp}{n k:Nat}{q:Nat×Nat→Bool}{l:Addr}{sp:Sp2}(hs:sp=wv)(h1:look σ 1=some (.adr l))(hk:∀ d:D,look (σ++[some d]) k=some d)(hl:Ls G l ((rgs q (n-1)).map uD))(h5:n≤5):PuL (yL (iV (zB 1)) bd1 zCa (zM sp (zA (zB k) zI))) σ G ((zDk n q).map tI):=by
 have m:=zFr (σ:=σ) (G:=G) (bd:=bd1) (te:=zM sp (zA (zB k) zI)) (fun d=>match d with | .tup xs=>tupI (zAT (xs.map fun d=>match d with | .int v=>v | _=>0)) | _=>.non) (fun d=>[d]) (zBq (zE h1) hl) fun x hx=>by
  obtain⟨r,hr,rfl⟩:=List.mem_map.mp hx
  refine⟨rfl,?_⟩
  have e:List.map (fun d=>match d with | D.int v=>v | _=>0) (r.map nD)=uI r:=by
   rw[List.map_map];rfl
  show zn _ _ _ (tupI (zAT (List.map (fun d=>match d with | D.int v=>v | _=>0) (r.map nD))))
  rw[e]
  have h2:=(zDP q (n-1) r hr).1
  have h3:(uI r).length=r.length:=List.length_map _
  refine zK3 hs ?_ (by (first|lia|omega))
  rw[← zMd]
  exact zE (hk (uD r))
 have e:List.map (fun d=>match d with | .tup xs=>tupI (zAT (xs.map fun d=>match d with | .int v=>v | _=>0)) | _=>.non) ((rgs q (n-1)).map uD)=(zDk n q).map tI:=by
  unfold zDk
  rw[List.map_map,List.map_map]
  refine List.map_congr_left fun r u0=>?_
  show tupI (zAT (List.map (fun d=>match d with | D.int v=>v | _=>0) (r.map nD)))=tI (zAT (uI r))
  rw[List.map_map];rfl
 rw[e] at m
 exact m
theorem zG7{σ:S2}{G G':Gp}{n:Nat}{q:Nat×Nat→Bool}{R:Q2}{tl:TL2}(c:PuL tl σ G' ((zDk n q).map tI))(h5:n≤5)(sb:L3.Sub G G')
  (h:∀ m:List (List Int),m.Nodup→(∀ x,x∈m↔x∈zDk n q)→m.Pairwise (fun a b=>ltI b a=false)→∀ l,G.m l=none→R (.adr l) (zS G l (m.map tI))):yN (zq (zMZ tl)) (zm R) σ G':=by
 refine c G' (.refl _) _ ⟨zDk n q,rfl,by have:=zG6 (q:=q) h5;(first|lia|omega),zMc,fun m a1 a2 a3 l hl=>?_⟩
 refine⟨zS G l (m.map tI),⟨fun a o e=>?_,fun a o e=>sb.ro a o e⟩,h m a1 a2 a3 l (zCw sb hl)⟩
 by_cases ha:a=l
 ·subst ha;rw[zG] at e;cases e;exact zG
 ·rw[zV ha] at e;rw[zV ha];exact sb.m a o e
theorem zLJ{q:Nat×Nat→Bool}{i:Nat}(h:i≤4):∀ r∈rgs q i,r.length≤20∧∀ x∈r,x≤9:=fun r hr=>by
 obtain⟨h1,h2⟩:=zDP q i r hr
 exact⟨by (first|lia|omega),fun x hx=>by have:=h2 x hx;(first|lia|omega)⟩
theorem zG8(q:Nat×Nat→Bool){i:Nat}(h:i≤3):(rgs q i).length≤1000:=by
 refine Nat.le_trans (zGA q i) ?_
 match i,h with
 | 0,_=>decide
 | 1,_=>decide
 | 2,_=>decide
 | 3,_=>decide
theorem zON{q:Nat×Nat→Bool}{p:Nat}:∀ x∈nrQ q p,x<p:=fun x hx=>List.mem_range.mp (List.mem_filter.mp hx).1
theorem zMe{q:Nat×Nat→Bool}{p:Nat}:(nrQ q p).length≤p:=by
 have:=List.length_filter_le (adj q p) (List.range p)
 rw[List.length_range] at this
 exact this
noncomputable def zAg:wK:=(zZ (wB (zM yj (zA (zX fIx (zB 0) (xC (.int 0))) (zA (xC (.int 5)) zI)))) (zZ (zf (zq (wV (zA (yV (zA (xC (.int 0)) (zA (xC (.int 0)) zI))) zI))) (gN 1)) (zZ (yu (iR2 (zA (xC (.int 1)) (zA (zX fIx (zB 0) (xC (.int 0))) zI))) (gN 2) (zf (zq (zj zg (zA (zB 1) (zA (zB 2) (zA (zq (zj yK (zA (zB 0) (zA (zB 2) (zA (zKW (zA (zB 2) zI)) zI))))) zI))))) (gN 1))) (yN (zq (zMZ (yL (iV (zB 1)) bd1 zCa (zM wv (zA (zB 3) zI)))))))))
theorem zG9(ds:List D)(G:Gp)(R:Q2)(h:spL zl ds G R):ds.length=1∧zAg (zm R) (zU ["web","rings","place"] ds) G:=by
 obtain⟨n,q,rfl,h1,h5,h⟩:=h
 refine⟨rfl,?_⟩
 unfold zAg
 rw[show zU ["web","rings","place"] [zo n q]=[some (zo n q),none,none] from rfl]
 refine(show zZ (wB _) _ _ _ _ from zFw (ds:=[nD n,nD 5]) (zH (zKd (q:=q) (zE rfl)) (zH wt zT)) ⟨n,5,rfl,h5,?_⟩)
 refine yZ (zBL (ds:=[uD [0,0]]) (fun G2 e R q=>zBc (zH (zAk (zH wt (zH wt zT)) (by simp)) zT G2 e _ ⟨by rw[sizeLine_eq];simp,q⟩)) fun f hf=>?_)
 simp only[gN,List.set_cons_succ,List.set_cons_zero]
 refine zAI (zDE (i:=1) (j:=n) (zH wt (zH (zKd (q:=q) (zE rfl)) zT)) (by (first|lia|omega)) ?_)
 rw[show((n:Int)-1).toNat=n-1 by (first|lia|omega),zDx]
 refine⟨fun i σ' G'=>∃ l,σ'=[some (zo n q),some (.adr l),none]∧G.m l=none∧G'.m l=some ((rgs q i).map uD)∧L3.Sub G G',⟨f,rfl,hf,zG,.new hf⟩,fun u0 u0 u0 u0 u0=>trivial,?_,?_⟩
 ·rintro i x σ' G' hx ⟨l,rfl,hl,hg,sb⟩
  obtain⟨rfl,hi⟩:=zDy hx
  simp only[gN,List.set_cons_succ,List.set_cons_zero]
  refine zK4 (zFY (yp (yI (d:=.adr l) (zE rfl) (yI (d:=nD (i+1)) (zE rfl) (zHk (zFY (yp (yI (d:=zo n q) (zE rfl) (yI (d:=nD (i+1)) (zE rfl) (yI (d:=uD (List.range (i+1))) (zMB (zE rfl) (by (first|lia|omega))) (wP ⟨n,q,i+1,List.range (i+1),rfl,by (first|lia|omega),?_,fun lc hlc=>?_⟩)))))))))))
  ·intro x hx
   have:=List.mem_range.mp hx
   (first|lia|omega)
  have nl:l≠lc:=fun z=>by rw[z] at hg;rw[hg] at hlc;cases hlc
  have sb2:L3.Sub G (zS G' lc ((nrQ q (i+1)).map nD)):=sb.trans (.new hlc)
  refine wP ⟨rgs q i,nrQ q (i+1),i+1,l,lc,rfl,.inl (by rw[zV nl];exact hg),.own,zLJ (by (first|lia|omega)),fun x hx=>Nat.le_of_lt (Nat.lt_of_lt_of_le (zON x hx) (by (first|lia|omega))),Nat.le_trans zMe (by (first|lia|omega)),zG8 q (by (first|lia|omega)),fun l' hl'=>?_⟩
  simp only[gN,List.set_cons_succ,List.set_cons_zero]
  exact⟨[some (zo n q),some (.adr l'),none],_,.keep (.keep (.skip .nil)),.refl _,l',rfl,zCw sb2 hl',zG,sb2.put (zCw sb2 hl')⟩
 ·rintro σ' G' ⟨l,rfl,hl,hg,sb⟩
  rw[List.length_map,List.length_range] at hg
  exact zG7 (zIz (k:=3) (σ:=[some (zo n q),some (.adr l),none]) rfl rfl (fun u0=>rfl) (.inl hg) h5) h5 sb h
theorem zLK{n:Nat}{q:Nat×Nat→Bool}{p:Nat}(hp:p<n):(nrQ q p).Perm ((lar n q p).filter fun x=>decide (x<p)):=by
 refine(List.perm_ext_iff_of_nodup ((zEo q p).imp fun x=>Nat.ne_of_lt x) (zFT.filter _)).mpr fun x=>?_
 unfold nrQ
 rw[List.mem_filter,List.mem_filter,zIa hp,List.mem_range]
 simp only[decide_eq_true_eq]
 constructor
 ·rintro⟨a,b⟩;exact⟨⟨by (first|lia|omega),b⟩,a⟩
 ·rintro⟨⟨u0,b⟩,a⟩;exact⟨a,b⟩
noncomputable def zB1:wK:=(zZ (zf (zq (wV (zA (yV (zA (xC (.int 0)) (zA (xC (.int 0)) zI))) zI))) (gN 1)) (zZ (yu (iR2 (zA (xC (.int 1)) (zA (zX fIx (zB 0) (xC (.int 0))) zI))) (gN 2) (zZ (zf (zq (zEC (yL (iF (zj yT (zA (zB 0) (zA (zB 2) zI)))) bd1 (xB (zX (fII fun i j=>.bl (decide (i<j))) (zB 6) (zB 2))) (zB 6)))) (gN 3)) (zZ (zf (zq (wV zI)) (gN 4)) (zZ (yu (iV (zB 1)) (gN 5) (wB (zJL (zB 4) (zj yk (zA (zB 5) (zA (zB 2) (zA (zB 3) zI))))))) (zf (zB 4) (gN 1)))))) (yN (zq (zMZ (yL (iV (zB 1)) bd1 zCa (zM zAV (zA (zB 6) zI))))))))
theorem zJr(ds:List D)(G:Gp)(R:Q2)(h:spL yv ds G R):ds.length=1∧zB1 (zm R) (zU ["web","words","place","near","fresh","word"] ds) G:=by
 obtain⟨n,q,rfl,h1,h5,h⟩:=h
 refine⟨rfl,?_⟩
 unfold zB1
 rw[show zU ["web","words","place","near","fresh","word"] [zo n q]=[some (zo n q),none,none,none,none,none] from rfl]
 refine yZ (zBL (ds:=[uD [0,0]]) (fun G2 e R q=>zBc (zH (zAk (zH wt (zH wt zT)) (by simp)) zT G2 e _ ⟨by rw[sizeLine_eq];simp,q⟩)) fun f hf=>?_)
 simp only[gN,List.set_cons_succ,List.set_cons_zero]
 refine zAI (zDE (i:=1) (j:=n) (zH wt (zH (zKd (q:=q) (zE rfl)) zT)) (by (first|lia|omega)) ?_)
 rw[show((n:Int)-1).toNat=n-1 by (first|lia|omega),zDx]
 refine⟨fun i σ' G'=>∃ l,σ'=[some (zo n q),some (.adr l),none,none,none,none]∧G.m l=none∧G'.m l=some ((rgs q i).map uD)∧L3.Sub G G',⟨f,rfl,hf,zG,.new hf⟩,fun u0 u0 u0 u0 u0=>trivial,?_,?_⟩
 ·rintro i x σ' G' hx ⟨l,rfl,hl,hg,sb⟩
  obtain⟨rfl,hi⟩:=zDy hx
  simp only[gN,List.set_cons_succ,List.set_cons_zero]
  have cp:=zBs (σ:=[some (zo n q),some (.adr l),some (nD (i+1)),none,none,none]) (G:=G') (bd:=bd1) (tc:=(xB (zX (fII fun i j=>.bl (decide (i<j))) (zB 6) (zB 2)))) (te:=zB 6) (fun d=>match d with | .int v=>decide (v.toNat<i+1) | _=>false) (fun d=>d) (fun d=>[d])
   (show PuI (iF (zj yT (zA (zB 0) (zA (zB 2) zI)))) _ _ ((lar n q (i+1)).map nD) from fun G2 e R q'=>zO2 (yp (yI (d:=zo n q) (zE rfl) (yI (d:=nD (i+1)) (zE rfl) (wP ⟨n,q,i+1,rfl,fun a ha=>q' _ _ (.new ha) fun G4 e4=>e4.ls .own⟩))))) fun x hx=>by
   obtain⟨y,u0,rfl⟩:=List.mem_map.mp hx
   refine⟨rfl,?_,fun u0=>zE rfl⟩
   have:=zEF (g:=fun i j=>.bl (decide (i<j))) (zE (σ:=[some (zo n q),some (.adr l),some (nD (i+1)),none,none,none]++[nD y].map some) (G:=G') (i:=6) (d:=nD y) rfl) (zE (i:=2) (d:=nD (i+1)) rfl)
   have e:decide (((y:Nat):Int)<((i+1:Nat):Int))=decide (y<i+1):=by rw[Bool.eq_iff_iff];simp only[decide_eq_true_eq];(first|lia|omega)
   rw[e] at this
   exact zDA this
  have e:List.map (fun d=>d) (List.filter (fun d=>match d with | .int v=>decide (v.toNat<i+1) | _=>false) ((lar n q (i+1)).map nD))=((lar n q (i+1)).filter fun x=>decide (x<i+1)).map nD:=by
   rw[List.map_id',List.filter_map];rfl
  rw[e] at cp
  have sr:=zJY cp (by
   have a:=List.length_filter_le (fun x=>decide (x<i+1)) (lar n q (i+1))
   have b:=zL9 (q:=q) (show i+1<n by (first|lia|omega)) (by (first|lia|omega))
   (first|lia|omega)) (zLK (q:=q) (show i+1<n by (first|lia|omega))) ((zEo q (i+1)).imp fun x=>Nat.le_of_lt x)
  refine yZ (zBL sr fun ln hln=>?_)
  simp only[gN,List.set_cons_succ,List.set_cons_zero]
  refine yZ (zBL (ds:=[]) (fun G2 e R q=>zBc (wP ⟨by rw[sizeLine_eq];simp,q⟩)) fun lf hlf=>?_)
  simp only[gN,List.set_cons_succ,List.set_cons_zero]
  have sb2:L3.Sub G (zS G' ln ((nrQ q (i+1)).map nD)):=sb.trans (.new hln)
  have sb2':L3.Sub G' (zS G' ln ((nrQ q (i+1)).map nD)):=.new hln
  have gln:(zS G' ln ((nrQ q (i+1)).map nD)).m ln=some ((nrQ q (i+1)).map nD):=zG
  have gl2:(zS G' ln ((nrQ q (i+1)).map nD)).m l=some ((rgs q i).map uD):=sb2'.m _ _ hg
  generalize zS G' ln ((nrQ q (i+1)).map nD)=G2 at sb2 gln gl2 hlf
  clear cp e sr sb2'
  refine zAI (zDD (show iV _ _ _ _ from(zE (i:=1) (d:=.adr l) rfl) _ (.refl _) _ ⟨(rgs q i).map uD,.inl (by rw[zV (fun z=>by rw[z] at gl2;rw[gl2] at hlf;cases hlf)];exact gl2),?_⟩))
  refine zBt (fun k G3=>G3.m lf=some ((((rgs q i).take k).flatMap fun r=>wch r (i+1) (wf (nrQ q (i+1)))).map uD)∧L3.Sub G2 G3) ⟨zG,.new hlf⟩ (fun k G3 ⟨_,s3⟩=>.inl (s3.m _ _ gl2)) ?_ ?_
  ·rintro k x hx G3 ⟨gf,s3⟩
   obtain⟨r,hr,rfl⟩:=zCV hx
   have hin:=zLJ (q:=q) (i:=i) (by (first|lia|omega))
   obtain⟨r1,r2⟩:=hin r (List.mem_of_getElem? hr)
   simp only[gN,List.set_cons_succ,List.set_cons_zero]
   have b1:=zC0 (p:=i+1) (W:=wf (nrQ q (i+1))) r1
   have b2:=zCy (f:=fun r=>wch r (i+1) (wf (nrQ q (i+1)))) (c:=420) ((rgs q i).take k) fun r hr=>zC0 (hin r (List.mem_of_mem_take hr)).1
   have b3:((rgs q i).take k).length≤1000:=by have:=zG8 q (i:=i) (by (first|lia|omega));rw[List.length_take];(first|lia|omega)
   refine zF9 (zFv (i:=4) (l:=lf) (zs:=(wch r (i+1) (wf (nrQ q (i+1)))).map uD) rfl gf (fun Q q'=>yp (yI (zE rfl) (yI (zE rfl) (yI (zE rfl) (wP ⟨r,nrQ q (i+1),i+1,ln,rfl,.inl (s3.m _ _ gln),zEo q (i+1),r1,q'⟩))))) (by rw[List.length_map,List.length_map];(first|lia|omega)) ?_)
   refine⟨.keep (.keep (.keep (.keep (.keep (.skip .nil))))),_,.refl _,?_,s3.put hlf⟩
   rw[zG,zFf hr]
  ·rintro G3 ⟨gf,s3⟩
   rw[List.length_map,List.take_length] at gf
   dsimp only
   refine zM2 (d:=.adr lf) (zE (i:=4) rfl) ?_
   simp only[gN,List.set_cons_succ,List.set_cons_zero]
   exact⟨[some (zo n q),some (.adr lf),none,none,none,none],G3,.keep (.keep (.skip (.skip (.skip (.skip .nil))))),.refl _,lf,rfl,zCw sb2 hlf,gf,sb2.trans s3⟩
 ·rintro σ' G' ⟨l,rfl,hl,hg,sb⟩
  rw[List.length_map,List.length_range] at hg
  exact zG7 (zIz (k:=6) (σ:=[some (zo n q),some (.adr l),none,none,none,none]) rfl rfl (fun u0=>rfl) (.inl hg) h5) h5 sb h
end K
namespace K
open PySem PySem.Spec PyProof.Rows L2 L3 HS
theorem zHA{σ:S2}{G:Gp}{sp:Sp2}{t:wL}{R:Q2}(h:t σ G fun ds G1=>sp ds G1 R):zM sp t σ G R:=h
theorem zMf{i j:Int}{G:Gp}{R:Q2}(h:R (.int (i+j)) G):zw (.int i) (.int j) G R:=h
theorem zMg(m:List (List Int)):∀ d∈m.map tI,flat 8 d=true:=fun d hd=>by
 obtain⟨ns,u0,rfl⟩:=List.mem_map.mp hd
 show(ns.map D.int).all (flat 7)=true
 rw[List.all_eq_true]
 intro x hx
 obtain⟨k,u0,rfl⟩:=List.mem_map.mp hx
 rfl
theorem zH8{σ:S2}{G:Gp}{te:zh}{u:wK}{E:yM}(h:te σ G fun u0 G1=>u E σ G1):zZ (wB te) u E σ G:=h
noncomputable def zI0:wK:=(zZ (yu (iR1 (zA (zM zAn (zA (xC (.int 1)) (zA (zM zAa (zA (zM yD (zA (zB 0) zI)) (zA (xC (.int 3)) zI))) zI))) zI)) (gN 1) (zZ (zf (zq (zj yW (zA (zB 0) (zA (zB 1) zI)))) (gN 2)) (zZ (zf (zM zBb (zA (zB 2) (zA (zX fIx (zq (wV (zA (xC (.int 5)) (zA (xC (.int 4)) (zA (xC (.int 4)) zI))))) (zM zp (zA (zB 2) (zA (xC (.int 3)) zI)))) zI))) (gN 3)) (zZ (zf (zX zw (xC (.int 1)) (zM zp (zA (zB 2) (zA (xC (.int 4)) zI)))) (gN 4)) (yu (iF (wV (zA (zB 3) (zA (yV (zA (zB 4) (zA (yV zI) zI))) (zA (yV (zA (zB 4) (zA (zk yt (zj zt (zA (zB 4) zI))) zI))) zI))))) (gN 5) (zZ (zf (zq (zj yv (zA (zB 5) zI))) (gN 6)) (zZ (zf (zq (zj zl (zA (zB 5) zI))) (gN 7)) (zZ (xIf (zCc (zBT (xB (zHY "list" (zB 7)))) (zCc (xB (zX (fEq true) (zB 7) (zB 6))) (zBT (xB (zk zL1 (yL (iV (zB 7)) bd1 zCa (zHY "tuple" (zB 8)))))))) (yN (xC (.bl false))) ye) (zZ (wB (zFp (zB 7) (zA (yV zI) zI))) (xIf (xB (zX (fEq true) (zM yD (zA (zq (zj zl (zA (zB 5) zI))) zI)) (zM yD (zA (zB 6) zI)))) (yN (xC (.bl false))) ye)))))))))) (yN (xC (.bl true))))
theorem zPD(ds:List D)(G:Gp)(R:Q2)(h:zFP ds G R):ds.length=1∧zI0 (zm R) (zU ["script","k","state","web","many","some","due","found"] ds) G:=by
 obtain⟨a,ns,rfl,ha,u0,u0,h⟩:=h
 refine⟨rfl,?_⟩
 unfold zI0
 rw[show zU ["script","k","state","web","many","some","due","found"] [.adr a]=[some (.adr a),none,none,none,none,none,none,none] from rfl]
 obtain⟨mm,hmm⟩:=zJZ (σ:=[some (.adr a),none,none,none,none,none,none,none]) (G:=G) (c:=3) (by (first|lia|omega)) rfl (.inr ha)
 refine zKX hmm ?_ ?_
 rotate_left
 ·intro G1 e1
  exact⟨G,e1.sub,h⟩
 intro x hx G1 e1
 obtain⟨k,u0,rfl⟩:=List.mem_map.mp hx
 simp only[gN,List.set_cons_succ,List.set_cons_zero]
 have ha1:Ls G1 a (ns.map D.int):=e1.ls (.inr ha)
 refine zJb (i:=0) (j:=1) (x:=2) rfl rfl ha1 fun l s b hl ok=>?_
 simp only[List.set_cons_succ,List.set_cons_zero]
 have st0:zAY (zS G1 l [.int s,.bl b]) l:=⟨s,b,zG,ok⟩
 have sb0:L3.Sub G1 (zS G1 l [.int s,.bl b]):=.new hl
 generalize zS G1 l [.int s,.bl b]=G2 at st0 sb0
 have drS:∀ {G G':Gp},L3.Sub G1 G→Dr l G G'→L3.Sub G1 G':=fun {G G'} hs hd=>by
  obtain⟨s',b',rfl,u0⟩:=hd
  exact hs.put hl
 -- the web
 refine yZ (zHA (yI (zE (d:=.adr l) rfl) (zHk (zMN (zBL (ds:=[5,4,4].map nD) (fun G2 e R q=>zBc (zH wt (zH wt (zH wt zT)) G2 e _ ⟨by rw[sizeLine_eq];simp,q⟩)) fun c0 hc0=>zFw (zH (zE (d:=.adr l) rfl) (zH (wt (d:=.int 3)) zT)) ⟨l,3,rfl,st0.ext (.new hc0),by (first|lia|omega),by (first|lia|omega),fun t0 G3 ht0 d3=>?_⟩)))))
 have c0l:c0≠l:=st0.ne hc0
 have m3:G3.m c0=some ([5,4,4].map nD):=by rw[d3.ne c0l];exact zG
 have sb3:L3.Sub G1 G3:=drS (sb0.trans (.new hc0)) d3
 have st3:=d3.st
 have hw0:∃ mo,atI ([5,4,4].map nD) (t0:Int)=some (nD mo)∧1≤mo∧mo≤5:=by
  match t0,ht0 with
  | 0,_=>exact⟨5,rfl,by (first|lia|omega),by (first|lia|omega)⟩
  | 1,_=>exact⟨4,rfl,by (first|lia|omega),by (first|lia|omega)⟩
  | 2,_=>exact⟨4,rfl,by (first|lia|omega),by (first|lia|omega)⟩
 obtain⟨mo,hw0,mo1,mo5⟩:=hw0
 refine wc m3 hw0 (wP ⟨l,mo,rfl,st3,by (first|lia|omega),by (first|lia|omega),fun n1 q1 G4 h1 h15 d4=>?_⟩)
 have sb4:=drS sb3 d4
 have st4:=d4.st
 clear m3 hw0 d3 d4 st0 sb0 hc0 c0l sb3 st3
 simp only[gN,List.set_cons_succ,List.set_cons_zero]
 -- how many
 refine yZ (zMN (wt (d:=.int 1) G4 (.refl _) _ (zFw (zH (zE (d:=.adr l) rfl) (zH (wt (d:=.int 4)) zT)) ⟨l,4,rfl,st4,by (first|lia|omega),by (first|lia|omega),fun r0 G5 hr0 d5=>?_⟩)))
 have sb5:=drS sb4 d5
 clear st4 sb4 d5
 obtain⟨N,hN,N1,N4⟩:∃ N:Nat,((1:Int)+(r0:Int))=(N:Int)∧1≤N∧N≤4:=⟨1+r0,by (first|lia|omega),by (first|lia|omega),by (first|lia|omega)⟩
 refine zMf ?_
 rw[hN]
 simp only[gN,List.set_cons_succ,List.set_cons_zero]
 have e0:zo N (fun u0=>false)=.tup [nD N,.tup []]:=by unfold zo;simp
 have eA:zo N (fun u0=>true)=.tup [nD N,.tup ((prs N).map prD)]:=by unfold zo;rw[List.filter_eq_self.mpr (fun u0 u0=>rfl)]
 have pl:PuL (wV (zA (zB 3) (zA (yV (zA (zB 4) (zA (yV zI) zI))) (zA (yV (zA (zB 4) (zA (zk yt (zj zt (zA (zB 4) zI))) zI))) zI)))) [some (.adr a),some (nD k),some (.adr l),some (zo n1 q1),some (D.int (N:Int)),none,none,none] G5 [zo n1 q1,zo N (fun u0=>false),zo N (fun u0=>true)]:=fun G6 e6 R q'=>by
  rw[e0,eA] at q'
  exact zBc (zH (zE rfl) (zH (zAk (zH (d:=nD N) (zE rfl) (zH (zAk zT (by simp)) zT)) (by simp)) (zH (zAk (zH (d:=nD N) (zE rfl) (zH (d:=.tup ((prs N).map prD)) (zKS (fun G7 e7 R7 q7=>yp (yI (d:=nD N) (zE rfl) (wP ⟨N,rfl,by (first|lia|omega),q7⟩)))) zT)) (by simp)) zT)) G6 e6 _ ⟨by rw[sizeLine_eq];simp,q'⟩)
 refine zDD (zO2 (pl G5 (.refl _) _ fun f5 hf5=>?_))
 refine zJd .own (fun x hx=>?_) ⟨.keep (.skip (.skip (.skip (.skip (.skip (.skip (.skip .nil))))))),sb5.trans (.new hf5)⟩
 have hxr:∃ n q,x=zo n q∧1≤n∧n≤5:=by
  simp only[List.mem_cons,List.not_mem_nil,or_false] at hx
  rcases hx with rfl | rfl | rfl
  ·exact⟨n1,q1,rfl,h1,by (first|lia|omega)⟩
  ·exact⟨N,_,rfl,by (first|lia|omega),by (first|lia|omega)⟩
  ·exact⟨N,_,rfl,by (first|lia|omega),by (first|lia|omega)⟩
 obtain⟨n,q,rfl,n1',n5⟩:=hxr
 generalize zS G5 f5 [zo n1 q1,zo N (fun u0=>false),zo N (fun u0=>true)]=G6
 simp only[gN,List.set_cons_succ,List.set_cons_zero]
 refine yZ (zFY (yp (yI (zE (d:=zo n q) rfl) (wP ⟨n,q,rfl,n1',n5,fun m m1 m2 m3 ld hld=>?_⟩))))
 simp only[gN,List.set_cons_succ,List.set_cons_zero]
 have sb7:L3.Sub G6 (zS G6 ld (m.map tI)):=.new hld
 have l7:(zS G6 ld (m.map tI)).m ld=some (m.map tI):=zG
 generalize zS G6 ld (m.map tI)=G7 at sb7 l7
 refine yZ (zFY (yp (yI (zE (d:=zo n q) rfl) (wP ⟨n,q,rfl,n1',n5,fun m' m1' m2' m3' lf hlf=>?_⟩))))
 simp only[gN,List.set_cons_succ,List.set_cons_zero]
 obtain rfl:m'=m:=zG5 m1' m1 m2' m2 m3' m3
 have nfd:ld≠lf:=fun z=>by rw[z] at l7;rw[l7] at hlf;cases hlf
 have l8:Ls (zS G7 lf (m'.map tI)) ld (m'.map tI):=.inl (by rw[zV nfd];exact l7)
 have hlen:m'.length≤2880:=by
  refine Nat.le_trans (m1.length_le_of_subset fun x hx=>(m2 x).mp hx) (zG6 n5)
 have tf:=zMg m'
 have allt:zn (zk zL1 (yL (iV (zB 7)) bd1 zCa (zHY "tuple" (zB 8)))) [some (.adr a),some (nD k),some (.adr l),some (zo n1 q1),some (D.int (N:Int)),some (zo n q),some (.adr ld),some (.adr lf)] (zS G7 lf (m'.map tI)) (.bl true):=by
  have pm:=zFr (σ:=[some (.adr a),some (nD k),some (.adr l),some (zo n1 q1),some (D.int (N:Int)),some (zo n q),some (.adr ld),some (.adr lf)]) (G:=zS G7 lf (m'.map tI)) (bd:=bd1) (te:=zHY "tuple" (zB 8)) (fun u0=>D.bl true) (fun d=>[d]) (zBq (zE (i:=7) (d:=.adr lf) rfl) .own) fun x hx=>by
   obtain⟨ns,u0,rfl⟩:=List.mem_map.mp hx
   exact⟨rfl,zN4 (d:=tI ns) (zE rfl) (fun l z=>by cases z) rfl⟩
  have e:List.map (fun u0=>D.bl true) (m'.map tI)=(m'.map fun u0=>true).map D.bl:=by simp
  rw[e] at pm
  have:=zN7 pm
  rw[show(m'.map fun u0=>true).all id=true by simp] at this
  exact this
 have ne1:zn (zX (fEq true) (zB 7) (zB 6)) [some (.adr a),some (nD k),some (.adr l),some (zo n1 q1),some (D.int (N:Int)),some (zo n q),some (.adr ld),some (.adr lf)] (zS G7 lf (m'.map tI)) (.bl false):=zAb (x:=.adr lf) (y:=.adr ld) (zE rfl) (zE rfl) fun G8 e R q'=>⟨_,_,e.ls .own,e.ls l8,tf,tf,by rw[if_pos rfl,eqDs_refl _ 8 tf];exact q'⟩
 refine zJX (zKl (zIU (b:=true) (zDA (zMU (T:="list") (a:=lf) (zE rfl) .own))) (zKl (zDA ne1) (zIU (b:=true) (zDA allt)))) ?_
 refine zH8 (zGB (l:=lf) (xs:=m'.map tI) (zE rfl) zG (yI (d:=.tup []) (zAk zT (by simp)) (wP ⟨_,zG,by rw[List.length_map];(first|lia|omega),?_⟩)))
 rw[zBp]
 have sb9:L3.Sub G6 (zS G7 lf (m'.map tI++[.tup []])):=sb7.trans (.new hlf)
 have l9:Ls (zS G7 lf (m'.map tI++[.tup []])) ld (m'.map tI):=.inl (by rw[zV nfd];exact l7)
 generalize zS G7 lf (m'.map tI++[.tup []])=G9 at sb9 l9
 have tl:WkT (xB (zX (fEq true) (zM yD (zA (zq (zj zl (zA (zB 5) zI))) zI)) (zM yD (zA (zB 6) zI)))) [some (.adr a),some (nD k),some (.adr l),some (zo n1 q1),some (D.int (N:Int)),some (zo n q),some (.adr ld),some (.adr lf)] G9 false:=zPc (fun G8 e8 R q'=>zMN (zHA (zHk (zFY (yp (yI (d:=zo n q) (zE rfl) (wP ⟨n,q,rfl,n1',n5,fun mg a1 a2 a3 lg hlg=>wP ⟨mg.map tI,.own,?_⟩⟩)))))))
 ·refine zIr tl (fun hb=>by cases hb) fun u0 G8 e8=>?_
  exact⟨.keep (.keep (.keep (.keep (.keep (.skip (.skip (.skip .nil))))))),sb9.trans e8.sub⟩
 ·obtain rfl:mg=m':=zG5 a1 m1 a2 m2 a3 m3
  refine zFw (ds:=[.adr ld]) (zH (zE rfl) zT) ⟨mg.map tI,(e8.ls l9).sub (.new hlg),⟨rfl,rfl,?_⟩⟩
  rw[if_pos rfl,zA4]
  simpa using q' _ (.new hlg)
end K
namespace K
open PySem PySem.Spec PyProof.Rows L2 L3
noncomputable def top(i:Nat):Stmt:=PySem.Challenge.pw_chordwebs_k71_all_rings_of_a_web.main.body.getD i (.Pass ⟨0,0,0,0⟩)
noncomputable abbrev yb:Stmt:=top 4
theorem zBl:zc ["many","most"] ["many","most"] (zF yb):=⟨rfl,rfl,rfl,by decide +kernel,rfl,by decide +kernel,by decide +kernel⟩
noncomputable abbrev yS:Stmt:=top 6
theorem zBN:zc ["ring","by"] ["ring","by"] (zF yS):=⟨rfl,rfl,rfl,by decide +kernel,rfl,by decide +kernel,by decide +kernel⟩
noncomputable abbrev wg:Stmt:=top 7
theorem zDa:zc ["ring"] ["ring"] (zF wg):=⟨rfl,rfl,rfl,by decide +kernel,rfl,by decide +kernel,by decide +kernel⟩
noncomputable abbrev zB2:Stmt:=top 8
theorem zHB:zc ["ring","back","best","by"] ["ring"] (zF zB2):=⟨rfl,rfl,rfl,by decide +kernel,rfl,by decide +kernel,by decide +kernel⟩
noncomputable abbrev zDR:Stmt:=top 10
theorem zI1:zc ["web","one","other"] ["web","one","other"] (zF zDR):=⟨rfl,rfl,rfl,by decide +kernel,rfl,by decide +kernel,by decide +kernel⟩
noncomputable abbrev yX:Stmt:=top 12
theorem zCE:zc ["web","place","others"] ["web","place","others"] (zF yX):=⟨rfl,rfl,rfl,by decide +kernel,rfl,by decide +kernel,by decide +kernel⟩
noncomputable abbrev yY:Stmt:=top 13
theorem zCF:zc ["ring","place","crossed","wanted","found","first","inside","second"] ["ring","place","crossed"] (zF yY):=⟨rfl,rfl,rfl,by decide +kernel,rfl,by decide +kernel,by decide +kernel⟩
noncomputable abbrev yl:Stmt:=top 16
theorem zC1:zc ["web","rings","place"] ["web"] (zF yl):=⟨rfl,rfl,rfl,by decide +kernel,rfl,by decide +kernel,by decide +kernel⟩
noncomputable abbrev zz:Stmt:=top 17
theorem zAh:zc ["rings","place","crossed","longer","ring"] ["rings","place","crossed"] (zF zz):=⟨rfl,rfl,rfl,by decide +kernel,rfl,by decide +kernel,by decide +kernel⟩
noncomputable abbrev wI:Stmt:=top 19
theorem zC2:zc ["script","k"] ["script","k"] (zF wI):=⟨rfl,rfl,rfl,by decide +kernel,rfl,by decide +kernel,by decide +kernel⟩
noncomputable abbrev zAJ:Stmt:=top 20
theorem zEr:zc ["script","k","cell"] ["script","k"] (zF zAJ):=⟨rfl,rfl,rfl,by decide +kernel,rfl,by decide +kernel,by decide +kernel⟩
noncomputable abbrev zAv:Stmt:=top 21
theorem zFg:zc ["state","many","found","mixed"] ["state","many"] (zF zAv):=⟨rfl,rfl,rfl,by decide +kernel,rfl,by decide +kernel,by decide +kernel⟩
noncomputable abbrev wj:Stmt:=top 22
theorem zEs:zc ["many","found","one"] ["many"] (zF wj):=⟨rfl,rfl,rfl,by decide +kernel,rfl,by decide +kernel,by decide +kernel⟩
noncomputable abbrev zAi:Stmt:=top 23
theorem zHC:zc ["state","most","many","way","pairs","far"] ["state","most"] (zF zAi):=⟨rfl,rfl,rfl,by decide +kernel,rfl,by decide +kernel,by decide +kernel⟩
noncomputable abbrev zAX:Stmt:=top 24
theorem zFh:zc ["state","many","left"] ["state","many"] (zF zAX):=⟨rfl,rfl,rfl,by decide +kernel,rfl,by decide +kernel,by decide +kernel⟩
noncomputable abbrev yw:Stmt:=top 25
theorem zDb:zc ["ring","many","found","one","other","some"] ["ring"] (zF yw):=⟨rfl,rfl,rfl,by decide +kernel,rfl,by decide +kernel,by decide +kernel⟩
noncomputable abbrev yx:Stmt:=top 26
theorem zDc:zc ["web","place"] ["web","place"] (zF yx):=⟨rfl,rfl,rfl,by decide +kernel,rfl,by decide +kernel,by decide +kernel⟩
noncomputable abbrev yy:Stmt:=top 27
theorem zDd:zc ["word","place","wished","found","one","odd","other","last"] ["word","place","wished"] (zF yy):=⟨rfl,rfl,rfl,by decide +kernel,rfl,by decide +kernel,by decide +kernel⟩
noncomputable abbrev zAK:Stmt:=top 28
theorem zEt:zc ["ring","found","by","some"] ["ring"] (zF zAK):=⟨rfl,rfl,rfl,by decide +kernel,rfl,by decide +kernel,by decide +kernel⟩
noncomputable abbrev wJ:Stmt:=top 29
theorem zEu:zc ["web","words","place","near","fresh","word"] ["web"] (zF wJ):=⟨rfl,rfl,rfl,by decide +kernel,rfl,by decide +kernel,by decide +kernel⟩
noncomputable abbrev zCG:Stmt:=top 30
theorem zLL:zc ["script","k","state","web","many","some","due","found"] ["script"] (zF zCG):=⟨rfl,rfl,rfl,by decide +kernel,rfl,by decide +kernel,by decide +kernel⟩
section
variable {P:Program} {w:World} {K:PySem.W.Frag} {mg:Str→Option Value} {base:Heap}
theorem zEv{f:Addr}{fd:FuncData}(F:Fun K "refuse_more" "refuse_more" yb f fd)(hm:mg "refuse_more"=some (.ref f))    :Df P w K mg base 1 "refuse_more" ["many","most"] yj:=by
 have nd:=(zBl).nd
 refine yP wp F zBl hm (F.binds fun u0 u0 u0 u0 u0 u0 us hl=>us2 us hl fun u0 u0=>rfl) (fun cdv A outer s H E hr=>?_) zE5
 unfold wp
 exact(zQ (zC6 (zOs (zC 0) (zC 1)) (zQ zPa) wZ))
theorem zDl{f:Addr}{fd:FuncData}(F:Fun K "turned_round" "turned_round" yS f fd)(hm:mg "turned_round"=some (.ref f))    :Df P w K mg base 1 "turned_round" ["ring","by"] zu:=by
 have nd:=(zBN).nd
 refine yP zAU F zBN hm (F.binds fun u0 u0 u0 u0 u0 u0 us hl=>us2 us hl fun u0 u0=>rfl) (fun cdv A outer s H E hr=>?_) zEm
 unfold zAU
 exact(zQ (yO (yi (wm (zC 0) (wx (zC 1)) zBW) (wm (zC 0) zBW (wx (zC 1))))))
theorem zHD{f:Addr}{fd:FuncData}(F:Fun K "mirrored" "mirrored" wg f fd)(hm:mg "mirrored"=some (.ref f))(b_tuple:mg "tuple"=none)(b_reversed:mg "reversed"=none)   :Df P w K mg base 1 "mirrored" ["ring"] wG:=by
 have nd:=(zDa).nd
 refine yP zCR F zDa hm (F.binds fun u0 u0 u0 u0 u0 u0 us hl=>us1 us hl fun u0=>rfl) (fun cdv A outer s H E hr=>?_) zH4
 unfold zCR
 exact(zQ (yO (zN9 rfl rfl b_tuple rfl b_reversed (zD (zC 0) zJ))))
theorem zLM{f:Addr}{fd:FuncData}(F:Fun K "least" "least" zB2 f fd)(hm:mg "least"=some (.ref f))(b_range:mg "range"=none)(b_len:mg "len"=none)(b_min:mg "min"=none)   (D_mirrored:Df P w K mg base 1 "mirrored" ["ring"] wG)(D_turned_round:Df P w K mg base 1 "turned_round" ["ring","by"] zu):Df P w K mg base 2 "least" ["ring"] wv:=by
 have nd:=(zHB).nd
 refine yP zDw F zHB hm (F.binds fun u0 u0 u0 u0 u0 u0 us hl=>us1 us hl fun u0=>rfl) (fun cdv A outer s H E hr=>?_) zMQ
 unfold zDw
 exact(zL (zi 1 nd (yc D_mirrored hr (by decide) rfl (zD (zC 0) zJ))) (zL (zi 2 nd (zC 0)) (zL (wN PassesOwn.never rfl (zBS rfl b_range (zD (zAm rfl b_len (zD (zC 0) zJ)) zJ)) (wa 3 nd) (zQ (zi 2 nd (zOC hr rfl rfl b_min (zD (zC 2) (zD (yc D_turned_round hr (by decide) rfl (zD (zC 0) (zD (zC 3) zJ))) (zD (yc D_turned_round hr (by decide) rfl (zD (zC 1) (zD (zC 3) zJ))) zJ))))))) (zQ (yO (zC 2))))))
theorem zMh{f:Addr}{fd:FuncData}(F:Fun K "tied" "tied" zDR f fd)(hm:mg "tied"=some (.ref f))(b_min:mg "min"=none)(b_max:mg "max"=none)   :Df P w K mg base 1 "tied" ["web","one","other"] zBu:=by
 have nd:=(zI1).nd
 refine yP zFs F zI1 hm (F.binds fun u0 u0 u0 u0 u0 u0 us hl=>us3 us hl fun u0 u0 u0=>rfl) (fun cdv A outer s H E hr=>?_) zN3
 unfold zFs
 exact(zQ (yO (zPV hr (wX (zD (zMr rfl rfl b_min (zD (zC 1) (zD (zC 2) zJ))) (zD (zMs rfl rfl b_max (zD (zC 1) (zD (zC 2) zJ))) zJ))) (zAO (zC 0) zO))))
theorem zE7{f:Addr}{fd:FuncData}(F:Fun K "tied_among" "tied_among" yX f fd)(hm:mg "tied_among"=some (.ref f))    (D_tied:Df P w K mg base 1 "tied" ["web","one","other"] zBu):Df P w K mg base 2 "tied_among" ["web","place","others"] (spL yK):=by
 have nd:=(zCE).nd
 refine yP zAG F zCE hm (F.binds fun u0 u0 u0 u0 u0 u0 us hl=>us3 us hl fun u0 u0 u0=>rfl) (fun cdv A outer s H E hr=>?_) zGD
 unfold zAG
 exact(zQ (yO (yB (zEE "other" rfl (yQ (osc:=zF yX) (N:=["web","place","others"]) (N0:=["web","place","!02"]) (own:=["other"]) (by decide +kernel)) (zBJ (zC 2)) (fun u0 u0 u0 u0 u0=>(zCI (zIQ (yc D_tied hr (by decide) rfl (zD (zC 0) (zD (zC 1) (zD (zC 3) zJ))))))) (fun u0 u0 u0 u0 u0=>(zC 3))))))
theorem zE8{f:Addr}{fd:FuncData}(F:Fun K "with_chord" "with_chord" yY f fd)(hm:mg "with_chord"=some (.ref f))(b_sum:mg "sum"=none)(b_range:mg "range"=none)(b_len:mg "len"=none)   :Df P w K mg base 1 "with_chord" ["ring","place","crossed"] (spL yJ):=by
 have nd:=(zCF).nd
 refine yP zAF F zCF hm (F.binds fun u0 u0 u0 u0 u0 u0 us hl=>us3 us hl fun u0 u0 u0=>rfl) (fun cdv A outer s H E hr=>?_) zGC
 unfold zAF
 exact(zL (zi 3 nd (zMM rfl rfl b_sum (zEE "other" rfl (yQ (osc:=zF yY) (N:=["ring","place","crossed","wanted","found","first","inside","second"]) (N0:=["!00","!01","!02","!03","!04","!05","!06","!07"]) (own:=["other"]) (by decide +kernel)) (zBJ (zC 2)) (fun u0 u0 u0 u0 u0=>zC7) (fun u0 u0 u0 u0 u0=>(zM3 zO (zC 8)))))) (zL (zi 4 nd (yB (zAA zJ))) (zL (wN PassesOwn.never rfl (zAN rfl b_range (zD zO (zD (yi (zAm rfl b_len (zD (zC 0) zJ)) zO) zJ))) (wa 5 nd) (zL (zi 6 nd zO) (zQ (wN PassesOwn.never rfl (zAN rfl b_range (zD (zC 5) (zD (yi (zAm rfl b_len (zD (zC 0) zJ)) zO) zJ))) (wa 7 nd) (zL (zC6 (zHU hr (zC 6) (zC 3)) (zQ (zBR (zCe (zC 4) (zD (yi (yi (yi (yi (wm (zC 0) zBW (wx (zC 5))) (wX (zD (zC 1) zJ))) (wm (zC 0) (wx (zC 5)) (wx (zC 7)))) (wX (zD (zC 1) zJ))) (wm (zC 0) (wx (zC 7)) zBW)) zJ)))) wZ) (zQ (zC6 (zNj (zC 7) (zAm rfl b_len (zD (zC 0) zJ))) (zQ (zi 6 nd (zMz (zC 6) (zM3 zO (zAO (zC 0) (zC 7)))))) wZ))))))) (zQ (yO (zC 4))))))
theorem zGF{f:Addr}{fd:FuncData}(F:Fun K "all_rings" "all_rings" yl f fd)(hm:mg "all_rings"=some (.ref f))(b_range:mg "range"=none)(b_tuple:mg "tuple"=none)(b_sorted:mg "sorted"=none)(b_set:mg "set"=none){gt_MOST_TOLD:Tok}(g_MOST_TOLD:mg "MOST_TOLD"=some (.int 5 gt_MOST_TOLD))  (D_refuse_more:Df P w K mg base 1 "refuse_more" ["many","most"] yj)(D_tied_among:Df P w K mg base 2 "tied_among" ["web","place","others"] (spL yK))(D_all_with_chord:Df P w K mg base 2 "all_with_chord" ["rings","place","crossed"] (spL zg))(D_least:Df P w K mg base 2 "least" ["ring"] wv):Df P w K mg base 3 "all_rings" ["web"] (spL zl):=by
 have nd:=(zC1).nd
 refine yP zAg F zC1 hm (F.binds fun u0 u0 u0 u0 u0 u0 us hl=>us1 us hl fun u0=>rfl) (fun cdv A outer s H E hr=>?_) zG9
 unfold zAg
 exact(zL (zBR (yc D_refuse_more hr (by decide) rfl (zD (zAO (zC 0) zO) (zD (zL0 rfl g_MOST_TOLD) zJ)))) (zL (zi 1 nd (yB (zAA (zD (wX (zD zO (zD zO zJ))) zJ)))) (zL (wN PassesOwn.never rfl (zAN rfl b_range (zD zO (zD (zAO (zC 0) zO) zJ))) (wa 2 nd) (zQ (zi 1 nd (yB (ww D_all_with_chord zB7 hr (by decide) rfl (zD (zC 1) (zD (zC 2) (zD (yB (ww D_tied_among zDj hr (by decide) rfl (zD (zC 0) (zD (zC 2) (zD (zNy rfl rfl b_tuple rfl b_range (zD (zC 2) zJ)) zJ))))) zJ)))))))) (zQ (yO (yB (zEq hr rfl rfl b_sorted rfl b_set (zEE "ring" rfl (yQ (osc:=zF yl) (N:=["web","rings","place"]) (N0:=["!00","!01","!02"]) (own:=["ring"]) (by decide +kernel)) (zBJ (zC 1)) (fun u0 u0 u0 u0 u0=>zC7) (fun u0 u0 u0 u0 u0=>(yc D_least hr (by decide) rfl (zD (zC 3) zJ)))))))))))
theorem zC3{f:Addr}{fd:FuncData}(F:Fun K "all_with_chord" "all_with_chord" zz f fd)(hm:mg "all_with_chord"=some (.ref f))    (D_with_chord:Df P w K mg base 1 "with_chord" ["ring","place","crossed"] (spL yJ)):Df P w K mg base 2 "all_with_chord" ["rings","place","crossed"] (spL zg):=by
 have nd:=(zAh).nd
 refine yP yq F zAh hm (F.binds fun u0 u0 u0 u0 u0 u0 us hl=>us3 us hl fun u0 u0 u0=>rfl) (fun cdv A outer s H E hr=>?_) zDQ
 unfold yq
 exact(zL (zi 3 nd (yB (zAA zJ))) (zL (wN PassesOwn.never rfl (zBJ (zC 0)) (wa 4 nd) (zQ (zBR (zED (zC 3) (ww D_with_chord zDi hr (by decide) rfl (zD (zC 4) (zD (zC 1) (zD (zC 2) zJ)))))))) (zQ (yO (zC 3)))))
theorem zGG{f:Addr}{fd:FuncData}(F:Fun K "_law_cell_at" "_law_cell_at" wI f fd)(hm:mg "_law_cell_at"=some (.ref f))(b_len:mg "len"=none)   :Df P w K mg base 1 "_law_cell_at" ["script","k"] wO:=by
 have nd:=(zC2).nd
 refine yP zAc F zC2 hm (F.binds fun u0 u0 u0 u0 u0 u0 us hl=>us2 us hl fun u0 u0=>rfl) (fun cdv A outer s H E hr=>?_) zGd
 unfold zAc
 exact(zL (zC6 (zNj (zC 1) (zAm rfl b_len (zD (zC 0) zJ))) (zQ (yO (zAO (zC 0) (zC 1)))) wZ) (zQ (yO zO)))
theorem zH9{f:Addr}{fd:FuncData}(F:Fun K "_law_state" "_law_state" zAJ f fd)(hm:mg "_law_state"=some (.ref f))    (D_l_cell_at:Df P w K mg base 1 "_law_cell_at" ["script","k"] wO):Df P w K mg base 2 "_law_state" ["script","k"] (spL yW):=by
 have nd:=(zEr).nd
 refine yP zBv F zEr hm (F.binds fun u0 u0 u0 u0 u0 u0 us hl=>us2 us hl fun u0 u0=>rfl) (fun cdv A outer s H E hr=>?_) zJU
 unfold zBv
 exact(zL (zi 2 nd (yc D_l_cell_at hr (by decide) rfl (zD (zC 0) (zD (zC 1) zJ)))) (zL (zC6 (zPU (zC 2) (zMq zO zO)) (zQ (yO (yB (zAA (zD (zIR (zC 2) (zMq zO zO)) (zD zKD zJ)))))) wZ) (zQ (yO (yB (zAA (zD (zFJ (zC 2) zO) (zD zKD zJ))))))))
theorem zJs{f:Addr}{fd:FuncData}(F:Fun K "_law_take" "_law_take" zAv f fd)(hm:mg "_law_take"=some (.ref f))    :Df P w K mg base 1 "_law_take" ["state","many"] zp:=by
 have nd:=(zFg).nd
 refine yP zCh F zFg hm (F.binds fun u0 u0 u0 u0 u0 u0 us hl=>us2 us hl fun u0 u0=>rfl) (fun cdv A outer s H E hr=>?_) zKf
 unfold zCh
 exact(zL (zC6 (zIQ (zAO (zC 0) zO)) (zL (zi 2 nd (zFJ (zAO (zC 0) zO) (zC 1))) (zL (zMn (zHT (zAO (zC 0) zO) (zC 1)) (zOo (zC 0) zO)) (zQ (yO (zC 2))))) wZ) (zL (zMn (zFJ (yi (zC9 (zAO (zC 0) zO) zO) zO) zO) (zOo (zC 0) zO)) (zL (zi 3 nd (zFJ (yi (yi (zC9 (zAO (zC 0) zO) (zAO (zC 0) zO)) (zC9 zO (zAO (zC 0) zO))) zO) zO)) (zL (zi 3 nd (zFJ (yi (zC9 (zC 3) (zC 3)) (zC9 zO (zC 3))) zO)) (zQ (yO (zFJ (zHT (zC 3) zO) (zC 1))))))))
theorem zIA{f:Addr}{fd:FuncData}(F:Fun K "_law_pairs" "_law_pairs" wj f fd)(hm:mg "_law_pairs"=some (.ref f))(b_range:mg "range"=none)   :Df P w K mg base 1 "_law_pairs" ["many"] (spL zt):=by
 have nd:=(zEs).nd
 refine yP zBw F zEs hm (F.binds fun u0 u0 u0 u0 u0 u0 us hl=>us1 us hl fun u0=>rfl) (fun cdv A outer s H E hr=>?_) zJW
 unfold zBw
 exact(zL (zi 1 nd (yB (zAA zJ))) (zL (wN PassesOwn.never rfl (zBS rfl b_range (zD (zC 0) zJ)) (wa 2 nd) (zQ (zBR (zED (zC 1) (zEE "other" rfl (yQ (osc:=zF wj) (N:=["many","found","one"]) (N0:=["!00","!01","one"]) (own:=["other"]) (by decide +kernel)) (zAN rfl b_range (zD (yi (zC 2) zO) (zD (zC 0) zJ))) (fun u0 u0 u0 u0 u0=>zC7) (fun u0 u0 u0 u0 u0=>(wX (zD (zC 2) (zD (zC 3) zJ))))))))) (zQ (yO (zC 1)))))
theorem zLN{f:Addr}{fd:FuncData}(F:Fun K "_law_web" "_law_web" zAi f fd)(hm:mg "_law_web"=some (.ref f))(b_tuple:mg "tuple"=none)   (D_l_take:Df P w K mg base 1 "_law_take" ["state","many"] zp)(D_l_pairs:Df P w K mg base 1 "_law_pairs" ["many"] (spL zt))(D_l_ring:Df P w K mg base 2 "_law_ring" ["state","many"] zAo)(D_l_web_of:Df P w K mg base 2 "_law_web_of" ["ring"] wu):Df P w K mg base 3 "_law_web" ["state","most"] zBb:=by
 have nd:=(zHC).nd
 refine yP zDr F zHC hm (F.binds fun u0 u0 u0 u0 u0 u0 us hl=>us2 us hl fun u0 u0=>rfl) (fun cdv A outer s H E hr=>?_) zL8
 unfold zDr
 exact(zL (zi 2 nd (yi zO (yc D_l_take hr (by decide) rfl (zD (zC 0) (zD (zC 1) zJ))))) (zL (zi 3 nd (yc D_l_take hr (by decide) rfl (zD (zC 0) (zD zO zJ)))) (zL (zi 4 nd (yB (ww D_l_pairs zA5 hr (by decide) rfl (zD (zC 2) zJ)))) (zL (zC6 (zHU hr (zC 3) zO) (zQ (yO (yc D_l_web_of hr (by decide) rfl (zD (yc D_l_ring hr (by decide) rfl (zD (zC 0) (zD (zC 2) zJ))) zJ)))) wZ) (zL (zC6 (zHU hr (zC 3) zO) (zQ (yO (wX (zD (zC 2) (zD (zFn rfl b_tuple (zEE "pair" rfl (yQ (osc:=zF zAi) (N:=["state","most","many","way","pairs","far"]) (N0:=["state","!01","!02","!03","!04","!05"]) (own:=["pair"]) (by decide +kernel)) (zBJ (zC 4)) (fun u0 u0 u0 u0 u0=>(zCI (W2.test (w_or (zHU hr (zAO (zC 6) zO) (yi (zAO (zC 6) zO) zO)) (zMo (zHU hr (yc D_l_take hr (by decide) rfl (zD (zC 0) (zD zO zJ))) zO)))))) (fun u0 u0 u0 u0 u0=>(zC 6)))) zJ))))) wZ) (zL (zi 5 nd (zAO (yB (zAA (zD zO (zD zO (zD zO zJ))))) (zIR (zC 3) zO))) (zQ (yO (wX (zD (zC 2) (zD (zFn rfl b_tuple (zEE "pair" rfl (yQ (osc:=zF zAi) (N:=["state","most","many","way","pairs","far"]) (N0:=["state","!01","!02","!03","!04","far"]) (own:=["pair"]) (by decide +kernel)) (zBJ (zC 4)) (fun u0 u0 u0 u0 u0=>(zCI (zHU hr (yc D_l_take hr (by decide) rfl (zD (zC 0) (zD (zC 5) zJ))) zO))) (fun u0 u0 u0 u0 u0=>(zC 6)))) zJ)))))))))))
theorem zJt{f:Addr}{fd:FuncData}(F:Fun K "_law_ring" "_law_ring" zAX f fd)(hm:mg "_law_ring"=some (.ref f))(b_list:mg "list"=none)(b_range:mg "range"=none)(b_tuple:mg "tuple"=none)(b_len:mg "len"=none)   (D_l_take:Df P w K mg base 1 "_law_take" ["state","many"] zp):Df P w K mg base 2 "_law_ring" ["state","many"] zAo:=by
 have nd:=(zFh).nd
 refine yP zCi F zFh hm (F.binds fun u0 u0 u0 u0 u0 u0 us hl=>us2 us hl fun u0 u0=>rfl) (fun cdv A outer s H E hr=>?_) zKj
 unfold zCi
 exact(zL (zi 2 nd (yB (zOv (yB (zLt rfl rfl b_list rfl b_range (zD (zC 1) zJ))) zO))) (zQ (yO (zFn rfl b_tuple (zEE "k" rfl (yQ (osc:=zF zAX) (N:=["state","many","left"]) (N0:=["state","!01","left"]) (own:=["k"]) (by decide +kernel)) (zBS rfl b_range (zD (zC9 zO (zC 1)) zJ)) (fun u0 u0 u0 u0 u0=>zC7) (fun u0 u0 u0 u0 u0=>(zOw (zC 2) (zD (yc D_l_take hr (by decide) rfl (zD (zC 0) (zD (zAm rfl b_len (zD (zC 2) zJ)) zJ))) zJ))))))))
theorem zHE{f:Addr}{fd:FuncData}(F:Fun K "_law_web_of" "_law_web_of" yw f fd)(hm:mg "_law_web_of"=some (.ref f))(b_len:mg "len"=none)(b_tuple:mg "tuple"=none)   (D_l_pairs:Df P w K mg base 1 "_law_pairs" ["many"] (spL zt)):Df P w K mg base 2 "_law_web_of" ["ring"] wu:=by
 have nd:=(zDb).nd
 refine yP zA8 F zDb hm (F.binds fun u0 u0 u0 u0 u0 u0 us hl=>us1 us hl fun u0=>rfl) (fun cdv A outer s H E hr=>?_) zHj
 unfold zA8
 exact(zL (zi 1 nd (zHT (zAm rfl b_len (zD (zC 0) zJ)) zO)) (zL (zi 2 nd (yB (zAA zJ))) (zL (wN PassesOwn.never rfl (zKI (ww D_l_pairs zA5 hr (by decide) rfl (zD (zC 1) zJ))) (zOn 3 4 rfl nd) (zL (zLv 5 "place" rfl (yQ (osc:=zF yw) (N:=["ring","many","found","one","other","some"]) (N0:=["!00","!01","!02","one","other","!05"]) (own:=["place"]) (by decide +kernel)) (zBJ (zC 0)) (fun u0 u0 u0 u0 u0=>(zCI (zNr hr (zC 6) (wX (zD (zC 3) (zD (zC 4) zJ)))))) (fun u0 u0 u0 u0 u0=>(zC 6)) nd) (zQ (zC6 (W2.test (w_and (zKO hr (zAO (zC 5) zO) (zAO (zC 5) zO)) (zNi (zKO hr (zAO (zC 5) zO) (zAO (zC 5) zO))))) (zQ (zBR (zCe (zC 2) (zD (wX (zD (zC 3) (zD (zC 4) zJ))) zJ)))) wZ)))) (zQ (yO (wX (zD (zC 1) (zD (zLs rfl b_tuple (zD (zC 2) zJ)) zJ))))))))
theorem zHF{f:Addr}{fd:FuncData}(F:Fun K "_law_around" "_law_around" yx f fd)(hm:mg "_law_around"=some (.ref f))    :Df P w K mg base 1 "_law_around" ["web","place"] (spL yT):=by
 have nd:=(zDc).nd
 refine yP zA6 F zDc hm (F.binds fun u0 u0 u0 u0 u0 u0 us hl=>us2 us hl fun u0 u0=>rfl) (fun cdv A outer s H E hr=>?_) zHi
 unfold zA6
 exact(zQ (yO (yB (zPW "one" "other" rfl (yQ (osc:=zF yx) (N:=["web","place"]) (N0:=["!00","place"]) (own:=["one","other"]) (by decide +kernel)) (zBJ (zAO (zC 0) zO)) (fun u0 u0 u0 u0 u0=>(zCI (zNr hr (zC 1) (wX (zD (zC 2) (zD (zC 3) zJ)))))) (fun u0 u0 u0 u0 u0=>(zIR (yi (zC 2) (zC 3)) (zC 1)))))))
theorem zHG{f:Addr}{fd:FuncData}(F:Fun K "_law_longer" "_law_longer" yy f fd)(hm:mg "_law_longer"=some (.ref f))(b_range:mg "range"=none)(b_len:mg "len"=none)(b_sorted:mg "sorted"=none)   :Df P w K mg base 1 "_law_longer" ["word","place","wished"] (spL yk):=by
 have nd:=(zDd).nd
 refine yP zBI F zDd hm (F.binds fun u0 u0 u0 u0 u0 u0 us hl=>us3 us hl fun u0 u0 u0=>rfl) (fun cdv A outer s H E hr=>?_) zH7
 unfold zBI
 exact(zL (zi 3 nd (yB (zAA zJ))) (zL (wN PassesOwn.never rfl (zAN rfl b_range (zD zO (zD (yi (zAm rfl b_len (zD (zC 0) zJ)) zO) zJ))) (wa 4 nd) (zL (zi 5 nd (yB (zAA zJ))) (zQ (wN PassesOwn.never rfl (zAN rfl b_range (zD (zC 4) (zD (yi (zAm rfl b_len (zD (zC 0) zJ)) zO) zJ))) (wa 6 nd) (zL (zC6 (zOs (zC 6) (zC 4)) (zL (zi 7 nd (zAO (zC 0) (zIR (zC 6) zO))) (zQ (zi 5 nd (zO4 (zNr hr (zC 7) (zC 5)) (yB (zEE "sign" rfl (yQ (osc:=zF yy) (N:=["word","place","wished","found","one","odd","other","last"]) (N0:=["!00","!01","!02","!03","!04","!05","!06","last"]) (own:=["sign"]) (by decide +kernel)) (zBJ (zC 5)) (fun u0 u0 u0 u0 u0=>(zCI (zKO hr (zC 8) (zC 7)))) (fun u0 u0 u0 u0 u0=>(zC 8)))) (yB (zOy (zC 5) (yB (zAA (zD (zC 7) zJ))))))))) wZ) (zQ (zC6 (zHU hr (yB (zKV rfl b_sorted (zD (zC 5) zJ))) (zC 2)) (zQ (zBR (zCe (zC 3) (zD (yi (yi (yi (yi (wm (zC 0) zBW (wx (zC 4))) (wX (zD (zC 1) zJ))) (wm (zC 0) (wx (zC 4)) (wx (zC 6)))) (wX (zD (zC 1) zJ))) (wm (zC 0) (wx (zC 6)) zBW)) zJ)))) wZ))))))) (zQ (yO (zC 3)))))
theorem zIB{f:Addr}{fd:FuncData}(F:Fun K "_law_least" "_law_least" zAK f fd)(hm:mg "_law_least"=some (.ref f))(b_range:mg "range"=none)(b_len:mg "len"=none)(b_min:mg "min"=none)   :Df P w K mg base 1 "_law_least" ["ring"] zAV:=by
 have nd:=(zEt).nd
 refine yP zB0 F zEt hm (F.binds fun u0 u0 u0 u0 u0 u0 us hl=>us1 us hl fun u0=>rfl) (fun cdv A outer s H E hr=>?_) zJn
 unfold zB0
 exact(zL (zi 1 nd (zC 0)) (zL (wN PassesOwn.never rfl (zBS rfl b_range (zD (zAm rfl b_len (zD (zC 0) zJ)) zJ)) (wa 2 nd) (zL (zi 3 nd (yi (wm (zC 0) (wx (zC 2)) zBW) (wm (zC 0) zBW (wx (zC 2))))) (zQ (zi 1 nd (zOB hr rfl rfl b_min (zAA (zD (zC 1) (zD (zC 3) (zD (zNz (zC 3)) zJ))))))))) (zQ (yO (zC 1)))))
theorem zIC{f:Addr}{fd:FuncData}(F:Fun K "_law_due" "_law_due" wJ f fd)(hm:mg "_law_due"=some (.ref f))(b_range:mg "range"=none)(b_sorted:mg "sorted"=none)(b_set:mg "set"=none)   (D_l_around:Df P w K mg base 1 "_law_around" ["web","place"] (spL yT))(D_l_longer:Df P w K mg base 1 "_law_longer" ["word","place","wished"] (spL yk))(D_l_least:Df P w K mg base 1 "_law_least" ["ring"] zAV):Df P w K mg base 2 "_law_due" ["web"] (spL yv):=by
 have nd:=(zEu).nd
 refine yP zB1 F zEu hm (F.binds fun u0 u0 u0 u0 u0 u0 us hl=>us1 us hl fun u0=>rfl) (fun cdv A outer s H E hr=>?_) zJr
 unfold zB1
 exact(zL (zi 1 nd (yB (zAA (zD (wX (zD zO (zD zO zJ))) zJ)))) (zL (wN PassesOwn.never rfl (zAN rfl b_range (zD zO (zD (zAO (zC 0) zO) zJ))) (wa 2 nd) (zL (zi 3 nd (yB (zJK rfl b_sorted (zEE "other" rfl (yQ (osc:=zF wJ) (N:=["web","words","place","near","fresh","word"]) (N0:=["!00","!01","place","!03","!04","!05"]) (own:=["other"]) (by decide +kernel)) (zKI (ww D_l_around zE1 hr (by decide) rfl (zD (zC 0) (zD (zC 2) zJ)))) (fun u0 u0 u0 u0 u0=>(zCI (zNj (zC 6) (zC 2)))) (fun u0 u0 u0 u0 u0=>(zC 6)))))) (zL (zi 4 nd (yB (zAA zJ))) (zL (wN PassesOwn.never rfl (zBJ (zC 1)) (wa 5 nd) (zQ (zBR (zED (zC 4) (ww D_l_longer zE6 hr (by decide) rfl (zD (zC 5) (zD (zC 2) (zD (zC 3) zJ)))))))) (zQ (zi 1 nd (zC 4))))))) (zQ (yO (yB (zEq hr rfl rfl b_sorted rfl b_set (zEE "word" rfl (yQ (osc:=zF wJ) (N:=["web","words","place","near","fresh","word"]) (N0:=["!00","!01","!02","!03","!04","!05"]) (own:=["word"]) (by decide +kernel)) (zBJ (zC 1)) (fun u0 u0 u0 u0 u0=>zC7) (fun u0 u0 u0 u0 u0=>(yc D_l_least hr (by decide) rfl (zD (zC 6) zJ))))))))))
theorem zOO{f:Addr}{fd:FuncData}(F:Fun K "law" "law" zCG f fd)(b_range:mg "range"=none)(b_max:mg "max"=none)(b_min:mg "min"=none)(b_len:mg "len"=none)(b_tuple:mg "tuple"=none)(b_isinstance:mg "isinstance"=none)(b_list:mg "list"=none)(b_all:mg "all"=none)   (D_l_state:Df P w K mg base 2 "_law_state" ["script","k"] (spL yW))(D_l_take:Df P w K mg base 1 "_law_take" ["state","many"] zp)(D_l_web:Df P w K mg base 3 "_law_web" ["state","most"] zBb)(D_l_pairs:Df P w K mg base 1 "_law_pairs" ["many"] (spL zt))(D_l_due71:Df P w K mg base 2 "_law_due" ["web"] (spL yv))(D_all_rings:Df P w K mg base 3 "all_rings" ["web"] (spL zl)):zBP P w K mg base CX0 4 f fd ["script"] (lSp K zFP):=by
 have nd:=zLL.nd
 refine zNu zI0 F zLL (fun cdv A outer s H E hr=>?_) zPD
 unfold zI0
 exact(zL (wN PassesOwn.never rfl (zBS rfl b_range (zD (zMs rfl rfl b_max (zD zO (zD (zMr rfl rfl b_min (zD (zAm rfl b_len (zD (zC 0) zJ)) (zD zO zJ))) zJ))) zJ)) (wa 1 nd) (zL (zi 2 nd (yB (ww D_l_state zFt hr (by decide) rfl (zD (zC 0) (zD (zC 1) zJ))))) (zL (zi 3 nd (yc D_l_web hr (by decide) rfl (zD (zC 2) (zD (zAO (yB (zAA (zD zO (zD zO (zD zO zJ))))) (yc D_l_take hr (by decide) rfl (zD (zC 2) (zD zO zJ)))) zJ)))) (zL (zi 4 nd (yi zO (yc D_l_take hr (by decide) rfl (zD (zC 2) (zD zO zJ))))) (zQ (wN PassesOwn.never rfl (zKI (zAA (zD (zC 3) (zD (wX (zD (zC 4) (zD (wX zJ) zJ))) (zD (wX (zD (zC 4) (zD (zFn rfl b_tuple (ww D_l_pairs zA5 hr (by decide) rfl (zD (zC 4) zJ))) zJ))) zJ))))) (wa 5 nd) (zL (zi 6 nd (yB (ww D_l_due71 zGE hr (by decide) rfl (zD (zC 5) zJ)))) (zL (zi 7 nd (yB (ww D_all_rings zAW hr (by decide) rfl (zD (zC 5) zJ)))) (zL (zC6 (W2.test (w_or (zMp (zIQ (zMt (T:="list") rfl b_isinstance rfl b_list (by decide +kernel) (zC 7)))) (w_or (zKO hr (zC 7) (zC 6)) (zMo (zMp (zIQ (zOz rfl rfl b_all (zEE "ring" rfl (yQ (osc:=zF zCG) (N:=["script","k","state","web","many","some","due","found"]) (N0:=["!00","!01","!02","!03","!04","!05","!06","!07"]) (own:=["ring"]) (by decide +kernel)) (zBJ (zC 7)) (fun u0 u0 u0 u0 u0=>zC7) (fun u0 u0 u0 u0 u0=>(zMt (T:="tuple") rfl b_isinstance rfl b_tuple (by decide +kernel) (zC 8))))))))))) (zQ (yO zKD)) wZ) (zL (zBR (zCe (zC 7) (zD (wX zJ) zJ))) (zQ (zC6 (zKO hr (zAm rfl b_len (zD (yB (ww D_all_rings zAW hr (by decide) rfl (zD (zC 5) zJ))) zJ)) (zAm rfl b_len (zD (zC 6) zJ))) (zQ (yO zKD)) wZ)))))))))))) (zQ (yO zKD)))
end
theorem zOP{l:PySem.W.OpenLaw}{w:World}{K:PySem.W.Frag}{h:Heap}{mg:Str→Option Value}{fa:Addr}(X:K.In h)(G:h.Ns mainGlobals mg)(hfa:mg "law"=some (.ref fa))
  {f0:Addr} {od0 an0:Option Addr} {sl0:Array (Option Value)} {oc0 kV0 dc0 pm0 cd0 ct0:Value} {f1:Addr} {od1 an1:Option Addr} {sl1:Array (Option Value)} {oc1 kV1 dc1 pm1 cd1 ct1:Value} {f2:Addr} {od2 an2:Option Addr} {sl2:Array (Option Value)} {oc2 kV2 dc2 pm2 cd2 ct2:Value} {f3:Addr} {od3 an3:Option Addr} {sl3:Array (Option Value)} {oc3 kV3 dc3 pm3 cd3 ct3:Value} {f4:Addr} {od4 an4:Option Addr} {sl4:Array (Option Value)} {oc4 kV4 dc4 pm4 cd4 ct4:Value} {f5:Addr} {od5 an5:Option Addr} {sl5:Array (Option Value)} {oc5 kV5 dc5 pm5 cd5 ct5:Value} {f6:Addr} {od6 an6:Option Addr} {sl6:Array (Option Value)} {oc6 kV6 dc6 pm6 cd6 ct6:Value} {f7:Addr} {od7 an7:Option Addr} {sl7:Array (Option Value)} {oc7 kV7 dc7 pm7 cd7 ct7:Value} {f8:Addr} {od8 an8:Option Addr} {sl8:Array (Option Value)} {oc8 kV8 dc8 pm8 cd8 ct8:Value} {f9:Addr} {od9 an9:Option Addr} {sl9:Array (Option Value)} {oc9 kV9 dc9 pm9 cd9 ct9:Value} {f10:Addr} {od10 an10:Option Addr} {sl10:Array (Option Value)} {oc10 kV10 dc10 pm10 cd10 ct10:Value} {f11:Addr} {od11 an11:Option Addr} {sl11:Array (Option Value)} {oc11 kV11 dc11 pm11 cd11 ct11:Value} {f12:Addr} {od12 an12:Option Addr} {sl12:Array (Option Value)} {oc12 kV12 dc12 pm12 cd12 ct12:Value} {f13:Addr} {od13 an13:Option Addr} {sl13:Array (Option Value)} {oc13 kV13 dc13 pm13 cd13 ct13:Value} {f14:Addr} {od14 an14:Option Addr} {sl14:Array (Option Value)} {oc14 kV14 dc14 pm14 cd14 ct14:Value} {f15:Addr} {od15 an15:Option Addr} {sl15:Array (Option Value)} {oc15 kV15 dc15 pm15 cd15 ct15:Value} {f16:Addr} {od16 an16:Option Addr} {sl16:Array (Option Value)} {oc16 kV16 dc16 pm16 cd16 ct16:Value} {f17:Addr} {od17 an17:Option Addr} {sl17:Array (Option Value)} {oc17 kV17 dc17 pm17 cd17 ct17:Value} {f18:Addr} {od18 an18:Option Addr} {sl18:Array (Option Value)} {oc18 kV18 dc18 pm18 cd18 ct18:Value} {f19:Addr} {od19 an19:Option Addr} {sl19:Array (Option Value)} {oc19 kV19 dc19 pm19 cd19 ct19:Value} {f20:Addr} {od20 an20:Option Addr} {sl20:Array (Option Value)} {oc20 kV20 dc20 pm20 cd20 ct20:Value} {gt_MOST_TOLD:Tok}
  (a0:PySem.W.nsIn K mainGlobals "refuse_more"=some (some (.ref f0))) (l0:K.lookup f0=some ⟨oc0,od0,.func (PySem.W.fnOf "refuse_more" "refuse_more" (ze yb) (zY yb) (zF yb) .none kV0 dc0 pm0 an0 cd0 ct0),sl0⟩) (c0:PySem.W.codeIn K cd0 "refuse_more"=true) (k0:PySem.W.keepIn K (.ref f0)=true)
  (a1:PySem.W.nsIn K mainGlobals "turned_round"=some (some (.ref f1))) (l1:K.lookup f1=some ⟨oc1,od1,.func (PySem.W.fnOf "turned_round" "turned_round" (ze yS) (zY yS) (zF yS) .none kV1 dc1 pm1 an1 cd1 ct1),sl1⟩) (c1:PySem.W.codeIn K cd1 "turned_round"=true) (k1:PySem.W.keepIn K (.ref f1)=true)
  (a2:PySem.W.nsIn K mainGlobals "mirrored"=some (some (.ref f2))) (l2:K.lookup f2=some ⟨oc2,od2,.func (PySem.W.fnOf "mirrored" "mirrored" (ze wg) (zY wg) (zF wg) .none kV2 dc2 pm2 an2 cd2 ct2),sl2⟩) (c2:PySem.W.codeIn K cd2 "mirrored"=true) (k2:PySem.W.keepIn K (.ref f2)=true)
  (a3:PySem.W.nsIn K mainGlobals "least"=some (some (.ref f3))) (l3:K.lookup f3=some ⟨oc3,od3,.func (PySem.W.fnOf "least" "least" (ze zB2) (zY zB2) (zF zB2) .none kV3 dc3 pm3 an3 cd3 ct3),sl3⟩) (c3:PySem.W.codeIn K cd3 "least"=true) (k3:PySem.W.keepIn K (.ref f3)=true)
  (a4:PySem.W.nsIn K mainGlobals "tied"=some (some (.ref f4))) (l4:K.lookup f4=some ⟨oc4,od4,.func (PySem.W.fnOf "tied" "tied" (ze zDR) (zY zDR) (zF zDR) .none kV4 dc4 pm4 an4 cd4 ct4),sl4⟩) (c4:PySem.W.codeIn K cd4 "tied"=true) (k4:PySem.W.keepIn K (.ref f4)=true)
  (a5:PySem.W.nsIn K mainGlobals "tied_among"=some (some (.ref f5))) (l5:K.lookup f5=some ⟨oc5,od5,.func (PySem.W.fnOf "tied_among" "tied_among" (ze yX) (zY yX) (zF yX) .none kV5 dc5 pm5 an5 cd5 ct5),sl5⟩) (c5:PySem.W.codeIn K cd5 "tied_among"=true) (k5:PySem.W.keepIn K (.ref f5)=true)
  (a6:PySem.W.nsIn K mainGlobals "with_chord"=some (some (.ref f6))) (l6:K.lookup f6=some ⟨oc6,od6,.func (PySem.W.fnOf "with_chord" "with_chord" (ze yY) (zY yY) (zF yY) .none kV6 dc6 pm6 an6 cd6 ct6),sl6⟩) (c6:PySem.W.codeIn K cd6 "with_chord"=true) (k6:PySem.W.keepIn K (.ref f6)=true)
  (a7:PySem.W.nsIn K mainGlobals "all_rings"=some (some (.ref f7))) (l7:K.lookup f7=some ⟨oc7,od7,.func (PySem.W.fnOf "all_rings" "all_rings" (ze yl) (zY yl) (zF yl) .none kV7 dc7 pm7 an7 cd7 ct7),sl7⟩) (c7:PySem.W.codeIn K cd7 "all_rings"=true) (k7:PySem.W.keepIn K (.ref f7)=true)
  (a8:PySem.W.nsIn K mainGlobals "all_with_chord"=some (some (.ref f8))) (l8:K.lookup f8=some ⟨oc8,od8,.func (PySem.W.fnOf "all_with_chord" "all_with_chord" (ze zz) (zY zz) (zF zz) .none kV8 dc8 pm8 an8 cd8 ct8),sl8⟩) (c8:PySem.W.codeIn K cd8 "all_with_chord"=true) (k8:PySem.W.keepIn K (.ref f8)=true)
  (a9:PySem.W.nsIn K mainGlobals "_law_cell_at"=some (some (.ref f9))) (l9:K.lookup f9=some ⟨oc9,od9,.func (PySem.W.fnOf "_law_cell_at" "_law_cell_at" (ze wI) (zY wI) (zF wI) .none kV9 dc9 pm9 an9 cd9 ct9),sl9⟩) (c9:PySem.W.codeIn K cd9 "_law_cell_at"=true) (k9:PySem.W.keepIn K (.ref f9)=true)
  (a10:PySem.W.nsIn K mainGlobals "_law_state"=some (some (.ref f10))) (l10:K.lookup f10=some ⟨oc10,od10,.func (PySem.W.fnOf "_law_state" "_law_state" (ze zAJ) (zY zAJ) (zF zAJ) .none kV10 dc10 pm10 an10 cd10 ct10),sl10⟩) (c10:PySem.W.codeIn K cd10 "_law_state"=true) (k10:PySem.W.keepIn K (.ref f10)=true)
  (a11:PySem.W.nsIn K mainGlobals "_law_take"=some (some (.ref f11))) (l11:K.lookup f11=some ⟨oc11,od11,.func (PySem.W.fnOf "_law_take" "_law_take" (ze zAv) (zY zAv) (zF zAv) .none kV11 dc11 pm11 an11 cd11 ct11),sl11⟩) (c11:PySem.W.codeIn K cd11 "_law_take"=true) (k11:PySem.W.keepIn K (.ref f11)=true)
  (a12:PySem.W.nsIn K mainGlobals "_law_pairs"=some (some (.ref f12))) (l12:K.lookup f12=some ⟨oc12,od12,.func (PySem.W.fnOf "_law_pairs" "_law_pairs" (ze wj) (zY wj) (zF wj) .none kV12 dc12 pm12 an12 cd12 ct12),sl12⟩) (c12:PySem.W.codeIn K cd12 "_law_pairs"=true) (k12:PySem.W.keepIn K (.ref f12)=true)
  (a13:PySem.W.nsIn K mainGlobals "_law_web"=some (some (.ref f13))) (l13:K.lookup f13=some ⟨oc13,od13,.func (PySem.W.fnOf "_law_web" "_law_web" (ze zAi) (zY zAi) (zF zAi) .none kV13 dc13 pm13 an13 cd13 ct13),sl13⟩) (c13:PySem.W.codeIn K cd13 "_law_web"=true) (k13:PySem.W.keepIn K (.ref f13)=true)
  (a14:PySem.W.nsIn K mainGlobals "_law_ring"=some (some (.ref f14))) (l14:K.lookup f14=some ⟨oc14,od14,.func (PySem.W.fnOf "_law_ring" "_law_ring" (ze zAX) (zY zAX) (zF zAX) .none kV14 dc14 pm14 an14 cd14 ct14),sl14⟩) (c14:PySem.W.codeIn K cd14 "_law_ring"=true) (k14:PySem.W.keepIn K (.ref f14)=true)
  (a15:PySem.W.nsIn K mainGlobals "_law_web_of"=some (some (.ref f15))) (l15:K.lookup f15=some ⟨oc15,od15,.func (PySem.W.fnOf "_law_web_of" "_law_web_of" (ze yw) (zY yw) (zF yw) .none kV15 dc15 pm15 an15 cd15 ct15),sl15⟩) (c15:PySem.W.codeIn K cd15 "_law_web_of"=true) (k15:PySem.W.keepIn K (.ref f15)=true)
  (a16:PySem.W.nsIn K mainGlobals "_law_around"=some (some (.ref f16))) (l16:K.lookup f16=some ⟨oc16,od16,.func (PySem.W.fnOf "_law_around" "_law_around" (ze yx) (zY yx) (zF yx) .none kV16 dc16 pm16 an16 cd16 ct16),sl16⟩) (c16:PySem.W.codeIn K cd16 "_law_around"=true) (k16:PySem.W.keepIn K (.ref f16)=true)
  (a17:PySem.W.nsIn K mainGlobals "_law_longer"=some (some (.ref f17))) (l17:K.lookup f17=some ⟨oc17,od17,.func (PySem.W.fnOf "_law_longer" "_law_longer" (ze yy) (zY yy) (zF yy) .none kV17 dc17 pm17 an17 cd17 ct17),sl17⟩) (c17:PySem.W.codeIn K cd17 "_law_longer"=true) (k17:PySem.W.keepIn K (.ref f17)=true)
  (a18:PySem.W.nsIn K mainGlobals "_law_least"=some (some (.ref f18))) (l18:K.lookup f18=some ⟨oc18,od18,.func (PySem.W.fnOf "_law_least" "_law_least" (ze zAK) (zY zAK) (zF zAK) .none kV18 dc18 pm18 an18 cd18 ct18),sl18⟩) (c18:PySem.W.codeIn K cd18 "_law_least"=true) (k18:PySem.W.keepIn K (.ref f18)=true)
  (a19:PySem.W.nsIn K mainGlobals "_law_due"=some (some (.ref f19))) (l19:K.lookup f19=some ⟨oc19,od19,.func (PySem.W.fnOf "_law_due" "_law_due" (ze wJ) (zY wJ) (zF wJ) .none kV19 dc19 pm19 an19 cd19 ct19),sl19⟩) (c19:PySem.W.codeIn K cd19 "_law_due"=true) (k19:PySem.W.keepIn K (.ref f19)=true)
  (a20:PySem.W.nsIn K mainGlobals "law"=some (some (.ref f20))) (l20:K.lookup f20=some ⟨oc20,od20,.func (PySem.W.fnOf "law" "law" (ze zCG) (zY zCG) (zF zCG) .none kV20 dc20 pm20 an20 cd20 ct20),sl20⟩) (c20:PySem.W.codeIn K cd20 "law"=true) (k20:PySem.W.keepIn K (.ref f20)=true)
  (y_MOST_TOLD:PySem.W.nsIn K mainGlobals "MOST_TOLD"=some (some (.int 5 gt_MOST_TOLD)))
  (z_tuple:PySem.W.nsIn K mainGlobals "tuple"=some none)
  (z_reversed:PySem.W.nsIn K mainGlobals "reversed"=some none)
  (z_range:PySem.W.nsIn K mainGlobals "range"=some none)
  (z_len:PySem.W.nsIn K mainGlobals "len"=some none)
  (z_min:PySem.W.nsIn K mainGlobals "min"=some none)
  (z_max:PySem.W.nsIn K mainGlobals "max"=some none)
  (z_sum:PySem.W.nsIn K mainGlobals "sum"=some none)
  (z_sorted:PySem.W.nsIn K mainGlobals "sorted"=some none)
  (z_set:PySem.W.nsIn K mainGlobals "set"=some none)
  (z_list:PySem.W.nsIn K mainGlobals "list"=some none)
  (z_isinstance:PySem.W.nsIn K mainGlobals "isinstance"=some none)
  (z_all:PySem.W.nsIn K mainGlobals "all"=some none) :
  ∃ fd:FuncData,(∀(s:Shared) (v:Value),BindsTo s fd ⟨[v],[]⟩ [("script",v)])∧∀ base:Heap,K.In base→base.Ns mainGlobals mg→zBP l.prog w K mg base CX0 4 fa fd ["script"] (lSp K zFP):=by
 have e:=hfa.symm.trans (PySem.W.mg_of X G a20)
 cases e
 have g_MOST_TOLD:=PySem.W.mg_of X G y_MOST_TOLD
 have b_tuple:=PySem.W.mg_none_of X G z_tuple
 have b_reversed:=PySem.W.mg_none_of X G z_reversed
 have b_range:=PySem.W.mg_none_of X G z_range
 have b_len:=PySem.W.mg_none_of X G z_len
 have b_min:=PySem.W.mg_none_of X G z_min
 have b_max:=PySem.W.mg_none_of X G z_max
 have b_sum:=PySem.W.mg_none_of X G z_sum
 have b_sorted:=PySem.W.mg_none_of X G z_sorted
 have b_set:=PySem.W.mg_none_of X G z_set
 have b_list:=PySem.W.mg_none_of X G z_list
 have b_isinstance:=PySem.W.mg_none_of X G z_isinstance
 have b_all:=PySem.W.mg_none_of X G z_all
 refine⟨PySem.W.fnOf "law" "law" (ze zCG) (zY zCG) (zF zCG) .none kV20 dc20 pm20 an20 cd20 ct20,fun s v=>.of_eq rfl,fun base kb u0 =>?_⟩
 have D_refuse_more:Df l.prog w K mg base 1 "refuse_more" ["many","most"] yj:=zEv (yG (st:=yb) l0 c0 k0) (PySem.W.mg_of X G a0) 
 have D_turned_round:Df l.prog w K mg base 1 "turned_round" ["ring","by"] zu:=zDl (yG (st:=yS) l1 c1 k1) (PySem.W.mg_of X G a1) 
 have D_mirrored:Df l.prog w K mg base 1 "mirrored" ["ring"] wG:=zHD (yG (st:=wg) l2 c2 k2) (PySem.W.mg_of X G a2) b_tuple b_reversed
 have D_tied:Df l.prog w K mg base 1 "tied" ["web","one","other"] zBu:=zMh (yG (st:=zDR) l4 c4 k4) (PySem.W.mg_of X G a4) b_min b_max
 have D_with_chord:Df l.prog w K mg base 1 "with_chord" ["ring","place","crossed"] (spL yJ):=zE8 (yG (st:=yY) l6 c6 k6) (PySem.W.mg_of X G a6) b_sum b_range b_len
 have D_l_cell_at:Df l.prog w K mg base 1 "_law_cell_at" ["script","k"] wO:=zGG (yG (st:=wI) l9 c9 k9) (PySem.W.mg_of X G a9) b_len
 have D_l_take:Df l.prog w K mg base 1 "_law_take" ["state","many"] zp:=zJs (yG (st:=zAv) l11 c11 k11) (PySem.W.mg_of X G a11) 
 have D_l_pairs:Df l.prog w K mg base 1 "_law_pairs" ["many"] (spL zt):=zIA (yG (st:=wj) l12 c12 k12) (PySem.W.mg_of X G a12) b_range
 have D_l_around:Df l.prog w K mg base 1 "_law_around" ["web","place"] (spL yT):=zHF (yG (st:=yx) l16 c16 k16) (PySem.W.mg_of X G a16) 
 have D_l_longer:Df l.prog w K mg base 1 "_law_longer" ["word","place","wished"] (spL yk):=zHG (yG (st:=yy) l17 c17 k17) (PySem.W.mg_of X G a17) b_range b_len b_sorted
 have D_l_least:Df l.prog w K mg base 1 "_law_least" ["ring"] zAV:=zIB (yG (st:=zAK) l18 c18 k18) (PySem.W.mg_of X G a18) b_range b_len b_min
 have D_least:Df l.prog w K mg base 2 "least" ["ring"] wv:=zLM (yG (st:=zB2) l3 c3 k3) (PySem.W.mg_of X G a3) b_range b_len b_min D_mirrored D_turned_round
 have D_tied_among:Df l.prog w K mg base 2 "tied_among" ["web","place","others"] (spL yK):=zE7 (yG (st:=yX) l5 c5 k5) (PySem.W.mg_of X G a5) D_tied
 have D_all_with_chord:Df l.prog w K mg base 2 "all_with_chord" ["rings","place","crossed"] (spL zg):=zC3 (yG (st:=zz) l8 c8 k8) (PySem.W.mg_of X G a8) D_with_chord
 have D_l_state:Df l.prog w K mg base 2 "_law_state" ["script","k"] (spL yW):=zH9 (yG (st:=zAJ) l10 c10 k10) (PySem.W.mg_of X G a10) D_l_cell_at
 have D_l_ring:Df l.prog w K mg base 2 "_law_ring" ["state","many"] zAo:=zJt (yG (st:=zAX) l14 c14 k14) (PySem.W.mg_of X G a14) b_list b_range b_tuple b_len D_l_take
 have D_l_web_of:Df l.prog w K mg base 2 "_law_web_of" ["ring"] wu:=zHE (yG (st:=yw) l15 c15 k15) (PySem.W.mg_of X G a15) b_len b_tuple D_l_pairs
 have D_l_due71:Df l.prog w K mg base 2 "_law_due" ["web"] (spL yv):=zIC (yG (st:=wJ) l19 c19 k19) (PySem.W.mg_of X G a19) b_range b_sorted b_set D_l_around D_l_longer D_l_least
 have D_all_rings:Df l.prog w K mg base 3 "all_rings" ["web"] (spL zl):=zGF (yG (st:=yl) l7 c7 k7) (PySem.W.mg_of X G a7) b_range b_tuple b_sorted b_set g_MOST_TOLD D_refuse_more D_tied_among D_all_with_chord D_least
 have D_l_web:Df l.prog w K mg base 3 "_law_web" ["state","most"] zBb:=zLN (yG (st:=zAi) l13 c13 k13) (PySem.W.mg_of X G a13) b_tuple D_l_take D_l_pairs D_l_ring D_l_web_of
 exact zOO (yG (st:=zCG) l20 c20 k20) b_range b_max b_min b_len b_tuple b_isinstance b_list b_all D_l_state D_l_take D_l_web D_l_pairs D_l_due71 D_all_rings
end K
open PySem PySem.W PyProof.Rows
set_option maxRecDepth 100000 in
set_option maxHeartbeats 0 in
theorem PySem.Challenge.cw_chordwebs_k71_all_rings_of_a_web_holds : PySem.Challenge.rw_chordwebs_k71_all_rings_of_a_web.Holds := by
 w_on;o_law;k_head;(case hw=>w_witness2)
 k_fill
 refine L3.zKZ (l:=PySem.Challenge.rw_chordwebs_k71_all_rings_of_a_web) (k:=4) rfl rfl ⟨rfl,by decide,by decide⟩ (fun w h Y=>⟨PySem.W.kIn_of Y,[],fun u0=>"",⟨(fun u0 h=>nomatch h),(fun u0 h=>nomatch h),(fun u0 h=>nomatch h),fun x hx=>nomatch hx⟩⟩) ?F
 case F =>
  intro w mg fa h KX G hmg
  refine' K.zOP KX G hmg ?a0 ?l0 ?c0 ?k0 ?a1 ?l1 ?c1 ?k1 ?a2 ?l2 ?c2 ?k2 ?a3 ?l3 ?c3 ?k3 ?a4 ?l4 ?c4 ?k4 ?a5 ?l5 ?c5 ?k5 ?a6 ?l6 ?c6 ?k6 ?a7 ?l7 ?c7 ?k7 ?a8 ?l8 ?c8 ?k8 ?a9 ?l9 ?c9 ?k9 ?a10 ?l10 ?c10 ?k10 ?a11 ?l11 ?c11 ?k11 ?a12 ?l12 ?c12 ?k12 ?a13 ?l13 ?c13 ?k13 ?a14 ?l14 ?c14 ?k14 ?a15 ?l15 ?c15 ?k15 ?a16 ?l16 ?c16 ?k16 ?a17 ?l17 ?c17 ?k17 ?a18 ?l18 ?c18 ?k18 ?a19 ?l19 ?c19 ?k19 ?a20 ?l20 ?c20 ?k20 ?y_MOST_TOLD ?z_tuple ?z_reversed ?z_range ?z_len ?z_min ?z_max ?z_sum ?z_sorted ?z_set ?z_list ?z_isinstance ?z_all
  (case a0=>k_is)
  (case l0=>k_is)
  (case c0=>k_is)
  (case k0=>k_is)
  (case a1=>k_is)
  (case l1=>k_is)
  (case c1=>k_is)
  (case k1=>k_is)
  (case a2=>k_is)
  (case l2=>k_is)
  (case c2=>k_is)
  (case k2=>k_is)
  (case a3=>k_is)
  (case l3=>k_is)
  (case c3=>k_is)
  (case k3=>k_is)
  (case a4=>k_is)
  (case l4=>k_is)
  (case c4=>k_is)
  (case k4=>k_is)
  (case a5=>k_is)
  (case l5=>k_is)
  (case c5=>k_is)
  (case k5=>k_is)
  (case a6=>k_is)
  (case l6=>k_is)
  (case c6=>k_is)
  (case k6=>k_is)
  (case a7=>k_is)
  (case l7=>k_is)
  (case c7=>k_is)
  (case k7=>k_is)
  (case a8=>k_is)
  (case l8=>k_is)
  (case c8=>k_is)
  (case k8=>k_is)
  (case a9=>k_is)
  (case l9=>k_is)
  (case c9=>k_is)
  (case k9=>k_is)
  (case a10=>k_is)
  (case l10=>k_is)
  (case c10=>k_is)
  (case k10=>k_is)
  (case a11=>k_is)
  (case l11=>k_is)
  (case c11=>k_is)
  (case k11=>k_is)
  (case a12=>k_is)
  (case l12=>k_is)
  (case c12=>k_is)
  (case k12=>k_is)
  (case a13=>k_is)
  (case l13=>k_is)
  (case c13=>k_is)
  (case k13=>k_is)
  (case a14=>k_is)
  (case l14=>k_is)
  (case c14=>k_is)
  (case k14=>k_is)
  (case a15=>k_is)
  (case l15=>k_is)
  (case c15=>k_is)
  (case k15=>k_is)
  (case a16=>k_is)
  (case l16=>k_is)
  (case c16=>k_is)
  (case k16=>k_is)
  (case a17=>k_is)
  (case l17=>k_is)
  (case c17=>k_is)
  (case k17=>k_is)
  (case a18=>k_is)
  (case l18=>k_is)
  (case c18=>k_is)
  (case k18=>k_is)
  (case a19=>k_is)
  (case l19=>k_is)
  (case c19=>k_is)
  (case k19=>k_is)
  (case a20=>k_is)
  (case l20=>k_is)
  (case c20=>k_is)
  (case k20=>k_is)
  (case y_MOST_TOLD=>k_is)
  (case z_tuple=>k_is)
  (case z_reversed=>k_is)
  (case z_range=>k_is)
  (case z_len=>k_is)
  (case z_min=>k_is)
  (case z_max=>k_is)
  (case z_sum=>k_is)
  (case z_sorted=>k_is)
  (case z_set=>k_is)
  (case z_list=>k_is)
  (case z_isinstance=>k_is)
  (case z_all=>k_is)
#print axioms PySem.Challenge.cw_chordwebs_k71_all_rings_of_a_web_holds
