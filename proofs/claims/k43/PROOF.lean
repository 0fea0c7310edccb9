import PyProof.Rows.All
import Wide.All
import OpenK.AllK
import Wide.FinOn
import Lean
import PyProof.EqAt
import PyProof.EqKinds
import PyProof.TupleCall
import PyProof.NeKinds
import KE.KRevIter
import PyProof.Rows.Range3
import PyProof.ZipIter
import PyProof.Rows.SortRunsK
import PyProof.Rows.SortShell
import PyProof.Rows.IntRules
import PyProof.Dict
import PyProof.Conv_int_bool
import PyProof.Rows.DictRows
import PyProof.DictTable
import PyProof.SetKind
import PyProof.Rows.SetFrom
import PyProof.Rows.SortPure
import PyProof.FactsAll.set_1
import PyProof.SetRoads
import PyProof.Walks
import PyProof.CollectWalk
import PyProof.ListRange
import PyProof.TupleKey
import PyProof.IsRules
import PyProof.WalksMore
import PyProof.EnumStmt
import PyProof.Rows.EnumRows
import PyProof.SeqI3
import PyProof.StrCalls2
import PyProof.StrBlockH
import PyProof.StrLawsTight
import PyProof.StrLawsJoin
import KE.KIntText
import PyProof.AttrMiss
import PyProof.IsiH_list
import PyProof.IsiH_tuple
import KE.KDictOf
import PySem.Challenge.RW_chordwebs_k43_parted_and_put_together
set_option Elab.async false
set_option linter.all false
set_option maxRecDepth 100000
set_option bootstrap.genMatcherCode false
set_option genSizeOf false
set_option compiler.extract_closed false
namespace K
open PySem
@[elab_as_elim] theorem us1{m:List Value→Prop}(us:List Value)(hl:us.length=1)(h:∀ a,m [a]):m us:=match us,hl with
 | [a],_=>h a
@[elab_as_elim] theorem us2{m:List Value→Prop}(us:List Value)(hl:us.length=2)(h:∀ a b,m [a,b]):m us:=match us,hl with
 | [a,b],_=>h a b
@[elab_as_elim] theorem us3{m:List Value→Prop}(us:List Value)(hl:us.length=3)(h:∀ a b c,m [a,b,c]):m us:=match us,hl with
 | [a,b,c],_=>h a b c
end K
namespace L2
open PySem PySem.Spec PyProof.Rows
noncomputable abbrev Key:=Sum Int Str
noncomputable def zOH:Key→Value→Bool
 | .inl k,v=>Value.isInt k v
 | .inr x,v=>Value.isStrOf x v
noncomputable def zRE(w:World):Key→Int
 | .inl k=>hashInt k
 | .inr x=>hashStr w x
theorem yc:∀ {k:Key} {v:Value},zOH k v=true→(∃ i t,k=Sum.inl i∧v=Value.int i t)∨(∃ x t,k=Sum.inr x∧v=Value.str x t)
 | .inl i,v,h=>by
  obtain⟨t,e⟩:=Value.isInt_shape (k:=i) (v:=v) h
  exact .inl ⟨i,t,rfl,e⟩
 | .inr x,v,h=>by
  obtain⟨t,e⟩:=Value.isStrOf_shape (x:=x) (v:=v) h
  exact .inr ⟨x,t,rfl,e⟩
theorem zOh(a b:Int):decide ((Sum.inl a:Key)=Sum.inl b)=(a==b):=by
 by_cases e:a=b
 ·subst e;simp
 ·have h:¬ (Sum.inl a:Key)=Sum.inl b:=fun q=>e (Sum.inl.inj q)
  rw[decide_eq_false h]
  exact(beq_eq_false_iff_ne.mpr e).symm
theorem zOi(a b:Str):decide ((Sum.inr a:Key)=Sum.inr b)=decide (a=b):=by
 by_cases e:a=b
 ·subst e;simp
 ·have h:¬ (Sum.inr a:Key)=Sum.inr b:=fun q=>e (Sum.inr.inj q)
  rw[decide_eq_false h,decide_eq_false e]
theorem zOj(a:Int)(b:Str):decide ((Sum.inl a:Key)=Sum.inr b)=false:=decide_eq_false (fun q=>nomatch q)
theorem zOk(a:Str)(b:Int):decide ((Sum.inr a:Key)=Sum.inl b)=false:=decide_eq_false (fun q=>nomatch q)
noncomputable def zIl(prog:Program)(w:World):PySem.KeyKind prog w Key where
 is:=zOH
 hash:=zRE w
 inj:=fun v a b ha hb=>by
  rcases yc ha with ⟨i,t,rfl,rfl⟩ | ⟨x,t,rfl,rfl⟩
  ·rcases yc hb with ⟨j,u,rfl,e⟩ | ⟨y,u,rfl,e⟩
   ·injection e with e1 _;rw[e1]
   ·exact nomatch e
  ·rcases yc hb with ⟨j,u,rfl,e⟩ | ⟨y,u,rfl,e⟩
   ·exact nomatch e
   ·injection e with e1 _;rw[e1]
 byValue:=fun k v h=>by
  rcases yc h with ⟨i,t,rfl,rfl⟩ | ⟨x,t,rfl,rfl⟩<;>rfl
 pyHash:=fun hv h=>by
  rcases yc hv with ⟨i,t,rfl,rfl⟩ | ⟨x,t,rfl,rfl⟩
  ·exact wpAny_pyHash_int h
  ·exact wpAny_pyHash_str h
 eqBool:=fun hu hv h=>by
  rcases yc hu with ⟨i,t,rfl,rfl⟩ | ⟨x,t,rfl,rfl⟩
  ·rcases yc hv with ⟨j,u,rfl,rfl⟩ | ⟨y,u,rfl,rfl⟩
   ·rw[zOh] at h;exact wpAny_eqBool_int h
   ·rw[zOj] at h;exact SeqAt.EqAt.int_str i t y u _ _ _ _ h
  ·rcases yc hv with ⟨j,u,rfl,rfl⟩ | ⟨y,u,rfl,rfl⟩
   ·rw[zOk] at h;exact SeqAt.EqAt.str_int x t j u _ _ _ _ h
   ·rw[zOi] at h;exact wpAny_eqBool_str h
 «strs»:=fun k x t v h=>by
  rcases yc h with ⟨i,u,rfl,e⟩ | ⟨y,u,rfl,e⟩
  ·exact nomatch e
  ·injection e with e1 _
   subst e1
   cases v<;>rfl
end L2
namespace L2
open PySem PySem.Spec PyProof.Rows
inductive V where
 | non | bl (b:Bool) | int (i:Int) | str (x:Str) | byt (b:Array UInt8) | flt (b:UInt64) | ref (a:Addr) | ty (n:String)
noncomputable def RelV:V→Value→Prop
 | .non,u=>u=Value.none
 | .bl b,u=>u=Value.bool b
 | .int i,u=>∃ t,u=Value.int i t
 | .str x,u=>∃ t,u=Value.str x t
 | .byt b,u=>∃ t,u=Value.bytes b t
 | .flt b,u=>∃ t,u=Value.float b t
 | .ref a,u=>u=Value.ref a
 | .ty n,u=>u=Value.type n
noncomputable abbrev zh:List V→List Value→Prop:=Paired RelV
theorem zh.length{xs:List V}{us:List Value}(r:zh xs us):xs.length=us.length:=Paired.length r
theorem zh.get:∀ {xs:List V} {us:List Value} {i:Nat} {x:V},zh xs us→xs[i]?=some x→∃ u,us[i]?=some u∧RelV x u
 | _,_,_,_,.nil,e=>by simp at e
 | _,_,0,_,.cons r _,e=>by simp at e;subst e;exact⟨_,rfl,r⟩
 | _,_,i+1,x,.cons _ t,e=>by
  obtain⟨u,h1,h2⟩:=zh.get (i:=i) (x:=x) t (by simpa using e)
  exact⟨u,by simpa using h1,h2⟩
theorem zh.set{x:V}{u:Value}(r:RelV x u):∀ {xs:List V} {us:List Value} (i:Nat),zh xs us→zh (xs.set i x) (us.set i u)
 | _,_,_,.nil=>.nil
 | _,_,0,.cons _ t=>.cons r t
 | _,_,i+1,.cons q t=>.cons q (zh.set r i t)
theorem zh.append:∀ {xs ys:List V} {us ws:List Value},zh xs us→zh ys ws→zh (xs++ys) (us++ws)
 | _,_,_,_,.nil,s=>s
 | _,_,_,_,.cons r t,s=>.cons r (zh.append t s)
theorem zh.take:∀ {xs:List V} {us:List Value} (n:Nat),zh xs us→zh (xs.take n) (us.take n)
 | _,_,0,_=>.nil
 | _,_,_+1,.nil=>.nil
 | _,_,n+1,.cons r t=>.cons r (zh.take n t)
theorem zh.drop:∀ {xs:List V} {us:List Value} (n:Nat),zh xs us→zh (xs.drop n) (us.drop n)
 | _,_,0,r=>r
 | _,_,_+1,.nil=>.nil
 | _,_,n+1,.cons _ t=>zh.drop n t
noncomputable def zOl:Option V→Option Value→Prop
 | some v,some u=>RelV v u
 | none,none=>True
 | _,_=>False
noncomputable def KV{κ:Type}:List (κ×V)→List (κ×Value)→Prop:=Paired fun(p:κ×V) (q:κ×Value)=>p.1=q.1∧RelV p.2 q.2
noncomputable def kV:Key→V
 | .inl i=>.int i
 | .inr x=>.str x
inductive HO where
 /-- a list -/
 | lst (xs:List V)
 /-- a tuple (never changes) -/
 | tup (xs:List V)
 /-- a dict whose keys are ints and texts;one whose keys are tuples of ints and texts (the empty one is both) -/
 | dK (kvs:List (Key×V)) | dT (kvs:List (List Key×V))
 /-- a set of ints: its members,its size -/
 | set (S:Int→Bool) (n:Nat)
 /-- an instance of the class at C,its dict at dx,its attributes -/
 | ins (C dx:Addr) (fs:List (Str×V))
 /-- the dict of the instance at x -/
 | own (x:Addr)
 /-- the dict of an exception -/
 | xd (fs:List (Str×V))
 /-- a bound method,f of x -/
 | met (f x:Addr)
 /-- a range object lo,lo+1,.. below hi -/
 | rng (lo hi:Int)
 /-- a thing that is known to the object (the script;a dict while a loop walks it): read,never written while it is so -/
 | frz (o:Obj) (u:HO)
 /-- a code object's table -/
 | tbl (ps:Array Value)
 /-- any other thing,by what is true of its one object (a def of one's own: SetO a S n:=HO.ext fun h=>..) -/
 | ext (φ:Heap→Prop)
noncomputable abbrev Hp:=Addr→Option HO
noncomputable def yp(H:Hp)(a:Addr)(o:HO):Hp:=fun b=>if b=a then some o else H b
theorem zj{H:Hp}{a:Addr}{o:HO}:yp H a o a=some o:=by unfold yp;rw[if_pos rfl]
theorem yF{H:Hp}{a b:Addr}{o:HO}(h:b≠a):yp H a o b=H b:=by unfold yp;rw[if_neg h]
theorem zOI{H:Hp}{a b:Addr}{o u:HO}(h:H a=some o)(h':H b=some u)(d:o≠u):a≠b:=by
 intro e;subst e;rw[h] at h';exact d (Option.some.inj h')
theorem yh{H:Hp}{a b:Addr}{o:HO}(h:H a=some o)(h':H b=none):a≠b:=by
 intro e;subst e;rw[h] at h';cases h'
noncomputable def zC8(h:Heap)(a:Addr)(items:Array Value):Prop:=∃ o,h.get? a=some o∧o.cls=.type "tuple"∧(∃ n,o.data=.seq items n)∧o.dict=none
theorem zC8.isTup{h:Heap}{a:Addr}{items:Array Value}(x:zC8 h a items):IsTup h a items:=let ⟨o,h1,h2,h3,_⟩:=x;⟨o,h1,h2,h3⟩
theorem zC8.lt{h:Heap}{a:Addr}{items:Array Value}(x:zC8 h a items):a<h.objs.size:=x.isTup.lt
theorem zC8.new(h:Heap)(items:Array Value):zC8 (h.push { cls:=.type "tuple",data:=.seq items }) h.objs.size items:=⟨_,Heap.get?_push_size _ rfl,rfl,⟨_,rfl⟩,rfl⟩
section
variable (P:Program) (w:World)
noncomputable def wL(H:Hp)(h:Heap)(a:Addr):HO→Prop
 | .lst xs=>xs.length≤sizeLine∧∃(its:List Value) (n:Nat),zh xs its∧h.get? a=some { cls:=.type "list",data:=.seq its.toArray n }
 | .tup xs=>xs.length≤sizeLine∧∃ its:List Value,zh xs its∧zC8 h a its.toArray
 | .dK kvs=>kvs.length≤sizeLine∧(a==sysModules)=false∧∃ vs,KV kvs vs∧h.DictOf (zIl P w) a vs
 | .dT kvs=>kvs.length≤sizeLine∧(a==sysModules)=false∧∃ xs:List (List Key×Addr×Value),
   Paired (fun(p:List Key×V) (q:List Key×Addr×Value)=>p.1=q.1∧H q.2.1=some (.tup (p.1.map kV))∧RelV p.2 q.2.2) kvs xs ∧
   ∃ o es ep,h.get? a=some o∧o.ExactDict∧o.data=.dict es ep∧es.toList=xs.map (entryOfKey (tupleKind (zIl P w)))∧(xs.map (·.1)).Nodup
 | .set S n=>h.SetOf (intKind P w) a S n
 | .ins C dx fs=>H dx=some (.own a)∧fs.length≤1000∧dx≠a∧h.get? a=some (PySem.W.instObj C dx) ∧
   ∃ mA,h.Ns1 dx mA∧(∀ f,zOl (fs.lookup f) (mA f))∧PySem.Within mA (fs.map (·.1))
 | .own _=>∃ o,h.get? a=some o
 | .xd fs=>∃ mA,h.Ns1 a mA∧∀ f,zOl (fs.lookup f) (mA f)
 | .rng lo hi=>∃ t u v,h.get? a=some { cls:=.type "range",data:=.fields #[.int lo t,.int hi u,.int 1 v] }
 | .frz o u=>h.get? a=some o∧wL H h a u
 | .tbl ps=>∃(q:Str) (t:Tok) (vs:Array Value),ps=#[.str q t]∧h.get? a=some (PySem.W.tabObj vs)∧TriplesOk vs.toList∧∀(pos:Pos) (cv:Value),codeAmong pos vs.toList=some cv →
   ∃(c:Addr) (o:Obj) (us:Array Value) (t':Tok),cv=.ref c∧H c=some (.frz o (.own 0))∧o.data=.fields us∧us[1]?=some (.str q t')
 | .met f x=>h.get? a=some (PySem.W.methodObj (.ref f) (.ref x))
 | .ext φ=>φ h∧(∃ o,h.get? a=some o)∧∀ h1 h2:Heap,φ h1→(∀ o,h1.get? a=some o→h2.get? a=some o)→φ h2
noncomputable def HOk(H:Hp)(h:Heap):Prop:=∀ a o,H a=some o→wL P w H h a o
end
section
variable {P:Program} {w:World} {H H':Hp} {h h':Heap} {a:Addr} {o:HO}
theorem wL.lt(x:wL P w H h a o):a<h.objs.size:=by
 cases o with
 | lst xs=>obtain⟨u0,u0,u0,u0,e⟩:=x;exact Heap.lt_size e
 | tup xs=>obtain⟨u0,u0,u0,p⟩:=x;exact p.lt
 | dK kvs=>obtain⟨u0,u0,u0,u0,o,u0,u0,e,u0⟩:=x;exact Heap.lt_size e
 | dT kvs=>obtain⟨u0,u0,u0,u0,o,u0,u0,e,u0⟩:=x;exact Heap.lt_size e
 | set S n=>obtain⟨o,u0,u0,u0,e,u0⟩:=x;exact Heap.lt_size e
 | ins C dx fs=>obtain⟨u0,u0,u0,e,u0⟩:=x;exact Heap.lt_size e
 | own y=>obtain⟨u0,e⟩:=x;exact Heap.lt_size e
 | xd fs=>obtain⟨u0,⟨u0,u0,u0,e,u0⟩,u0⟩:=x;exact Heap.lt_size e
 | rng lo hi=>obtain⟨u0,u0,u0,e⟩:=x;exact Heap.lt_size e
 | frz ob u=>obtain⟨e,u0⟩:=x;exact Heap.lt_size e
 | tbl ps=>obtain⟨u0,u0,u0,u0,e,u0⟩:=x;exact Heap.lt_size e
 | met f y=>exact Heap.lt_size (show h.get? a=some _ from x)
 | ext φ=>obtain⟨u0,⟨u0,e⟩,u0⟩:=x;exact Heap.lt_size e
theorem Paired.mapP{α β:Type}{F G:α→β→Prop}:∀ {l₁:List α} {l₂:List β},Paired F l₁ l₂→(∀ a b,F a b→G a b)→Paired G l₁ l₂
 | _,_,.nil,_=>.nil
 | _,_,.cons r t,f=>.cons (f _ _ r) (Paired.mapP t f)
theorem wL.stay(x:wL P w H h a o)(k:∀ b u,(b=a∨H b=some (.own a))→h.get? b=some u→h'.get? b=some u)
  (ho:∀ b,H b=some (.own a)→H' b=some (.own a)) (ht:∀ b xs,H b=some (.tup xs)→H' b=some (.tup xs)) (hz:∀ b o u,H b=some (.frz o u)→H' b=some (.frz o u)):wL P w H' h' a o:=by
 induction o with
 | lst xs=>obtain⟨z,its,n,r,e⟩:=x;exact⟨z,its,n,r,k _ _ (.inl rfl) e⟩
 | tup xs=>obtain⟨z,its,r,ob,e,c⟩:=x;exact⟨z,its,r,ob,k _ _ (.inl rfl) e,c⟩
 | dK kvs=>obtain⟨z,y,vs,r,ob,es,ep,e,c⟩:=x;exact⟨z,y,vs,r,ob,es,ep,k _ _ (.inl rfl) e,c⟩
 | dT kvs =>
  obtain⟨z,y,xs,r,ob,es,ep,e,c⟩:=x
  exact⟨z,y,xs,Paired.mapP r fun p q z=>⟨z.1,ht _ _ z.2.1,z.2.2⟩,ob,es,ep,k _ _ (.inl rfl) e,c⟩
 | set S n=>obtain⟨ob,es,ep,t,e,c⟩:=x;exact⟨ob,es,ep,t,k _ _ (.inl rfl) e,c⟩
 | ins C dx fs =>
  obtain⟨d,z,ne,e,mA,⟨od,es,ep,e2,c⟩,r⟩:=x
  exact⟨ho _ d,z,ne,k _ _ (.inl rfl) e,mA,⟨od,es,ep,k _ _ (.inr d) e2,c⟩,r⟩
 | own y=>obtain⟨ob,e⟩:=x;exact⟨ob,k _ _ (.inl rfl) e⟩
 | xd fs=>obtain⟨mA,⟨od,es,ep,e,c⟩,r⟩:=x;exact⟨mA,⟨od,es,ep,k _ _ (.inl rfl) e,c⟩,r⟩
 | rng lo hi=>obtain⟨t,u,v,e⟩:=x;exact⟨t,u,v,k _ _ (.inl rfl) e⟩
 | frz ob u ih=>obtain⟨e,q⟩:=x;exact⟨k _ _ (.inl rfl) e,ih q⟩
 | tbl ps =>
  obtain⟨q,t,vs,e0,e,e1,e2⟩:=x
  refine⟨q,t,vs,e0,k _ _ (.inl rfl) e,e1,fun pos cv z=>?_⟩
  obtain⟨c,oc,us,t',z1,z2,z3⟩:=e2 pos cv z
  exact⟨c,oc,us,t',z1,hz _ _ _ z2,z3⟩
 | met f y =>
  have e:h.get? a=some (PySem.W.methodObj (.ref f) (.ref y)):=x
  show h'.get? a=some (PySem.W.methodObj (.ref f) (.ref y))
  exact k a _ (.inl rfl) e
 | ext φ=>obtain⟨p,⟨o,e⟩,st⟩:=x;exact⟨st _ _ p fun o q=>k _ _ (.inl rfl) q,⟨o,k _ _ (.inl rfl) e⟩,st⟩
theorem HOk.lt(x:HOk P w H h)(e:H a=some o):a<h.objs.size:=(x a o e).lt
theorem HOk.fresh(x:HOk P w H h)(e:h.objs.size≤a):H a=none:=by
 cases q:H a with
 | none=>rfl
 | some u=>exact absurd (Nat.lt_of_lt_of_le (x.lt q) e) (Nat.lt_irrefl _)
theorem HOk.kept(x:HOk P w H h)(k:∀ b u,h.get? b=some u→h'.get? b=some u):HOk P w H h':=fun a o e =>
 (x a o e).stay (fun b u u0 q=>k b u q) (fun u0 q=>q) (fun u0 u0 q=>q) fun u0 u0 u0 q=>q
theorem HOk.laid(x:HOk P w H h)(k:∀ b u,h.get? b=some u→h'.get? b=some u)(hp:h.objs.size≤a)(new:wL P w (yp H a o) h' a o):HOk P w (yp H a o) h':=fun b u e=>by
 have hn:=x.fresh hp
 by_cases hb:b=a
 ·subst hb;rw[zj] at e;cases e;exact new
 ·rw[yF hb] at e
  exact(x b u e).stay (fun c v u0 q=>k c v q) (fun c q=>by rw[yF (yh q hn)];exact q) (fun c xs q=>by rw[yF (yh q hn)];exact q) fun c oo u q=>by rw[yF (yh q hn)];exact q
end
noncomputable def Rd(H:Hp)(a:Addr)(u:HO):Prop:=H a=some u∨∃ o,H a=some (.frz o u)
theorem Rd.of{H:Hp}{a:Addr}{u:HO}(h:H a=some u):Rd H a u:=.inl h
theorem Rd.ok{P:Program}{w:World}{H:Hp}{h:Heap}{a:Addr}{u:HO}(r:Rd H a u)(x:HOk P w H h):wL P w H h a u:=by
 rcases r with r | ⟨o,r⟩
 ·exact x a u r
 ·obtain⟨u0,q⟩:=x a _ r
  exact q
noncomputable def Mut:Option HO→Prop
 | some (.lst _)=>True
 | some (.dK _)=>True
 | some (.dT _)=>True
 | some (.set _ _)=>True
 | some (.ins _ _ _)=>True
 | some (.ext _)=>True
 | _=>False
section
variable {P:Program} {w:World} {H:Hp} {h h':Heap} {x e:Addr} {o':HO}
theorem HOk.write(ok:HOk P w H h)(mu:Mut (H x))(he:e=x∨H e=some (.own x))(k:∀ b u,b≠e→h.get? b=some u→h'.get? b=some u)(heo:∃ u,h'.get? e=some u)
  (new:wL P w (yp H x o') h' x o'):HOk P w (yp H x o') h':=fun b u q=>by
 have nown:∀ c y,H c=some (.own y)→c≠x:=fun c y r z=>by subst z;rw[r] at mu;exact mu
 have ntup:∀ c xs,H c=some (.tup xs)→c≠x:=fun c xs r z=>by subst z;rw[r] at mu;exact mu
 have nfrz:∀ c oo u,H c=some (.frz oo u)→c≠x:=fun c oo u r z=>by subst z;rw[r] at mu;exact mu
 by_cases hb:b=x
 ·subst hb;rw[zj] at q;cases q;exact new
 ·rw[yF hb] at q
  by_cases hbe:b=e
  ·have q':H b=some (.own x):=by
    rcases he with z | z
    ·exact absurd (hbe.trans z) hb
    ·rw[hbe];exact z
   rw[q] at q';cases q'
   obtain⟨v,hv⟩:=heo
   exact⟨v,by rw[hbe];exact hv⟩
  ·refine(ok b u q).stay (fun c v hc r=>k c v ?_ r) (fun c r=>by rw[yF (nown c b r)];exact r) (fun c xs r=>by rw[yF (ntup c xs r)];exact r) fun c oo u r=>by rw[yF (nfrz c oo u r)];exact r
   rcases hc with rfl | hc
   ·exact hbe
   ·rintro rfl
    rcases he with z | z
    ·exact nown c b hc z
    ·rw[hc] at z;cases z;exact hb rfl
end
set_option genInjectivity false in
structure Un (fs ex:List Addr) (H H':Hp) (h h':Heap):Prop where
 keep:∀ b o,h.get? b=some o→H b=none→b∉fs→b∉ex→h'.get? b=some o
 slot:∀ b o,h.get? b=some o→H b=none→b∈fs→b∉ex→∃ sl,h'.get? b=some { o with slots:=sl }
 free:∀ b o,h.get? b=some o→H b=none→b∉ex→H' b=none
 there:∀ b o,h.get? b=some o→b∉ex→∃ o',h'.get? b=some o'
 tups:∀ b xs,H b=some (.tup xs)→H' b=some (.tup xs)
 frzs:∀ b o u,H b=some (.frz o u)→H' b=some (.frz o u)
 tbls:∀ b ps,H b=some (.tbl ps)→H' b=some (.tbl ps)
section
variable {fs fs' ex ex':List Addr} {H H1 H2:Hp} {h h1 h2 h':Heap} {a x e:Addr} {o:HO}
theorem Un.any(u:Un fs ex H H1 h h1){b:Addr}{ob:Obj}(q:h.get? b=some ob)(n:H b=none)(hx:b∉ex):∃ sl,h1.get? b=some { ob with slots:=sl }:=by
 by_cases hb:b∈fs
 ·exact u.slot b ob q n hb hx
 ·exact⟨ob.slots,u.keep b ob q n hb hx⟩
theorem Un.kept(k:∀ b u,h.get? b=some u→h'.get? b=some u):Un fs ex H H h h' :=
 ⟨fun b ob q u0 u0 u0=>k b ob q,fun b ob q u0 u0 u0=>⟨ob.slots,k b ob q⟩,fun u0 u0 u0 n u0=>n,fun b ob q u0=>⟨ob,k b ob q⟩,fun u0 u0 q=>q,fun u0 u0 u0 q=>q,fun u0 u0 q=>q⟩
theorem Un.refl:Un fs ex H H h h:=Un.kept fun u0 u0 q=>q
theorem Un.laid(k:∀ b u,h.get? b=some u→h'.get? b=some u)(hp:h.objs.size≤a)(hn:H a=none):Un fs ex H (yp H a o) h h' where
 keep:=fun b u q u0 u0 u0=>k b u q
 slot:=fun b u q u0 u0 u0=>⟨u.slots,k b u q⟩
 free:=fun b u q n u0=>by rw[yF (Nat.ne_of_lt (Nat.lt_of_lt_of_le (Heap.lt_size q) hp))];exact n
 there:=fun b u q u0=>⟨u,k b u q⟩
 tups:=fun b xs q=>by rw[yF (yh q hn)];exact q
 frzs:=fun b u xs q=>by rw[yF (yh q hn)];exact q
 tbls:=fun b ps q=>by rw[yF (yh q hn)];exact q
theorem Un.write(mu:Mut (H x))(he:e=x∨H e=some (.own x))(k:∀ b u,b≠e→h.get? b=some u→h'.get? b=some u)(heo:∃ u,h'.get? e=some u):Un fs ex H (yp H x o) h h':=by
 have hx:∀ b,H b=none→b≠x:=fun b n z=>by subst z;rw[n] at mu;exact mu
 have hb:∀ b,H b=none→b≠e:=fun b n z=>by
  subst z
  rcases he with r | r
  ·exact hx b n r
  ·rw[n] at r;cases r
 have hm:∀ b u,H b=some u→¬ Mut (some u)→b≠x:=fun b u q nm z=>by subst z;rw[q] at mu;exact nm mu
 refine⟨fun b u q n u0 u0=>k b u (hb b n) q,fun b u q n u0 u0=>⟨u.slots,k b u (hb b n) q⟩,fun b u q n u0=>by rw[yF (hx b n)];exact n,fun b u q u0=>?_,
  fun b xs q=>by rw[yF (hm b _ q fun z=>z)];exact q,fun b u xs q=>by rw[yF (hm b _ q fun z=>z)];exact q,fun b ps q=>by rw[yF (hm b _ q fun z=>z)];exact q⟩
 by_cases hbe:b=e
 ·subst hbe;exact heo
 ·exact⟨u,k b u hbe q⟩
end
noncomputable def trk(h:Heap)(H:Hp):List Addr:=(List.range h.objs.size).filter fun a=>(H a).isSome
noncomputable def zFO(h:Heap)(H:Hp):Heap:=PySem.W.hideAll h (trk h H)
theorem zJc(h:Heap)(H:Hp):(zFO h H).objs.size=h.objs.size:=PySem.W.hideAll_size _ _
theorem zK2{h:Heap}{H:Hp}{b:Addr}{o:Obj}(e:h.get? b=some o)(n:H b=none):(zFO h H).get? b=some o :=
 PySem.W.hideAll_get _ e fun hm=>by
  have q:(H b).isSome=true:=(List.mem_filter.mp hm).2
  rw[n] at q;simp at q
theorem zM8{h:Heap}{H:Hp}{b:Addr}{o:Obj}(e:(zFO h H).get? b=some o):h.get? b=some o∧H b=none:=by
 have e':h.get? b=some o:=PySem.W.of_hideAll (trk h H) e
 refine⟨e',?_⟩
 cases q:H b with
 | none=>rfl
 | some x =>
  have hm:b∈trk h H:=List.mem_filter.mpr ⟨List.mem_range.mpr (Heap.lt_size e'),by simp[q]⟩
  have z:(zFO h H).get? b=none:=PySem.W.hideAll_none (trk h H) hm
  rw[z] at e;cases e
noncomputable def zM9(g h:Heap)(L:Addr):List (Addr×Obj):=(List.range h.objs.size).filterMap fun a=>if a=L∨(g.get? a).isSome=true then none else (h.get? a).map fun o=>(a,o)
noncomputable def rest(g h:Heap)(L d:Addr):List (Addr×Obj):=(zM9 g h L).filter fun p=>decide (p.1≠d)
end L2
namespace L2
open PySem PySem.Spec PyProof.Rows
set_option genInjectivity false in
structure Mod (K:PySem.W.Frag) (mg:Str→Option Value) (base:Heap):Prop where
 kin:K.In base
 glob:base.Ns mainGlobals mg
 blt:∃ mb,base.Ns builtinsNs mb∧∀ x:Str,x≠"__name__"→mb x=bootBuiltins x
 nolimit:base.NoLimit
set_option genInjectivity false in
structure Cx where
 prog:Program
 w:World
 K:PySem.W.Frag
 mg:Str→Option Value
 base:Heap
 A:Around
 N:List Str
 s₀:Shared
 H₀:Hp
 env:Env
 outer:List Env
 stack:List Env
 ex:List Addr
 fn:Str→Bool
 calm:Bool
 pn:List (Addr×Obj)
 xe:Value→Shared→Prop
noncomputable def frs(l:List Env):List Addr:=l.filterMap (·.frame)
noncomputable abbrev Cx.fs(X:Cx):List Addr:=frs X.outer
noncomputable def Vis(sc:Scope)(x:Str):Prop:=sc.names.lookup x=some .local∨sc.names.lookup x=some .cell∨sc.names.lookup x=some .free
noncomputable def Loc(sc:Scope)(x:Str):Prop:=sc.names.lookup x=some .local∨sc.names.lookup x=some .cell
noncomputable def Look(env:Env)(h:Heap)(m:Str→Option Value)(x:Str)(u:Value):Prop :=
 (env.kindOf x=some .local∧m x=some u)∨((env.kindOf x=some .cell∨env.kindOf x=some .free)∧∃ c,env.cells.lookup x=some c∧h.IsCell c (some u))
noncomputable def zBj:List Str:=["law","_law_parted_right"]
noncomputable def TabsOk(K:PySem.W.Frag)(H:Hp):Prop:=∀ x∈zBj,∀ c b,PySem.W.tabIn K x=some (c,b)→∃ t,H b=some (.tbl #[.str (x++".<locals>.<lambda>") t])
set_option genInjectivity false in
structure Cx.Ok (X:Cx):Prop where
 mod:Mod X.K X.mg X.base
 kind:X.env.scope.kind=.function
 glob:X.env.globals=mainGlobals
 blt:X.env.builtins=builtinsNs
 above:X.s₀.heap.objs.size≤X.env.locals
 inj:∀ x y c,X.env.cells.lookup x=some c→X.env.cells.lookup y=some c→x=y
 has:∀ x,(X.env.kindOf x=some .cell∨X.env.kindOf x=some .free)→∃ c,X.env.cells.lookup x=some c
 cab:∀ x c,X.fn x=true→X.env.cells.lookup x=some c→X.s₀.heap.objs.size≤c
 hd:X.calm=true→X.A.handled=none
 frames:X.A.frames=some X.stack
 stk:X.stack=X.outer∨(X.stack=X.env::X.outer∧X.env.frame=some X.env.locals)
 exf:∀ b∈X.ex,b≠X.env.locals∧∀ x c,X.env.cells.lookup x=some c→c≠b
 bs:∀ b o,X.base.get? b=some o→X.s₀.heap.get? b=some o∧X.H₀ b=none
 bsz:X.base.objs.size≤X.s₀.heap.objs.size
 noex:∀ b o,X.base.get? b=some o→b∉X.ex
 exfs:∀ b∈X.ex,b∉X.fs
 funs:X.s₀.heap.FunFrames X.base X.outer
 frf:∀ b∈X.fs,X.H₀ b=none
 tb:TabsOk X.K X.H₀
set_option genInjectivity false in
structure zV (X:Cx) (pins:List (Addr×Obj)) (σ:List (Option V)) (H:Hp) (s:Shared):Prop where
 ok:X.Ok
 os:s.os=X.s₀.os
 bare:AllBare s.gens
 base:Un X.fs X.ex X.H₀ H X.s₀.heap s.heap
 loc:∃ m,s.heap.Ns X.env.locals m∧∀(i:Nat) (x:Str) (v:V),X.N[i]?=some x→σ[i]?=some (some v)→Vis X.env.scope x→∃ u,RelV v u∧Look X.env s.heap m x u
 cell:∀ x c,X.env.cells.lookup x=some c→∃ v,s.heap.IsCell c v
 free:H X.env.locals=none
 freeC:∀ x c,X.env.cells.lookup x=some c→H c=none
 pin:∀ p∈X.pn++pins,s.heap.get? p.1=some p.2∧H p.1=none∧p.1≠X.env.locals∧p.1∉X.fs∧∀ v,p.2.data≠.cell v
 hok:HOk X.prog X.w H s.heap
 len:σ.length=X.N.length
section
variable {X:Cx} {pins:List (Addr×Obj)} {σ:List (Option V)} {H H':Hp} {s:Shared} {h':Heap}
theorem Cx.Ok.nofr(ok:X.Ok){b:Addr}{o:Obj}(e:X.base.get? b=some o):b∉X.fs:=fun hb=>by
 have:=(ok.funs.mem hb).1
 rw[e] at this;cases this
theorem zV.bs(I:zV X pins σ H s):∀ b o,X.base.get? b=some o→s.heap.get? b=some o∧H b=none:=fun b o e =>
 ⟨I.base.keep b o (I.ok.bs b o e).1 (I.ok.bs b o e).2 (I.ok.nofr e) (I.ok.noex b o e),I.base.free b o (I.ok.bs b o e).1 (I.ok.bs b o e).2 (I.ok.noex b o e)⟩
theorem zV.bk(I:zV X pins σ H s):∀ b o,X.base.get? b=some o→s.heap.get? b=some o:=fun b o e=>(I.bs b o e).1
theorem zV.mod(I:zV X pins σ H s):Mod X.K X.mg X.base:=I.ok.mod
theorem zV.tabs(I:zV X pins σ H s):TabsOk X.K H:=fun x hx c b e=>by
 obtain⟨t,q⟩:=I.ok.tb x hx c b e
 exact⟨t,I.base.tbls b _ q⟩
theorem zV.kIn(I:zV X pins σ H s):X.K.In s.heap:=I.ok.mod.kin.keeps I.bk
theorem zV.nolimit(I:zV X pins σ H s):s.heap.NoLimit:=I.ok.mod.nolimit.keeps I.bk
theorem zV.lt(I:zV X pins σ H s):X.env.locals<s.heap.objs.size:=let ⟨_,hn,_⟩:=I.loc;hn.lt
theorem zV.sz(I:zV X pins σ H s):X.s₀.heap.objs.size≤s.heap.objs.size:=Nat.le_trans I.ok.above (Nat.le_of_lt I.lt)
theorem zV.nofs(I:zV X pins σ H s){a:Addr}(h:s.heap.objs.size≤a):a∉X.fs:=fun hb=>by
 obtain⟨u0,o,ho,u0⟩:=I.ok.funs.mem hb
 exact absurd (Nat.lt_of_lt_of_le (Heap.lt_size ho) (Nat.le_trans I.sz h)) (Nat.lt_irrefl _)
theorem zV.cne(I:zV X pins σ H s):∀ x c,X.env.cells.lookup x=some c→c≠X.env.locals:=fun x c e z=>by
 obtain⟨v,o,ho,hd⟩:=I.cell x c e
 obtain⟨m,⟨o',es,ep,ho',hd',u0⟩,u0⟩:=I.loc
 rw[z,ho'] at ho;cases ho;rw[hd'] at hd;cases hd
theorem zV.funs(I:zV X pins σ H s):s.heap.FunFrames X.base X.outer:=by
 have all:∀(l:List Env),(∀ b∈frs l,b∈X.fs)→X.s₀.heap.FunFrames X.base l→s.heap.FunFrames X.base l:=by
  intro l
  induction l with
  | nil=>intro u0 u0;trivial
  | cons env r ih =>
   intro hs hl
   obtain⟨hk,⟨L,o,hf,hn,ho,hd⟩,hr⟩:=hl
   have hL:L∈X.fs:=hs L (by unfold frs;rw[List.filterMap_cons,hf];exact List.mem_cons_self)
   obtain⟨sl,e⟩:=I.base.slot L o ho (I.ok.frf L hL) hL fun z=>I.ok.exfs L z hL
   exact⟨hk,⟨L,_,hf,hn,e,hd⟩,ih (fun b hb=>hs b (by unfold frs;rw[List.filterMap_cons,hf];exact List.mem_cons_of_mem _ hb)) hr⟩
 exact all X.outer (fun u0 hb=>hb) I.ok.funs
theorem zV.stack(I:zV X pins σ H s):s.heap.FunFrames X.base X.stack:=by
 rcases I.ok.stk with e | ⟨e,hf⟩
 ·rw[e];exact I.funs
 ·rw[e]
  obtain⟨m,hn,u0⟩:=I.loc
  refine .cons (by rw[I.ok.kind];decide) hf hn ?_ I.funs
  exact Heap.get?_none_of_le (Nat.le_trans I.ok.bsz I.ok.above)
theorem zV.stkSub(I:zV X pins σ H s):∀ b∈frs X.stack,b∈X.env.locals::X.fs:=fun b hb=>by
 rcases I.ok.stk with e | ⟨e,hf⟩
 ·rw[e] at hb;exact List.mem_cons_of_mem _ hb
 ·rw[e] at hb
  unfold frs at hb
  rw[List.filterMap_cons,hf] at hb
  exact hb
theorem zV.stkFree(I:zV X pins σ H s):∀ b∈frs X.stack,H b=none:=fun b hb=>by
 rcases List.mem_cons.mp (I.stkSub b hb) with e | hb
 ·rw[e];exact I.free
 ·obtain⟨u0,o,ho,u0⟩:=I.ok.funs.mem hb
  exact I.base.free b o ho (I.ok.frf b hb) fun z=>I.ok.exfs b z hb
theorem zV.step{g':Array GenState}{t':Nat}{d':Drawn}{ch:List Addr}(I:zV X pins σ H s)
  (hch:∀ b∈ch,(b∈X.ex∨X.s₀.heap.objs.size≤b)∧b≠X.env.locals∧(∀ x c,X.env.cells.lookup x=some c→c≠b)∧∀ p∈X.pn++pins,p.1≠b)
  (keep:∀ b o,b≠X.env.locals→b∉X.fs→b∉ch→s.heap.get? b=some o→H b=none→h'.get? b=some o)
  (slot:∀ b o,b≠X.env.locals→b∈X.fs→b∉ch→s.heap.get? b=some o→H b=none→∃ sl,h'.get? b=some { o with slots:=sl }) (free:∀ b o,b∉ch→s.heap.get? b=some o→H b=none→H' b=none)
  (there:∀ b o,b∉ch→s.heap.get? b=some o→∃ o',h'.get? b=some o')
  (tups:∀ b xs,H b=some (.tup xs)→H' b=some (.tup xs)) (frzs:∀ b o u,H b=some (.frz o u)→H' b=some (.frz o u)) (tbls:∀ b ps,H b=some (.tbl ps)→H' b=some (.tbl ps))
  (ns:∀ m,s.heap.Ns X.env.locals m→h'.Ns X.env.locals m) (hok:HOk X.prog X.w H' h') (hg:AllBare g') :
  zV X pins σ H' { s with heap:=h',gens:=g',drawn:=d',toks:=t' }:=by
 have neL:∀ b o,X.s₀.heap.get? b=some o→b≠X.env.locals:=fun b o e=>Nat.ne_of_lt (Nat.lt_of_lt_of_le (Heap.lt_size e) I.ok.above)
 have neC:∀ b o,X.s₀.heap.get? b=some o→b∉X.ex→b∉ch:=fun b o e hx hb=>by
  rcases(hch b hb).1 with z | z
  ·exact hx z
  ·exact absurd (Nat.lt_of_lt_of_le (Heap.lt_size e) z) (Nat.lt_irrefl _)
 have cellK:∀ x c,X.env.cells.lookup x=some c→∀ v,s.heap.IsCell c v→h'.IsCell c v:=fun x c e v ⟨o,ho,hd⟩=>by
  have nch:c∉ch:=fun z=>(hch c z).2.2.1 x c e rfl
  by_cases hc:c∈X.fs
  ·obtain⟨sl,q⟩:=slot c o (I.cne x c e) hc nch ho (I.freeC x c e)
   exact⟨_,q,hd⟩
  ·exact⟨o,keep c o (I.cne x c e) hc nch ho (I.freeC x c e),hd⟩
 refine⟨I.ok,I.os,hg,⟨fun b o e n hb hx=>?_,fun b o e n hb hx=>?_,fun b o e n hx=>?_,fun b o e hx=>?_,fun b xs e=>tups b xs (I.base.tups b xs e),fun b o xs e=>frzs b o xs (I.base.frzs b o xs e),fun b ps e=>?_⟩,?_,fun x c e=>?_,?_,fun x c e=>?_,fun p hp=>?_,hok,I.len⟩
 ·exact keep b o (neL b o e) hb (neC b o e hx) (I.base.keep b o e n hb hx) (I.base.free b o e n hx)
 ·obtain⟨sl,e1⟩:=I.base.slot b o e n hb hx
  obtain⟨sl',e2⟩:=slot b _ (neL b o e) hb (neC b o e hx) e1 (I.base.free b o e n hx)
  exact⟨sl',e2⟩
 ·obtain⟨o',e1⟩:=I.base.there b o e hx
  exact free b o' (neC b o e hx) e1 (I.base.free b o e n hx)
 ·obtain⟨o',e1⟩:=I.base.there b o e hx
  exact there b o' (neC b o e hx) e1
 ·exact tbls b _ (I.base.tbls b ps e)
 ·obtain⟨m,hn,hl⟩:=I.loc
  refine⟨m,ns m hn,fun i x v e1 e2 e3=>?_⟩
  obtain⟨u,r,l⟩:=hl i x v e1 e2 e3
  refine⟨u,r,?_⟩
  rcases l with l | ⟨k,c,e,z⟩
  ·exact .inl l
  ·exact .inr ⟨k,c,e,cellK x c e _ z⟩
 ·obtain⟨v,z⟩:=I.cell x c e
  exact⟨v,cellK x c e v z⟩
 ·obtain⟨m,⟨o,u0,u0,ho,u0⟩,u0⟩:=I.loc
  exact free _ o (fun z=>(hch _ z).2.1 rfl) ho I.free
 ·obtain⟨v,o,ho,hd⟩:=I.cell x c e
  exact free c o (fun z=>(hch c z).2.2.1 x c e rfl) ho (I.freeC x c e)
 ·obtain⟨e,n,ne,nf,d⟩:=I.pin p hp
  have nch:p.1∉ch:=fun z=>(hch p.1 z).2.2.2 p hp rfl
  exact⟨keep p.1 p.2 ne nf nch e n,free p.1 p.2 nch e n,ne,nf,d⟩
theorem zV.un{t':Nat}(I:zV X pins σ H s)(u:Un X.fs [] H H' s.heap h')(hok:HOk X.prog X.w H' h'):zV X pins σ H' { s with heap:=h',toks:=t' }:=by
 obtain⟨m,⟨o,es,ep,ho,r⟩,u0⟩:=id I.loc
 obtain⟨sl,hL⟩:=u.any ho I.free (by simp)
 exact I.step (g':=s.gens) (d':=s.drawn) (ch:=[]) (fun u0 z=>nomatch z) (fun b o u0 hb u0 e n=>u.keep b o e n hb (by simp)) (fun b o u0 hb u0 e n=>u.slot b o e n hb (by simp)) (fun b o u0 e n=>u.free b o e n (by simp)) (fun b o u0 e=>u.there b o e (by simp)) u.tups u.frzs u.tbls (fun m' hm=>by
  obtain⟨o',es',ep',ho',r'⟩:=hm
  rw[ho] at ho';cases ho'
  exact⟨_,es',ep',hL,r'⟩) hok I.bare
theorem zV.call{g':Array GenState}{t':Nat}{d':Drawn}{ch:List Addr}(I:zV X pins σ H s)(u:Un (frs X.stack) ch H H' s.heap h')(hok:HOk X.prog X.w H' h')(hg:AllBare g')
  (hch:∀ b∈ch,(b∈X.ex∨X.s₀.heap.objs.size≤b)∧b≠X.env.locals∧(∀ x c,X.env.cells.lookup x=some c→c≠b)∧∀ p∈X.pn++pins,p.1≠b) :
  zV X pins σ H' { s with heap:=h',gens:=g',drawn:=d',toks:=t' }:=by
 obtain⟨m,⟨o,es,ep,ho,r⟩,u0⟩:=id I.loc
 obtain⟨sl,hL⟩:=u.any ho I.free fun z=>(hch _ z).2.1 rfl
 exact I.step (ch:=ch) hch (fun b o hL hb hc e n=>u.keep b o e n (fun z=>(List.mem_cons.mp (I.stkSub b z)).elim hL hb) hc) (fun b o u0 u0 hc e n=>u.any e n hc) (fun b o hc e n=>u.free b o e n hc) (fun b o hc e=>u.there b o e hc) u.tups u.frzs u.tbls (fun m' hm=>by
  obtain⟨o',es',ep',ho',r'⟩:=hm
  rw[ho] at ho';cases ho'
  exact⟨_,es',ep',hL,r'⟩) hok hg
theorem zV.turned{t':Nat}{it:Addr}(I:zV X pins σ H s)(k:∀ b o,b≠it→s.heap.get? b=some o→h'.get? b=some o)(hn:H it=none)(hL:it≠X.env.locals)
  (h1:it∈X.ex∨X.s₀.heap.objs.size≤it) (h2:∀ x c,X.env.cells.lookup x=some c→c≠it) (h3:∀ p∈X.pn++pins,p.1≠it):zV X pins σ H { s with heap:=h',toks:=t' }:=by
 have nit:∀ b u,H b=some u→b≠it:=fun b u e z=>by rw[z,hn] at e;cases e
 refine I.step (g':=s.gens) (d':=s.drawn) (ch:=[it]) (fun b hb=>?_) (fun b o u0 u0 hc e u0=>k b o (fun z=>hc (by simp[z])) e) (fun b o u0 u0 hc e u0=>⟨o.slots,k b o (fun z=>hc (by simp[z])) e⟩) (fun u0 u0 u0 u0 n=>n)
  (fun b o hc e=>⟨o,k b o (fun z=>hc (by simp[z])) e⟩) (fun u0 u0 e=>e) (fun u0 u0 u0 e=>e) (fun u0 u0 e=>e) (fun m hm=>?_) (fun b u e=>?_) I.bare
 ·have e:b=it:=by simpa using hb
  subst e
  exact⟨h1,hL,h2,h3⟩
 ·obtain⟨o,es,ep,ho,r⟩:=hm
  exact⟨o,es,ep,k _ o (Ne.symm hL) ho,r⟩
 ·refine(I.hok b u e).stay (fun c v hc q=>k c v ?_ q) (fun u0 q=>q) (fun u0 u0 q=>q) fun u0 u0 u0 q=>q
  rcases hc with z | z
  ·rw[z];exact nit b u e
  ·exact nit c _ z
theorem zV.tok(I:zV X pins σ H s)(t:Nat):zV X pins σ H { s with toks:=t }:=I.un (h':=s.heap) (t':=t) Un.refl I.hok
theorem zV.kept{t':Nat}(I:zV X pins σ H s)(k:∀ b u,s.heap.get? b=some u→h'.get? b=some u):zV X pins σ H { s with heap:=h',toks:=t' }:=I.un (Un.kept k) (I.hok.kept k)
theorem zV.laid{a:Addr}{o:HO}{t':Nat}(I:zV X pins σ H s)(k:∀ b u,s.heap.get? b=some u→h'.get? b=some u)(hp:s.heap.objs.size≤a)(new:wL X.prog X.w (yp H a o) h' a o) :
  zV X pins σ (yp H a o) { s with heap:=h',toks:=t' }:=I.un (Un.laid k hp (I.hok.fresh hp)) (I.hok.laid k hp new)
theorem zV.write{x e:Addr}{o:HO}{t':Nat}(I:zV X pins σ H s)(mu:Mut (H x))(he:e=x∨H e=some (.own x))(k:∀ b u,b≠e→s.heap.get? b=some u→h'.get? b=some u)(heo:∃ u,h'.get? e=some u)
  (new:wL X.prog X.w (yp H x o) h' x o):zV X pins σ (yp H x o) { s with heap:=h',toks:=t' }:=I.un (Un.write mu he k heo) (I.hok.write mu he k heo new)
theorem zV.weak{σ':List (Option V)}(I:zV X pins σ H s)(hl:σ'.length=σ.length)(w:∀(i:Nat) v,σ'[i]?=some (some v)→σ[i]?=some (some v)):zV X pins σ' H s :=
 ⟨I.ok,I.os,I.bare,I.base,let ⟨m,hn,hl'⟩:=I.loc;⟨m,hn,fun i x v e1 e2 e3=>hl' i x v e1 (w i v e2) e3⟩,I.cell,I.free,I.freeC,I.pin,I.hok,hl.trans I.len⟩
theorem zV.pins_of{pins':List (Addr×Obj)}(I:zV X pins σ H s)(h:∀ p∈pins',s.heap.get? p.1=some p.2∧H p.1=none∧p.1≠X.env.locals∧p.1∉X.fs∧∀ v,p.2.data≠.cell v):zV X pins' σ H s :=
 ⟨I.ok,I.os,I.bare,I.base,I.loc,I.cell,I.free,I.freeC,fun p hp=>(List.mem_append.mp hp).elim (fun z=>I.pin p (List.mem_append_left _ z)) (h p),I.hok,I.len⟩
theorem zEZ{N:List Str}(hN:N.Nodup){i j:Nat}{x:Str}(a:N[i]?=some x)(b:N[j]?=some x):i=j:=by
 obtain⟨h1,e1⟩:=List.getElem?_eq_some_iff.mp a
 obtain⟨h2,e2⟩:=List.getElem?_eq_some_iff.mp b
 exact(List.getElem_inj hN).mp (e1.trans e2.symm)
theorem zDg{M:Model}{A:Around}{E:Value→Shared→Prop}{i:Nat}{x:Str}{v:V}{u:Value}{Q:Unit→Shared→Prop}(I:zV X pins σ H s)(hN:X.N.Nodup)(hi:X.N[i]?=some x)(hx:Loc X.env.scope x)(r:RelV v u)
  (h:∀ s',zV X pins (σ.set i (some v)) H s'→(∃ a,Heap.SameBut a s.heap s'.heap∧(a=X.env.locals∨X.env.cells.lookup x=some a))→Q () s') (hf:X.fn x=true∨X.env.scope.names.lookup x=some .local:=by first | exact .inl rfl | exact .inr rfl | assumption):wpAny M A (storeName X.env x u) Q E s:=by
 obtain⟨m,hn,hl⟩:=id I.loc
 have hcls:(X.env.scope.kind==.class||(X.env.scope.kind==.module&&X.env.locals != X.env.globals))=false:=by rw[I.ok.kind];rfl
 have hiσ:i<σ.length:=by rw[I.len];exact(List.getElem?_eq_some_iff.mp hi).1
 have cne:=I.cne
 have tracked:∀ {a:Addr} {h':Heap},(∃ o,s.heap.get? a=some o∧H a=none)→Heap.SameBut a s.heap h'→HOk X.prog X.w H h':=fun {a h'} ha hs b ob e=>by
  obtain⟨u0,u0,hfree⟩:=ha
  refine(I.hok b ob e).stay (fun c w' hc q=>(hs.2 c ?_).trans q) (fun u0 q=>q) (fun u0 u0 q=>q) fun u0 u0 u0 q=>q
  rintro rfl
  rcases hc with rfl | hc
  ·rw[hfree] at e;cases e
  ·rw[hfree] at hc;cases hc
 rcases hx with hk | hk
 ·refine wpAny_storeName_local hk hn (fun h' hn' hs=>?_) hcls
  obtain⟨oL,u0,u0,hoL,u0⟩:=id hn
  refine h _ ⟨I.ok,I.os,I.bare,⟨fun b o e n hb hx=>?_,fun b o e n hb hx=>?_,I.base.free,fun b o e hx=>?_,I.base.tups,I.base.frzs,I.base.tbls⟩,⟨_,hn',fun j y v' e1 e2 e3=>?_⟩,fun y c e=>?_,I.free,I.freeC,fun p hp=>?_,tracked ⟨oL,hoL,I.free⟩ hs,by simpa using I.len⟩ ⟨_,hs,.inl rfl⟩
  ·exact(hs.2 b (Nat.ne_of_lt (Nat.lt_of_lt_of_le (Heap.lt_size e) I.ok.above))).trans (I.base.keep b o e n hb hx)
  ·obtain⟨sl,e1⟩:=I.base.slot b o e n hb hx
   exact⟨sl,(hs.2 b (Nat.ne_of_lt (Nat.lt_of_lt_of_le (Heap.lt_size e) I.ok.above))).trans e1⟩
  ·obtain⟨o',e1⟩:=I.base.there b o e hx
   exact⟨o',(hs.2 b (Nat.ne_of_lt (Nat.lt_of_lt_of_le (Heap.lt_size e) I.ok.above))).trans e1⟩
  ·by_cases hj:j=i
   ·subst hj
    rw[hi] at e1;cases e1
    rw[List.getElem?_set_self hiσ] at e2
    cases e2
    exact⟨u,r,.inl ⟨hk,by simp⟩⟩
   ·rw[List.getElem?_set_ne (Ne.symm hj)] at e2
    obtain⟨u',r',q⟩:=hl j y v' e1 e2 e3
    refine⟨u',r',?_⟩
    rcases q with ⟨k,e⟩ | ⟨k,c,e,z⟩
    ·refine .inl ⟨k,?_⟩
     have:y≠x:=fun e=>hj (zEZ hN e1 (e▸hi))
     simp[this,e]
    ·exact .inr ⟨k,c,e,z.sameBut hs (cne y c e)⟩
  ·obtain⟨w',z⟩:=I.cell y c e
   exact⟨w',z.sameBut hs (cne y c e)⟩
  ·obtain⟨e,n,ne,nf,d⟩:=I.pin p hp
   exact⟨(hs.2 p.1 ne).trans e,n,ne,nf,d⟩
 ·have hfn:X.fn x=true:=by
   rcases hf with z | z
   ·exact z
   ·rw[z] at hk;cases hk
  obtain⟨c,hc⟩:=I.ok.has x (.inl hk)
  obtain⟨w',z⟩:=I.cell x c hc
  refine wpAny_storeName_cell I.ok.kind hk hc z (fun h' hc' hs=>?_)
  obtain⟨oc,hoc,hocd⟩:=id z
  refine h { s with heap:=h' } ⟨I.ok,I.os,I.bare,⟨fun b o e n hb hx=>?_,fun b o e n hb hx=>?_,I.base.free,fun b o e hx=>?_,I.base.tups,I.base.frzs,I.base.tbls⟩,⟨m,hn.sameBut hs (Ne.symm (cne x c hc)),fun j y v' e1 e2 e3=>?_⟩,fun y c' e=>?_,I.free,I.freeC,fun p hp=>?_,tracked ⟨oc,hoc,I.freeC x c hc⟩ hs,by simpa using I.len⟩ ⟨c,hs,.inr hc⟩
  ·exact(hs.2 b (Nat.ne_of_lt (Nat.lt_of_lt_of_le (Heap.lt_size e) (I.ok.cab x c hfn hc)))).trans (I.base.keep b o e n hb hx)
  ·obtain⟨sl,e1⟩:=I.base.slot b o e n hb hx
   exact⟨sl,(hs.2 b (Nat.ne_of_lt (Nat.lt_of_lt_of_le (Heap.lt_size e) (I.ok.cab x c hfn hc)))).trans e1⟩
  ·obtain⟨o',e1⟩:=I.base.there b o e hx
   exact⟨o',(hs.2 b (Nat.ne_of_lt (Nat.lt_of_lt_of_le (Heap.lt_size e) (I.ok.cab x c hfn hc)))).trans e1⟩
  ·by_cases hj:j=i
   ·subst hj
    rw[hi] at e1;cases e1
    rw[List.getElem?_set_self hiσ] at e2
    cases e2
    exact⟨u,r,.inr ⟨.inl hk,c,hc,hc'⟩⟩
   ·rw[List.getElem?_set_ne (Ne.symm hj)] at e2
    obtain⟨u',r',q⟩:=hl j y v' e1 e2 e3
    refine⟨u',r',?_⟩
    rcases q with q | ⟨k,c',e,z'⟩
    ·exact .inl q
    ·refine .inr ⟨k,c',e,z'.sameBut hs ?_⟩
     rintro rfl
     exact hj (zEZ hN e1 (I.ok.inj _ _ _ e hc▸hi))
  ·by_cases hcc:c'=c
   ·subst hcc;exact⟨_,hc'⟩
   ·obtain⟨w2,z2⟩:=I.cell y c' e
    exact⟨w2,z2.sameBut hs hcc⟩
  ·obtain⟨e,n,ne,nf,d⟩:=I.pin p hp
   refine⟨(hs.2 p.1 ?_).trans e,n,ne,nf,d⟩
   intro q
   rw[q,hoc] at e
   have q':oc=p.2:=Option.some.inj e
   exact d w' (by rw[← q'];exact hocd)
theorem zAz{M:Model}{A:Around}{E:Value→Shared→Prop}{i:Nat}{x:Str}{v:V}{u:Value}{Q:Unit→Shared→Prop}(I:zV X pins σ H s)(hN:X.N.Nodup)(hi:X.N[i]?=some x)(hx:Loc X.env.scope x)(r:RelV v u)
  (h:∀ s',zV X pins (σ.set i (some v)) H s'→Q () s') (hf:X.fn x=true∨X.env.scope.names.lookup x=some .local:=by first | exact .inl rfl | exact .inr rfl | assumption):wpAny M A (storeName X.env x u) Q E s :=
 zDg I hN hi hx r (fun s' I' u0=>h s' I') hf
theorem zV.call'{s':Shared}{ch:List Addr}(I:zV X pins σ H s)(ho:s'.os=s.os)(u:Un (frs X.stack) ch H H' s.heap s'.heap)(hok:HOk X.prog X.w H' s'.heap)(hg:AllBare s'.gens)
  (hch:∀ b∈ch,(b∈X.ex∨X.s₀.heap.objs.size≤b)∧b≠X.env.locals∧(∀ x c,X.env.cells.lookup x=some c→c≠b)∧∀ p∈X.pn++pins,p.1≠b):zV X pins σ H' s':=by
 obtain⟨h',g',d',t',o'⟩:=s'
 have e:o'=s.os:=ho
 subst e
 exact I.call (g':=g') (t':=t') (d':=d') u hok hg hch
end
noncomputable abbrev XK:=Value→Option Addr→Hp→Prop
noncomputable abbrev St:=List (Option V)
noncomputable abbrev VK:=V→Hp→Prop
noncomputable abbrev TE:=St→Hp→VK→Prop
noncomputable abbrev TT:=St→Hp→(Bool→Hp→Prop)→Prop
noncomputable abbrev TA:=St→Hp→(List V→Hp→Prop)→Prop
set_option genInjectivity false in
structure Ends where
 nx:St→Hp→Prop
 rt:VK
 bk:St→Hp→Prop:=fun u0 u0=>False
 ct:St→Hp→Prop:=fun u0 u0=>False
noncomputable abbrev TS:=Ends→St→Hp→Prop
noncomputable def EP(X:Cx)(pins:List (Addr×Obj))(σ:St)(Q:VK)(u:Value)(s':Shared):Prop:=∃ v H',zV X pins σ H' s'∧RelV v u∧Q v H'
noncomputable def TP(X:Cx)(pins:List (Addr×Obj))(σ:St)(Q:Bool→Hp→Prop)(b:Bool)(s':Shared):Prop:=∃ H',zV X pins σ H' s'∧Q b H'
noncomputable def AP(X:Cx)(pins:List (Addr×Obj))(σ:St)(Q:List V→Hp→Prop)(us:List Value)(s':Shared):Prop:=∃ vs H',zV X pins σ H' s'∧zh vs us∧Q vs H'
noncomputable def SP(X:Cx)(pins:List (Addr×Obj))(D:Ends)(f:Flow)(s':Shared):Prop :=
 match f with
 | .next=>∃ σ' H',zV X pins σ' H' s'∧D.nx σ' H'
 | .brk=>∃ σ' H',zV X pins σ' H' s'∧D.bk σ' H'
 | .cont=>∃ σ' H',zV X pins σ' H' s'∧D.ct σ' H'
 | .ret u=>∃ v σ' H',zV X pins σ' H' s'∧RelV v u∧D.rt v H'
noncomputable def PE(X:Cx)(e:Expr)(t:TE):Prop :=
 ∀(pins:List (Addr×Obj)) (s:Shared) (σ:St) (H:Hp) (Q:VK),zV X pins σ H s→t σ H Q→wpAny (model X.prog X.w) X.A (eval e X.env) (EP X pins σ Q) X.xe s
noncomputable def PT(X:Cx)(e:Expr)(t:TT):Prop :=
 ∀(pins:List (Addr×Obj)) (s:Shared) (σ:St) (H:Hp) (Q:Bool→Hp→Prop),zV X pins σ H s→t σ H Q→wpAny (model X.prog X.w) X.A (isTrue e X.env (eval e X.env)) (TP X pins σ Q) X.xe s
noncomputable def PW(X:Cx)(e:Expr)(t:TT):Prop :=
 ∀(whole:Sem Value) (pins:List (Addr×Obj)) (s:Shared) (σ:St) (H:Hp) (Q:Bool→Hp→Prop),zV X pins σ H s→t σ H Q→wpAny (model X.prog X.w) X.A (isTrue e X.env whole) (TP X pins σ Q) X.xe s
theorem PW.pt{X:Cx}{e:Expr}{t:TT}(h:PW X e t):PT X e t:=h _
noncomputable def PA(X:Cx)(es:List Expr)(t:TA):Prop :=
 ∀(pos:Pos) (pins:List (Addr×Obj)) (s:Shared) (σ:St) (H:Hp) (Q:List V→Hp→Prop),zV X pins σ H s→t σ H Q→wpAny (model X.prog X.w) X.A (spliced (backTo pos (starEach es X.env))) (AP X pins σ Q) X.xe s
noncomputable def PS(X:Cx)(st:Stmt)(t:TS):Prop :=
 ∀(pins:List (Addr×Obj)) (s:Shared) (σ:St) (H:Hp) (D:Ends),zV X pins σ H s→t D σ H→wpAny (model X.prog X.w) X.A (exec st X.env) (SP X pins D) X.xe s
noncomputable def PSs(X:Cx)(st:List Stmt)(t:TS):Prop :=
 ∀(pins:List (Addr×Obj)) (s:Shared) (σ:St) (H:Hp) (D:Ends),zV X pins σ H s→t D σ H→wpAny (model X.prog X.w) X.A (execs st X.env) (SP X pins D) X.xe s
theorem yq{α:Type}{t:Sem α}{Q Q':α→Shared→Prop}{M:Model}{A:Around}{E:Value→Shared→Prop}{s:Shared}(h:wpAny M A t Q E s)(hQ:∀ a s,Q a s→Q' a s):wpAny M A t Q' E s:=wpAny_mono h hQ fun u0 u0 x=>x
end L2
namespace L2
open PySem PySem.Spec PyProof.Rows
section
variable {X:Cx}
noncomputable def zQJ(i:Nat):TE:=fun σ H Q=>∃ v,σ[i]?=some (some v)∧Q v H
noncomputable def tC(v:V):TE:=fun u0 H Q=>Q v H
theorem zGB{i:Nat}{x:Str}{pos:Pos}(hN:X.N[i]?=some x)(hv:Vis X.env.scope x)(hd:(x==("__debug__":Str))=false:=by decide)(hcd:(x==("__classdict__":Str))=false:=by decide):PE X (.Name x pos) (zQJ i):=by
 intro pins s σ H Q I h
 obtain⟨v,e,h⟩:=h
 obtain⟨m,hn,hl⟩:=I.loc
 obtain⟨u,r,l⟩:=hl i x v hN e hv
 have fin:EP X pins σ Q u s:=⟨v,H,I,r,h⟩
 rcases l with ⟨hk,hm⟩ | ⟨hk,c,hc,hcell⟩
 ·exact wpAny_Name (wpAny_loadName_local I.ok.kind hk hn hm fin) hd
 ·rcases hk with hk | hk
  ·exact wpAny_Name (wpAny_loadName_cell I.ok.kind hk hc hcell fin) hd
  ·exact wpAny_Name (wpAny_loadName_free I.ok.kind hk hc hcell fin hcd) hd
theorem zOm{i j pos}:PE X (.Constant (.int i) j pos) (tC (.int i)):=fun u0 u0 u0 H u0 I h=>wpAny_Constant_int ⟨.int i,H,I.tok _,⟨_,rfl⟩,h⟩
theorem zQK{b j pos}:PE X (.Constant (.bool b) j pos) (tC (.bl b)):=fun u0 u0 u0 H u0 I h=>Constant_bool ⟨.bl b,H,I,rfl,h⟩
theorem zK3{j pos}:PE X (.Constant .none j pos) (tC .non):=fun u0 u0 u0 H u0 I h=>Constant_none ⟨.non,H,I,rfl,h⟩
theorem zOn{x j pos}:PE X (.Constant (.str x) j pos) (tC (.str x)):=fun u0 u0 u0 H u0 I h=>Calls.Constant_str ⟨.str x,H,I.tok _,⟨_,rfl⟩,h⟩
noncomputable def Gl(X:Cx)(x:Str):Prop:=X.env.kindOf x=some .globalImplicit
theorem zC9{E:Value→Shared→Prop}{pins:List (Addr×Obj)}{s:Shared}{σ:St}{H:Hp}{x:Str}{u:Value}{pos:Pos}{Q:Value→Shared→Prop}(I:zV X pins σ H s)(hg:Gl X x)(hm:X.mg x=some u)(h:Q u s)
  (hd:(x==("__debug__":Str))=false:=by decide):wpAny (model X.prog X.w) X.A (eval (.Name x pos) X.env) Q E s :=
 Calls.Name_function_global I.ok.kind hg (Calls.loadGlobal_global (by rw[I.ok.glob];exact I.mod.glob.keeps I.bk) hm h) hd
theorem zCB{E:Value→Shared→Prop}{pins:List (Addr×Obj)}{s:Shared}{σ:St}{H:Hp}{x:Str}{u:Value}{pos:Pos}{Q:Value→Shared→Prop}(I:zV X pins σ H s)(hg:Gl X x)(hm:X.mg x=none)(hv:bootBuiltins x=some u)(h:Q u s)
  (hn:x≠"__name__":=by decide) (hd:(x==("__debug__":Str))=false:=by decide):wpAny (model X.prog X.w) X.A (eval (.Name x pos) X.env) Q E s:=by
 obtain⟨mb,h1,h2⟩:=I.mod.blt
 exact Calls.Name_function_global I.ok.kind hg (Calls.loadGlobal_builtin (by rw[I.ok.glob];exact I.mod.glob.keeps I.bk) hm (by rw[I.ok.blt];exact h1.keeps I.bk) ((h2 x hn).trans hv) h) hd
theorem zIm{x:Str}{v:V}{u:Value}{pos:Pos}(hg:Gl X x)(hm:X.mg x=some u)(r:RelV v u)(hd:(x==("__debug__":Str))=false:=by decide):PE X (.Name x pos) (tC v) :=
 fun u0 u0 u0 H u0 I h=>zC9 I hg hm ⟨v,H,I,r,h⟩ hd
theorem zEK{x:Str}{v:V}{u:Value}{pos:Pos}(hg:Gl X x)(hm:X.mg x=none)(hv:bootBuiltins x=some u)(r:RelV v u)(hn:x≠"__name__":=by decide)(hd:(x==("__debug__":Str))=false:=by decide):PE X (.Name x pos) (tC v) :=
 fun u0 u0 u0 H u0 I h=>zCB I hg hm hv ⟨v,H,I,r,h⟩ hn hd
variable {a b:Expr} {ta tb:TE} {pos:Pos}
noncomputable def tB(t:TE):TT:=fun σ H Q=>t σ H fun x H1=>∃ c,x=.bl c∧Q c H1
theorem zOo{e:Expr}{t:TE}(h:PE X e t)(he:∀ whole,isTrue e X.env whole=(do let v ← whole;standAt e.pos;holding [v] (truthy v)):=by intro u0;rfl):PT X e (tB t):=by
 intro pins s σ H Q I hw
 refine isTrue_plain (yq (h pins s σ H _ I hw) fun v s1 ⟨x,H1,I1,r1,q1⟩=>?_) (he _)
 obtain⟨d,rfl,q⟩:=q1
 cases r1
 exact wpAny_truthy_bool ⟨H1,I1,q⟩
variable {tA tB':TT} {rest:List Expr}
noncomputable def zRF(t u:TT):TT:=fun σ H Q=>t σ H fun c H1=>if c=true then u σ H1 Q else Q false H1
noncomputable def tOr(t u:TT):TT:=fun σ H Q=>t σ H fun c H1=>if c=true then Q true H1 else u σ H1 Q
noncomputable def zRG(t:TT):TT:=fun σ H Q=>t σ H fun c H1=>Q (!c) H1
theorem zNA(ha:PT X a tA):PW X (.BoolOp .And [a] pos) tA:=by
 intro wh pins s σ H Q I h
 refine isTrue_and (yq (ha pins s σ H Q I h) fun c s1 e=>?_)
 cases c with
 | true=>exact isTrue_and_nil e
 | false=>exact e
theorem zOp(ha:PT X a tA):PW X (.BoolOp .Or [a] pos) tA:=by
 intro wh pins s σ H Q I h
 refine isTrue_or (yq (ha pins s σ H Q I h) fun c s1 e=>?_)
 cases c with
 | false=>exact isTrue_or_nil e
 | true=>exact e
theorem zOq(ha:PT X a tA)(hb:PW X (.BoolOp .And (b::rest) pos) tB'):PW X (.BoolOp .And (a::b::rest) pos) (zRF tA tB'):=by
 intro wh pins s σ H Q I h
 refine isTrue_and (yq (ha pins s σ H _ I h) fun c s1 ⟨H1,I1,q1⟩=>?_)
 cases c with
 | true=>exact hb wh pins s1 σ H1 Q I1 q1
 | false=>exact⟨H1,I1,q1⟩
theorem zQL(ha:PT X a tA)(hb:PW X (.BoolOp .Or (b::rest) pos) tB'):PW X (.BoolOp .Or (a::b::rest) pos) (tOr tA tB'):=by
 intro wh pins s σ H Q I h
 refine isTrue_or (yq (ha pins s σ H _ I h) fun c s1 ⟨H1,I1,q1⟩=>?_)
 cases c with
 | true=>exact⟨H1,I1,q1⟩
 | false=>exact hb wh pins s1 σ H1 Q I1 q1
theorem zOr(ha:PT X a tA):PT X (.UnaryOp .Not a pos) (zRG tA):=by
 intro pins s σ H Q I h
 exact isTrue_not (ha pins s σ H (fun c H1=>Q (!c) H1) I h)
noncomputable def zQM(ta tb:TE):TE:=fun σ H Q=>ta σ H fun x H1=>∃ c,x=.bl c∧if c=true then tb σ H1 Q else Q (.bl false) H1
noncomputable def zQN(ta:TE):TE:=fun σ H Q=>ta σ H fun x H1=>∃ c,x=.bl c∧Q (.bl (!c)) H1
theorem zOs{op}{t:TE}(h:PE X a t):PE X (.BoolOp op [a] pos) t:=fun pins s σ H Q I hw=>BoolOp_one (h pins s σ H Q I hw)
theorem zOt(ha:PE X a ta)(hb:PE X (.BoolOp .And (b::rest) pos) tb):PE X (.BoolOp .And (a::b::rest) pos) (zQM ta tb):=by
 intro pins s σ H Q I h
 refine BoolOp_and (yq (ha pins s σ H _ I h) fun v s1 ⟨x,H1,I1,r1,q1⟩=>?_)
 obtain⟨c,rfl,q1⟩:=q1
 cases r1
 refine wpAny_truthy_bool ?_
 cases c with
 | true=>exact hb pins s1 σ H1 Q I1 q1
 | false=>exact⟨.bl false,H1,I1,rfl,q1⟩
theorem zOu(ha:PE X a ta):PE X (.UnaryOp .Not a pos) (zQN ta):=by
 intro pins s σ H Q I h
 refine UnaryOp_ (yq (ha pins s σ H _ I h) fun v s1 ⟨x,H1,I1,r1,q1⟩=>?_)
 obtain⟨c,rfl,q1⟩:=q1
 cases r1
 exact not_of (wpAny_truthy_bool ⟨.bl (!c),H1,I1,rfl,q1⟩)
end
end L2
namespace L2
open PySem PySem.Spec PyProof.Rows
noncomputable def SqL(K:PySem.W.Frag)(H:Hp)(a:Addr)(xs:List V):Prop :=
 Rd H a (.lst xs) ∨
  ∃(o:Obj) (its:Array Value) (n:Nat),K.lookup a=some o∧o.cls=.type "list"∧o.dict=none∧o.data=.seq its n∧its.size≤sizeLine∧zh xs its.toList
noncomputable def SqT(K:PySem.W.Frag)(H:Hp)(a:Addr)(xs:List V):Prop :=
 Rd H a (.tup xs) ∨
  ∃(o:Obj) (its:Array Value) (n:Nat),K.lookup a=some o∧o.cls=.type "tuple"∧o.data=.seq its n∧its.size≤sizeLine∧zh xs its.toList∧o.dict=none
noncomputable def zRH:Value→Option V
 | .none=>some .non
 | .bool b=>some (.bl b)
 | .int i _=>some (.int i)
 | .str x _=>some (.str x)
 | .bytes b _=>some (.byt b)
 | .float b _=>some (.flt b)
 | .ref a=>some (.ref a)
 | .type n=>some (.ty n)
 | _=>none
theorem RelV.abs{x:V}{u:Value}(r:RelV x u):zRH u=some x:=by
 cases x with
 | non=>cases r;rfl
 | bl _=>cases r;rfl
 | int _=>obtain⟨t,rfl⟩:=r;rfl
 | str _=>obtain⟨t,rfl⟩:=r;rfl
 | byt _=>obtain⟨t,rfl⟩:=r;rfl
 | flt _=>obtain⟨t,rfl⟩:=r;rfl
 | ref _=>cases r;rfl
 | ty _=>cases r;rfl
theorem RelV.inj{x y:V}{u:Value}(r:RelV x u)(q:RelV y u):x=y:=Option.some.inj (r.abs.symm.trans q.abs)
theorem zh.inj:∀ {xs ys:List V} {us:List Value},zh xs us→zh ys us→xs=ys
 | _,_,_,.nil,.nil=>rfl
 | _,_,_,.cons r t,.cons r' t'=>by rw[r.inj r',zh.inj t t']
section
variable {X:Cx} {pins:List (Addr×Obj)} {σ:St} {H:Hp} {s:Shared} {a:Addr} {xs ys:List V}
theorem SqL.of{K:PySem.W.Frag}(h:H a=some (.lst xs)):SqL K H a xs:=.inl (.inl h)
theorem SqT.of{K:PySem.W.Frag}(h:H a=some (.tup xs)):SqT K H a xs:=.inl (.inl h)
theorem zV.list(I:zV X pins σ H s)(h:SqL X.K H a xs):∃ its:List Value,zh xs its∧PlainL s.heap a its.toArray∧xs.length≤sizeLine:=by
 rcases h with h | ⟨o,its,n,hk,hc,hd,hs,hz,r⟩
 ·obtain⟨z,its,n,r,e⟩:=h.ok I.hok
  exact⟨its,r,⟨_,n,e,rfl,rfl,rfl⟩,z⟩
 ·refine⟨its.toList,r,⟨o,n,I.kIn a o hk,hc,hd,by simpa using hs⟩,?_⟩
  have e:=r.length
  simp only[Array.length_toList] at e
  (first|lia|omega)
theorem zV.tuple(I:zV X pins σ H s)(h:SqT X.K H a xs):∃ its:List Value,zh xs its∧IsTup s.heap a its.toArray∧xs.length≤sizeLine:=by
 rcases h with h | ⟨o,its,n,hk,hc,hs,hz,r,u0⟩
 ·obtain⟨z,its,r,p⟩:=h.ok I.hok
  exact⟨its,r,p.isTup,z⟩
 ·refine⟨its.toList,r,⟨o,I.kIn a o hk,hc,n,by simpa using hs⟩,?_⟩
  have e:=r.length
  simp only[Array.length_toList] at e
  (first|lia|omega)
theorem zV.noDict(I:zV X pins σ H s)(h:SqT X.K H a xs):s.TypeIs (.ref a) "tuple"∧∃ ob,s.heap.get? a=some ob∧ob.dict=none:=by
 rcases h with h | ⟨o,its,n,hk,hc,hs,hz,r,hd⟩
 ·obtain⟨z,its,r,o,h1,h2,h3,h4⟩:=h.ok I.hok
  exact⟨⟨o,h1,h2⟩,o,h1,h4⟩
 ·exact⟨⟨o,I.kIn a o hk,hc⟩,o,I.kIn a o hk,hd⟩
theorem zV.list_inj(I:zV X pins σ H s)(h:SqL X.K H a xs)(h':SqL X.K H a ys):xs=ys:=by
 obtain⟨its,r,⟨o,n,e,u0,u0,d⟩,u0⟩:=I.list h
 obtain⟨its',r',⟨o',n',e',u0,u0,d'⟩,u0⟩:=I.list h'
 rw[e] at e';cases e'
 rw[d] at d'
 injection d' with d1 _
 have:its=its':=by simpa using congrArg Array.toList d1
 subst this
 exact r.inj r'
theorem zV.tuple_inj(I:zV X pins σ H s)(h:SqT X.K H a xs)(h':SqT X.K H a ys):xs=ys:=by
 obtain⟨its,r,⟨o,e,u0,n,d⟩,u0⟩:=I.tuple h
 obtain⟨its',r',⟨o',e',u0,n',d'⟩,u0⟩:=I.tuple h'
 rw[e] at e';cases e'
 rw[d] at d'
 injection d' with d1 _
 have:its=its':=by simpa using congrArg Array.toList d1
 subst this
 exact r.inj r'
end
noncomputable abbrev Cx.wish(X:Cx)(E:Value→Shared→Prop):Cx:={ X with xe:=E }
noncomputable abbrev Cx.nox(X:Cx):Cx:=X.wish fun u0 u0=>False
theorem Cx.Ok.wish{X:Cx}(ok:X.Ok)(E:Value→Shared→Prop):(X.wish E).Ok :=
 ⟨ok.mod,ok.kind,ok.glob,ok.blt,ok.above,ok.inj,ok.has,ok.cab,ok.hd,ok.frames,ok.stk,ok.exf,ok.bs,ok.bsz,ok.noex,ok.exfs,ok.funs,ok.frf,ok.tb⟩
theorem Cx.Ok.unwish{X:Cx}{E:Value→Shared→Prop}(ok:(X.wish E).Ok):X.Ok :=
 ⟨ok.mod,ok.kind,ok.glob,ok.blt,ok.above,ok.inj,ok.has,ok.cab,ok.hd,ok.frames,ok.stk,ok.exf,ok.bs,ok.bsz,ok.noex,ok.exfs,ok.funs,ok.frf,ok.tb⟩
section
variable {X:Cx} {pins:List (Addr×Obj)} {σ:St} {H:Hp} {s:Shared} {E:Value→Shared→Prop}
theorem zV.wish(I:zV X pins σ H s)(E:Value→Shared→Prop):zV (X.wish E) pins σ H s:=⟨I.ok.wish E,I.os,I.bare,I.base,I.loc,I.cell,I.free,I.freeC,I.pin,I.hok,I.len⟩
theorem zV.unwish(I:zV (X.wish E) pins σ H s):zV X pins σ H s:=⟨I.ok.unwish,I.os,I.bare,I.base,I.loc,I.cell,I.free,I.freeC,I.pin,I.hok,I.len⟩
theorem SP.unwish{D:Ends}{f:Flow}{s':Shared}(h:SP (X.wish E) pins D f s'):SP X pins D f s':=by
 cases f with
 | next=>obtain⟨σ',H',I,q⟩:=h;exact⟨σ',H',I.unwish,q⟩
 | brk=>obtain⟨σ',H',I,q⟩:=h;exact⟨σ',H',I.unwish,q⟩
 | cont=>obtain⟨σ',H',I,q⟩:=h;exact⟨σ',H',I.unwish,q⟩
 | ret u=>obtain⟨v,σ',H',I,r,q⟩:=h;exact⟨v,σ',H',I.unwish,r,q⟩
theorem PSs.nox{st:List Stmt}{t:TS}(h:PSs X.nox st t):PSs X st t:=fun pins s σ H D I hw =>
 wpAny_mono (h pins s σ H D (I.wish _) hw) (fun u0 u0 q=>q.unwish) fun u0 u0 z=>False.elim z
end
section
variable {X:Cx} {st:Stmt} {rest:List Stmt} {t u:TS} {e:Expr} {te:TE} {pos:Pos}
noncomputable def zQO:TS:=fun D σ H=>D.nx σ H
noncomputable def zRI(t u:TS):TS:=fun D σ H=>t { D with nx:=u D } σ H
theorem zNB:PSs X [] zQO:=fun u0 u0 σ H u0 I h=>wpAny_execs_nil ⟨σ,H,I,h⟩
theorem zK4(h1:PS X st t)(h2:PSs X rest u):PSs X (st::rest) (zRI t u):=by
 intro pins s σ H D I h
 refine wpAny_execs_cons (yq (h1 pins s σ H { D with nx:=u D } I h) fun f s1 q=>?_)
 cases f with
 | next =>
  obtain⟨σ',H',I',q⟩:=q
  exact h2 pins s1 σ' H' D I' q
 | ret v=>exact q
 | brk=>exact q
 | cont=>exact q
theorem zNC(h1:PS X st t):PSs X [st] t:=by
 intro pins s σ H D I h
 refine wpAny_execs_cons (yq (h1 pins s σ H D I h) fun f s1 q=>?_)
 cases f with
 | next=>exact wpAny_execs_nil q
 | ret v=>exact q
 | brk=>exact q
 | cont=>exact q
theorem zV.quiet{pins:List (Addr×Obj)}{σ:St}{H:Hp}{s:Shared}(I:zV X pins σ H s):interactive X.env=false:=by simp[interactive,I.ok.kind]
noncomputable def zQP(te:TE):TS:=fun D σ H=>te σ H fun u0 H1=>D.nx σ H1
theorem zND(he:PE X e te)(hs:swapsWith e none pos.line X.env=pure false:=by rfl):PS X (.Expr e pos) (zQP te):=by
 intro pins s σ H D I h
 exact wpAny_Expr_any (yq (he pins s σ H _ I h) fun v s1 ⟨x,H1,I1,r1,q1⟩=>⟨σ,H1,I1,q1⟩) I.quiet hs
noncomputable def zRJ(te:TE):TS:=fun D σ H=>te σ H D.rt
theorem zOv(he:PE X e te):PS X (.Return (some e) pos) (zRJ te):=by
 intro pins s σ H D I h
 exact wpAny_Return_some (yq (he pins s σ H _ I h) fun v s1 ⟨x,H1,I1,r1,q1⟩=>⟨x,σ,H1,I1,r1,q1⟩)
noncomputable def zRK(c:TT)(t u:TS):TS:=fun D σ H=>c σ H fun b H1=>if b=true then t D σ H1 else u D σ H1
theorem zQQ{c:Expr}{a b:List Stmt}{tc:TT}(hc:PT X c tc)(ha:PSs X a t)(hb:PSs X b u):PS X (.If c a b pos) (zRK tc t u):=by
 intro pins s σ H D I h
 refine wpAny_If (yq (hc pins s σ H _ I h) fun d s1 ⟨H1,I1,q1⟩=>?_)
 cases d with
 | true=>exact ha pins s1 σ H1 D I1 q1
 | false=>exact hb pins s1 σ H1 D I1 q1
end
noncomputable abbrev TG:=V→St→Hp→(St→Hp→Prop)→Prop
noncomputable abbrev TGs:=List V→St→Hp→(St→Hp→Prop)→Prop
noncomputable def PG(X:Cx)(target:Expr)(t:TG):Prop :=
 ∀(pins:List (Addr×Obj)) (s:Shared) (σ:St) (H:Hp) (v:V) (u:Value) (Q:St→Hp→Prop),zV X pins σ H s→RelV v u→t v σ H Q →
  wpAny (model X.prog X.w) X.A (assign target X.env u) (fun u0 s'=>∃ σ' H',zV X pins σ' H' s'∧Q σ' H') X.xe s
noncomputable def PGs(X:Cx)(ts:List Expr)(t:TGs):Prop :=
 ∀(pins:List (Addr×Obj)) (s:Shared) (σ:St) (H:Hp) (vs:List V) (us:List Value) (Q:St→Hp→Prop),zV X pins σ H s→zh vs us→t vs σ H Q →
  wpAny (model X.prog X.w) X.A (assignInOrder ((assignEach ts X.env).map (·.2)) us) (fun u0 s'=>∃ σ' H',zV X pins σ' H' s'∧Q σ' H') X.xe s
noncomputable abbrev zOw:=V→V→V→Hp→(Hp→Prop)→Prop
noncomputable def zQR(X:Cx)(t:zOw):Prop :=
 ∀(pins:List (Addr×Obj)) (s:Shared) (σ:St) (H:Hp) (o i v:V) (ov iv u:Value) (Q:Hp→Prop),zV X pins σ H s→RelV o ov→RelV i iv→RelV v u→t o i v H Q →
  wpAny (model X.prog X.w) X.A (setItem ov iv u) (fun u0 s'=>∃ H',zV X pins σ H' s'∧Q H') X.xe s
section
variable {X:Cx} {pos:Pos}
noncomputable def zCm(i:Nat):TG:=fun v σ H Q=>Q (σ.set i (some v)) H
theorem zBF{i:Nat}{x:Str}(hN:X.N.Nodup)(hi:X.N[i]?=some x)(hx:Loc X.env.scope x)(hf:X.fn x=true∨X.env.scope.names.lookup x=some .local:=by first | exact .inl rfl | exact .inr rfl | assumption):PG X (.Name x pos) (zCm i):=by
 intro pins s σ H v u Q I r h
 exact wpAny_assign_Name (zAz I hN hi hx r (fun s' I'=>⟨_,H,I',h⟩) hf)
noncomputable def zOx:TGs:=fun vs σ H Q=>vs=[]∧Q σ H
noncomputable def zGl(t:TG)(u:TGs):TGs:=fun vs σ H Q=>∃ v r,vs=v::r∧t v σ H fun σ' H'=>u r σ' H' Q
theorem zIn:PGs X [] zOx:=by
 intro pins s σ H vs us Q I r h
 obtain⟨e,h⟩:=h
 subst e
 cases r
 exact assignInOrder_nil ⟨σ,H,I,h⟩
theorem zDA{e:Expr}{es:List Expr}{t:TG}{u:TGs}(h1:PG X e t)(h2:PGs X es u)
  (hs:(assignEach (e::es) X.env).map (·.2)=assign e X.env::(assignEach es X.env).map (·.2):=by rfl):PGs X (e::es) (zGl t u):=by
 intro pins s σ H vs us Q I r h
 obtain⟨v,vr,e1,h⟩:=h
 subst e1
 cases r with
 | cons r rr =>
  rw[hs]
  refine assignInOrder_cons (yq (h1 pins s σ H _ _ _ I r h) fun _ s1 ⟨σ1,H1,I1,q1⟩=>?_)
  exact h2 pins s1 σ1 H1 _ _ Q I1 rr q1
noncomputable def zOy(K:PySem.W.Frag)(n:Nat)(t:TGs):TG:=fun v σ H Q=>∃ a xs,v=.ref a∧SqT K H a xs∧xs.length=n∧t xs σ H Q
theorem zK5{es:List Expr}{k:Nat}{t:TGs}{n:Nat}(hc:X.calm=true)(h:PGs X es t)
  (hn:(assignEach es X.env).length=n:=by rfl) (hst:(assignEach es X.env).findIdx? (·.1)=none:=by rfl):PG X (.Tuple es k pos) (zOy X.K n t):=by
 intro pins s σ H v u Q I r hw
 obtain⟨a,xs,e1,hq,hl,hw⟩:=hw
 subst e1
 cases r
 obtain⟨its,rv,ht,hz⟩:=I.tuple hq
 refine assign_Tuple_tuple (I.ok.hd hc) ht (by simp[hn,← hl,rv.length]) hst fun h' hx=>?_
 have I1:zV X pins σ H { s with heap:=h' }:=I.kept (t':=s.toks) fun b o e=>hx b o (Nat.ne_of_lt (Heap.lt_size e)) e
 exact h pins _ σ H xs _ Q I1 (by simpa using rv) hw
noncomputable def zRL(to ti:TE)(t:zOw):TG:=fun v σ H Q=>to σ H fun o H1=>ti σ H1 fun i H2=>t o i v H2 fun H3=>Q σ H3
theorem zOz{o i:Expr}{to ti:TE}{t:zOw}(ho:PE X o to)(hi:PE X i ti)(hs:zQR X t)
  (ha:∀ v,assign (.Subscript o i pos) X.env v=(do
   let ov ← holding [v] (eval o X.env)
   let iv ← holding [v,ov] (eval i X.env)
   standAt pos
   holding [v,ov,iv] (setItem ov iv v)
   release [v,ov,iv] []):=by intro u0;rfl):PG X (.Subscript o i pos) (zRL to ti t):=by
 intro pins s σ H v u Q I r h
 rw[ha]
 refine wpAny_bind (wpAny_holding (yq (ho pins s σ H _ I h) fun ov s1 ⟨x,H1,I1,r1,q1⟩=>?_))
 refine wpAny_bind (wpAny_holding (yq (hi pins s1 σ H1 _ I1 q1) fun iv s2 ⟨y,H2,I2,r2,q2⟩=>?_))
 refine wpAny_bind (wpAny_standAt (wpAny_bind (wpAny_holding (yq (hs pins s2 σ H2 x y v ov iv u _ I2 r1 r2 r q2) fun _ s3 ⟨H3,I3,q3⟩=>?_))))
 exact wpAny_release ⟨σ,H3,I3,q3⟩
noncomputable def zO0(te:TE)(g:TG):TS:=fun D σ H=>te σ H fun x H1=>g x σ H1 D.nx
theorem zO1{tg e:Expr}{te:TE}{g:TG}(he:PE X e te)(hg:PG X tg g)(hs:swapsWithSole [tg] e pos.line X.env=pure false:=by rfl)(hw:swappedStores [tg] e X.env=pure none:=by rfl)
  (h1:(assignEach [tg] X.env).map (·.2)=[assign tg X.env]:=by rfl):PS X (.Assign [tg] e pos) (zO0 te g):=by
 intro pins s σ H D I h
 refine wpAny_Assign_stores (yq (he pins s σ H _ I h) fun v s1 ⟨x,H1,I1,r1,q1⟩=>?_) hs hw
 rw[h1]
 exact yq (hg pins s1 σ H1 x v _ I1 r1 q1) fun u0 s2 q=>q
theorem zO2{i:Nat}{x:Str}{e:Expr}{te:TE}{pos':Pos}(hN:X.N.Nodup)(hi:X.N[i]?=some x)(hx:Loc X.env.scope x)(he:PE X e te)(hs:swapsWith e (some (.Name x pos')) pos.line X.env=pure false:=by rfl)(hf:X.fn x=true∨X.env.scope.names.lookup x=some .local:=by first | exact .inl rfl | exact .inr rfl | assumption) :
  PS X (.Assign [.Name x pos'] e pos) (zO0 te (zCm i)):=by
 intro pins s σ H D I h
 refine wpAny_Assign_Name (yq (he pins s σ H _ I h) fun v s1 ⟨y,H1,I1,r1,q1⟩=>?_) hs
 exact zAz I1 hN hi hx r1 (fun s2 I2=>⟨_,H1,I2,q1⟩) hf
noncomputable def zRM(i j:Nat)(ta:TA):TS:=fun D σ H=>ta σ H fun vs H1=>∃ v w,vs=[v,w]∧D.nx ((σ.set i (some v)).set j (some w)) H1
theorem zO3{i j:Nat}{x y:Str}{a b:Expr}{ta:TA}{px py pt:Pos}{kt k2 pt2}(hc:X.calm=true)(hN:X.N.Nodup)(hi:X.N[i]?=some x)(hj:X.N[j]?=some y)(hij:i≠j)
  (hx:X.env.scope.names.lookup x=some .local) (hy:X.env.scope.names.lookup y=some .local) (ha:PA X [a,b] ta)
  (hw:swappedStores [.Tuple [.Name x px,.Name y py] kt pt] (.Tuple [a,b] k2 pt2) X.env=pure (some [x,y]))
  (hs:swapsWithSole [.Tuple [.Name x px,.Name y py] kt pt] (.Tuple [a,b] k2 pt2) pos.line X.env=pure false:=by rfl) :
  PS X (.Assign [.Tuple [.Name x px,.Name y py] kt pt] (.Tuple [a,b] k2 pt2) pos) (zRM i j ta):=by
 intro pins s σ H D I h
 rw[exec_Assign_arm]
 refine wpAny_bind (wpAny_standAt ?_)
 rw[hs]
 refine wpAny_bind (wpAny_pure ?_)
 rw[if_neg (by decide)]
 refine wpAny_bind (Tuple_ (yq (ha _ pins s σ H _ I h) fun us s1 ⟨vs,H1,I1,r1,q1⟩=>?_))
 obtain⟨v,w,e1,q1⟩:=q1
 subst e1
 obtain⟨u1,u2,rfl,rv,rw'⟩:∃ u1 u2,us=[u1,u2]∧RelV v u1∧RelV w u2:=by
  cases r1 with
  | cons p q =>
   cases q with
   | cons p' q' =>
    cases q'
    exact⟨_,_,rfl,p,p'⟩
 refine wpAny_newObj_type ?_ (by show 2≤sizeLine;decide)
 have I2:zV X pins σ H1 { s1 with heap:=s1.heap.push { cls:=.type "tuple",data:=.seq [u1,u2].toArray } }:=I1.kept (t':=s1.toks) fun b o e=>Heap.get?_push_of_some _ e
 rw[hw]
 refine wpAny_bind (wpAny_pure ?_)
 show wpAny (model X.prog X.w) X.A (do rule "assign.swapped-stores";let items ← unpackItems (.ref s1.heap.objs.size) 2 none;assignInOrder [fun v=>bindName X.env y v,fun v=>bindName X.env x v] items.reverse;pure Flow.next) _ _ _
 refine wpAny_bind (wpAny_rule (wpAny_bind (unpackItems_tuple (items:=#[u1,u2]) (I.ok.hd hc) (IsTup.new s1.heap _) fun h' hx'=>?_)))
 have I3:=I2.kept (h':=h') (t':=s1.toks) fun b o e=>hx' b o (Nat.ne_of_lt (Heap.lt_size e)) e
 show wpAny _ _ (assignInOrder [fun v=>bindName X.env y v,fun v=>bindName X.env x v] [u2,u1]>>=fun u0=>pure Flow.next) _ _ _
 refine wpAny_bind (assignInOrder_cons (wpAny_bindName (zAz I3 hN hj (.inl hy) rw' (fun s2 I4=>?_) (.inr hy))))
 refine assignInOrder_cons (wpAny_bindName (zAz I4 hN hi (.inl hx) rv (fun s3 I5=>assignInOrder_nil (wpAny_pure ?_)) (.inr hx)))
 rw[List.set_comm _ _ (Ne.symm hij)] at I5
 exact⟨_,H1,I5,q1⟩
end
section
variable {X:Cx} {pos:Pos}
end
set_option genInjectivity false in
structure It where
 go:Nat→Hp→Prop
 yld:Nat→Hp→V→Hp→Prop
 stop:Nat→Hp→Prop
noncomputable def zB8(X:Cx)(pins:List (Addr×Obj))(H:Hp)(b:Addr):Prop :=
 H b=none∧b≠X.env.locals∧b∉X.fs∧(b∈X.ex∨X.s₀.heap.objs.size≤b)∧(∀ x c,X.env.cells.lookup x=some c→c≠b)∧∀ p∈X.pn++pins,p.1≠b
theorem zV.fpOk{X:Cx}{pins:List (Addr×Obj)}{σ:St}{H H':Hp}{s:Shared}{b:Addr}(I:zV X pins σ H s)(hb:s.heap.objs.size≤b)(hn:H' b=none):zB8 X pins H' b:=by
 refine⟨hn,Nat.ne_of_gt (Nat.lt_of_lt_of_le I.lt hb),I.nofs hb,.inr (Nat.le_trans I.sz hb),fun x c e z=>?_,fun p hp z=>?_⟩
 ·obtain⟨v,q⟩:=I.cell x c e
  exact absurd (Nat.lt_of_lt_of_le q.lt (by rw[z];exact hb)) (Nat.lt_irrefl _)
 ·exact absurd (Nat.lt_of_lt_of_le (Heap.lt_size (I.pin p hp).1) (by rw[z];exact hb)) (Nat.lt_irrefl _)
set_option genInjectivity false in
structure Turn (P:Program) (w:World) (K:PySem.W.Frag) (tg:Expr) (J:It) (fp:List Addr) (it:Addr) (tn:Nat→Heap→Prop):Prop where
 mem:it∈fp
 obj:∀ i h,tn i h→∀ b∈fp,∃ o,h.get? b=some o∧∀ v,o.data≠.cell v
 keep:∀ i h h',tn i h→(∀ b∈fp,∀ o,h.get? b=some o→h'.get? b=some o)→tn i h'
 item:∀(X:Cx),X.prog=P→X.w=w→X.K=K→X.calm=true→∀(i:Nat) (pins:List (Addr×Obj)) (s:Shared) (σ:St) (H:Hp) (E:Value→Shared→Prop),zV X pins σ H s→(∀ b∈fp,zB8 X pins H b)→tn i s.heap→J.go i H →
  wpAny (model P w) X.A (pyNext (.ref it)) (fun r s1=>∃ u,r=some u ∧
   wpAny (model P w) X.A (letOwnedTupleGo tg (.ref it) u) (fun u0 s2=>∃ x H',zV X pins σ H' s2∧RelV x u∧J.yld i H x H'∧tn (i+1) s2.heap∧∀ b∈fp,H' b=none) E s1) E s
 done:∀(X:Cx),X.prog=P→X.w=w→X.K=K→X.calm=true→∀(i:Nat) (pins:List (Addr×Obj)) (s:Shared) (σ:St) (H:Hp) (E:Value→Shared→Prop),zV X pins σ H s→(∀ b∈fp,zB8 X pins H b)→tn i s.heap→J.stop i H →
  wpAny (model P w) X.A (pyNext (.ref it)) (fun r s1=>r=none∧zV X pins σ H s1) E s
 self:∀(A:Around) (i:Nat) (s:Shared) (Q:Value→Shared→Prop) (E:Value→Shared→Prop),tn i s.heap→Q (.ref it) s→wpAny (model P w) A (pyIter (.ref it)) Q E s
noncomputable abbrev TI:=St→Hp→(It→Hp→Prop)→Prop
noncomputable def PIE(X:Cx)(pins:List (Addr×Obj))(σ:St)(tg:Expr)(R:It→Hp→Prop)(itv:Value)(s2:Shared):Prop :=
 ∃(it:Addr) (fp:List Addr) (tn:Nat→Heap→Prop) (J:It) (H':Hp),itv=.ref it∧zV X pins σ H' s2∧Turn X.prog X.w X.K tg J fp it tn∧tn 0 s2.heap∧(∀ b∈fp,zB8 X pins H' b)∧R J H'
noncomputable def PI(X:Cx)(tg iter:Expr)(wi:TI):Prop :=
 ∀(pins:List (Addr×Obj)) (s:Shared) (σ:St) (H:Hp) (R:It→Hp→Prop),zV X pins σ H s→wi σ H R →
  wpAny (model X.prog X.w) X.A (eval iter X.env) (fun v s1=>wpAny (model X.prog X.w) X.A (pyIter v) (PIE X pins σ tg R) X.xe s1) X.xe s
theorem zK6{M:Model}{A:Around}{E:Value→Shared→Prop}{s:Shared}{tg:Expr}{it:Addr}{u:Value}{o:Obj}{n:String}{vs:Array Value}{Q:Unit→Shared→Prop}(ho:s.heap.get? it=some o)(hc:o.cls=.type n)(hd:o.data=.fields vs)
    (hn:["enumerate","zip","dict_itemiterator","dict_reverseitemiterator","odict_iterator","itertools.zip_longest","itertools.pairwise"].contains n=false) (hQ:Q () s):wpAny M A (letOwnedTupleGo tg (.ref it) u) Q E s:=by
  unfold letOwnedTupleGo
  cases tg<;>first
    | exact wpAny_pure hQ
    | (cases u<;>first
        | exact wpAny_pure hQ
        | (refine wpAny_bind (wpAny_load ho ?_)
           rw[hc,hd]
           show wpAny M A (if (["enumerate","zip","dict_itemiterator","dict_reverseitemiterator","odict_iterator","itertools.zip_longest","itertools.pairwise"].contains n&&vs[0]?==some (rawInt _))=true then _ else _) Q E s
           rw[if_neg (by intro h;rw[hn,Bool.false_and] at h;cases h)]
           exact wpAny_pure hQ))
noncomputable def Itl(K:PySem.W.Frag)(a:Addr):It :=
 ⟨fun i H=>∃ xs x,SqL K H a xs∧xs[i]?=some x,fun i H x H'=>H'=H∧∀ xs,SqL K H a xs→xs[i]?=some x,fun i H=>∃ xs,SqL K H a xs∧xs.length≤i⟩
noncomputable def Itt(K:PySem.W.Frag)(a:Addr):It :=
 ⟨fun i H=>∃ xs x,SqT K H a xs∧xs[i]?=some x,fun i H x H'=>H'=H∧∀ xs,SqT K H a xs→xs[i]?=some x,fun i H=>∃ xs,SqT K H a xs∧xs.length≤i⟩
noncomputable def Itr(lo:Int)(n:Nat):It:=⟨fun i u0=>i<n,fun i H x H'=>H'=H∧x=.int (lo+i),fun i u0=>n≤i⟩
theorem zJd{P:Program}{w:World}{K:PySem.W.Frag}{tg:Expr}(a it:Addr):Turn P w K tg (Itl K a) [it] it (fun i h=>h.IsListIter it a i) where
 mem:=by simp
 obj:=fun i h st b hb=>by
  have e:b=it:=by simpa using hb
  subst e
  obtain⟨o,e,c,d⟩:=st
  exact⟨o,e,fun v z=>by rw[d] at z;cases z⟩
 keep:=fun i h h' st k=>st.at fun o e=>k it (by simp) o e
 item:=by
  intro X hP hw hK hc i pins s σ H E I hf st hg
  subst hP hw hK
  obtain⟨xs,x,hq,hx⟩:=hg
  obtain⟨its,rv,p,hz⟩:=I.list hq
  obtain⟨u,hu,ru⟩:=rv.get hx
  obtain⟨f0,f1,f2,f3,f4,f5⟩:=hf it (by simp)
  refine wpAny_pyNext_list_item st p.isList (x:=u) (by simpa using hu) fun h' st' sb=>?_
  have I1:zV X pins σ H { s with heap:=h' }:=I.turned (t':=s.toks) (fun b o hb e=>(sb.2 b hb).trans e) f0 f1 f3 f4 f5
  obtain⟨o,e,c,d⟩:=id st'
  exact⟨u,rfl,zK6 (s:={ s with heap:=h' }) e c d (by decide) ⟨x,H,I1,ru,⟨rfl,fun ys hy=>by rw[I.list_inj hy hq];exact hx⟩,st',fun b hb=>(hf b hb).1⟩⟩
 done:=by
  intro X hP hw hK hc i pins s σ H E I hf st hg
  subst hP hw hK
  obtain⟨xs,hq,hx⟩:=hg
  obtain⟨its,rv,p,hz⟩:=I.list hq
  obtain⟨f0,f1,f2,f3,f4,f5⟩:=hf it (by simp)
  have hl:=rv.length
  exact wpAny_pyNext_list_end (I.ok.hd hc) st p.isList (by simp;(first|lia|omega)) fun h' eb=>⟨rfl,I.turned (t':=s.toks) (fun b o hb e=>eb b o hb e) f0 f1 f3 f4 f5⟩
 self:=fun u0 u0 u0 u0 u0 st h=>wpAny_pyIter_listiter st h
theorem zHt{P:Program}{w:World}{K:PySem.W.Frag}{tg:Expr}(a it:Addr):Turn P w K tg (Itt K a) [it] it (fun i h=>h.IsTupleIter it a i) where
 mem:=by simp
 obj:=fun i h st b hb=>by
  have e:b=it:=by simpa using hb
  subst e
  obtain⟨o,e,c,d⟩:=st
  exact⟨o,e,fun v z=>by rw[d] at z;cases z⟩
 keep:=fun i h h' st k=>st.at fun o e=>k it (by simp) o e
 item:=by
  intro X hP hw hK hc i pins s σ H E I hf st hg
  subst hP hw hK
  obtain⟨xs,x,hq,hx⟩:=hg
  obtain⟨its,rv,p,hz⟩:=I.tuple hq
  obtain⟨u,hu,ru⟩:=rv.get hx
  obtain⟨f0,f1,f2,f3,f4,f5⟩:=hf it (by simp)
  refine wpAny_pyNext_tuple_item st (show s.heap.IsTuple a its.toArray from p) (x:=u) (by simpa using hu) fun h' st' sb=>?_
  have I1:zV X pins σ H { s with heap:=h' }:=I.turned (t':=s.toks) (fun b o hb e=>(sb.2 b hb).trans e) f0 f1 f3 f4 f5
  obtain⟨o,e,c,d⟩:=id st'
  exact⟨u,rfl,zK6 (s:={ s with heap:=h' }) e c d (by decide) ⟨x,H,I1,ru,⟨rfl,fun ys hy=>by rw[I.tuple_inj hy hq];exact hx⟩,st',fun b hb=>(hf b hb).1⟩⟩
 done:=by
  intro X hP hw hK hc i pins s σ H E I hf st hg
  subst hP hw hK
  obtain⟨xs,hq,hx⟩:=hg
  obtain⟨its,rv,p,hz⟩:=I.tuple hq
  obtain⟨f0,f1,f2,f3,f4,f5⟩:=hf it (by simp)
  have hl:=rv.length
  exact wpAny_pyNext_tuple_end (I.ok.hd hc) st (show s.heap.IsTuple a its.toArray from p) (by simp;(first|lia|omega)) fun h' eb=>⟨rfl,I.turned (t':=s.toks) (fun b o hb e=>eb b o hb e) f0 f1 f3 f4 f5⟩
 self:=fun u0 u0 u0 u0 u0 st h=>wpAny_pyIter_tupleiter st h
theorem zHu{P:Program}{w:World}{K:PySem.W.Frag}{tg:Expr}(it:Addr)(lo:Int)(n:Nat):Turn P w K tg (Itr lo n) [it] it (fun i h=>IsRangeIter h it (lo+(i:Nat)*1) ((n:Int)-(i:Nat)) 1) where
 mem:=by simp
 obj:=fun i h st b hb=>by
  have e:b=it:=by simpa using hb
  subst e
  exact⟨_,st,fun v z=>by
   have z':Data.fields _=Data.cell v:=z
   cases z'⟩
 keep:=fun i h h' st k=>k it (by simp) _ st
 item:=by
  intro X hP hw hK hc i pins s σ H E I hf st hg
  subst hP hw hK
  obtain⟨f0,f1,f2,f3,f4,f5⟩:=hf it (by simp)
  have W:=Walks.range (prog:=X.prog) (w:=X.w) (I.ok.hd hc) it lo 1 n
  refine W.item i s _ _ hg st fun v h' tk hv st' kk=>?_
  obtain⟨t,rfl⟩:=hv
  have I1:zV X pins σ H { s with heap:=h',toks:=tk }:=I.turned (fun b o hb e=>kk b o (by simpa using hb) e) f0 f1 f3 f4 f5
  refine⟨_,rfl,zK6 (s:={ s with heap:=h',toks:=tk }) (n:="range_iterator") st' rfl rfl (by decide) ⟨.int (lo+i),H,I1,⟨t,?_⟩,⟨rfl,rfl⟩,st',fun b hb=>(hf b hb).1⟩⟩
  rw[Int.mul_one]
 done:=by
  intro X hP hw hK hc i pins s σ H E I hf st hg
  subst hP hw hK
  obtain⟨f0,f1,f2,f3,f4,f5⟩:=hf it (by simp)
  exact wpAny_pyNext_range_end (I.ok.hd hc) st (by have:n≤i:=hg;(first|lia|omega)) fun h' eb=>⟨rfl,I.turned (t':=s.toks) (fun b o hb e=>eb b o hb e) f0 f1 f3 f4 f5⟩
 self:=fun u0 u0 u0 u0 u0 st h=>wpAny_pyIter_rangeiter st h
end L2
namespace L2
open PySem PySem.Spec PyProof.Rows
section
variable {X:Cx} {tg:Expr}
theorem zGm{pins:List (Addr×Obj)}{σ:St}{H:Hp}{s:Shared}{R:It→Hp→Prop}{E:Value→Shared→Prop}{lo hi:Int}{t u v:Tok}{tk:Nat}(I:zV X pins σ H s)(h1:-(2 ^ 62)≤lo)(h2:lo<2 ^ 62)(h3:-(2 ^ 62)≤hi)(h4:hi<2 ^ 62)
  (q:R (Itr lo (hi-lo).toNat) H):wpAny (model X.prog X.w) X.A (pyIter (.ref s.heap.objs.size)) (PIE X pins σ tg R) E { s with heap:=s.heap.push { cls:=.type "range",data:=.fields #[.int lo t,.int hi u,.int 1 v] },toks:=tk }:=by
 refine wpAny_pyIter_range (IsRange.new ..) (small_one h1 h2 h3 h4) ?_
 have I1:zV X pins σ H { s with heap:=s.heap.push { cls:=.type "range",data:=.fields #[.int lo t,.int hi u,.int 1 v] },toks:=tk }:=I.kept fun b o e=>Heap.get?_push_of_some _ e
 refine⟨(s.heap.push { cls:=.type "range",data:=.fields #[.int lo t,.int hi u,.int 1 v] }).objs.size,[(s.heap.push { cls:=.type "range",data:=.fields #[.int lo t,.int hi u,.int 1 v] }).objs.size],_,_,H,rfl,
  I1.kept (t':=tk) fun b o e=>Heap.get?_push_of_some _ e,zHu _ lo (hi-lo).toNat,?_,fun b hb=>?_,q⟩
 ·have e1:lo+((0:Nat):Int)*1=lo:=by simp
  have e2:(((hi-lo).toNat:Nat):Int)-((0:Nat):Int)=Builtin.Range.rangeSize lo hi 1:=by rw[rangeSize_one];split<;>(first|lia|omega)
  show IsRangeIter _ _ (lo+((0:Nat):Int)*1) ((((hi-lo).toNat:Nat):Int)-((0:Nat):Int)) 1
  rw[e1,e2]
  exact Heap.get?_push_size _ rfl
 ·have e:b=(s.heap.push { cls:=.type "range",data:=.fields #[.int lo t,.int hi u,.int 1 v] }).objs.size:=by simpa using hb
  subst e
  exact I1.fpOk (Nat.le_refl _) (I1.hok.fresh (Nat.le_refl _))
noncomputable def zQS(ta:TA):TI:=fun σ H R=>ta σ H fun vs H1=>∃ j:Int,vs=[.int j]∧-(2 ^ 62)≤j∧j<2 ^ 62∧R (Itr 0 j.toNat) H1
noncomputable def zQT(ta:TA):TI:=fun σ H R=>ta σ H fun vs H1=>∃ i j:Int,vs=[.int i,.int j]∧(-(2 ^ 62)≤i∧i<2 ^ 62∧-(2 ^ 62)≤j∧j<2 ^ 62)∧R (Itr i (j-i).toNat) H1
theorem zJe{a:Expr}{ta:TA}{p pos:Pos}(hg:Gl X "range")(hm:X.mg "range"=none)(ha:PA X [a] ta)(hs:starEach [a] X.env=[(false,eval a X.env)]:=by rfl):PI X tg (.Call (.Name "range" p) [a] [] pos) (zQS ta):=by
 intro pins s σ H R I h
 refine Call_ (zCB I hg hm boot_range (PyProof.Rows.callWith_type1 (yq (ha pos pins s σ H _ I h) fun us s1 ⟨vs,H1,I1,r1,q1⟩=>?_) hs rfl))
 obtain⟨j,e,q1,q2,q⟩:=q1
 subst e
 cases r1 with
 | cons r rr =>
  cases rr
  obtain⟨t,rfl⟩:=r
  exact call_range_1 (zGm I1 (by (first|lia|omega)) (by (first|lia|omega)) q1 q2 (by simpa using q))
theorem zJf{a b:Expr}{ta:TA}{p pos:Pos}(hg:Gl X "range")(hm:X.mg "range"=none)(ha:PA X [a,b] ta)(hs:starEach [a,b] X.env=[(false,eval a X.env),(false,eval b X.env)]:=by rfl)(hs2:starEach [b] X.env=[(false,eval b X.env)]:=by rfl) :
  PI X tg (.Call (.Name "range" p) [a,b] [] pos) (zQT ta):=by
 intro pins s σ H R I h
 refine Call_ (zCB I hg hm boot_range (PyProof.Rows.callWith_type1 (yq (ha pos pins s σ H _ I h) fun us s1 ⟨vs,H1,I1,r1,q1⟩=>?_) (by rw[hs,hs2]) (by rw[hs2];rfl)))
 obtain⟨i,j,e,⟨q1,q2,q3,q4⟩,q⟩:=q1
 subst e
 cases r1 with
 | cons r rr =>
  cases rr with
  | cons r' rr =>
   cases rr
   obtain⟨t,rfl⟩:=r
   obtain⟨t',rfl⟩:=r'
   exact call_range_2 (zGm I1 q1 q2 q3 q4 q)
noncomputable def zRN(wi:TI)(g:TG)(tb:TS):TS:=fun D σ H=>wi σ H fun J H1=>∃ W:Nat→Nat→St→Hp→Prop,(∃ m,W 0 m σ H1)∧∀ i m σ H,W i m σ H →
 (J.stop i H∧D.nx σ H)∨(J.go i H∧∃ N:St→Hp→Prop,(∀ σ' H',N σ' H'→∃ m',m'<m∧W (i+1) m' σ' H')∧∀ x H',J.yld i H x H'→g x σ H' fun σ2 H2=>tb { D with nx:=N,ct:=N,bk:=D.nx } σ2 H2)
noncomputable def zDh(fp:List Addr)(h:Heap):List (Addr×Obj):=fp.filterMap fun b=>(h.get? b).map fun o=>(b,o)
theorem zAM{fp:List Addr}{h:Heap}{b:Addr}{o:Obj}(hb:b∈fp)(e:h.get? b=some o):(b,o)∈zDh fp h:=List.mem_filterMap.mpr ⟨b,hb,by rw[e];rfl⟩
theorem zJg{fp:List Addr}{h:Heap}{p:Addr×Obj}(hp:p∈zDh fp h):p.1∈fp∧h.get? p.1=some p.2:=by
 obtain⟨b,hb,e⟩:=List.mem_filterMap.mp hp
 cases q:h.get? b with
 | none=>rw[q] at e;cases e
 | some o =>
  rw[q] at e
  have e':(b,o)=p:=Option.some.inj e
  subst e'
  exact⟨hb,q⟩
theorem zV.pinned{pins:List (Addr×Obj)}{σ:St}{H:Hp}{s:Shared}{fp:List Addr}(I:zV X pins σ H s)(hf:∀ b∈fp,zB8 X pins H b)(ho:∀ b∈fp,∃ o,s.heap.get? b=some o∧∀ v,o.data≠.cell v):zV X (pins++zDh fp s.heap) σ H s :=
 I.pins_of fun p hp=>(List.mem_append.mp hp).elim (fun z=>I.pin p (List.mem_append_right _ z)) fun z=>by
  obtain⟨hb,e⟩:=zJg z
  obtain⟨f0,f1,f2,u0⟩:=hf p.1 hb
  obtain⟨o,e',d⟩:=ho p.1 hb
  rw[e] at e';cases e'
  exact⟨e,f0,f1,f2,d⟩
theorem zV.unpinned{pins pl:List (Addr×Obj)}{σ:St}{H:Hp}{s:Shared}(I:zV X (pins++pl) σ H s):zV X pins σ H s:=I.pins_of fun p hp=>I.pin p (List.mem_append_right _ (List.mem_append_left _ hp))
theorem zO4{iter:Expr}{body:List Stmt}{wi:TI}{g:TG}{tb:TS}{pos:Pos}(hp:PassesOwn (model X.prog X.w) X.A X.env X.xe)(hc:X.calm=true)(hi:PI X tg iter wi)(hg:PG X tg g)(hb:PSs X body tb)
  (hs:∀ x,foldedSetIterable iter X.env x=pure x:=by intro u0;rfl):PS X (.For tg iter body [] pos) (zRN wi g tb):=by
 intro pins s σ H D I h
 refine wpAny_For (yq (hi pins s σ H _ I h) fun v s1 h1=>yq h1 fun itv s2 h2=>?_) hs
 obtain⟨it,fp,tn,J,H2,e,I2,T,st2,f2,W,⟨m0,w0⟩,turn⟩:=h2
 subst e
 -- what stays true of the iterator's objects through the loop
 have stat:∀ {H':Hp},(∀ b∈fp,H' b=none)→∀ b∈fp,zB8 X pins H' b:=fun hn b hb=>⟨hn b hb,(f2 b hb).2⟩
 refine codeAny_forLoop_any (fun n s'=>∃ i σ' H',zV X pins σ' H' s'∧tn i s'.heap∧(∀ b∈fp,H' b=none)∧W i n σ' H') ?_ m0 ⟨0,σ,H2,I2,st2,fun b hb=>(f2 b hb).1,w0⟩
 rintro n s3 ⟨i,σ3,H3,I3,st3,fr3,w3⟩
 rcases turn i n σ3 H3 w3 with ⟨stop,qn⟩ | ⟨go,N,hN,step⟩
 ·refine wpAny_passesOwn hp (yq (T.done X rfl rfl rfl hc i pins s3 σ3 H3 X.xe I3 (stat fr3) st3 stop) fun r s4 ⟨hr,I4⟩=>?_)
  subst hr
  exact wpAny_execs_nil ⟨σ3,H3,I4,qn⟩
 ·refine wpAny_passesOwn hp (yq (T.item X rfl rfl rfl hc i pins s3 σ3 H3 X.xe I3 (stat fr3) st3 go) fun r s4 ⟨u,hr,h4⟩=>?_)
  subst hr
  refine wpAny_passesOwn hp (yq h4 fun _ s5 ⟨x,H5,I5,r5,y5,st5,fr5⟩=>?_)
  have I5':=I5.pinned (stat fr5) (T.obj _ _ st5)
  refine wpAny_passesOwn hp (yq (hg _ s5 σ3 H5 x u _ I5' r5 (step x H5 y5)) fun _ s6 ⟨σ6,H6,I6,q6⟩=>?_)
  refine wpAny_passesOwn hp (yq (hb _ s6 σ6 H6 _ I6 q6) fun f s7 q7=>?_)
  have again:∀ {σ7:St} {H7:Hp},zV X (pins++zDh fp s5.heap) σ7 H7 s7→N σ7 H7→∃ m,m<n∧∃ i σ' H',zV X pins σ' H' s7∧tn i s7.heap∧(∀ b∈fp,H' b=none)∧W i m σ' H':=fun {σ7 H7} I7 n7=>by
   obtain⟨m',hm,w7⟩:=hN σ7 H7 n7
   refine⟨m',hm,i+1,σ7,H7,I7.unpinned,T.keep _ _ _ st5 fun b hb o e=>(I7.pin (b,o) (List.mem_append_right _ (List.mem_append_right _ (zAM hb e)))).1,fun b hb=>?_,w7⟩
   obtain⟨o,e,d⟩:=T.obj _ _ st5 b hb
   exact(I7.pin (b,o) (List.mem_append_right _ (List.mem_append_right _ (zAM hb e)))).2.1
  cases f with
  | next=>obtain⟨σ7,H7,I7,n7⟩:=q7;exact again I7 n7
  | cont=>obtain⟨σ7,H7,I7,n7⟩:=q7;exact again I7 n7
  | brk=>obtain⟨σ7,H7,I7,q7⟩:=q7;exact⟨σ7,H7,I7.unpinned,q7⟩
  | ret v=>obtain⟨x7,σ7,H7,I7,r7,q7⟩:=q7;exact⟨x7,σ7,H7,I7.unpinned,r7,q7⟩
end
end L2
namespace L2
open PySem PySem.Spec PyProof.Rows
noncomputable abbrev R2:=V→V→Hp→VK→Prop
noncomputable def OpR(X:Cx)(f:Value→Value→Sem Value)(r:R2):Prop :=
 ∀(pins:List (Addr×Obj)) (s:Shared) (σ:St) (H:Hp) (x y:V) (v u:Value) (Q:VK),zV X pins σ H s→RelV x v→RelV y u→r x y H Q →
  wpAny (model X.prog X.w) X.A (f v u) (EP X pins σ Q) X.xe s
noncomputable def wE(X:Cx)(f:Value)(r:List V→Hp→VK→Prop):Prop :=
 ∀(pins:List (Addr×Obj)) (s:Shared) (σ:St) (H:Hp) (xs:List V) (us:List Value) (Q:VK),zV X pins σ H s→zh xs us→r xs H Q →
  wpAny (model X.prog X.w) X.A (call f us) (EP X pins σ Q) X.xe s
noncomputable def tOp(r:R2)(ta tb:TE):TE:=fun σ H Q=>ta σ H fun x H1=>tb σ H1 fun y H2=>r x y H2 Q
noncomputable def rI(C:Int→Int→Prop)(g:Int→Int→V):R2:=fun x y H Q=>∃ i j,x=.int i∧y=.int j∧C i j∧Q (g i j) H
noncomputable def rI0(g:Int→Int→V):R2:=fun x y H Q=>∃ i j,x=.int i∧y=.int j∧Q (g i j) H
section
variable {X:Cx} {a b c:Expr} {ta tb tc:TE} {pos:Pos}
theorem zO5(ha:PE X a ta)(hb:PE X b tb){pins:List (Addr×Obj)}{s:Shared}{σ:St}{H:Hp}{R:V→V→Hp→Prop}(I:zV X pins σ H s)
  (h:ta σ H fun x H1=>tb σ H1 fun y H2=>R x y H2) {Q:Value→Shared→Prop} {f:Value→Value→Sem Value}
  (hf:∀ v u s2 x y H2,zV X pins σ H2 s2→RelV x v→RelV y u→R x y H2→wpAny (model X.prog X.w) X.A (f v u) Q X.xe s2) :
  wpAny (model X.prog X.w) X.A (eval a X.env) (fun v s₁=>wpAny (model X.prog X.w) X.A (eval b X.env) (fun u s₂=>wpAny (model X.prog X.w) X.A (f v u) Q X.xe s₂) X.xe s₁) X.xe s:=by
 refine yq (ha pins s σ H _ I h) fun v s1 ⟨x,H1,I1,r1,q1⟩=>?_
 refine yq (hb pins s1 σ H1 _ I1 q1) fun u s2 ⟨y,H2,I2,r2,q2⟩=>?_
 exact hf v u s2 x y H2 I2 r1 r2 q2
theorem zK7{op:Operator}{r:R2}(ho:OpR X (binaryOp op) r)(ha:PE X a ta)(hb:PE X b tb):PE X (.BinOp a op b pos) (tOp r ta tb):=by
 intro pins s σ H Q I h
 exact wpAny_BinOp (zO5 ha hb I h fun v u s2 x y H2 I2 rx ry q=>ho pins s2 σ H2 x y v u Q I2 rx ry q)
theorem opI{f:Value→Value→Sem Value}{C:Int→Int→Prop}{g:Int→Int→Int}
  (rule:∀(i j:Int) (t u:Tok) (s:Shared) (Q:Value→Shared→Prop) (E:Value→Shared→Prop),C i j→Q (.int (g i j) s.toks) { s with toks:=s.toks+1 }→wpAny (model X.prog X.w) X.A (f (.int i t) (.int j u)) Q E s) :
  OpR X f (rI C fun i j=>.int (g i j)):=by
 intro pins s σ H x y v u Q I rx ry h
 obtain⟨i,j,rfl,rfl,hc,q⟩:=h
 obtain⟨t,rfl⟩:=rx
 obtain⟨t',rfl⟩:=ry
 exact rule i j t t' s _ _ hc ⟨.int (g i j),H,I.tok _,⟨_,rfl⟩,q⟩
theorem zO6{f:Value→Value→Sem Value}{g:Int→Int→Int}
  (rule:∀(i j:Int) (t u:Tok) (s:Shared) (Q:Value→Shared→Prop) (E:Value→Shared→Prop),Q (.int (g i j) s.toks) { s with toks:=s.toks+1 }→wpAny (model X.prog X.w) X.A (f (.int i t) (.int j u)) Q E s) :
  OpR X f (rI0 fun i j=>.int (g i j)):=by
 intro pins s σ H x y v u Q I rx ry h
 obtain⟨i,j,rfl,rfl,q⟩:=h
 obtain⟨t,rfl⟩:=rx
 obtain⟨t',rfl⟩:=ry
 exact rule i j t t' s _ _ ⟨.int (g i j),H,I.tok _,⟨_,rfl⟩,q⟩
theorem zNE{f:Value→Value→Sem Value}{g:Int→Int→Bool}
  (rule:∀(i j:Int) (t u:Tok) (s:Shared) (Q:Value→Shared→Prop) (E:Value→Shared→Prop),Q (.bool (g i j)) s→wpAny (model X.prog X.w) X.A (f (.int i t) (.int j u)) Q E s) :
  OpR X f (rI0 fun i j=>.bl (g i j)):=by
 intro pins s σ H x y v u Q I rx ry h
 obtain⟨i,j,rfl,rfl,q⟩:=h
 obtain⟨t,rfl⟩:=rx
 obtain⟨t',rfl⟩:=ry
 exact rule i j t t' s _ _ ⟨.bl (g i j),H,I,rfl,q⟩
noncomputable def zK8(i j:Int):Prop:=0<j∧j<1073741824
noncomputable def zEa(i j:Int):Prop:=0≤j∧j≤1000000∧i.natAbs<2 ^ 64
noncomputable def zFP(i j:Int):Prop:=(-(2 ^ 64)<i∧i<2 ^ 64)∨(-(2 ^ 64)<j∧j<2 ^ 64)
theorem zFP.ok{i j:Int}(h:zFP i j):IntMulOk i j:=by
 rcases h with ⟨h1,h2⟩ | ⟨h1,h2⟩
 ·exact .of_left (intBits_le_64 h1 h2)
 ·exact .of_right (intBits_le_64 h1 h2)
theorem zO7:OpR X (binaryOp .Add) (rI0 fun i j=>.int (i+j)):=zO6 fun u0 u0 u0 u0 u0 u0 u0 q=>add_int q
theorem zO8:OpR X (binaryOp .Sub) (rI0 fun i j=>.int (i-j)):=zO6 fun u0 u0 u0 u0 u0 u0 u0 q=>sub_int q
theorem zO9:OpR X (binaryOp .Mult) (rI zFP fun i j=>.int (i*j)):=opI fun u0 u0 u0 u0 u0 u0 u0 hc q=>mul_int q hc.ok
theorem zNF:OpR X (binaryOp .FloorDiv) (rI zK8 fun i j=>.int (i / j)):=opI fun i j u0 u0 u0 u0 u0 hc q=>by
 have h1:(0:Int)<j:=hc.1
 have h2:j<1073741824:=hc.2
 exact floordiv_int (by (first|lia|omega)) (by rw[Int.fdiv_eq_ediv_of_nonneg i (by (first|lia|omega))];exact q) (.inl (PyProof.noPylong_small (by (first|lia|omega))))
theorem zPA:OpR X (binaryOp .Mod) (rI (fun u0 j=>0<j) fun i j=>.int (i%j)):=opI fun i j u0 u0 u0 u0 u0 hc q=>by
 have h1:(0:Int)<j:=hc
 exact mod_int' (by (first|lia|omega)) (by rw[Int.fmod_eq_emod_of_nonneg i (by (first|lia|omega))];exact q)
theorem zPB:OpR X (binaryOp .Pow) (rI zEa fun i j=>.int (i ^ j.toNat)):=opI fun u0 u0 u0 u0 u0 u0 u0 hc q=>pow_int_small hc.1 hc.2.1 hc.2.2 q
theorem zPC:OpR X (binaryOp .LShift) (rI zEa fun i j=>.int (i*2 ^ j.toNat)):=opI fun u0 u0 u0 u0 u0 u0 u0 hc q=>lshift_int_small hc.1 hc.2.1 hc.2.2 q
theorem zPD:OpR X (binaryOp .BitXor) (rI0 fun i j=>.int (Builtin.bitXor i j)):=zO6 fun u0 u0 u0 u0 u0 u0 u0 q=>xor_int q
end
section
variable {X:Cx} {a b c:Expr} {ta tb tc:TE} {pos:Pos}
theorem zGn:OpR X (compareOp .Lt) (rI0 fun i j=>.bl (decide (i<j))):=zNE fun u0 u0 u0 u0 u0 u0 u0 q=>lt_int q
theorem zIo:OpR X (compareOp .LtE) (rI0 fun i j=>.bl (decide (i≤j))):=zNE fun u0 u0 u0 u0 u0 u0 u0 q=>le_int q
theorem zQU:OpR X (compareOp .Gt) (rI0 fun i j=>.bl (decide (j<i))):=zNE fun u0 u0 u0 u0 u0 u0 u0 q=>gt_int q
theorem zQV:OpR X (compareOp .GtE) (rI0 fun i j=>.bl (decide (j≤i))):=zNE fun u0 u0 u0 u0 u0 u0 u0 q=>ge_int q
theorem OpR.or{f:Value→Value→Sem Value}{r r':R2}(h:OpR X f r)(h':OpR X f r'):OpR X f (fun x y H Q=>r x y H Q∨r' x y H Q):=by
 intro pins s σ H x y v u Q I rx ry q
 rcases q with q | q
 ·exact h pins s σ H x y v u Q I rx ry q
 ·exact h' pins s σ H x y v u Q I rx ry q
theorem zCC(b:Expr){op:CmpOp}(h:op≠.In:=by decide)(h2:op≠.NotIn:=by decide):behindInMarks op b=false:=by
 have e1:(op==CmpOp.In)=false:=by cases op<;>first | rfl | exact absurd rfl h
 have e2:(op==CmpOp.NotIn)=false:=by cases op<;>first | rfl | exact absurd rfl h2
 cases b<;>simp[behindInMarks,e1,e2]
theorem zNG{op:CmpOp}{r:R2}(ho:OpR X (compareOp op) r)(ha:PE X a ta)(hb:PE X b tb)(hm:behindInMarks op b=false):PE X (.Compare a [op] [b] pos) (tOp r ta tb):=by
 intro pins s σ H Q I h
 exact wpAny_Compare1 (zO5 ha hb I h fun v u s2 x y H2 I2 rx ry q=>ho pins s2 σ H2 x y v u Q I2 rx ry q) hm
noncomputable def zQW(t:TE):TT:=fun σ H Q=>t σ H fun x H'=>∃ k,x=.bl k∧Q k H'
theorem zNH{op:CmpOp}{r:R2}(ho:OpR X (compareOp op) r)(ha:PE X a ta)(hb:PE X b tb)(hm:behindInMarks op b=false):PT X (.Compare a [op] [b] pos) (zQW (tOp r ta tb)):=by
 intro pins s σ H Q I h
 refine wpAny_isTrue_Compare1 (yq (ha pins s σ H _ I h) fun v s1 ⟨x,H1,I1,r1,q1⟩=>yq (hb pins s1 σ H1 _ I1 q1) fun u s2 ⟨y,H2,I2,r2,q2⟩ =>
  yq (ho pins s2 σ H2 x y v u _ I2 r1 r2 q2) fun c s3 ⟨z,H3,I3,r3,k,e,q3⟩=>?_) hm
 subst e
 cases r3
 exact wpAny_truthy_bool ⟨H3,I3,q3⟩
noncomputable def zK9(r r':R2)(ta tb tc:TE):TE:=fun σ H Q=>ta σ H fun x H1=>tb σ H1 fun y H2=>r x y H2 fun z H3=>∃ k,z=.bl k ∧
 (if k=true then tc σ H3 fun w' H4=>r' y w' H4 Q else Q (.bl false) H3)
theorem zLA{op op':CmpOp}{r r':R2}(ho:OpR X (compareOp op) r)(ho':OpR X (compareOp op') r')(ha:PE X a ta)(hb:PE X b tb)(hc:PE X c tc)
  (hm:lastMarks [op,op'] [b,c]=false:=by with_unfolding_all rfl):PE X (.Compare a [op,op'] [b,c] pos) (zK9 r r' ta tb tc):=by
 intro pins s σ H Q I h
 refine Compare_chain (yq (ha pins s σ H _ I h) fun v s1 ⟨x,H1,I1,r1,q1⟩=>chain_link (yq (hb pins s1 σ H1 _ I1 q1) fun u s2 ⟨y,H2,I2,r2,q2⟩ =>
  yq (ho pins s2 σ H2 x y v u _ I2 r1 r2 q2) fun d s3 ⟨z,H3,I3,r3,k,e,q3⟩=>?_)) hm
 subst e
 cases r3
 refine wpAny_truthy_bool ?_
 cases k with
 | false=>exact ite_ff ⟨.bl false,H3,I3,rfl,q3⟩
 | true=>exact ite_tt (chain_last (yq (hc pins s3 σ H3 _ I3 q3) fun w' s4 ⟨z',H4,I4,r4,q4⟩=>ho' pins s4 σ H4 y z' u w' Q I4 r2 r4 q4))
theorem zGC:(sizeLine:Nat)<2 ^ 63:=by rw[sizeLine_eq];decide
theorem vals1{x:V}{us:List Value}(r:zh [x] us):∃ u,us=[u]∧RelV x u:=by
 cases r with
 | cons r1 r2=>cases r2;exact⟨_,rfl,r1⟩
theorem vals2{x y:V}{us:List Value}(r:zh [x,y] us):∃ u w',us=[u,w']∧RelV x u∧RelV y w':=by
 cases r with
 | cons r1 r2 =>
  cases r2 with
  | cons r3 r4=>cases r4;exact⟨_,_,rfl,r1,r3⟩
theorem zJh(hc:X.calm=true):wE X (.builtin "max") (fun xs H Q=>∃ i j,xs=[.int i,.int j]∧Q (.int (if j>i then j else i)) H):=by
 intro pins s σ H xs us Q I r h
 obtain⟨i,j,rfl,q⟩:=h
 obtain⟨u,w',rfl,⟨t,rfl⟩,⟨t',rfl⟩⟩:=vals2 r
 refine max_two_ints (I.ok.hd hc) fun h' tk k=>⟨_,H,I.kept k,?_,q⟩
 by_cases hj:j>i
 ·rw[if_pos hj,if_pos hj];exact⟨_,rfl⟩
 ·rw[if_neg hj,if_neg hj];exact⟨_,rfl⟩
theorem zJi(hc:X.calm=true):wE X (.builtin "min") (fun xs H Q=>∃ i j,xs=[.int i,.int j]∧Q (.int (if j<i then j else i)) H):=by
 intro pins s σ H xs us Q I r h
 obtain⟨i,j,rfl,q⟩:=h
 obtain⟨u,w',rfl,⟨t,rfl⟩,⟨t',rfl⟩⟩:=vals2 r
 refine min_two_ints (I.ok.hd hc) fun h' tk k=>⟨_,H,I.kept k,?_,q⟩
 by_cases hj:j<i
 ·rw[if_pos hj,if_pos hj];exact⟨_,rfl⟩
 ·rw[if_neg hj,if_neg hj];exact⟨_,rfl⟩
end
end L2
namespace L2
open PySem PySem.Spec PyProof.Rows
set_option genInjectivity false in
structure zNI (h:Heap) (x dx C:Addr) (mA:Str→Option Value):Prop where
 obj:h.get? x=some (PySem.W.instObj C dx)
 ns:h.Ns1 dx mA
 ne:dx≠x
theorem zJj{h:Heap}{dx:Addr}{mA:Str→Option Value}(n:h.Ns1 dx mA):∃ od,h.get? dx=some od∧∀ name,PySem.W.lookIn name od=some (mA name):=by
 obtain⟨o,es,ep,ho,hd,hk,u0,hm⟩:=n
 refine⟨o,ho,fun name=>?_⟩
 have e:=hm name
 unfold nsFind findBy at e
 rw[← Array.find?_toList] at e
 unfold PySem.W.lookIn
 rw[hd]
 dsimp only
 split
 ·rename_i y q
  rw[q] at e
  exact congrArg some e
 ·rename_i q
  rw[q] at e
  have a:es.toList.any (·.refKey)=false:=by
   rw[List.any_eq_false]
   intro y hy
   obtain⟨z,t,hkey⟩:=hk y (Array.mem_toList_iff.mp hy)
   simp[DictEntry.refKey,hkey]
  have a':¬ es.toList.any (·.refKey)=true:=by rw[a];exact Bool.false_ne_true
  rw[if_neg a']
  exact congrArg some e
theorem zNI.look{h:Heap}{x dx C:Addr}{mA:Str→Option Value}(I:zNI h x dx C mA):∃ od,PySem.W.InstAt h x (PySem.W.instObj C dx) C (some od)∧∀ name,PySem.W.lookIn name od=some (mA name) :=
 let ⟨od,ho,hl⟩:=zJj I.ns
 ⟨od,⟨I.obj,rfl,rfl,ho⟩,hl⟩
section
variable {prog:Program} {w:World} {A:Around} {E:Value→Shared→Prop} {s:Shared} {K:PySem.W.Frag} {x dx C f:Addr} {mA:Str→Option Value} {name:Str} {v:Value}
theorem zAZ{expr:Bool}{Q:Value→Shared→Prop}(X:K.In s.heap)(I:zNI s.heap x dx C mA)(hg:PySem.W.plainGet K C name=true)(hh:PySem.W.hasDictIn K C=true)
  (ha:PySem.W.findIn K (.ref C) name=some none) (hv:mA name=some v) (hv':PySem.W.handedIn v=true) (h:Q v { s with toks:=s.toks+1 }) :
  wpAny (model prog w) A (getAttr (.ref x) name expr) Q E s:=by
 obtain⟨od,J,hl⟩:=I.look
 exact PySem.W.get_value X J (PySem.W.plainGet_of hg).1 (PySem.W.findObj_own hh ha rfl (by rw[hl,hv])) hv' h
end
section
variable {P:Program} {w:World} {H H':Hp} {h h':Heap} {a C dx:Addr} {fs fs':List (Str×V)}
theorem zNJ(hok:HOk P w H h)(e:H a=some (.ins C dx fs)):∃ mA,zNI h a dx C mA∧(∀ f,zOl (fs.lookup f) (mA f))∧PySem.Within mA (fs.map (·.1))∧fs.length≤1000∧H dx=some (.own a):=by
 obtain⟨d,z,ne,ob,mA,n,r,q⟩:=(show wL P w H h a (.ins C dx fs) from hok a _ e)
 exact⟨mA,⟨ob,n,ne⟩,r,q,z,d⟩
end
set_option genInjectivity false in
structure Cls (K:PySem.W.Frag) (C:Addr):Prop where
 pg:PySem.W.plainGet K C Str.empty=true
 hd:PySem.W.hasDictIn K C=true
 po:PySem.W.plainOver K C=true
 sa:PySem.W.findIn K (.ref C) "__setattr__"=some (some (.builtin "object.__setattr__"))
theorem Cls.get{K:PySem.W.Frag}{C:Addr}(c:Cls K C)(f:Str):PySem.W.plainGet K C f=true:=c.pg
section
variable {X:Cx} {pins:List (Addr×Obj)} {σ:St} {H:Hp} {s:Shared} {a C dx:Addr} {fs:List (Str×V)} {f:Str} {v:V} {A:Around} {E:Value→Shared→Prop}
end
section
variable {X:Cx} {o e value:Expr} {f:Str} {pos pos' tpos:Pos} {ta tv:TE}
end
section
variable {X:Cx} {pins:List (Addr×Obj)} {σ:St} {H:Hp} {s:Shared} {A:Around} {E:Value→Shared→Prop} {Q:Value→Shared→Prop} {c:Value} {b:Bool}
inductive zED (K:PySem.W.Frag) (H:Hp):V→Value→Prop where
 | non:zED K H .non (.type "NoneType")
 | bl (x:Bool):zED K H (.bl x) (.type "bool")
 | int (i:Int):zED K H (.int i) (.type "int")
 | str (x:Str):zED K H (.str x) (.type "str")
 | flt (x:UInt64):zED K H (.flt x) (.type "float")
 | lst {a:Addr} {xs:List V} (e:H a=some (.lst xs)):zED K H (.ref a) (.type "list")
 | frz {a:Addr} {o:Obj} {xs:List V} (e:H a=some (.frz o (.lst xs))):zED K H (.ref a) (.type "list")
 | tup {a:Addr} {xs:List V} (e:H a=some (.tup xs)):zED K H (.ref a) (.type "tuple")
 | dK {a:Addr} {kvs:List (Key×V)} (e:H a=some (.dK kvs)):zED K H (.ref a) (.type "dict")
 | dT {a:Addr} {kvs:List (List Key×V)} (e:H a=some (.dT kvs)):zED K H (.ref a) (.type "dict")
 | ins {a C dx:Addr} {fs:List (Str×V)} (e:H a=some (.ins C dx fs)) (cl:Cls K C) (ha:PySem.W.findIn K (.ref C) "__class__"=some (some (.builtin "object.__class__")))
   (hn:PySem.W.specialIn K (.builtin "object.__class__") "__get__"=some (some (.builtin "getset_descriptor.__get__"))) (htk:PySem.W.takesIn K (.builtin "object.__class__")=some true)
   (hm:PySem.W.mroIn K C (.type "object")=some true):zED K H (.ref a) (.ref C)
theorem zCO{x:V}{u t:Value}(I:zV X pins σ H s)(rx:RelV x u)(ty:zED X.K H x t)(e:PySem.W.kitOne X.K t c=some b)(h:∀ tk,Q (.bool b) { s with toks:=tk }) :
  wpAny (model X.prog X.w) A (call (.builtin "isinstance") [u,c]) Q E s:=by
 cases ty with
 | non=>cases (show u=Value.none from rx);exact PySem.W.kia_one PySem.W.kitx_none I.kIn True.intro e (fun z=>nomatch z) h
 | bl y=>cases (show u=Value.bool y from rx);exact PySem.W.kia_one PySem.W.kitx_bool I.kIn True.intro e (fun z=>nomatch z) h
 | int i=>obtain⟨t,q⟩:=(show ∃ t,u=Value.int i t from rx);cases q;exact PySem.W.kia_one PySem.W.kitx_int I.kIn True.intro e (fun z=>nomatch z) h
 | str y=>obtain⟨t,q⟩:=(show ∃ t,u=Value.str y t from rx);cases q;exact PySem.W.kia_one PySem.W.kitx_str I.kIn True.intro e (fun z=>nomatch z) h
 | flt y=>obtain⟨t,q⟩:=(show ∃ t,u=Value.float y t from rx);cases q;exact PySem.W.kia_one PySem.W.kitx_float I.kIn True.intro e (fun z=>nomatch z) h
 | @lst a xs ea =>
  cases (show u=Value.ref a from rx)
  obtain⟨u0,u0,n,u0,h1⟩:=(show wL X.prog X.w H s.heap a (.lst xs) from I.hok a _ ea)
  exact PySem.W.kia_one PySem.W.kitx_list I.kIn ⟨_,h1,rfl⟩ e (fun z=>nomatch z) h
 | @frz a ob xs ea =>
  cases (show u=Value.ref a from rx)
  obtain⟨u0,u0,u0,n,u0,h1⟩:=(show wL X.prog X.w H s.heap a (.frz ob (.lst xs)) from I.hok a _ ea)
  exact PySem.W.kia_one PySem.W.kitx_list I.kIn ⟨_,h1,rfl⟩ e (fun z=>nomatch z) h
 | @tup a xs ea =>
  cases (show u=Value.ref a from rx)
  obtain⟨u0,u0,u0,p⟩:=(show wL X.prog X.w H s.heap a (.tup xs) from I.hok a _ ea)
  obtain⟨o,h1,h2,u0⟩:=p
  exact PySem.W.kia_one PySem.W.kitx_tuple I.kIn ⟨o,h1,h2⟩ e (fun z=>nomatch z) h
 | @dK a kvs ea =>
  cases (show u=Value.ref a from rx)
  obtain⟨u0,u0,vs,u0,p⟩:=(show wL X.prog X.w H s.heap a (.dK kvs) from I.hok a _ ea)
  obtain⟨o,es,ep,h1,h2,u0⟩:=p
  exact PySem.W.kia_one PySem.W.kitx_dict I.kIn ⟨o,h1,h2.1⟩ e (fun z=>nomatch z) h
 | @dT a kvs ea =>
  cases (show u=Value.ref a from rx)
  obtain⟨u0,u0,xs,u0,o,es,ep,h1,h2,u0⟩:=(show wL X.prog X.w H s.heap a (.dT kvs) from I.hok a _ ea)
  exact PySem.W.kia_one PySem.W.kitx_dict I.kIn ⟨o,h1,h2.1⟩ e (fun z=>nomatch z) h
 | @ins a C dx fs ea cl ha hn htk hm =>
  cases (show u=Value.ref a from rx)
  obtain⟨mA,O,u0⟩:=zNJ I.hok ea
  obtain⟨od,J,u0⟩:=O.look
  exact PySem.W.kia_one (PySem.W.kitx_own (cl.get _) cl.hd ha hn htk hm) I.kIn J e (fun z=>nomatch z) h
end
end L2
namespace L2
open PySem PySem.Spec PyProof.Rows
set_option genInjectivity false in
structure yd (k:Nat) (A:Around):Prop where
 hd:A.handled=none
 dp:A.depth+3*k+5<recursionLimit
 un:A.units+16*k+200<cLine
theorem yd.mono{j k:Nat}{A:Around}(r:yd k A)(h:j≤k):yd j A:=⟨r.hd,by have:=r.dp;(first|lia|omega),by have:=r.un;(first|lia|omega)⟩
theorem yd.deeper{k:Nat}{A:Around}(r:yd (k+1) A)(env:Env):yd k (A.deeper env) :=
 ⟨r.hd,by have:=r.dp;show A.depth+1+3*k+5<_;(first|lia|omega),by have:=r.un;show A.units+3+16*k+200<_;(first|lia|omega)⟩
theorem yd.depth{k:Nat}{A:Around}(r:yd k A):A.depth<recursionLimit:=by have:=r.dp;(first|lia|omega)
theorem yd.units{k:Nat}{A:Around}(r:yd k A):A.units+64<cLine:=by have:=r.un;(first|lia|omega)
noncomputable def zPE:TA:=fun u0 H Q=>Q [] H
noncomputable def zLB(ta:TE)(tr:TA):TA:=fun σ H Q=>ta σ H fun x H1=>tr σ H1 fun xs H2=>Q (x::xs) H2
section
variable {X:Cx} {e:Expr} {es:List Expr} {te:TE} {t:TA} {pos:Pos}
theorem wz:PA X [] zPE:=fun u0 u0 u0 u0 H Q I h=>Calls.spliced_nil ⟨[],H,I,.nil,h⟩
theorem yS(ha:PE X e te)(hr:PA X es t)(hs:starEach (e::es) X.env=(false,eval e X.env)::starEach es X.env:=by rfl):PA X (e::es) (zLB te t):=by
 intro pos pins s σ H Q I h
 rw[hs]
 show wpAny _ _ (spliced ((false,eval e X.env)::backTo pos (starEach es X.env))) _ _ s
 refine Calls.spliced_cons (yq (ha pins s σ H _ I h) fun u s1 ⟨x,H1,I1,r1,q1⟩=>?_)
 exact yq (hr pos pins s1 σ H1 _ I1 q1) fun us s2 ⟨xs,H2,I2,r2,q2⟩=>⟨x::xs,H2,I2,.cons r1 r2,q2⟩
noncomputable def zRO(t:TA):TE:=fun σ H Q=>t σ H fun xs H1=>xs.length≤sizeLine∧∀ p,H1 p=none→Q (.ref p) (yp H1 p (.tup xs))
noncomputable def zRP(t:TA):TE:=fun σ H Q=>t σ H fun xs H1=>xs.length≤sizeLine∧∀ p,H1 p=none→Q (.ref p) (yp H1 p (.lst xs))
theorem zLC{x1}(h:PA X es t):PE X (.Tuple es x1 pos) (zRO t):=by
 intro pins s σ H Q I hq
 refine wpAny_Tuple_spliced (yq (h pos pins s σ H _ I hq) fun us s1 ⟨xs,H1,I1,r,z,q⟩=>⟨by rw[← r.length];exact z,?_⟩)
 have hf:H1 s1.heap.objs.size=none:=I1.hok.fresh (Nat.le_refl _)
 refine⟨.ref s1.heap.objs.size,yp H1 s1.heap.objs.size (.tup xs),I1.laid (t':=s1.toks) (fun b u e=>Heap.get?_push_of_some _ e) (Nat.le_refl _) ?_,rfl,q _ hf⟩
 exact⟨z,us,r,⟨_,Heap.get?_push_size _ rfl,rfl,⟨_,rfl⟩,rfl⟩⟩
theorem zPF(h:PA X es t):PE X (.List es pos) (zRP t):=by
 intro pins s σ H Q I hq
 refine wpAny_List_spliced (yq (h pos pins s σ H _ I hq) fun us s1 ⟨xs,H1,I1,r,z,q⟩=>⟨by rw[← r.length];exact z,?_⟩)
 have hf:H1 s1.heap.objs.size=none:=I1.hok.fresh (Nat.le_refl _)
 refine⟨.ref s1.heap.objs.size,yp H1 s1.heap.objs.size (.lst xs),I1.laid (t':=s1.toks) (fun b u e=>Heap.get?_push_of_some _ e) (Nat.le_refl _) ?_,rfl,q _ hf⟩
 exact⟨z,us,0,r,Heap.get?_push_size _ rfl⟩
end
noncomputable abbrev Sp:=List V→Hp→VK→XK→Prop
noncomputable abbrev CXT:=List Env→Hp→Shared→XK→Value→Shared→Prop
set_option genInjectivity false in
structure zFQ (P:Program) (w:World) (K:PySem.W.Frag) (mg:Str→Option Value) (base:Heap) (A:Around) (outer:List Env) (s:Shared) (H:Hp):Prop where
 frames:A.frames=some outer
 mod:Mod K mg base
 bs:∀ b o,base.get? b=some o→s.heap.get? b=some o∧H b=none
 bsz:base.objs.size≤s.heap.objs.size
 funs:s.heap.FunFrames base outer
 frf:∀ b∈frs outer,H b=none
 hok:HOk P w H s.heap
 bare:AllBare s.gens
 tb:TabsOk K H
noncomputable def CE(outer:List Env)(P:Program)(w:World)(H:Hp)(s:Shared)(Q:VK)(u:Value)(s':Shared):Prop :=
 ∃ v H',s'.os=s.os∧AllBare s'.gens∧Un (frs outer) [] H H' s.heap s'.heap∧HOk P w H' s'.heap∧RelV v u∧Q v H'
noncomputable def CR(CX:CXT)(outer:List Env)(P:Program)(w:World)(H:Hp)(s:Shared)(Q:VK)(E:XK)(r:Result)(s':Shared):Prop :=
 match r with
 | .ok (.ret u)=>CE outer P w H s Q u s'
 | .ok _=>False
 | .error e=>CX outer H s E e s'
set_option genInjectivity false in
structure zDB (P:Program) (w:World) (K:PySem.W.Frag) (mg:Str→Option Value) (base:Heap) (CX:CXT) (k:Nat) (f:Addr) (fd:FuncData) (ps:List Str) (sp:Sp):Prop where
 len:∀ vs H Q E,sp vs H Q E→vs.length=ps.length
 run:∀(A:Around) (outer:List Env) (s:Shared) (H:Hp) (args:Args) (us:List Value) (vs:List V) (Q:VK) (E:XK),yd k A→zFQ P w K mg base A outer s H→BindsTo s fd args (ps.zip us)→zh vs us→sp vs H Q E →
  codeAny (model P w) A (.call (.ref f) args) (CR CX outer P w H s Q E) s
section
variable {X:Cx} {pins:List (Addr×Obj)} {σ:St} {H:Hp} {s s':Shared}
theorem zV.env0(I:zV X pins σ H s):zFQ X.prog X.w X.K X.mg X.base X.A X.stack s H :=
 ⟨I.ok.frames,I.ok.mod,I.bs,Nat.le_trans I.ok.bsz I.sz,I.stack,I.stkFree,I.hok,I.bare,I.tabs⟩
theorem zV.after{Q:VK}{u:Value}(I:zV X pins σ H s)(h:CE X.stack X.prog X.w H s Q u s'):EP X pins σ Q u s':=by
 obtain⟨v,H',os,bare,un,hok,r,q⟩:=h
 obtain⟨hh,g,d,t,os'⟩:=s'
 obtain rfl:os'=s.os:=os
 exact⟨v,H',I.call (h':=hh) (g':=g) (d':=d) (t':=t) (ch:=[]) un hok bare (fun b z=>absurd z (by simp)),r,q⟩
end
noncomputable def zQX(sp:Sp)(dvs:List V)(E:XK)(t:TA):TE:=fun σ H Q=>t σ H fun vs H1=>sp (vs++dvs) H1 Q E
noncomputable def Binds(K:PySem.W.Frag)(fd:FuncData)(ps:List Str)(ds:List Value):Prop :=
 ∀(s:Shared) (us:List Value),K.In s.heap→(us++ds).length=ps.length→BindsTo s fd ⟨us,[]⟩ (ps.zip (us++ds))
theorem Binds.all{K:PySem.W.Frag}{fd:FuncData}{ps:List Str}(h:∀ us:List Value,us.length=ps.length→bindArgs fd ⟨us,[]⟩=pure (ps.zip us)):Binds K fd ps []:=fun s us u0 hl=>by
 rw[List.append_nil] at hl ⊢
 exact .of_eq (h us hl)
noncomputable def zHv(CX:CXT)(X:Cx)(E:XK):Prop:=∀(pins:List (Addr×Obj)) (σ:St) (H:Hp) (s:Shared) (e:Value) (s':Shared),zV X pins σ H s→CX X.stack H s E e s'→X.xe e s'
section
variable {X:Cx} {CX:CXT} {k:Nat} {f C:Addr} {fd:FuncData} {ps:List Str} {sp:Sp} {dvs:List V} {ds:List Value} {E:XK} {x m:Str} {p pos apos:Pos} {e o:Expr} {es:List Expr} {ta:TE} {t:TA}
theorem zPG{pins:List (Addr×Obj)}{σ:St}{H:Hp}{s:Shared}{Q:VK}{us:List Value}{vs:List V}(F:zDB X.prog X.w X.K X.mg X.base CX k f fd ps sp)(hr:yd k X.A)(hb:Binds X.K fd ps ds)(hd:zh dvs ds)(hx:zHv CX X E)
  (I:zV X pins σ H s) (r:zh vs us) (h:sp (vs++dvs) H Q E):wpAny (model X.prog X.w) X.A (call (.ref f) us) (EP X pins σ Q) X.xe s:=by
 have r2:zh (vs++dvs) (us++ds):=r.append hd
 have hl:(us++ds).length=ps.length:=by rw[← r2.length];exact F.len _ _ _ _ h
 refine wpAny_call (codeAny_mono (F.run X.A X.stack s H ⟨us,[]⟩ (us++ds) (vs++dvs) Q E hr I.env0 (hb s us I.kIn hl) r2 h) fun r s' hq=>?_)
 cases r with
 | error e=>exact hx pins σ H s e s' I hq
 | ok fl =>
  cases fl with
  | ret u=>exact I.after hq
  | next=>exact False.elim hq
  | brk=>exact False.elim hq
  | cont=>exact False.elim hq
theorem zIp(F:zDB X.prog X.w X.K X.mg X.base CX k f fd ps sp)(hr:yd k X.A)(hg:Gl X x)(hm:X.mg x=some (.ref f))(hk:PySem.W.keepIn X.K (.ref f)=true)(hb:Binds X.K fd ps ds)(hd:zh dvs ds)(hx:zHv CX X E)
  (ha:PA X (e::es) t) (hdb:(x==("__debug__":Str))=false:=by decide) (he:starEach (e::es) X.env=(false,eval e X.env)::starEach es X.env:=by rfl) (hpl:(backTo pos (starEach es X.env)).any (·.1)=false:=by rfl) :
  PE X (.Call (.Name x p) (e::es) [] pos) (zQX sp dvs E t):=by
 intro pins s σ H Q I h
 refine wpAny_Call_Name_kw (zC9 I hg hm ?_ hdb)
 refine PySem.W.callWith_K (h₀:=X.base) I.ok.mod.kin hk (yq (ha pos pins s σ H _ I h) fun us s1 ⟨vs,H1,I1,r,q⟩=>⟨I1.kIn,?_⟩) he hpl
 exact zPG F hr hb hd hx I1 r q
end
section
variable {X:Cx} {CX:CXT} {k:Nat} {f C:Addr} {fd:FuncData} {ps ks:List Str} {sp:Sp} {E:XK} {x m:Str} {p pos apos kpos:Pos} {e o:Expr} {es:List Expr} {kws:List Keyword} {te ta:TE} {t tk:TA} {nm:Option Str}
variable {g:List Value→List Value→List Value} {gV:List V→List V→List V}
end
set_option genInjectivity false in
structure zZ (N P:List Str) (sc:Scope):Prop where
 kind:sc.kind=.function
 co:sc.isCoroutine=false
 gen:sc.isGenerator=false
 nd:N.Nodup
 pre:N.take P.length=P
 par:∀ x∈P,sc.names.lookup x=some .local∨sc.names.lookup x=some .cell
 nofree:∀ y∈sc.names,y.2≠.free
theorem zFa{kindOf:Str→Option NameKind}{x:Str}:∀ {binds:List (Str×Value)} {m:Str→Option Value},(∀ v,(x,v)∉binds)→bindL kindOf binds m x=m x
 | [],_,_=>rfl
 | (n,v)::r,m,h=>by
  unfold bindL
  rw[zFa fun w hw=>h w (List.mem_cons_of_mem _ hw)]
  split
  ·have:x≠n:=by rintro rfl;exact h v List.mem_cons_self
   simp[this]
  ·rfl
theorem zFb{kindOf:Str→Option NameKind}{x:Str}:∀ {binds:List (Str×Value)} {m:Str→Option Value},(∀ v,(x,v)∉binds)→bindC kindOf binds m x=m x
 | [],_,_=>rfl
 | (n,v)::r,m,h=>by
  unfold bindC
  rw[zFb fun w hw=>h w (List.mem_cons_of_mem _ hw)]
  split
  ·rfl
  ·have:x≠n:=by rintro rfl;exact h v List.mem_cons_self
   simp[this]
theorem zFc{kindOf:Str→Option NameKind}{x:Str}{v:Value}:∀ {P:List Str} {vs:List Value} {i:Nat} {m:Str→Option Value},P.Nodup→P[i]?=some x→vs[i]?=some v→kindOf x=some .local →
  bindL kindOf (P.zip vs) m x=some v
 | [],_,_,_,_,h,_,_=>by simp at h
 | _::_,[],_,_,_,_,h,_=>by simp at h
 | p::P,w::vs,0,m,nd,h1,h2,hk=>by
  simp at h1 h2;subst h1;subst h2
  show bindL kindOf ((p,w)::P.zip vs) m p=_
  unfold bindL
  rw[zFa fun v hv=>(List.nodup_cons.mp nd).1 (List.of_mem_zip hv).1,if_pos hk]
  simp
 | p::P,w::vs,i+1,m,nd,h1,h2,hk=>by
  show bindL kindOf ((p,w)::P.zip vs) m x=_
  unfold bindL
  exact zFc (i:=i) (List.nodup_cons.mp nd).2 (by simpa using h1) (by simpa using h2) hk
theorem zFd{kindOf:Str→Option NameKind}{x:Str}{v:Value}:∀ {P:List Str} {vs:List Value} {i:Nat} {m:Str→Option Value},P.Nodup→P[i]?=some x→vs[i]?=some v→kindOf x≠some .local →
  bindC kindOf (P.zip vs) m x=some v
 | [],_,_,_,_,h,_,_=>by simp at h
 | _::_,[],_,_,_,_,h,_=>by simp at h
 | p::P,w::vs,0,m,nd,h1,h2,hk=>by
  simp at h1 h2;subst h1;subst h2
  show bindC kindOf ((p,w)::P.zip vs) m p=_
  unfold bindC
  rw[zFb fun v hv=>(List.nodup_cons.mp nd).1 (List.of_mem_zip hv).1,if_neg hk]
  simp
 | p::P,w::vs,i+1,m,nd,h1,h2,hk=>by
  show bindC kindOf ((p,w)::P.zip vs) m x=_
  unfold bindC
  exact zFd (i:=i) (List.nodup_cons.mp nd).2 (by simpa using h1) (by simpa using h2) hk
noncomputable def start(N:List Str)(vs:List V):St:=vs.map some++List.replicate (N.length-vs.length) none
noncomputable def zCD(CX:CXT)(P:Program)(w:World)(K:PySem.W.Frag)(mg:Str→Option Value)(base:Heap)(N:List Str)(qual:Str)(scope:Scope)(f:Addr)(cd:Value)(A:Around)(outer:List Env)(s:Shared)(H:Hp)(E:XK):Cx where
 prog:=P
 w:=w
 K:=K
 mg:=mg
 base:=base
 A:=A.deeper (envOfC qual scope s.heap.objs.size f cd)
 N:=N
 s₀:=s
 H₀:=H
 env:=envOfC qual scope s.heap.objs.size f cd
 outer:=outer
 stack:=envOfC qual scope s.heap.objs.size f cd::outer
 ex:=[]
 calm:=true
 fn:=fun u0=>true
 pn:=[]
 xe:=fun e s'=>wpAny (model P w) (A.deeper (envOfC qual scope s.heap.objs.size f cd)) (leaving (envOfC qual scope s.heap.objs.size f cd) e) (fun u0 s''=>CX outer H s E e s'') (fun e' s''=>CX outer H s E e' s'') s'
theorem zGo{sc:Scope}{n:Nat}{x:Str}(h:sc.names.lookup x=some .cell):∃ c,(cellsFrom n sc.names []).lookup x=some c:=by
 have q:=PySem.W.cellsFrom_some sc.names n [] (.inl h)
 exact Option.isSome_iff_exists.mp q
theorem zDi{CX:CXT}{P:Program}{w:World}{K:PySem.W.Frag}{mg:Str→Option Value}{base:Heap}{N ps:List Str}{qual:Str}{scope:Scope}{f:Addr}{cd:Value}{A:Around}{outer:List Env}{s s1:Shared}{H:Hp}{E:XK}{us:List Value}{vs:List V}
  (S:zZ N ps scope) (hd:A.handled=none) (e0:zFQ P w K mg base A outer s H) (hl:vs.length=ps.length) (r:zh vs us)
  (x:InCallC s s.heap.objs.size (bindL (envOfC qual scope s.heap.objs.size f cd).kindOf (ps.zip us) fun u0=>none) (cellsFrom (s.heap.objs.size+1) scope.names []) (bindC (envOfC qual scope s.heap.objs.size f cd).kindOf (ps.zip us) fun u0=>none) s1) :
  zV (zCD CX P w K mg base N qual scope f cd A outer s H E) [] (start N vs) H s1:=by
 have hpl:ps.length≤N.length:=by have:=congrArg List.length S.pre;rw[List.length_take] at this;(first|lia|omega)
 obtain⟨h1,tk,rfl,hk⟩:=x.done
 have noA:∀ b:Addr,b∉(zCD CX P w K mg base N qual scope f cd A outer s H E).ex:=fun b z=>absurd (show b∈([]:List Addr) from z) (by simp)
 refine⟨⟨e0.mod,S.kind,rfl,rfl,Nat.le_refl _,fun y z c h1 h2=>?_,fun y hy=>?_,fun y c u0 h=>?_,fun u0=>hd,Around.frames_deeper e0.frames,.inr ⟨rfl,rfl⟩,fun b z=>absurd z (noA b),e0.bs,e0.bsz,fun b u0 u0=>noA b,fun b z=>absurd z (noA b),e0.funs,e0.frf,e0.tb⟩,
  rfl,e0.bare,Un.kept hk,⟨_,x.toInCall.ns,fun i y v h1 h2 h3=>?_⟩,fun y c h=>⟨_,x.cell y c h⟩,e0.hok.fresh (Nat.le_refl _),fun y c h=>?_,fun p hp=>absurd (show p∈([]:List (Addr×Obj)) from hp) (by simp),e0.hok.kept hk,?_⟩
 ·exact name_of_addr x.apart (PySem.mem_of_lookup h1) (PySem.mem_of_lookup h2)
 ·have hy:scope.names.lookup y=some .cell∨scope.names.lookup y=some .free:=hy
  rcases hy with hy | hy
  ·exact zGo hy
  ·exact absurd rfl (S.nofree _ (PySem.mem_of_lookup hy))
 ·exact Nat.le_of_lt (x.above y c (PySem.mem_of_lookup h))
 ·have hi:i<vs.length:=by
   unfold start at h2
   by_cases hi:i<vs.length
   ·exact hi
   ·rw[List.getElem?_append_right (by simpa using hi)] at h2
    rw[List.getElem?_replicate] at h2
    split at h2<;>cases h2
  have ha:vs[i]?=some v:=by
   unfold start at h2
   rw[List.getElem?_append_left (by simpa using hi),List.getElem?_map] at h2
   cases e:vs[i]? with
   | none=>rw[e] at h2;cases h2
   | some a=>rw[e] at h2;cases h2;rfl
  obtain⟨u,hu,rv⟩:=r.get ha
  have hp:ps[i]?=some y:=by
   rw[← S.pre,List.getElem?_take_of_lt (by (first|lia|omega))];exact h1
  have ndP:ps.Nodup:=by rw[← S.pre];exact S.nd.sublist (List.take_sublist _ _)
  refine⟨u,rv,?_⟩
  rcases S.par y (List.mem_of_getElem? hp) with k | k
  ·exact .inl ⟨k,zFc ndP hp hu k⟩
  ·obtain⟨c,e⟩:=zGo (n:=s.heap.objs.size+1) k
   refine .inr ⟨.inl k,c,e,?_⟩
   have q:=x.cell y c e
   rw[zFd ndP hp hu (by show scope.names.lookup y≠_;rw[k];decide)] at q
   exact q
 ·exact e0.hok.fresh (Nat.le_of_lt (x.above y c (PySem.mem_of_lookup h)))
 ·unfold start
  show _=N.length
  rw[List.length_append,List.length_map,List.length_replicate]
  (first|lia|omega)
theorem zOJ{CX:CXT}{P:Program}{w:World}{K:PySem.W.Frag}{mg:Str→Option Value}{base:Heap}{k:Nat}{f:Addr}{name qual:Str}{params:Arguments}{body:List Stmt}{scope:Scope}{dV kV doc pm cdv ct oc:Value}{an od:Option Addr}
  {osl:Array (Option Value)} {N ps:List Str} {sp:Sp} (lk:K.lookup f=some ⟨oc,od,.func (PySem.W.fnOf name qual params body scope dV kV doc pm an cdv ct),osl⟩) (hcd:PySem.W.codeIn K cdv qual=true) (S:zZ N ps scope)
  (len:∀ vs H Q E,sp vs H Q E→vs.length=ps.length)
  (hbody:∀(A:Around) (outer:List Env) (s:Shared) (H:Hp) (vs:List V) (Q:VK) (E:XK),yd k (A.deeper (envOfC qual scope s.heap.objs.size f cdv))→sp vs H Q E →
   ∃ t,PSs (zCD CX P w K mg base N qual scope f cdv A outer s H E) body t∧t { nx:=fun u0 H'=>Q .non H',rt:=Q } (start N vs) H) :
  zDB P w K mg base CX (k+1) f (PySem.W.fnOf name qual params body scope dV kV doc pm an cdv ct) ps sp:=by
 refine⟨len,fun A outer s H args us vs Q E hr e0 hb r hsp=>?_⟩
 have hl:=len _ _ _ _ hsp
 have KX:K.In s.heap:=e0.mod.kin.keeps fun b o e=>(e0.bs b o e).1
 have lim:s.heap.NoLimit:=e0.mod.nolimit.keeps fun b o e=>(e0.bs b o e).1
 have hkind:∀ y∈ps.zip us,scope.names.lookup y.1=some .local∨(scope.names.lookup y.1=some .cell∧((cellsFrom (s.heap.objs.size+1) scope.names []).lookup y.1).isSome=true):=fun⟨n,v⟩ hy=>by
  rcases S.par n (List.of_mem_zip hy).1 with q | q
  ·exact .inl q
  ·exact .inr ⟨q,PySem.W.cellsFrom_some _ _ _ (.inl q)⟩
 refine codeAny_call_function hr.depth (KX _ _ lk) rfl S.co S.gen rfl (PySem.W.codeRec_of KX hcd) (hb _ _ _ _ ?_)
 refine wpAny_newFunctionEnv_cells S.kind hkind fun env he s1 x=>?_
 subst he
 refine⟨lim.keeps x.toInCall.keep,codeAny_func ?_⟩
 obtain⟨t,ht,hq⟩:=hbody A outer s H vs Q E (hr.deeper _) hsp
 have I:zV (zCD CX P w K mg base N qual scope f cdv A outer s H E) [] (start N vs) H s1:=zDi S hr.hd e0 hl r x
 refine wpAny_mono (ht [] s1 (start N vs) H _ I hq) (fun fl s' hs=>?_) fun e s' hs=>hs
 have fin:∀ {σ':St} {H':Hp} {v:V} {u:Value},zV (zCD CX P w K mg base N qual scope f cdv A outer s H E) [] σ' H' s'→RelV v u→Q v H'→CE outer P w H s Q u s' :=
  fun {σ' H' v u} J rv q=>⟨v,H',J.os,J.bare,J.base,J.hok,rv,q⟩
 cases fl with
 | ret u =>
  obtain⟨v,σ',H',J,rv,q⟩:=hs
  exact fin J rv q
 | next =>
  obtain⟨σ',H',J,q⟩:=hs
  exact fin (v:=V.non) (u:=Value.none) J rfl q
 | brk =>
  obtain⟨u0,u0,u0,q⟩:=hs
  exact False.elim q
 | cont =>
  obtain⟨u0,u0,u0,q⟩:=hs
  exact False.elim q
end L2
namespace L2
open PySem PySem.Spec PyProof.Rows
section
variable {X:Cx} {x:Str} {p pos:Pos} {e:Expr} {es:List Expr} {t:TA} {id T:String} {r:List V→Hp→VK→Prop}
noncomputable def tCB(r:List V→Hp→VK→Prop)(t:TA):TE:=fun σ H Q=>t σ H fun vs H1=>r vs H1 Q
theorem zAA(hc:wE X (.builtin id) r)(hg:Gl X x)(hm:X.mg x=none)(hv:bootBuiltins x=some (.builtin id))(ha:PA X (e::es) t)(hn:x≠"__name__":=by decide)(hdb:(x==("__debug__":Str))=false:=by decide)
  (he:starEach (e::es) X.env=(false,eval e X.env)::starEach es X.env:=by rfl) (hpl:(backTo pos (starEach es X.env)).any (·.1)=false:=by rfl):PE X (.Call (.Name x p) (e::es) [] pos) (tCB r t):=by
 intro pins s σ H Q I h
 refine wpAny_Call_Name_kw (zCB I hg hm hv ?_ hn hdb)
 exact PyProof.Rows.callWith_builtin1 (yq (ha pos pins s σ H _ I h) fun us s1 ⟨vs,H1,I1,r1,q1⟩=>hc pins s1 σ H1 vs us Q I1 r1 q1) he hpl
theorem zBS(hc:wE X (.type T) r)(hg:Gl X x)(hm:X.mg x=none)(hv:bootBuiltins x=some (.type T))(ha:PA X (e::es) t)(hn:x≠"__name__":=by decide)(hdb:(x==("__debug__":Str))=false:=by decide)
  (he:starEach (e::es) X.env=(false,eval e X.env)::starEach es X.env:=by rfl) (hpl:(backTo pos (starEach es X.env)).any (·.1)=false:=by rfl):PE X (.Call (.Name x p) (e::es) [] pos) (tCB r t):=by
 intro pins s σ H Q I h
 refine wpAny_Call_Name_kw (zCB I hg hm hv ?_ hn hdb)
 exact PyProof.Rows.callWith_type1 (yq (ha pos pins s σ H _ I h) fun us s1 ⟨vs,H1,I1,r1,q1⟩=>hc pins s1 σ H1 vs us Q I1 r1 q1) he hpl
end
end L2
namespace HT
open PySem PyProof.Rows
section
open PySem.SeqAt
open PySem.MeetsSeq PySem.MeetsSeq2 PySem.MeetsSeq3
end
section
variable {prog:Program} {w:World} {A:Around} {E:Value→Shared→Prop} {s:Shared}
theorem zNK{t b:Addr}{vs ws:List Value}{Q:Value→Shared→Prop}(ht:IsTup s.heap t vs.toArray)(hb:IsTup s.heap b ws.toArray)(hv:vs≠[])
  (h1:ws=[]→Q (.ref t) s) (h2:ws≠[]→Q (.ref s.heap.objs.size) { s with heap:=s.heap.push { cls:=.type "tuple",data:=.seq (vs++ws).toArray } })
  (hsz:vs.length+ws.length≤sizeLine):wpAny (model prog w) A (binaryOp .Add (.ref t) (.ref b)) Q E s:=by
 obtain⟨⟨cls,dd,data,sl⟩,ho,hc,n,hd⟩:=id ht
 obtain⟨⟨cls2,dd2,data2,sl2⟩,ho2,hc2,n2,hd2⟩:=id hb
 simp only at hc hd hc2 hd2
 subst hc hd hc2 hd2
 have e:vs.toArray++ws.toArray=(vs++ws).toArray:=by simp
 by_cases hw:ws=[]
 ·exact concat_meets ⟨_,ho,rfl⟩ ⟨_,ho2,rfl⟩ noFill_tuple_add seq_tuple_add PySem.F.slot_tuple_add PySem.F.entry_tuple_add (PySem.F.args_tuple_add_2 _ _)
   (tuple_addW1 t b vs.toArray ws.toArray n n2 dd dd2 sl sl2 (by simpa using hv) (by simp[hw])) ⟨ho,ho2,h1 hw⟩
 ·refine concat_meets ⟨_,ho,rfl⟩ ⟨_,ho2,rfl⟩ noFill_tuple_add seq_tuple_add PySem.F.slot_tuple_add PySem.F.entry_tuple_add (PySem.F.args_tuple_add_2 _ _)
   (tuple_addW2 t b vs.toArray ws.toArray n n2 dd dd2 sl sl2 (by simpa using hv) (by simpa using hw) (by rw[List.size_toArray,List.size_toArray];exact hsz)) ⟨ho,ho2,?_⟩
  rw[e]
  exact h2 hw
noncomputable def sIx(n d:Nat):Option Int→Nat
 | none=>d
 | some v=>if v<0 then (v+(n:Int)).toNat else min v.toNat n
end
end HT
namespace L2
open PySem PySem.Spec PyProof.Rows
noncomputable abbrev TO:=St→Hp→(Option Int→Hp→Prop)→Prop
noncomputable def PO(X:Cx)(e:Option Expr)(t:TO):Prop :=
 ∀(pins:List (Addr×Obj)) (s:Shared) (σ:St) (H:Hp) (Q:Option Int→Hp→Prop),zV X pins σ H s→t σ H Q →
  wpAny (model X.prog X.w) X.A (evalPart e X.env) (fun u s'=>∃ o H',zV X pins σ H' s'∧IsPart u o∧Q o H') X.xe s
noncomputable def zNL:TO:=fun u0 H Q=>Q none H
noncomputable def zQY(t:TE):TO:=fun σ H Q=>t σ H fun x H1=>∃ i,x=.int i∧Q (some i) H1
theorem intsAre_of{ns:List Int}:∀ {us:List Value},zh (ns.map V.int) us→IntsAre us ns:=by
 induction ns with
 | nil=>intro us r;rw[List.map_nil] at r;cases r;exact .nil
 | cons n ns ih =>
  intro us r
  rw[List.map_cons] at r
  cases r with
  | cons r1 r2 =>
   obtain⟨t,e⟩:=r1
   subst e
   exact .cons n t (ih r2)
section
variable {X:Cx} {e:Expr} {te:TE} {lo hi:Option Expr} {tl th:TO} {pos p2:Pos}
theorem zNM:PO X none zNL:=by
 intro pins s σ H Q I h
 rw[evalPart_none]
 exact wpAny_pure ⟨none,H,I,.none,h⟩
theorem zNN(h:PE X e te):PO X (some e) (zQY te):=by
 intro pins s σ H Q I hw
 rw[evalPart_some]
 refine yq (h pins s σ H _ I hw) fun u s1 ⟨x,H1,I1,r1,q1⟩=>?_
 obtain⟨i,rfl,q⟩:=q1
 obtain⟨t,rfl⟩:=r1
 exact⟨some i,H1,I1,.int i t,q⟩
noncomputable def SlR(X:Cx)(r:V→Option Int→Option Int→Hp→VK→Prop):Prop :=
 ∀(pins:List (Addr×Obj)) (s:Shared) (σ:St) (H:Hp) (x:V) (v vl vu:Value) (lo hi:Option Int) (sl:Addr) (Q:VK),zV X pins σ H s→RelV x v→s.heap.IsSliceOf sl vl vu .none→IsPart vl lo→IsPart vu hi→r x lo hi H Q →
  ∃ T id,typeLookup (.type T) "__getitem__"=pure (some (.builtin id))∧s.TypeIs v T∧wpAny (model X.prog X.w) X.A (getItem v (.ref sl)) (EP X pins σ Q) X.xe s
noncomputable def tSl(r:V→Option Int→Option Int→Hp→VK→Prop)(te:TE)(tl th:TO):TE:=fun σ H Q=>te σ H fun x H1=>tl σ H1 fun l H2=>th σ H2 fun u H3=>r x l u H3 Q
theorem zLD{r:V→Option Int→Option Int→Hp→VK→Prop}(hr:SlR X r)(he:PE X e te)(hl:PO X lo tl)(hu:PO X hi th):PE X (.Subscript e (.Slice lo hi none p2) pos) (tSl r te tl th):=by
 intro pins s σ H Q I h
 refine Subscript_ (yq (he pins s σ H _ I h) fun v s1 ⟨x,H1,I1,r1,q1⟩=>?_)
 refine wpAny_Slice (yq (hl pins s1 σ H1 _ I1 q1) fun vl s2 ⟨l,H2,I2,pl,q2⟩=>yq (hu pins s2 σ H2 _ I2 q2) fun vu s3 ⟨u,H3,I3,pu,q3⟩=>?_)
 rw[evalPart_none]
 refine wpAny_pure ?_
 have I4:zV X pins σ H3 { s3 with heap:=s3.heap.push { cls:=.type "slice",data:=.fields #[vl,vu,.none] } }:=I3.kept (t':=s3.toks) fun b ob q=>Heap.get?_push_of_some _ q
 obtain⟨T,id,hT,ht,hg⟩:=hr pins { s3 with heap:=s3.heap.push { cls:=.type "slice",data:=.fields #[vl,vu,.none] } } σ H3 x v vl vu l u s3.heap.objs.size Q I4 r1 (Heap.IsSliceOf.new ..) pl pu q3
 show wpAny (model X.prog X.w) X.A (subscriptTail e (.Slice lo hi none p2) v (.ref s3.heap.objs.size)) (EP X pins σ Q) X.xe { s3 with heap:=s3.heap.push { cls:=.type "slice",data:=.fields #[vl,vu,.none] } }
 exact tail_any (ops:=[.ref s3.heap.objs.size,v]) ht hT hg (by with_unfolding_all rfl)
noncomputable def zLE(xs:List V)(lo hi:Option Int):List V:=(xs.drop (HT.sIx xs.length 0 lo)).take (HT.sIx xs.length xs.length hi-HT.sIx xs.length 0 lo)
theorem zGp(xs:List V)(lo hi:Option Int):(zLE xs lo hi).length≤xs.length:=by
 unfold zLE
 rw[List.length_take,List.length_drop]
 (first|lia|omega)
noncomputable def zOK(K:PySem.W.Frag):R2:=fun x y H Q=>∃ a b xs ys,x=.ref a∧y=.ref b∧SqT K H a xs∧SqT K H b ys∧xs≠[]∧xs.length+ys.length≤sizeLine ∧
 (ys=[]→Q (.ref a) H)∧(ys≠[]→∀ p,H p=none→Q (.ref p) (yp H p (.tup (xs++ys))))
theorem zh.nil_iff{xs:List V}{us:List Value}(r:zh xs us):us=[]↔xs=[]:=by
 cases r with
 | nil=>simp
 | cons _ _=>simp
theorem zNO:OpR X (binaryOp .Add) (zOK X.K):=by
 intro pins s σ H x y v u Q I rx ry h
 obtain⟨a,b,xs,ys,rfl,rfl,ha,hb,hx,hz,q1,q2⟩:=h
 cases rx
 cases ry
 obtain⟨its,r1,p1,u0⟩:=I.tuple ha
 obtain⟨its2,r2,p2,u0⟩:=I.tuple hb
 refine HT.zNK p1 p2 (fun z=>hx (r1.nil_iff.mp z)) (fun z=>⟨.ref a,H,I,rfl,q1 (r2.nil_iff.mp z)⟩) (fun z=>?_) (by rw[← r1.length,← r2.length];exact hz)
 refine⟨.ref s.heap.objs.size,_,I.laid (t':=s.toks) (o:=.tup (xs++ys)) (fun b ob q=>Heap.get?_push_of_some _ q) (Nat.le_refl _) ?_,rfl,q2 (fun w=>z (r2.nil_iff.mpr w)) _ (I.hok.fresh (Nat.le_refl _))⟩
 exact⟨by rw[List.length_append];exact hz,_,r1.append r2,zC8.new _ _⟩
end
end L2
namespace L2
open PySem PySem.Spec PyProof.Rows
noncomputable def ixN(n:Nat)(i:Int):Option Nat:=if 0≤i then (if i<n then some i.toNat else none) else if -(n:Int)≤i then some (i+n).toNat else none
noncomputable def atI{α:Type}(xs:List α)(i:Int):Option α:=(ixN xs.length i).bind fun j=>xs[j]?
theorem zIq{n:Nat}{i:Int}{j:Nat}(h:ixN n i=some j):seqIndex? i n=some j∧j<n∧-(n:Int)≤i∧i<n:=by
 unfold ixN at h
 by_cases h0:0≤i
 ·rw[if_pos h0] at h
  by_cases h1:i<n
  ·rw[if_pos h1] at h
   have e:i.toNat=j:=Option.some.inj h
   exact⟨by rw[seqIndex_of h0 h1,e],by (first|lia|omega),by (first|lia|omega),h1⟩
  ·rw[if_neg h1] at h;cases h
 ·rw[if_neg h0] at h
  by_cases h1:-(n:Int)≤i
  ·rw[if_pos h1] at h
   have e:(i+n).toNat=j:=Option.some.inj h
   exact⟨by rw[seqIndex_neg (by (first|lia|omega)) h1,e],by (first|lia|omega),h1,by (first|lia|omega)⟩
  ·rw[if_neg h1] at h;cases h
theorem zIr{α:Type}{xs:List α}{i:Int}{v:α}(h:atI xs i=some v):∃ j,seqIndex? i xs.length=some j∧xs[j]?=some v∧j<xs.length∧-(xs.length:Int)≤i∧i<xs.length:=by
 unfold atI at h
 cases e:ixN xs.length i with
 | none=>rw[e] at h;cases h
 | some j =>
  rw[e] at h
  obtain⟨h1,h2,h3,h4⟩:=zIq e
  exact⟨j,h1,h,h2,h3,h4⟩
theorem zCP{α:Type}{xs:List α}{j:Nat}{v:α}(h:xs[j]?=some v):atI xs (j:Int)=some v:=by
 have hj:j<xs.length:=(List.getElem?_eq_some_iff.mp h).1
 have e:ixN xs.length (j:Int)=some j:=by
  unfold ixN
  rw[if_pos (by (first|lia|omega)),if_pos (by (first|lia|omega))];simp
 unfold atI;rw[e];exact h
noncomputable def zIs(b:Expr):Prop:=∀ o i,subscripted b false o i=operate [o,i] (getItem o i)
noncomputable def IxR(X:Cx)(r:R2):Prop :=
 ∀(value slice:Expr) (pins:List (Addr×Obj)) (s:Shared) (σ:St) (H:Hp) (x y:V) (v u:Value) (Q:VK),zV X pins σ H s→RelV x v→RelV y u→r x y H Q →
  subscripted slice false v u=operate [v,u] (getItem v u)→wpAny (model X.prog X.w) X.A (subscriptTail value slice v u) (EP X pins σ Q) X.xe s
noncomputable def MtR(X:Cx)(id:String)(r:V→List V→Hp→VK→Prop):Prop :=
 ∀(pins:List (Addr×Obj)) (s:Shared) (σ:St) (H:Hp) (x:V) (xs:List V) (v:Value) (us:List Value) (Q:VK),zV X pins σ H s→RelV x v→zh xs us→r x xs H Q →
  wpAny (model X.prog X.w) X.A (call (.builtin id) (v::us)) (EP X pins σ Q) X.xe s
section
variable {X:Cx} {a b:Expr} {ta tb:TE} {pos:Pos}
theorem IxR.or{r r':R2}(h:IxR X r)(h':IxR X r'):IxR X (fun x y H Q=>r x y H Q∨r' x y H Q):=by
 intro value slice pins s σ H x y v u Q I rx ry q hs
 rcases q with q | q
 ·exact h value slice pins s σ H x y v u Q I rx ry q hs
 ·exact h' value slice pins s σ H x y v u Q I rx ry q hs
theorem MtR.or{id:String}{r r':V→List V→Hp→VK→Prop}(h:MtR X id r)(h':MtR X id r'):MtR X id (fun x xs H Q=>r x xs H Q∨r' x xs H Q):=by
 intro pins s σ H x xs v us Q I rx rs q
 rcases q with q | q
 ·exact h pins s σ H x xs v us Q I rx rs q
 ·exact h' pins s σ H x xs v us Q I rx rs q
theorem zQZ{r:R2}(hr:IxR X r)(ha:PE X a ta)(hb:PE X b tb)(hs:zIs b):PE X (.Subscript a b pos) (tOp r ta tb):=by
 intro pins s σ H Q I h
 exact Subscript_ (zO5 ha hb I h fun v u s2 x y H2 I2 rx ry q=>hr a b pins s2 σ H2 x y v u Q I2 rx ry q (hs _ _))
noncomputable def zQa(K:PySem.W.Frag):R2:=fun x y H Q=>∃ p xs i v,x=.ref p∧y=.int i∧SqL K H p xs∧atI xs i=some v∧Q v H
noncomputable def zQb(K:PySem.W.Frag):R2:=fun x y H Q=>∃ p xs i v,x=.ref p∧y=.int i∧SqT K H p xs∧atI xs i=some v∧Q v H
theorem zNP:IxR X (zQa X.K):=by
 intro value slice pins s σ H x y v u Q I rx ry h hs
 obtain⟨p,xs,i,z,rfl,rfl,hq,he,q⟩:=h
 cases rx
 obtain⟨t,rfl⟩:=ry
 obtain⟨its,r,pl,hz⟩:=I.list hq
 obtain⟨j,h1,h2,h3,h4,h5⟩:=zIr he
 obtain⟨w,ew,rw'⟩:=r.get h2
 have hl:=r.length
 have hn:=zGC
 have fin:EP X pins σ Q w s:=⟨z,H,I,rw',q⟩
 by_cases h0:0≤i
 ·have hj:i.toNat=j:=by
   rw[seqIndex_of h0 h5] at h1
   exact Option.some.inj h1
  exact item_listR pl.isList h0 (by (first|lia|omega)) (by rw[hj];simpa using ew) fin hs
 ·have hj:(i+(its.toArray.size:Int)).toNat=j:=by
   rw[seqIndex_neg (by (first|lia|omega)) h4] at h1
   rw[List.size_toArray,← hl]
   exact Option.some.inj h1
  exact subscriptTail_builtinR (x:=w) pl.isList.typeIs slot_list_getitem.lookup
   (wpAny_getItem_list_neg (Q:=fun r s'=>r=w∧EP X pins σ Q r s') pl.isList (by (first|lia|omega)) (by rw[List.size_toArray]<;>(first|lia|omega)) (by (first|lia|omega)) (by rw[hj];simpa using ew) ⟨rfl,fin⟩) hs
theorem zPH:IxR X (zQb X.K):=by
 intro value slice pins s σ H x y v u Q I rx ry h hs
 obtain⟨p,xs,i,z,rfl,rfl,hq,he,q⟩:=h
 cases rx
 obtain⟨t,rfl⟩:=ry
 obtain⟨its,r,pl,hz⟩:=I.tuple hq
 obtain⟨j,h1,h2,h3,h4,h5⟩:=zIr he
 obtain⟨w,ew,rw'⟩:=r.get h2
 have hl:=r.length
 have hn:=zGC
 have fin:EP X pins σ Q w s:=⟨z,H,I,rw',q⟩
 exact subscriptTail_builtinR (x:=w) pl.typeIs slot_tuple_getitem.lookup
  (getItem_tuple (j:=j) (Q:=fun r s'=>r=w∧EP X pins σ Q r s') pl (by (first|lia|omega)) (by (first|lia|omega)) (by rw[List.size_toArray,← hl];exact h1) (by simpa using ew) ⟨rfl,fin⟩) hs
theorem zHw(its:List Value)(n j:Nat)(u:Value):Obj.mapSeq (·.setIfInBounds j u) { cls:=.type "list",data:=.seq its.toArray n }={ cls:=.type "list",data:=.seq (its.set j u).toArray n }:=by
 simp[Obj.mapSeq]
theorem zV.lst{pins:List (Addr×Obj)}{σ:St}{H:Hp}{s:Shared}{p:Addr}{xs:List V}(I:zV X pins σ H s)(h:H p=some (.lst xs)) :
  ∃(its:List Value) (n:Nat),zh xs its∧s.heap.get? p=some { cls:=.type "list",data:=.seq its.toArray n }∧xs.length≤sizeLine:=by
 obtain⟨z,its,n,r,e⟩:=I.hok p _ h
 exact⟨its,n,r,e,z⟩
theorem zV.lstUpd{pins:List (Addr×Obj)}{σ:St}{H:Hp}{s:Shared}{p:Addr}{xs ys:List V}{its its':List Value}{n n':Nat}{f:Obj→Obj}(I:zV X pins σ H s)(h:H p=some (.lst xs))
  (ho:s.heap.get? p=some { cls:=.type "list",data:=.seq its.toArray n }) (hf:f { cls:=.type "list",data:=.seq its.toArray n }={ cls:=.type "list",data:=.seq its'.toArray n' }) (r:zh ys its') (hz:ys.length≤sizeLine) (t:Nat) :
  zV X pins σ (yp H p (.lst ys)) { s with heap:=s.heap.update p f,toks:=t }:=by
 have e:(s.heap.update p f).get? p=some { cls:=.type "list",data:=.seq its'.toArray n' }:=by
  rw[Heap.get?_update_self f ho (by rw[hf]<;>rfl),hf]
 refine I.write (x:=p) (e:=p) (by rw[h];trivial) (.inl rfl) (fun b u hb q=>(Heap.get?_update_other _ _ (Ne.symm hb)).trans q) ⟨_,e⟩ ?_
 exact⟨hz,its',n',r,e⟩
noncomputable def zQc:V→V→V→Hp→(Hp→Prop)→Prop:=fun o i v H Q=>∃ p xs k j,o=.ref p∧i=.int k∧H p=some (.lst xs)∧ixN xs.length k=some j∧Q (yp H p (.lst (xs.set j v)))
theorem set_list:zQR X zQc:=by
 intro pins s σ H o i v ov iv u Q I ro ri rv h
 obtain⟨p,xs,k,j,rfl,rfl,hp,hj,q⟩:=h
 cases ro
 obtain⟨t,rfl⟩:=ri
 obtain⟨its,n,r,ho,hz⟩:=I.lst hp
 obtain⟨h1,h2,h3,h4⟩:=zIq hj
 have hl:=r.length
 have hn:=zGC
 have I':zV X pins σ (yp H p (.lst (xs.set j v))) { s with heap:=s.heap.update p (Obj.mapSeq (·.setIfInBounds j u)) } :=
  I.lstUpd hp ho (zHw its n j u) (r.set rv j) (by rw[List.length_set];exact hz) s.toks
 by_cases h0:0≤k
 ·have hk:k.toNat=j:=by
   rw[seqIndex_of h0 h4] at h1
   exact Option.some.inj h1
  exact PySem.W.ki_setAt ho h0 (by (first|lia|omega)) (by rw[List.size_toArray,← hl];exact h4) (by rw[hk];exact⟨_,I',q⟩)
 ·have hk:(k+(its.toArray.size:Int)).toNat=j:=by
   rw[seqIndex_neg (by (first|lia|omega)) h3] at h1
   rw[List.size_toArray,← hl]
   exact Option.some.inj h1
  exact PySem.W.ki_setBack ho (by (first|lia|omega)) (by rw[List.size_toArray,← hl];exact h3) (by (first|lia|omega)) (by rw[hk];exact⟨_,I',q⟩)
theorem zGD(lo hi:Option Int)(n:Nat):(sliceBounds lo hi none n).1=((HT.sIx n 0 lo:Nat):Int)∧(sliceBounds lo hi none n).2.1=((HT.sIx n n hi:Nat):Int)∧(sliceBounds lo hi none n).2.2=1:=by
 refine⟨?_,?_,rfl⟩
 ·cases lo with
  | none=>simp[sliceBounds,HT.sIx]
  | some i =>
   simp only[sliceBounds,HT.sIx,Option.getD_none,show(1:Int)>0 by decide,if_true]
   by_cases h:i<0
   ·simp only[h,if_true]<;>(first|lia|omega)
   ·simp only[h,if_false]<;>(first|lia|omega)
 ·cases hi with
  | none=>simp[sliceBounds,HT.sIx]
  | some i =>
   simp only[sliceBounds,HT.sIx,Option.getD_none,show(1:Int)>0 by decide,if_true]
   by_cases h:i<0
   ·simp only[h,if_true]<;>(first|lia|omega)
   ·simp only[h,if_false]<;>(first|lia|omega)
theorem zFR(its:List Value)(lo hi:Option Int):slicePick its.toArray lo hi none=((its.drop (HT.sIx its.length 0 lo)).take (HT.sIx its.length its.length hi-HT.sIx its.length 0 lo)).toArray:=by
 obtain⟨h1,h2,h3⟩:=zGD lo hi its.toArray.size
 unfold slicePick
 rw[h1,h2,h3]
 simp only[sliceRange_one,pick_run,List.size_toArray]<;>rfl
noncomputable def zRR(K:PySem.W.Frag):V→Option Int→Option Int→Hp→VK→Prop:=fun x lo hi H Q=>∃ a xs,x=.ref a∧SqL K H a xs∧∀ p,H p=none→Q (.ref p) (yp H p (.lst (zLE xs lo hi)))
theorem zNQ:SlR X (zRR X.K):=by
 intro pins s σ H x v vl vu lo hi sl Q I rx hs pl pu h
 obtain⟨a,xs,rfl,hx,q⟩:=h
 cases rx
 obtain⟨its,r,ht,hz⟩:=I.list hx
 have hlen:=r.length
 refine⟨"list",_,slot_list_getitem.lookup,ht.isList.typeIs,?_⟩
 refine wpAny_getItem_list_slice ht.isList hs pl pu .none (by simp) ?_ (by rw[List.size_toArray]<;>(first|lia|omega))
 rw[zFR,← hlen]
 refine⟨.ref s.heap.objs.size,_,I.laid (t':=s.toks) (o:=.lst (zLE xs lo hi)) (fun b ob q=>Heap.get?_push_of_some _ q) (Nat.le_refl _) ?_,rfl,q _ (I.hok.fresh (Nat.le_refl _))⟩
 exact⟨Nat.le_trans (zGp xs lo hi) hz,_,0,(r.drop (HT.sIx xs.length 0 lo)).take (HT.sIx xs.length xs.length hi-HT.sIx xs.length 0 lo),Heap.get?_push_size _ rfl⟩
noncomputable def zIt:V→Bool
 | .non=>true
 | .bl _=>true
 | .int _=>true
 | .str _=>true
 | _=>false
noncomputable def eqV:V→V→Bool
 | .non,.non=>true
 | .bl a,.bl b=>a==b
 | .bl a,.int b=>(if a then 1 else 0)==b
 | .int a,.bl b=>a==(if b then 1 else 0)
 | .int a,.int b=>a==b
 | .str a,.str b=>a==b
 | _,_=>false
theorem zLF{A:Around}{s:Shared}{y x:V}{u v:Value}(ry:RelV y u)(rx:RelV x v)(fy:zIt y=true)(fx:zIt x=true):SeqAt.EqAt A s u v (eqV y x):=by
 cases y with
 | non =>
  cases ry
  cases x with
  | non=>cases rx;exact SeqAt.EqAt.same _
  | bl b=>cases rx;exact SeqAt.EqAt.none_bool b
  | int b=>obtain⟨t,rfl⟩:=rx;exact SeqAt.EqAt.none_int b t
  | str b=>obtain⟨t,rfl⟩:=rx;exact SeqAt.EqAt.none_str b t
  | _=>exact absurd (show false=true from fx) Bool.false_ne_true
 | bl a =>
  cases ry
  cases x with
  | non=>cases rx;exact SeqAt.EqAt.bool_none a
  | bl b=>cases rx;exact SeqAt.EqAt.bool_bool a b
  | int b=>obtain⟨t,rfl⟩:=rx;exact SeqAt.EqAt.bool_int a b t
  | str b=>obtain⟨t,rfl⟩:=rx;exact SeqAt.EqAt.bool_str a b t
  | _=>exact absurd (show false=true from fx) Bool.false_ne_true
 | int a =>
  obtain⟨t',rfl⟩:=ry
  cases x with
  | non=>cases rx;exact SeqAt.EqAt.int_none a t'
  | bl b=>cases rx;exact SeqAt.EqAt.int_bool a t' b
  | int b=>obtain⟨t,rfl⟩:=rx;exact SeqAt.EqAt.int_int a t' b t
  | str b=>obtain⟨t,rfl⟩:=rx;exact SeqAt.EqAt.int_str a t' b t
  | _=>exact absurd (show false=true from fx) Bool.false_ne_true
 | str a =>
  obtain⟨t',rfl⟩:=ry
  cases x with
  | non=>cases rx;exact SeqAt.EqAt.str_none a t'
  | bl b=>cases rx;exact SeqAt.EqAt.str_bool a t' b
  | int b=>obtain⟨t,rfl⟩:=rx;exact SeqAt.EqAt.str_int a t' b t
  | str b=>obtain⟨t,rfl⟩:=rx;exact SeqAt.EqAt.str_str a t' b t
  | _=>exact absurd (show false=true from fx) Bool.false_ne_true
 | _=>exact absurd (show false=true from fy) Bool.false_ne_true
theorem zGE:wE X (.builtin "len") (fun xs H Q=>∃ p ys,xs=[.ref p]∧(SqL X.K H p ys∨SqT X.K H p ys)∧Q (.int ys.length) H):=by
 intro pins s σ H xs us Q I r h
 obtain⟨p,ys,rfl,hq,q⟩:=h
 obtain⟨u,rfl,rx⟩:=vals1 r
 cases rx
 have hn:=zGC
 rcases hq with hq | hq
 ·obtain⟨its,r',pl,hz⟩:=I.list hq
  have hlen:=r'.length
  exact Calls.call_len_list pl.isList (by simp only[List.size_toArray]<;>(first|lia|omega)) ⟨.int ys.length,H,I.tok _,⟨s.toks+1,by rw[List.size_toArray,hlen]⟩,q⟩
 ·obtain⟨its,r',pl,hz⟩:=I.tuple hq
  have hlen:=r'.length
  exact len_tuple pl (by simp only[List.size_toArray]<;>(first|lia|omega)) ⟨.int ys.length,H,I.tok _,⟨s.toks+1,by rw[List.size_toArray,hlen]⟩,q⟩
theorem wE.or{f:Value}{r r':List V→Hp→VK→Prop}(h:wE X f r)(h':wE X f r'):wE X f (fun xs H Q=>r xs H Q∨r' xs H Q):=by
 intro pins s σ H xs us Q I rs q
 rcases q with q | q
 ·exact h pins s σ H xs us Q I rs q
 ·exact h' pins s σ H xs us Q I rs q
theorem zGF:wE X (.type "list") (fun xs H Q=>∃ p ys,xs=[.ref p]∧(SqL X.K H p ys∨SqT X.K H p ys)∧∀ l,H l=none→Q (.ref l) (yp H l (.lst ys))):=by
 intro pins s σ H xs us Q I r h
 obtain⟨p,ys,rfl,hq,q⟩:=h
 obtain⟨u,rfl,rx⟩:=vals1 r
 cases rx
 have fin:∀(its:List Value),zh ys its→ys.length≤sizeLine→∀(h':Heap) (c':Nat),(∀ b o',s.heap.get? b=some o'→h'.get? b=some o') →
   h'.get? s.heap.objs.size=some { cls:=.type "list",dict:=none,data:=.seq its.toArray c',slots:=#[] }→EP X pins σ Q (.ref s.heap.objs.size) { s with heap:=h' }:=fun its r' hz h' c' kp e =>
  ⟨.ref s.heap.objs.size,_,I.laid (t':=s.toks) kp (Nat.le_refl _) (show wL X.prog X.w _ h' _ (.lst ys) from⟨hz,its,c',r',e⟩),rfl,q _ (I.hok.fresh (Nat.le_refl _))⟩
 rcases hq with hq | hq
 ·obtain⟨its,r',pl,hz⟩:=I.list hq
  have hlen:=r'.length
  obtain⟨o,ho,hc,n,hd⟩:=pl.isList
  exact call_list_seq p (.inl rfl) ho hc hd (fun h' c' kp e=>fin its r' hz h' c' kp e) (by simp only[List.size_toArray]<;>(first|lia|omega))
 ·obtain⟨its,r',pl,hz⟩:=I.tuple hq
  have hlen:=r'.length
  obtain⟨o,ho,hc,n,hd⟩:=pl
  exact call_list_seq p (.inr rfl) ho hc hd (fun h' c' kp e=>fin its r' hz h' c' kp e) (by simp only[List.size_toArray]<;>(first|lia|omega))
theorem zCn:wE X (.type "tuple") (fun xs H Q=>∃ p ys,xs=[.ref p]∧((SqL X.K H p ys∧∀ l,H l=none→Q (.ref l) (yp H l (.tup ys)))∨(SqT X.K H p ys∧Q (.ref p) H))):=by
 intro pins s σ H xs us Q I r h
 obtain⟨p,ys,rfl,h⟩:=h
 obtain⟨u,rfl,rx⟩:=vals1 r
 cases rx
 rcases h with ⟨hq,q⟩ | ⟨hq,q⟩
 ·obtain⟨its,r',pl,hz⟩:=I.list hq
  have hlen:=r'.length
  refine call_tuple_list pl.isList (fun h' kp=>?_) (by simp only[List.size_toArray]<;>(first|lia|omega))
  have I1:zV X pins σ H { s with heap:=h' }:=I.kept (t':=s.toks) kp
  have I2:zV X pins σ (yp H h'.objs.size (.tup ys)) { s with heap:=h'.push { cls:=.type "tuple",data:=.seq its.toArray } } :=
   I1.laid (t':=s.toks) (fun b o e=>Heap.get?_push_of_some _ e) (Nat.le_refl _) (show wL X.prog X.w _ _ _ (.tup ys) from⟨hz,its,r',zC8.new _ _⟩)
  exact⟨.ref h'.objs.size,_,I2,rfl,q _ (I1.hok.fresh (Nat.le_refl _))⟩
 ·obtain⟨its,r',pl,hz⟩:=I.tuple hq
  exact call_tuple_same pl ⟨.ref p,H,I,rfl,q⟩
noncomputable def tyV(K:PySem.W.Frag)(T:String)(x:V)(H:Hp):Prop:=match x with
 | .str _=>T="str"
 | .int _=>T="int"
 | .ref p=>(T="list"∧∃ xs,SqL K H p xs)∨(T="tuple"∧∃ xs,SqT K H p xs) ∨
   (T="dict"∧((∃ kvs,H p=some (.dK kvs))∨∃ kvs,H p=some (.dT kvs)))∨(T="set"∧∃ S n,H p=some (.set S n))
 | _=>False
theorem zPI{pins:List (Addr×Obj)}{σ:St}{H:Hp}{s:Shared}{T:String}{x:V}{v:Value}(I:zV X pins σ H s)(r:RelV x v)(ty:tyV X.K T x H) :
  s.TypeIs v T∧∀ a,v=.ref a→∃ ob,s.heap.get? a=some ob∧ob.dict=none:=by
 cases x with
 | str z =>
  obtain⟨t,rfl⟩:=r
  cases (show T="str" from ty)
  exact⟨typeIs_str s z t,fun u0 e=>nomatch e⟩
 | int i =>
  obtain⟨t,rfl⟩:=r
  cases (show T="int" from ty)
  exact⟨typeIs_int s i t,fun u0 e=>nomatch e⟩
 | ref p =>
  cases r
  rcases ty with ⟨rfl,xs,hq⟩ | ⟨rfl,xs,hq⟩ | ⟨rfl,hk⟩ | ⟨rfl,S,n,hk⟩
  ·obtain⟨its,u0,pl,u0⟩:=I.list hq
   refine⟨pl.isList.typeIs,fun a e=>?_⟩
   cases e
   obtain⟨o,n,e,c,hd,u0⟩:=pl
   exact⟨o,e,hd⟩
  ·obtain⟨h1,o,h2,h3⟩:=I.noDict hq
   refine⟨h1,fun a e=>?_⟩
   cases e
   exact⟨o,h2,h3⟩
  ·have z:∃ o,s.heap.get? p=some o∧o.ExactDict:=by
    rcases hk with ⟨kvs,hk⟩ | ⟨kvs,hk⟩
    ·obtain⟨u0,u0,u0,u0,o,u0,u0,e,ex,u0⟩:=I.hok p _ hk
     exact⟨o,e,ex⟩
    ·obtain⟨u0,u0,u0,u0,o,u0,u0,e,ex,u0⟩:=I.hok p _ hk
     exact⟨o,e,ex⟩
   obtain⟨o,e,ex⟩:=z
   refine⟨⟨o,e,ex.1⟩,fun a e2=>?_⟩
   cases e2
   exact⟨o,e,ex.2.1⟩
  ·obtain⟨o,u0,u0,u0,e,ex,u0⟩:=I.hok p _ hk
   refine⟨⟨o,e,ex.1⟩,fun a e2=>?_⟩
   cases e2
   exact⟨o,e,ex.2.1⟩
 | _=>exact False.elim ty
noncomputable def tBM(K:PySem.W.Frag)(T:String)(r:V→List V→Hp→VK→Prop)(to:TE)(t:TA):TE:=fun σ H Q=>to σ H fun x H1=>tyV K T x H1∧t σ H1 fun xs H2=>r x xs H2 Q
variable {o e:Expr} {es:List Expr} {to:TE} {t:TA} {name:Str} {apos cpos:Pos} {T id:String} {r:V→List V→Hp→VK→Prop}
theorem zLG(pa:PlainAttrs T)(slot:Slot T name id)(hty:typeOf (.builtin id)=pure (.type "method_descriptor"))(hm:MtR X id r)(ho:PE X o to)(ha:PA X (e::es) t)
  (hbase:attributeBase o name X.env (eval o X.env)=eval o X.env:=by rfl)
  (hfew:((backTo cpos (starEach (e::es) X.env)).all (fun x=>!x.1)&&(backToKw cpos (keywordEach [] X.env)).all (fun x=>x.1.isSome)
   && decide ((e::es).length+([]:List Keyword).length+(if ([]:List Keyword).isEmpty then 0 else 1)<30))=true:=by rfl)
  (hline:(apos.endLine==cpos.line)=true:=by rfl) (hs:starEach (e::es) X.env=(false,eval e X.env)::starEach es X.env:=by rfl) (hplain:(backTo cpos (starEach es X.env)).any (·.1)=false:=by rfl) :
  PE X (.Call (.Attribute o name apos) (e::es) [] cpos) (tBM X.K T r to t):=by
 intro pins s σ H Q I h
 refine wpAny_Call_method_late hbase hfew hline rfl (yq (ho pins s σ H _ I h) fun v s1 ⟨x,H1,I1,r1,ty,q1⟩=>?_)
 obtain⟨h1,h2⟩:=zPI I1 r1 ty
 refine⟨T,id,pa,slot,hty,h1,h2,?_⟩
 have hA:=ha cpos pins s1 σ H1 _ I1 q1
 rw[hs] at hA ⊢
 refine Calls.callWith_builtin (by show(false||(backTo cpos (starEach es X.env)).any (·.1))=false;rw[hplain]<;>rfl) (Calls.evalArgs_plain ?_)
 exact yq hA fun us s2 ⟨vs,H2,I2,r2,q2⟩=>hm pins s2 σ H2 x vs v us Q I2 r1 r2 q2
end
end L2
namespace L2
open PySem PySem.Spec PyProof.Rows
noncomputable def MtM(X:Cx)(id:String)(r:V→List V→Hp→VK→Prop):Prop :=
 ∀(pins:List (Addr×Obj)) (s:Shared) (σ:St) (H:Hp) (x:V) (xs:List V) (v:Value) (us:List Value) (Q:VK),zV X pins σ H s→RelV x v→zh xs us→r x xs H Q →
  wpAny (model X.prog X.w) X.A (call (.builtin id) (v::us)) (EP X pins σ Q) X.xe s
theorem zh.one:∀ {x:V} {us:List Value},zh [x] us→∃ u,us=[u]∧RelV x u
 | _,_,.cons r .nil=>⟨_,rfl,r⟩
theorem zh.eraseIdx:∀ {xs:List V} {us:List Value} (i:Nat),zh xs us→zh (xs.eraseIdx i) (us.eraseIdx i)
 | _,_,_,.nil=>.nil
 | _,_,0,.cons _ t=>t
 | _,_,i+1,.cons r t=>.cons r (zh.eraseIdx i t)
theorem zh.rep{xs:List V}{us:List Value}(h:zh xs us):∀ k:Nat,zh (List.replicate k xs).flatten (List.replicate k us).flatten
 | 0=>.nil
 | k+1=>by
  rw[List.replicate_succ,List.replicate_succ,List.flatten_cons,List.flatten_cons]
  exact zh.append h (zh.rep h k)
theorem zFe{α:Type}:∀(l:List α) (i:Nat),(l.eraseIdx i).length≤l.length
 | [],_=>Nat.le_refl _
 | _::_,0=>Nat.le_succ _
 | _::r,i+1=>Nat.succ_le_succ (zFe r i)
theorem foldl_rep(its:List Value):∀(k:Nat) (acc:List Value),
  List.foldl (fun x1 x2=>x1++x2) acc.toArray (List.replicate k its.toArray)=(acc++(List.replicate k its).flatten).toArray
 | 0,acc=>by simp
 | k+1,acc=>by
  have e:acc.toArray++its.toArray=(acc++its).toArray:=by simp
  have e2:(acc++its)++(List.replicate k its).flatten=acc++(List.replicate (k+1) its).flatten:=by
   rw[List.replicate_succ,List.flatten_cons,List.append_assoc]
  rw[← e2,← foldl_rep its k (acc++its),← e,List.replicate_succ,List.foldl_cons]
section
variable {X:Cx} {pins:List (Addr×Obj)} {σ:St} {H:Hp} {s:Shared} {l b:Addr} {xs ys zs:List V}
theorem zV.lset{its its':List Value}{n:Nat}{f:Array Value→Array Value}{t':Nat}(I:zV X pins σ H s)(hH:H l=some (.lst xs))
  (e:s.heap.get? l=some { cls:=.type "list",data:=.seq its.toArray n }) (hf:f its.toArray=its'.toArray) (hv:zh ys its') (hz:ys.length≤sizeLine) :
  zV X pins σ (yp H l (.lst ys)) { s with heap:=s.heap.update l (Obj.mapSeq f),toks:=t' }:=by
 have q:=PySem.IsL.update e f
 rw[hf] at q
 refine I.write (x:=l) (e:=l) (by rw[hH];exact trivial) (.inl rfl) (fun b' u hb hu=>(Heap.get?_update_other s.heap (Obj.mapSeq f) (Ne.symm hb)).trans hu) ⟨_,q⟩ ?_
 exact⟨hz,its',_,hv,q⟩
theorem zV.lnew{its:List Value}{t':Nat}(I:zV X pins σ H s)(hv:zh ys its)(hz:ys.length≤sizeLine) :
  zV X pins σ (yp H s.heap.objs.size (.lst ys)) { s with heap:=s.heap.push { cls:=.type "list",data:=.seq its.toArray },toks:=t' } :=
 I.laid (fun u0 u0 q=>Heap.get?_push_of_some _ q) (Nat.le_refl _) ⟨hz,its,0,hv,Heap.get?_push_size _ rfl⟩
theorem zV.fresh(I:zV X pins σ H s):H s.heap.objs.size=none:=I.hok.fresh (Nat.le_refl _)
theorem zV.lstM(I:zV X pins σ H s)(hH:H l=some (.lst xs)):xs.length≤sizeLine∧∃(its:List Value) (n:Nat),zh xs its∧xs.length=its.length∧s.heap.get? l=some { cls:=.type "list",data:=.seq its.toArray n }:=by
 obtain⟨z,its,n,r,e⟩:=I.hok l _ hH
 exact⟨z,its,n,r,r.length,e⟩
theorem zDC{n:Nat}(h:n≤sizeLine):Builtin.List.listTooLong n=false:=by
 unfold Builtin.List.listTooLong
 exact decide_eq_false (by (first|lia|omega))
end
section
variable {X:Cx}
noncomputable def zNR:V→List V→Hp→VK→Prop:=fun x vs H Q=>∃ l xs y,x=.ref l∧vs=[y]∧H l=some (.lst xs)∧xs.length<sizeLine∧Q .non (yp H l (.lst (xs++[y])))
theorem zDj:MtM X "list.append" zNR:=by
 intro pins s σ H x vs v us Q I rx rv h
 obtain⟨l,xs,y,rfl,rfl,hH,hz,q⟩:=h
 cases rx
 obtain⟨u,rfl,ru⟩:=rv.one
 obtain⟨z,its,n,r,hl,e⟩:=I.lstM hH
 refine call_meets F.slot_list_append ⟨_,e,rfl⟩ F.entry_list_append (F.args_list_append_2 _ _) (PySem.list_append l its.toArray n u (by rw[List.size_toArray];(first|lia|omega))) ⟨e,?_⟩
 refine⟨.non,_,I.lset (its':=its++[u]) hH e (by simp) (r.append (.cons ru .nil)) ?_,rfl,q⟩
 rw[List.length_append,List.length_singleton]
 (first|lia|omega)
noncomputable def zNS:V→List V→Hp→VK→Prop:=fun x vs H Q=>∃ l b xs zs,x=.ref l∧vs=[.ref b]∧H l=some (.lst xs)∧H b=some (.lst zs)∧xs.length+zs.length≤sizeLine∧Q .non (yp H l (.lst (xs++zs)))
theorem zJk:MtM X "list.extend" zNS:=by
 intro pins s σ H x vs v us Q I rx rv h
 obtain⟨l,b,xs,zs,rfl,rfl,hH,hB,hz,q⟩:=h
 cases rx
 obtain⟨u,rfl,ru⟩:=rv.one
 cases ru
 obtain⟨z,its,n,r,hl,e⟩:=I.lstM hH
 obtain⟨z2,its2,n2,r2,hl2,e2⟩:=I.lstM hB
 have hsz:its.toArray.size+its2.toArray.size≤sizeLine:=by rw[List.size_toArray,List.size_toArray];(first|lia|omega)
 have hlong:¬ (!its.toArray.isEmpty&&Builtin.List.listTooLong (its.toArray.size+its2.toArray.size))=true:=by
  rw[zDC hsz,Bool.and_false]
  exact Bool.false_ne_true
 refine call_meets F.slot_list_extend ⟨_,e,rfl⟩ F.entry_list_extend (F.args_list_extend_2 _ _)
  (AutoSeq1.list_extend_list_list_0 l its.toArray n b its2.toArray n2 hlong (by rw[List.size_toArray];(first|lia|omega)) (by (first|lia|omega))) ⟨e,e2,?_⟩
 refine⟨.non,_,I.lset (its':=its++its2) hH e (by simp) (r.append r2) ?_,rfl,q⟩
 rw[List.length_append]
 (first|lia|omega)
noncomputable def zPJ:V→List V→Hp→VK→Prop:=fun x vs H Q=>∃ l xs i k y,x=.ref l∧vs=[.int i]∧H l=some (.lst xs)∧-(2 ^ 63)≤i∧i<2 ^ 63∧seqIndex? i xs.length=some k∧xs[k]?=some y∧Q y (yp H l (.lst (xs.eraseIdx k)))
theorem zLH:MtM X "list.pop" zPJ:=by
 intro pins s σ H x vs v us Q I rx rv h
 obtain⟨l,xs,i,k,y,rfl,rfl,hH,h1,h2,hk,hy,q⟩:=h
 cases rx
 obtain⟨u,rfl,ru⟩:=rv.one
 obtain⟨t,rfl⟩:=ru
 obtain⟨z,its,n,r,hl,e⟩:=I.lstM hH
 obtain⟨w,hw,rw'⟩:=r.get hy
 refine call_meets F.slot_list_pop ⟨_,e,rfl⟩ F.entry_list_pop (F.args_list_pop_2 _ _)
  (MeetsSeq.list_pop_at l its.toArray n i t k w (fitsIndex_both h1 h2) (by rw[List.size_toArray,← hl];exact hk) (by rw[← Array.getElem?_toList];exact hw) (by rw[List.size_toArray];(first|lia|omega))) ⟨e,?_⟩
 refine⟨y,_,I.lset (its':=its.eraseIdx k) hH e ?_ (r.eraseIdx k) ?_,rw',q⟩
 ·show its.toArray.eraseIdxIfInBounds k=(its.eraseIdx k).toArray
  rw[List.eraseIdxIfInBounds_toArray]
 ·have:=zFe xs k
  (first|lia|omega)
noncomputable def zRS:R2:=fun x y H Q=>∃ l b xs zs,x=.ref l∧y=.ref b∧H l=some (.lst xs)∧H b=some (.lst zs)∧xs.length+zs.length≤sizeLine∧∀ p,H p=none→Q (.ref p) (yp H p (.lst (xs++zs)))
theorem zPK:OpR X (binaryOp .Add) zRS:=by
 intro pins s σ H x y v u Q I rx ry h
 obtain⟨l,b,xs,zs,rfl,rfl,hH,hB,hz,q⟩:=h
 cases rx
 cases ry
 obtain⟨z,its,n,r,hl,e⟩:=I.lstM hH
 obtain⟨z2,its2,n2,r2,hl2,e2⟩:=I.lstM hB
 refine PySem.P.add_list e e2 ?_ (by rw[List.size_toArray,List.size_toArray];(first|lia|omega))
 have ea:its.toArray++its2.toArray=(its++its2).toArray:=by simp
 rw[ea]
 exact⟨.ref _,_,I.lnew (t':=s.toks) (r.append r2) (by rw[List.length_append];(first|lia|omega)),rfl,q _ I.fresh⟩
noncomputable def zRT:R2:=fun x y H Q=>∃ l k xs,x=.ref l∧y=.int k∧H l=some (.lst xs)∧-(2 ^ 63)≤k∧k<2 ^ 63∧xs.length*k.toNat≤sizeLine ∧
 ∀ p,H p=none→Q (.ref p) (yp H p (.lst (List.replicate k.toNat xs).flatten))
theorem len_rep{α:Type}(xs:List α)(k:Nat):(List.replicate k xs).flatten.length=k*xs.length:=by
 induction k with
 | zero=>simp
 | succ k ih=>rw[List.replicate_succ,List.flatten_cons,List.length_append,ih,Nat.succ_mul,Nat.add_comm]
theorem zPL:OpR X (binaryOp .Mult) zRT:=by
 intro pins s σ H x y v u Q I rx ry h
 obtain⟨l,k,xs,rfl,rfl,hH,h1,h2,hz,q⟩:=h
 cases rx
 obtain⟨t,rfl⟩:=ry
 obtain⟨z,its,n,r,hl,e⟩:=I.lstM hH
 have hlen:its.toArray.size*k.toNat≤sizeLine:=by rw[List.size_toArray,← hl];exact hz
 have hcap:¬ its.toArray.size*k.toNat>(2 ^ 63-1) / 8:=by
  have:(sizeLine:Nat)≤(2 ^ 63-1) / 8:=by decide
  (first|lia|omega)
 have hfit:¬ (!Builtin.List.listFitsIndex k)=true:=by
  rw[fitsIndex_both h1 h2]
  exact Bool.false_ne_true
 have hlong:¬ Builtin.List.listTooLong (its.toArray.size*k.toNat)=true:=by
  rw[zDC hlen]
  exact Bool.false_ne_true
 have hnew:List.foldl (fun x1 x2=>x1++x2) #[] (List.replicate (if its.toArray.isEmpty=true then 0 else k.toNat) its.toArray)=(List.replicate k.toNat its).flatten.toArray:=by
  have f0:∀ m:Nat,List.foldl (fun x1 x2=>x1++x2) #[] (List.replicate m its.toArray)=(List.replicate m its).flatten.toArray:=fun m=>by
   have:=foldl_rep its m []
   rw[List.nil_append] at this
   exact this
  rw[f0]
  cases its with
  | nil=>simp
  | cons a r'=>rw[if_neg (by simp)]
 refine wpAny_binaryOp_repeat_ref (T:="list") (U:="int") (by decide) ⟨_,e,rfl⟩ (fun s'=>typeIs_int s' k t) noFill_list_mul F.fills_int_mul F.slot_int_rmul repeat_list F.slot_int_index.lookup
  (call_meets F.slot_int_rmul (typeIs_int s k t) F.entry_int_rmul (F.args_int_rmul_2 _ _) (int___rmul___int_list k t l its.toArray n)
   ⟨e,rfl,⟨_,e,rfl⟩,call_meets F.slot_list_mul ⟨_,e,rfl⟩ F.entry_list_mul (F.args_list_mul_2 _ _) (AutoListH.list___mul___list_int_3 l its.toArray n k t hfit hcap hlong) ⟨e,?_⟩⟩)
 rw[hnew]
 exact⟨.ref _,_,I.lnew (t':=s.toks) (r.rep k.toNat) (by rw[len_rep,Nat.mul_comm];exact hz),rfl,q _ I.fresh⟩
end
section
variable {prog:Program} {w:World} {A:Around} {E:Value→Shared→Prop} {s:Shared}
end
section
variable {X:Cx}
end
end L2
namespace Att
open PySem PySem.W PySem.Calls PyProof.Rows
theorem zEE{P:Params}{h:Heap}:∀(ns:List Int) (vs:List Value),WellAll P h vs (ns.map WData.int)→IntsAre vs ns:=by
 intro ns
 induction ns with
 | nil =>
  intro vs w
  rw[List.map_nil] at w
  cases w
  exact .nil
 | cons n ns ih =>
  intro vs w
  rw[List.map_cons] at w
  cases w with
  | cons a b =>
   cases a
   exact .cons _ _ (ih _ b)
theorem zJl{l:OpenLaw}{n:Nat}(hn:l.most=some n){P:Params}{h:Heap}{args:List WData}{vals:List Value}
  (hpre:l.row.toRowW.claim.pre args=true) (hwl:WellAll P h vals args) :
  ∃ a vs ns,vals=[Value.ref a]∧args=[WData.list (ns.map WData.int)]∧h.get? a=some { cls:=.type "list",data:=.seq vs.toArray }∧IntsAre vs ns∧ns.length≤n:=by
 have hsh:WShape.hasAll [] args [.list .int]=true:=(pre_splitW hpre).1
 have hc:l.pre.holds [] { args:=args }=true:=(pre_splitW hpre).2
 obtain⟨d,r,rfl,h1,h2⟩:=hasAllW_cons hsh
 obtain rfl:=hasAllW_nil h2
 obtain⟨xs,rfl,h3⟩:=hasW_list h1
 obtain⟨ns,rfl⟩:=items_int h3
 have hlen:ns.length≤n:=by
  unfold OpenLaw.pre at hc
  have h4:(WTm.not (.lt (.lit (.int (n:Int))) (.len (.arg 0)))).holds [] { args:=[.list (ns.map .int)] }=true:=by
   have h4:=(holds_andW hc).1
   rw[hn] at h4
   exact h4
  have h5:=condW_of h4 (w_not (w_lt w_lit (w_len_list (w_arg rfl))))
  rw[List.length_map] at h5
  refine Nat.le_of_not_lt fun q=>?_
  have q':(n:Int)<((ns.length:Nat):Int):=by (first|lia|omega)
  first
   | (rw[decide_eq_true q'] at h5;exact absurd h5 (by decide))
   | (simp at h5;(first|lia|omega))
 cases hwl with
 | cons w1 w2 =>
  cases w2
  cases w1 with
  | list ho hall=>exact⟨_,_,ns,rfl,rfl,ho,zEE ns _ hall,hlen⟩
theorem zJm(l:OpenLaw)(args:List WData):l.row.toRowW.claim.post args (.bool true) args=true :=
 postW_of (r:=l.row.toRowW) (X:=(true==true))
  (show WShape.has [] (.bool true) .bool=true by first | rfl | decide | simp[WShape.has,WShape.arms,WShape.armsAll])
  (show(WTm.eq .res (.lit (.bool true))).value [] { args:=args,res:=some (.bool true),after:=args }=some (.bool (true==true)) from w_eq_bool (w_res rfl) w_lit) rfl
theorem zGq{l:OpenLaw}{n:Nat}{q:Program}{loose:List Str}{XP:(Str→Option Value)→Heap→Prop}{YP:World→Heap→Prop}{d:DefRec}
  (hn:l.most=some n) (hdf:d.params.defaults=[])
  (call:∀(w:World) (s₀ s₁:Shared) (mg mb:Str→Option Value) (fa:Addr) (o:Obj) (pm cd doc:Value) (a:Addr) (vs:List Value) (ns:List Int),
   Ground q loose [] XP w s₀ mg mb s₁.heap→YP w s₁.heap →
   s₁.heap.get? fa=some o→o.data=.func (docDef d.name d.params d.body d.scope pm cd doc)→s₁.heap.CodeRec cd d.name→mg d.name=some (.ref fa) →
   s₁.heap.get? a=some { cls:=.type "list",data:=.seq vs.toArray }→IntsAre vs ns→ns.length≤n→s₁.gens=#[] →
   codeAny (model l.prog w) callerA (.call (.ref fa) ⟨[.ref a],[]⟩) (fun r s'=>r=.ok (.ret (.bool true))∧OldK s₁.heap s'.heap∧s'.os=s₁.os∧AllBare s'.gens) s₁) :
  WalkO q loose XP YP l.row.toRowW d [] (fun f vs=>PySem.call f vs):=by
 intro w s₀ s₁ mg mb G Y fa o pm cd doc dV kV ho hd hcd hD hmg hg args vals as hpre hlay hrd hwl hlo
 obtain rfl:dV=.none:=Dflts.none hD hdf
 obtain rfl:kV=.none:=Dflts.noKw hD
 obtain⟨a,vs,ns,rfl,rfl,hobj,hints,hlen⟩:=zJl hn hpre hwl
 refine enter_call (codeAny_mono (call w s₀ s₁ mg mb fa o pm cd doc a vs ns G Y ho (fd_plain hd) hcd hmg hobj hints hlen hg) fun r s' hq=>?_)
 obtain⟨rfl,h2,h3,h4⟩:=hq
 exact⟨.inl ⟨.bool true,.bool true,[],rfl,fun u0=>rfl,.bool true,zJm l _,fun u0=>⟨List.Pairwise.nil,fun u0 hm=>(nomatch hm)⟩⟩,h2,h3,h4⟩
section
variable {prog:Program} {w:World} {A:Around} {E:Value→Shared→Prop} {s:Shared} {K:Frag}
end
end Att
namespace L2
open PySem PySem.Spec PyProof.Rows
theorem zDk:∀ {vs:List Value} {ns:List Int},IntsAre vs ns→zh (ns.map V.int) vs
 | _,_,.nil=>.nil
 | _,_,.cons n t h=>.cons ⟨t,rfl⟩ (zDk h)
noncomputable def zNT(H:Hp):Prop:=∀ b,H b=none∨(∃ o xs,H b=some (.frz o (.lst xs)))∨∃ ps,H b=some (.tbl ps)
set_option genInjectivity false in
structure TabsAt (K:PySem.W.Frag) (h:Heap) (ts:List Addr) (qn:Addr→Str):Prop where
 obj:∀ P∈ts,h.get? P=some (PySem.W.tabObj #[])
 out:∀ P∈ts,K.lookup P=none
 code:∀ P∈ts,isCodeTable h P
 name:∀ x∈zBj,∀ c b,PySem.W.tabIn K x=some (c,b)→b∈ts∧qn b=x++".<locals>.<lambda>"
end L2
namespace L2
open PySem PySem.Spec PyProof.Rows
end L2
namespace L2
open PySem PySem.Spec PyProof.Rows
noncomputable def zc(s:Stmt):Arguments:=match s with
 | .FunctionDef _ a _ _ _ _ _ _ _ _=>a
 | _=>{ posonlyargs:=[],args:=[],vararg:=none,kwonlyargs:=[],kw_defaults:=[],kwarg:=none,defaults:=[] }
noncomputable def zW(s:Stmt):List Stmt:=match s with
 | .FunctionDef _ _ b _ _ _ _ _ _ _=>b
 | _=>[]
noncomputable def zG(s:Stmt):Scope:=match s with
 | .FunctionDef _ _ _ _ _ _ sc _ _ _=>sc
 | _=>{ kind:=.function,names:=[],isGenerator:=false,isCoroutine:=false }
noncomputable abbrev CX0:CXT:=fun u0 u0 u0 u0 u0 u0=>False
noncomputable abbrev E0:XK:=fun u0 u0 u0=>False
theorem zOL{X:Cx}:zHv CX0 X E0:=fun u0 u0 u0 u0 u0 u0 u0 h=>h.elim
set_option genInjectivity false in
structure Fun (K:PySem.W.Frag) (x qual:Str) (st:Stmt) (f:Addr) (fd:FuncData):Prop where
 ex:∃(oc:Value) (od:Option Addr) (kV doc pm:Value) (an:Option Addr) (cdv ct:Value) (osl:Array (Option Value)),
  fd=PySem.W.fnOf x qual (zc st) (zW st) (zG st) .none kV doc pm an cdv ct∧K.lookup f=some ⟨oc,od,.func fd,osl⟩∧PySem.W.codeIn K cdv qual=true
 kp:PySem.W.keepIn K (.ref f)=true
section
variable {P:Program} {w:World} {K:PySem.W.Frag} {mg:Str→Option Value} {base:Heap}
theorem Fun.ok{x qual:Str}{st:Stmt}{f:Addr}{fd:FuncData}{N ps:List Str}{k:Nat}{sp:Sp}(F:Fun K x qual st f fd)(S:zZ N ps (zG st))(len:∀ vs H Q E,sp vs H Q E→vs.length=ps.length)
  (hbody:∀(cdv:Value) (A:Around) (outer:List Env) (s:Shared) (H:Hp) (vs:List V) (Q:VK) (E:XK),yd k (A.deeper (envOfC qual (zG st) s.heap.objs.size f cdv))→sp vs H Q E →
   ∃ t,PSs (zCD CX0 P w K mg base N qual (zG st) f cdv A outer s H E).nox (zW st) t∧t { nx:=fun u0 H'=>Q .non H',rt:=Q } (start N vs) H):zDB P w K mg base CX0 (k+1) f fd ps sp:=by
 obtain⟨oc,od,kV,doc,pm,an,cdv,ct,osl,rfl,lk,hcd⟩:=F.ex
 refine zOJ lk hcd S len fun A outer s H vs Q E hr hsp=>?_
 obtain⟨t,h,q⟩:=hbody cdv A outer s H vs Q E hr hsp
 exact⟨t,h.nox,q⟩
theorem Fun.binds{x qual:Str}{st:Stmt}{f:Addr}{fd:FuncData}{ps:List Str}(F:Fun K x qual st f fd)
  (h:∀(kV doc pm:Value) (an:Option Addr) (cdv ct:Value) (us:List Value),us.length=ps.length→bindArgs (PySem.W.fnOf x qual (zc st) (zW st) (zG st) .none kV doc pm an cdv ct) ⟨us,[]⟩=pure (ps.zip us)):Binds K fd ps []:=by
 obtain⟨oc,od,kV,doc,pm,an,cdv,ct,osl,rfl,lk,hcd⟩:=F.ex
 exact .all (h kV doc pm an cdv ct)
theorem zk{x qual:Str}{st:Stmt}{f:Addr}{oc:Value}{od an:Option Addr}{osl:Array (Option Value)}{kV doc pm cdv ct:Value}(l:K.lookup f=some ⟨oc,od,.func (PySem.W.fnOf x qual (zc st) (zW st) (zG st) .none kV doc pm an cdv ct),osl⟩)
  (c:PySem.W.codeIn K cdv qual=true) (k:PySem.W.keepIn K (.ref f)=true):Fun K x qual st f (PySem.W.fnOf x qual (zc st) (zW st) (zG st) .none kV doc pm an cdv ct):=⟨⟨oc,od,kV,doc,pm,an,cdv,ct,osl,rfl,l,c⟩,k⟩
end
section
variable {X:Cx}
end
noncomputable def zCy(H H':Hp):Prop:=∀ b o,H b=some o→H' b=some o
theorem zCy.refl(H:Hp):zCy H H:=fun u0 u0 h=>h
end L2
namespace K
end K
namespace K
end K
set_option maxHeartbeats 4000000
namespace L2
open PySem PySem.Spec PyProof.Rows
noncomputable def zDl(env:Env):List (Str×NameKind)→List (Str×Addr)→List (Str×Addr)
 | [],cs=>cs
 | (n,k)::r,cs=>zDl env r (if k==.free then match env.cells.lookup n with | some a=>(n,a)::cs | none=>cs else cs)
noncomputable def zAd(sc:Scope)(env:Env):List (Str×Addr):=zDl env sc.names []
theorem zFf{env:Env}:∀ {ns:List (Str×NameKind)} {cs:List (Str×Addr)} {x:Str} {c:Addr},(∀ y a,cs.lookup y=some a→env.cells.lookup y=some a)→(zDl env ns cs).lookup x=some c→env.cells.lookup x=some c
 | [],_,_,_,h,e=>h _ _ e
 | (n,k)::r,cs,x,c,h,e=>by
  unfold zDl at e
  refine zFf (ns:=r) (fun y a q=>?_) e
  by_cases hk:(k==NameKind.free)=true
  ·rw[if_pos hk] at q
   cases hc:env.cells.lookup n with
   | none=>rw[hc] at q;exact h y a q
   | some d =>
    rw[hc] at q
    cases hy:y==n with
    | true =>
     simp only[List.lookup_cons,hy] at q
     have:y=n:=by simpa using hy
     rw[this,hc];exact q
    | false =>
     simp only[List.lookup_cons,hy] at q
     exact h y a q
  ·rw[if_neg hk] at q;exact h y a q
theorem zAN{sc:Scope}{env:Env}{x:Str}{c:Addr}(e:(zAd sc env).lookup x=some c):env.cells.lookup x=some c :=
 zFf (fun u0 u0 q=>by simp at q) e
theorem zBT{env:Env}:∀ {ns:List (Str×NameKind)} {cs:List (Str×Addr)} {x:Str},(∀ y∈ns,y.2=.free→∃ c,env.cells.lookup y.1=some c)→((∃ c,cs.lookup x=some c)∨(x,NameKind.free)∈ns)→∃ c,(zDl env ns cs).lookup x=some c
 | [],cs,x,_,h=>by
  rcases h with h | h
  ·exact h
  ·cases h
 | (n,k)::r,cs,x,hh,h=>by
  unfold zDl
  refine zBT (ns:=r) (fun y hy=>hh y (List.mem_cons_of_mem _ hy)) ?_
  by_cases hk:k=.free
  ·subst hk
   obtain⟨c,hc⟩:=hh (n,.free) List.mem_cons_self rfl
   have hc':env.cells.lookup n=some c:=hc
   simp only[beq_self_eq_true,if_true,hc']
   cases hx:x==n with
   | true=>exact .inl ⟨c,by simp[List.lookup_cons,hx]⟩
   | false =>
    rcases h with ⟨d,h⟩ | h
    ·exact .inl ⟨d,by simp[List.lookup_cons,hx,h]⟩
    ·rcases List.mem_cons.mp h with e | h
     ·injection e with e1 _
      subst e1;simp at hx
     ·exact .inr h
  ·have hb:(k==NameKind.free)=false:=by simpa using hk
   simp only[hb,Bool.false_eq_true,if_false]
   rcases h with h | h
   ·exact .inl h
   ·rcases List.mem_cons.mp h with e | h
    ·injection e with _ e2
     exact absurd e2.symm hk
    ·exact .inr h
theorem zGr{env:Env}:∀ {ns:List (Str×NameKind)} {cs:List (Str×Addr)},(∀ y∈ns,y.2=.free→∃ c,env.cells.lookup y.1=some c) →
  (forIn ns cs fun(x:Str×NameKind) (r:List (Str×Addr))=>if (x.2==NameKind.free)=true then (do let a ← cellOf env x.1;pure (ForInStep.yield ((x.1,a)::r)):Sem _) else pure (ForInStep.yield r))=(pure (zDl env ns cs):Sem _)
 | [],_,_=>rfl
 | (n,k)::r,cs,hh=>by
  rw[List.forIn_cons]
  have ih:=fun cs'=>zGr (env:=env) (ns:=r) (cs:=cs') fun y hy=>hh y (List.mem_cons_of_mem _ hy)
  by_cases hk:k=.free
  ·subst hk
   obtain⟨c,hc⟩:=hh (n,.free) List.mem_cons_self rfl
   have hc':env.cells.lookup n=some c:=hc
   have e:cellOf env n=pure c:=by unfold cellOf;rw[hc']
   simp only[beq_self_eq_true,if_true,e,pure_bind]
   rw[ih]
   have q:zDl env ((n,NameKind.free)::r) cs=zDl env r ((n,c)::cs):=by simp only[zDl,beq_self_eq_true,if_true,hc']
   rw[q]
  ·have hb:(k==NameKind.free)=false:=by simpa using hk
   simp only[hb,Bool.false_eq_true,if_false,pure_bind]
   rw[ih]
   have q:zDl env ((n,k)::r) cs=zDl env r cs:=by simp only[zDl,hb,Bool.false_eq_true,if_false]
   rw[q]
theorem wX{sc:Scope}{env:Env}(hh:∀ y∈sc.names,y.2=.free→∃ c,env.cells.lookup y.1=some c):closureFor sc env=pure (zAd sc env):=by
 have e:=zGr (env:=env) (ns:=sc.names) (cs:=[]) hh
 unfold closureFor
 show(forIn sc.names [] (fun(x:Str×NameKind) (r:List (Str×Addr))=>(match x with | (name,kind)=>if (kind==NameKind.free)=true then (do let a ← cellOf env name;pure (ForInStep.yield ((name,a)::r))) else pure (ForInStep.yield r):Sem (ForInStep (List (Str×Addr)))))>>=fun s=>pure s)=_
 have hb:(fun(x:Str×NameKind) (r:List (Str×Addr))=>(match x with | (name,kind)=>if (kind==NameKind.free)=true then (do let a ← cellOf env name;pure (ForInStep.yield ((name,a)::r))) else pure (ForInStep.yield r):Sem (ForInStep (List (Str×Addr))))) =
   fun(x:Str×NameKind) (r:List (Str×Addr))=>if (x.2==NameKind.free)=true then (do let a ← cellOf env x.1;pure (ForInStep.yield ((x.1,a)::r)):Sem _) else pure (ForInStep.yield r):=by
  funext x r
  obtain⟨n,k⟩:=x
  rfl
 rw[hb,e]
 rfl
noncomputable def Cx.comp(X:Cx)(N':List Str)(sc:Scope)(C:Addr)(s:Shared)(H:Hp)(fp:List Addr)(pins:List (Addr×Obj)):Cx :=
 { X with N:=N',s₀:=s,H₀:=H,env:=compEnvC sc (zAd sc X.env) C X.env,outer:=X.stack,ex:=fp,fn:=fun u0=>false,pn:=X.pn++pins,xe:=fun u0 u0=>False }
noncomputable def PTs(X:Cx)(ifs:List Expr)(t:TT):Prop :=
 ∀(pins:List (Addr×Obj)) (s:Shared) (σ:St) (H:Hp) (Q:Bool→Hp→Prop),zV X pins σ H s→t σ H Q →
  wpAny (model X.prog X.w) X.A (forIn ifs true fun c r=>if r=true then do let ok ← isTrue c X.env (eval c X.env);pure (ForInStep.yield ok) else pure (ForInStep.yield r)) (TP X pins σ Q) X.xe s
noncomputable def zRU:TT:=fun u0 H Q=>Q true H
theorem zNU{X:Cx}:PTs X [] zRU:=fun u0 u0 u0 H u0 I h=>wpAny_tests_nil ⟨H,I,h⟩
theorem zNV{X:Cx}{c:Expr}{t:TT}(h:PT X c t):PTs X [c] t:=fun pins s σ H Q I hq=>wpAny_tests_one (h pins s σ H Q I hq)
noncomputable def zIu(n0:Nat)(wi:TI)(g:TG)(tc:TT)(te:TE):TE:=fun σ H Q=>wi σ H fun J H1=>∀ D,H1 D=none→∃ W:Nat→Nat→Hp→Prop,(∃ m,W 0 m (yp H1 D (.lst []))) ∧
 ∀ i m H2,W i m H2→(J.stop i H2∧Q (.ref D) H2) ∨
  (J.go i H2∧∀ x H3,J.yld i H2 x H3→g x (σ++List.replicate n0 none) H3 fun σ4 H4=>σ4.take σ.length=σ∧σ4.length=σ.length+n0∧tc σ4 H4 fun b H5 =>
   if b=true then te σ4 H5 fun v H6=>∃ acc,H6 D=some (.lst acc)∧acc.length<sizeLine∧∃ m',m'<m∧W (i+1) m' (yp H6 D (.lst (acc++[v]))) else ∃ m',m'<m∧W (i+1) m' H5)
theorem PE.mono{X:Cx}{e:Expr}{t t':TE}(h:PE X e t)(hm:∀ σ H Q,t' σ H Q→t σ H Q):PE X e t':=fun pins s σ H Q I q=>h pins s σ H Q I (hm σ H Q q)
theorem PT.mono{X:Cx}{e:Expr}{t t':TT}(h:PT X e t)(hm:∀ σ H Q,t' σ H Q→t σ H Q):PT X e t':=fun pins s σ H Q I q=>h pins s σ H Q I (hm σ H Q q)
theorem PS.mono{X:Cx}{e:Stmt}{t t':TS}(h:PS X e t)(hm:∀ D σ H,t' D σ H→t D σ H):PS X e t':=fun pins s σ H D I q=>h pins s σ H D I (hm D σ H q)
section
variable {X:Cx} {tg elt iter:Expr} {ifs:List Expr} {sc:Scope} {pos:Pos} {N0 own:List Str} {wi:TI} {g:TG} {tc:TT} {te:TE}
set_option genInjectivity false in
structure zCz (X:Cx) (sc:Scope) (N0:List Str):Prop where
 kind:sc.kind=.function
 cell:∀ y∈sc.names,y.2≠.cell
 names:∀ y∈sc.names,y.2=.local→sc.names.lookup y.1=some .local
 cap:∀ y∈sc.names,y.2=.free→X.env.kindOf y.1=some .cell∨X.env.kindOf y.1=some .free
 len:N0.length=X.N.length
 vis:∀(i:Nat) (x:Str),N0[i]?=some x→Vis (relabel sc X.env) x→X.N[i]?=some x∧sc.names.lookup x=some .free
theorem zBG{env:Env}:∀ {names:List (Str×NameKind)} {x:Str},(∀ y∈names,y.2≠.cell) →
    ((names.map fun(n,k)=>if (k==NameKind.free&&env.scope.kind==.function&&env.kindOf n==some .cell) then (n,NameKind.cell) else (n,k)).lookup x=some .cell ∨
     (names.map fun(n,k)=>if (k==NameKind.free&&env.scope.kind==.function&&env.kindOf n==some .cell) then (n,NameKind.cell) else (n,k)).lookup x=some .free)→names.lookup x=some .free
  | [],_,_,h=>by rcases h with h | h<;>simp at h
  | (n,k)::r,x,hc,h=>by
    have ih:=@zBG env r x fun y hy=>hc y (List.mem_cons_of_mem _ hy)
    have hk:k≠.cell:=hc (n,k) List.mem_cons_self
    have hd:∀(z:NameKind),(((n,k)::r).map fun(n,k)=>if (k==NameKind.free&&env.scope.kind==.function&&env.kindOf n==some .cell) then (n,NameKind.cell) else (n,k)).lookup x=some z →
        if (x==n)=true then (if (k==NameKind.free&&env.scope.kind==.function&&env.kindOf n==some .cell)=true then z=.cell else z=k) else (r.map fun(n,k)=>if (k==NameKind.free&&env.scope.kind==.function&&env.kindOf n==some .cell) then (n,NameKind.cell) else (n,k)).lookup x=some z:=by
      intro z e
      have e':List.lookup x ((if (k==NameKind.free&&env.scope.kind==.function&&env.kindOf n==some .cell)=true then (n,NameKind.cell) else (n,k))::(r.map fun(n,k)=>if (k==NameKind.free&&env.scope.kind==.function&&env.kindOf n==some .cell) then (n,NameKind.cell) else (n,k)))=some z:=e
      cases hx:x==n with
      | true =>
        rw[if_pos rfl]
        by_cases hq:(k==NameKind.free&&env.scope.kind==.function&&env.kindOf n==some .cell)=true
        · rw[if_pos hq] at e' ⊢
          simp only[List.lookup_cons,hx] at e'
          exact(Option.some.inj e').symm
        · rw[if_neg hq] at e' ⊢
          simp only[List.lookup_cons,hx] at e'
          exact(Option.some.inj e').symm
      | false =>
        rw[if_neg (by simp)]
        by_cases hq:(k==NameKind.free&&env.scope.kind==.function&&env.kindOf n==some .cell)=true
        · rw[if_pos hq] at e';simpa only[List.lookup_cons,hx] using e'
        · rw[if_neg hq] at e';simpa only[List.lookup_cons,hx] using e'
    cases hx:x==n with
    | true =>
      simp only[List.lookup_cons,hx]
      rcases h with h | h
      · have q:=hd _ h
        rw[if_pos hx] at q
        by_cases hq:(k==NameKind.free&&env.scope.kind==.function&&env.kindOf n==some .cell)=true
        · have:(k==NameKind.free)=true:=by
            cases hk':k==NameKind.free with
            | true=>rfl
            | false=>simp[hk'] at hq
          have:k=.free:=by simpa using this
          rw[this]
        · rw[if_neg hq] at q;exact absurd q.symm hk
      · have q:=hd _ h
        rw[if_pos hx] at q
        by_cases hq:(k==NameKind.free&&env.scope.kind==.function&&env.kindOf n==some .cell)=true
        · rw[if_pos hq] at q;cases q
        · rw[if_neg hq] at q;rw[← q]
    | false =>
      simp only[List.lookup_cons,hx]
      refine ih ?_
      rcases h with h | h
      · have q:=hd _ h
        rw[if_neg (by simp[hx])] at q;exact .inl q
      · have q:=hd _ h
        rw[if_neg (by simp[hx])] at q;exact .inr q
theorem cmpLp {X' : Cx} {σ : St} {it D : Addr} {fp : List Addr} {tn : Nat → Heap → Prop} {J : It} {Q : VK} {W : Nat → Nat → Hp → Prop} {Z : Hp → Shared → Prop} {H0 : Hp} {s₅ : Shared} {m0 : Nat} (hc : X'.calm = true) (hx : ∀ v s, X'.xe v s → False) (Tn : Turn X'.prog X'.w X'.K tg J fp it tn)
    (hg : PG X' tg g) (ht : PTs X' ifs tc) (he : PE X' elt te)
    (turn : ∀ i m H2, W i m H2 → (J.stop i H2 ∧ Q (.ref D) H2) ∨
        (J.go i H2 ∧ ∀ x H3, J.yld i H2 x H3 → g x (σ ++ List.replicate own.length none) H3 fun σ4 H4 => σ4.take σ.length = σ ∧ σ4.length = σ.length + own.length ∧ tc σ4 H4 fun b H5 =>
          if b = true then te σ4 H5 fun v H6 => ∃ acc, H6 D = some (.lst acc) ∧ acc.length < sizeLine ∧ ∃ m', m' < m ∧ W (i + 1) m' (yp H6 D (.lst (acc ++ [v]))) else ∃ m', m' < m ∧ W (i + 1) m' H5))
    (fpX : ∀ {H : Hp}, (∀ b ∈ fp, H b = none) → ∀ b ∈ fp, zB8 X' [] H b) (back : ∀ {σ' : St} {H' : Hp} {s' : Shared}, zV X' [] σ' H' s' → Z H' s')
    (I4 : zV X' [] (σ ++ List.replicate own.length none) H0 s₅) (st4 : tn 0 s₅.heap) (fpD : ∀ b ∈ fp, H0 b = none) (w0 : W 0 m0 H0) :
    codeAny (model X'.prog X'.w) X'.A (.compLoop (.ListComp elt [⟨tg, iter, ifs, 0⟩] sc pos) 0 (.ref it) (.ref D) X'.env) (fun r s' => ∃ H', r = .ok .next ∧ Z H' s' ∧ Q (.ref D) H') s₅ := by
    refine codeAny_loop rfl (fun n s' => ∃ i H', zV X' [] (σ ++ List.replicate own.length none) H' s' ∧ tn i s'.heap ∧ (∀ b ∈ fp, H' b = none) ∧ W i n H') (fun n s6 => ?_) m0 ⟨0, _, I4, st4, fpD, w0⟩
    rintro ⟨i, H6, I6, st6, fr6, w6⟩
    show wpAny _ X'.A ((compTurn (.ListComp elt [⟨tg, iter, ifs, 0⟩] sc pos) 0 (.ref it) (.ref D) X'.env).onRaise (fun x => do noteFrame x X'.env; theTreesLotGoes x)) _ _ s6
    refine wpAny_noted ?_
    rw [compTurn_list]
    have nox : ∀ {α : Type} {t : Sem α} {Q : α → Shared → Prop} {E' : Value → Shared → Prop} {s : Shared}, wpAny (model X'.prog X'.w) X'.A t Q X'.xe s → wpAny (model X'.prog X'.w) X'.A t Q E' s := fun h => wpAny_mono h (fun _ _ q => q) fun v s z => (hx v s z).elim
    refine wpAny_bind (wpAny_standAt (wpAny_bind ?_))
    rcases turn i n H6 w6 with ⟨stop, qn⟩ | ⟨go, step⟩
    · refine nox (yq (Tn.done X' rfl rfl rfl hc i [] s6 _ H6 _ I6 (fpX fr6) st6 stop) fun r s7 ⟨hr, I7⟩ => ?_)
      subst hr
      exact wpAny_pure ⟨H6, rfl, back I7, qn⟩
    · refine nox (yq (Tn.item X' rfl rfl rfl hc i [] s6 _ H6 _ I6 (fpX fr6) st6 go) fun r s7 ⟨u, hr, h7⟩ => ?_)
      subst hr
      refine wpAny_bind (nox (yq h7 fun _ s8 ⟨x, H8, I8, r8, y8, st8, fr8⟩ => ?_))
      have I8' := I8.pinned (fpX fr8) (Tn.obj _ _ st8)
      refine wpAny_bind (nox (yq (hg _ s8 _ H8 x u _ I8' r8 (step x H8 y8)) fun _ s9 ⟨σ9, H9, I9, q1, q2, q9⟩ => ?_))
      have again : ∀ {s' : Shared} {H' : Hp}, zV X' ([] ++ zDh fp s8.heap) σ9 H' s' → (∃ m', m' < n ∧ W (i + 1) m' H') → ∃ m, m < n ∧ ∃ i H', zV X' [] (σ ++ List.replicate own.length none) H' s' ∧ tn i s'.heap ∧ (∀ b ∈ fp, H' b = none) ∧ W i m H' := by
        intro s' H' J ⟨m', hm, w'⟩
        refine ⟨m', hm, i + 1, H', ?_, Tn.keep _ _ _ st8 fun b hb o e => (J.pin (b, o) (List.mem_append_right _ (List.mem_append_right _ (zAM hb e)))).1, fun b hb => ?_, w'⟩
        · refine (J.unpinned).weak ?_ fun j v e => ?_
          · rw [q2, List.length_append, List.length_replicate]
          · have hj : j < σ.length := by
              by_cases hj : j < σ.length
              · exact hj
              · rw [List.getElem?_append_right (by (first|lia|omega)), List.getElem?_replicate] at e
                split at e <;> cases e
            rw [List.getElem?_append_left hj] at e
            rw [← q1, List.getElem?_take_of_lt hj] at e
            exact e
        · obtain ⟨o, e, d⟩ := Tn.obj _ _ st8 b hb
          exact (J.pin (b, o) (List.mem_append_right _ (List.mem_append_right _ (zAM hb e)))).2.1
      refine wpAny_bind (nox (yq (ht _ s9 σ9 H9 _ I9 q9) fun ok s10 ⟨H10, I10, q10⟩ => ?_))
      cases ok with
      | false => exact wpAny_pure ⟨rfl, again I10 q10⟩
      | true =>
        refine wpAny_bind (wpAny_bind (nox (yq (he _ s10 σ9 H10 _ I10 q10) fun uv s11 ⟨v, H11, I11, r11, acc, hD11, hz, q11⟩ => ?_)))
        refine wpAny_bind (nox (yq (zDj _ s11 σ9 H11 (.ref D) [v] (.ref D) [uv] (fun _ H12 => H12 = yp H11 D (.lst (acc ++ [v]))) I11 rfl (.cons r11 .nil) ⟨_, acc, v, rfl, rfl, hD11, hz, rfl⟩) fun _ s12 ⟨_, H12, I12, _, q12⟩ => ?_))
        subst q12
        exact wpAny_pure (wpAny_pure ⟨rfl, again I12 q11⟩)
theorem zEb {pins : List (Addr × Obj)} {σ : St} {s₂ : Shared} {itv : Value} {Q : VK} {E : Value → Shared → Prop} (hc : X.calm = true) (T : zCz X sc N0)
    (hg : ∀ C s H fp pins, PG (X.comp (N0 ++ own) sc C s H fp pins) tg g) (ht : ∀ C s H fp pins, PTs (X.comp (N0 ++ own) sc C s H fp pins) ifs tc) (he : ∀ C s H fp pins, PE (X.comp (N0 ++ own) sc C s H fp pins) elt te)
    (h : PIE X pins σ tg (fun J H1 => ∀ D, H1 D = none → ∃ W : Nat → Nat → Hp → Prop, (∃ m, W 0 m (yp H1 D (.lst []))) ∧
      ∀ i m H2, W i m H2 → (J.stop i H2 ∧ Q (.ref D) H2) ∨
        (J.go i H2 ∧ ∀ x H3, J.yld i H2 x H3 → g x (σ ++ List.replicate own.length none) H3 fun σ4 H4 => σ4.take σ.length = σ ∧ σ4.length = σ.length + own.length ∧ tc σ4 H4 fun b H5 =>
          if b = true then te σ4 H5 fun v H6 => ∃ acc, H6 D = some (.lst acc) ∧ acc.length < sizeLine ∧ ∃ m', m' < m ∧ W (i + 1) m' (yp H6 D (.lst (acc ++ [v]))) else ∃ m', m' < m ∧ W (i + 1) m' H5)) itv s₂) :
    wpAny (model X.prog X.w) X.A (newList []) (fun acc s₃ => wpAny (model X.prog X.w) X.A (newFunctionEnv sc X.env.globals (zAd sc X.env) [] X.env.qual none .none (some X.env)) (fun cenv s₄ =>
      codeAny (model X.prog X.w) X.A (.compStart (.ListComp elt [⟨tg, iter, ifs, 0⟩] sc pos) 0 itv acc { cenv with scope := relabel sc X.env })
        (fun r s' => ∃ D H' m, r = .ok .next ∧ acc = .ref D ∧ zV X pins σ H' s' ∧ zB8 X pins H' cenv.locals ∧ s'.heap.Ns cenv.locals m ∧ Q (.ref D) H') s₄) E s₃) E s₂ := by
  obtain ⟨it, fp, tn, J, H1, rfl, I2, Tn, st2, f2, hR⟩ := h
  refine wpAny_newObj_type (wpAny_newFunctionEnv T.cell (by intro y hy; simp at hy) (fun h₁ hns₁ hsb₁ => ?_) T.kind)
  dsimp only at hns₁ hsb₁ ⊢
  generalize hH2 : s₂.heap.push { cls := .type "list", dict := none, data := .seq ([] : List Value).toArray } = h3 at hns₁ hsb₁ ⊢
  have hC : h3.objs.size = s₂.heap.objs.size + 1 := by rw [← hH2, Heap.size_push]
  have I3 : zV X pins σ (yp H1 s₂.heap.objs.size (.lst [])) { s₂ with heap := h3 } := by
    rw [← hH2]
    exact I2.laid (t' := s₂.toks) (fun b u e => Heap.get?_push_of_some _ e) (Nat.le_refl _) ⟨by simp, [], 0, .nil, Heap.get?_push_size _ rfl⟩
  have fD : H1 s₂.heap.objs.size = none := I2.hok.fresh (Nat.le_refl _)
  obtain ⟨W, ⟨m0, w0⟩, turn⟩ := hR _ fD
  have kp : ∀ b o, h3.get? b = some o → h₁.get? b = some o := fun b o e => hsb₁.extBut b o (Nat.ne_of_lt (Heap.lt_size e)) (Heap.get?_push_of_some _ e)
  have fp2 : ∀ b ∈ fp, b < s₂.heap.objs.size := fun b hb => by
    obtain ⟨o, e, _⟩ := Tn.obj _ _ st2 b hb
    exact Heap.lt_size e
  have CK : ∀ x c, (zAd sc X.env).lookup x = some c → X.env.cells.lookup x = some c := fun x c e => zAN e
  have nofs : ∀ {b : Addr}, h3.objs.size ≤ b → b ∉ frs X.stack := fun {b} hb z => by
    rcases List.mem_cons.mp (I3.stkSub b z) with e | z
    · exact absurd (Nat.lt_of_lt_of_le I3.lt (show h3.objs.size ≤ X.env.locals by rw [← e]; exact hb)) (Nat.lt_irrefl _)
    · exact I3.nofs (a := b) hb z
  have fpS : ∀ b ∈ fp, b ∉ frs X.stack := fun b hb z => by
    rcases List.mem_cons.mp (I3.stkSub b z) with e | z
    · exact (f2 b hb).2.1 e
    · exact (f2 b hb).2.2.1 z
  have fpD : ∀ b ∈ fp, yp H1 s₂.heap.objs.size (.lst []) b = none := fun b hb => by rw [yF (Nat.ne_of_lt (fp2 b hb))]; exact (f2 b hb).1
  have pinS : ∀ p ∈ X.pn ++ pins, p.1 ∉ frs X.stack := fun p hp z => by
    obtain ⟨_, _, n1, n2, _⟩ := I3.pin p hp
    rcases List.mem_cons.mp (I3.stkSub p.1 z) with e | z
    · exact n1 e
    · exact n2 z
  let X' := X.comp (N0 ++ own) sc h3.objs.size { s₂ with heap := h3 } (yp H1 s₂.heap.objs.size (.lst [])) fp pins
  have cells' : ∀ x, (X'.env.kindOf x = some .cell ∨ X'.env.kindOf x = some .free) → sc.names.lookup x = some .free := fun x hx => zBG T.cell hx
  have hfree : ∀ y ∈ sc.names, y.2 = .free → ∃ c, X.env.cells.lookup y.1 = some c := fun y hy hf => I2.ok.has _ (T.cap y hy hf)
  have ok' : X'.Ok := by
    refine ⟨I3.ok.mod, ?_, I3.ok.glob, I3.ok.blt, Nat.le_refl _, fun x y c e1 e2 => I3.ok.inj x y c (CK _ _ e1) (CK _ _ e2), fun x hx => ?_, fun x c z => (by cases z), I3.ok.hd, I3.ok.frames, .inl rfl, fun b hb => ⟨?_, fun x c e => ?_⟩, I3.bs, Nat.le_trans I3.ok.bsz I3.sz, fun b o e hb => ?_, fpS, I3.stack, I3.stkFree, I3.tabs⟩
    · exact T.kind
    · have hx' := cells' x hx
      exact zBT hfree (.inr (PySem.mem_of_lookup hx'))
    · exact Nat.ne_of_lt (Nat.lt_of_lt_of_le (fp2 b hb) (by show s₂.heap.objs.size ≤ h3.objs.size; rw [hC]; exact Nat.le_succ _))
    · exact (f2 b hb).2.2.2.2.1 x c (CK x c e)
    · have := (I3.bs b o e).1
      rcases (f2 b hb).2.2.2.1 with z | z
      · exact I3.ok.noex b o e z
      · have := Nat.lt_of_lt_of_le (Heap.lt_size e) I3.ok.bsz
        exact absurd (Nat.lt_of_lt_of_le this z) (Nat.lt_irrefl _)
  have hlook : ∀ (i : Nat) (x : Str) (v : V), (N0 ++ own)[i]? = some x → (σ ++ List.replicate own.length none)[i]? = some (some v) → Vis (relabel sc X.env) x → ∃ c u, RelV v u ∧ X'.env.cells.lookup x = some c ∧ (X'.env.kindOf x = some .cell ∨ X'.env.kindOf x = some .free) ∧ h3.IsCell c (some u) := by
    intro i x v e1 e2 e3
    have hi : i < σ.length := by
      by_cases hi : i < σ.length
      · exact hi
      · rw [List.getElem?_append_right (by (first|lia|omega)), List.getElem?_replicate] at e2
        split at e2 <;> cases e2
    have e2' : σ[i]? = some (some v) := by rw [List.getElem?_append_left hi] at e2; exact e2
    have hi0 : i < N0.length := by rw [T.len, ← I3.len]; exact hi
    have e1' : N0[i]? = some x := by rw [List.getElem?_append_left hi0] at e1; exact e1
    obtain ⟨n1, n2⟩ := T.vis i x e1' e3
    have cp := T.cap _ (PySem.mem_of_lookup n2) rfl
    obtain ⟨m, hn, hl⟩ := I3.loc
    have vis : Vis X.env.scope x := by
      rcases cp with z | z
      · exact .inr (.inl z)
      · exact .inr (.inr z)
    obtain ⟨u, r, l⟩ := hl i x v n1 e2' vis
    obtain ⟨c', hc'⟩ := zBT (env := X.env) (ns := sc.names) (cs := []) (x := x) hfree (.inr (PySem.mem_of_lookup n2))
    have hc2 : (zAd sc X.env).lookup x = some c' := hc'
    rcases l with ⟨z, _⟩ | ⟨_, c, e, q⟩
    · rcases cp with z' | z' <;> (rw [z] at z'; cases z')
    · have : c = c' := by
        have := CK _ _ hc2
        rw [e] at this; exact Option.some.inj this
      subst this
      refine ⟨c, u, r, hc2, ?_, q⟩
      rcases e3 with z | z | z
      · exfalso
        have := lookup_relabel_local (env := X.env) (names := sc.names) (x := x)
        have nl : ∀ {names : List (Str × NameKind)}, names.lookup x = some .free → (names.map fun (n, k) => if (k == NameKind.free && X.env.scope.kind == .function && X.env.kindOf n == some .cell) then (n, NameKind.cell) else (n, k)).lookup x ≠ some .local := by
          intro names
          induction names with
          | nil => intro h; simp at h
          | cons p r ih =>
            obtain ⟨n, k⟩ := p
            intro h
            show List.lookup x ((if (k == NameKind.free && X.env.scope.kind == .function && X.env.kindOf n == some .cell) = true then (n, NameKind.cell) else (n, k)) :: _) ≠ _
            cases hx : x == n with
            | true =>
              simp only [List.lookup_cons, hx] at h
              cases h
              by_cases hq : (NameKind.free == NameKind.free && X.env.scope.kind == .function && X.env.kindOf n == some .cell) = true
              · rw [if_pos hq]; simp [List.lookup_cons, hx]
              · rw [if_neg hq]; simp [List.lookup_cons, hx]
            | false =>
              simp only [List.lookup_cons, hx] at h
              by_cases hq : (k == NameKind.free && X.env.scope.kind == .function && X.env.kindOf n == some .cell) = true
              · rw [if_pos hq]; simp only [List.lookup_cons, hx]; exact ih h
              · rw [if_neg hq]; simp only [List.lookup_cons, hx]; exact ih h
        exact nl n2 z
      · exact .inl z
      · exact .inr z
  have σl : (σ ++ List.replicate own.length none).length = (N0 ++ own).length := by
    rw [List.length_append, List.length_append, List.length_replicate, T.len, ← I3.len]
  have I4 : zV X' [] (σ ++ List.replicate own.length none) (yp H1 s₂.heap.objs.size (.lst [])) { s₂ with heap := h₁, toks := s₂.toks + ([] : List (Str × Value)).length } := by
    refine ⟨ok', rfl, I3.bare, Un.kept kp, ⟨_, hns₁, fun i x v e1 e2 e3 => ?_⟩, fun x c e => ?_, I3.hok.fresh (Nat.le_refl _), fun x c e => I3.freeC x c (CK x c e), fun p hp => ?_, I3.hok.kept kp, σl⟩
    · obtain ⟨c, u, r, q1, q2, q3⟩ := hlook i x v e1 e2 e3
      obtain ⟨o, ho, hd⟩ := q3
      exact ⟨u, r, .inr ⟨q2, c, q1, o, kp c o ho, hd⟩⟩
    · obtain ⟨v, o, ho, hd⟩ := I3.cell x c (CK x c e)
      exact ⟨v, o, kp c o ho, hd⟩
    · have hp' : p ∈ X.pn ++ pins := by
        have : p ∈ (X.pn ++ pins) ++ [] := hp
        simpa using this
      obtain ⟨e, n, ne, nf, d⟩ := I3.pin p hp'
      exact ⟨kp _ _ e, n, Nat.ne_of_lt (Heap.lt_size e), pinS p hp', d⟩
  have fpX : ∀ {H : Hp}, (∀ b ∈ fp, H b = none) → ∀ b ∈ fp, zB8 X' [] H b := fun {H} hn b hb => by
    refine ⟨hn b hb, (ok'.exf b hb).1, fpS b hb, .inl hb, (ok'.exf b hb).2, fun p hp => ?_⟩
    have hp' : p ∈ X.pn ++ pins := by
      have : p ∈ (X.pn ++ pins) ++ [] := hp
      simpa using this
    exact (f2 b hb).2.2.2.2.2 p hp'
  have st4 : tn 0 h₁ := Tn.keep 0 s₂.heap h₁ st2 fun b hb o e => kp b o (hH2 ▸ Heap.get?_push_of_some _ e)
  have back : ∀ {σ' : St} {H' : Hp} {s' : Shared}, zV X' [] σ' H' s' → zV X pins σ H' s' ∧ zB8 X pins H' h3.objs.size ∧ ∃ m, s'.heap.Ns h3.objs.size m := fun {σ' H' s'} J => by
    have u : Un (frs X.stack) fp (yp H1 s₂.heap.objs.size (.lst [])) H' h3 s'.heap := J.base
    have J3 : zV X pins σ H' s' := I3.call' J.os u J.hok J.bare fun b hb => ⟨(f2 b hb).2.2.2.1, (f2 b hb).2.1, (f2 b hb).2.2.2.2.1, (f2 b hb).2.2.2.2.2⟩
    obtain ⟨m, hn, _⟩ := J.loc
    refine ⟨J3, ?_, m, hn⟩
    refine ⟨J.free, Nat.ne_of_gt I3.lt, I3.nofs (Nat.le_refl _), .inr I3.sz, fun x c e z => ?_, fun p hp z => ?_⟩
    · obtain ⟨v, q⟩ := I3.cell x c e
      exact absurd (Nat.lt_of_lt_of_le q.lt (by rw [z]; exact Nat.le_refl _)) (Nat.lt_irrefl _)
    · exact absurd (Nat.lt_of_lt_of_le (Heap.lt_size (I3.pin p hp).1) (by rw [z]; exact Nat.le_refl _)) (Nat.lt_irrefl _)
  have loop : ∀ s₅ : Shared, s₅ = { s₂ with heap := h₁, toks := s₂.toks + ([] : List (Str × Value)).length } →
      codeAny (model X.prog X.w) X.A (.compLoop (.ListComp elt [⟨tg, iter, ifs, 0⟩] sc pos) 0 (.ref it) (.ref s₂.heap.objs.size) X'.env)
        (fun r s' => ∃ D H' m, r = .ok .next ∧ Value.ref s₂.heap.objs.size = .ref D ∧ zV X pins σ H' s' ∧ zB8 X pins H' h3.objs.size ∧ s'.heap.Ns h3.objs.size m ∧ Q (.ref D) H') s₅ := by
    rintro s₅ rfl
    exact codeAny_mono (cmpLp (X' := X') (Z := fun H' s' => zV X pins σ H' s' ∧ zB8 X pins H' h3.objs.size ∧ ∃ m, s'.heap.Ns h3.objs.size m) hc (fun _ _ z => z) Tn (hg _ _ _ _ _) (ht _ _ _ _ _) (he _ _ _ _ _) turn fpX back I4 st4 fpD w0) fun r s' ⟨H', e, ⟨b1, b2, m, b3⟩, q⟩ => ⟨_, H', m, e, rfl, b1, b2, b3, q⟩
  exact codeAny_compStart_list (loop _ rfl) (Tn.self _ 0 _ _ _ st4 (loop _ rfl))

theorem zIv(hc:X.calm=true)(T:zCz X sc N0)(hi:PI X tg iter wi)
  (hg:∀ C s H fp pins,PG (X.comp (N0++own) sc C s H fp pins) tg g) (ht:∀ C s H fp pins,PTs (X.comp (N0++own) sc C s H fp pins) ifs tc) (he:∀ C s H fp pins,PE (X.comp (N0++own) sc C s H fp pins) elt te)
  (hs:∀ x,foldedSetIterable iter X.env x=pure x:=by intro u0;rfl):PE X (.ListComp elt [⟨tg,iter,ifs,0⟩] sc pos) (zIu own.length wi g tc te):=by
 intro pins s σ H Q I h
 rw[eval_ListComp]
 refine wpAny_comprehension_free (use:=none) rfl hs (wX fun y hy hf=>I.ok.has _ (T.cap y hy hf)) T.kind T.names ?_
 refine yq (hi pins s σ H _ I h) fun xv s₁ h₁=>yq h₁ fun it s₂ h₂=>?_
 refine yq (zEb (iter:=iter) (pos:=pos) (E:=X.xe) (Q:=Q) hc T hg ht he h₂) fun acc s₃ h₃=>yq h₃ fun cenv s₄ h₄=>codeAny_mono h₄ fun r s' hr=>?_
 obtain⟨D,H',m,rfl,rfl,J,f,hn,q⟩:=hr
 refine⟨m,hn,fun h' hs'=>⟨.ref D,H',?_,rfl,q⟩⟩
 exact J.turned (t':=s'.toks) (fun b o hb e=>(hs'.2 b hb).trans e) f.1 f.2.1 f.2.2.2.1 f.2.2.2.2.1 f.2.2.2.2.2
theorem zHy{i:Nat}{y:Str}{py spos:Pos}(hc:X.calm=true)(T:zCz X sc N0)(hi:PI X tg iter wi)
  (hg:∀ C s H fp pins,PG (X.comp (N0++own) sc C s H fp pins) tg g) (ht:∀ C s H fp pins,PTs (X.comp (N0++own) sc C s H fp pins) ifs tc) (he:∀ C s H fp pins,PE (X.comp (N0++own) sc C s H fp pins) elt te)
  (hN:X.N.Nodup) (hy:X.N[i]?=some y) (hl:X.env.scope.names.lookup y=some .local)
  (hsw:swapsWith (.ListComp elt [⟨tg,iter,ifs,0⟩] sc pos) (some (.Name y py)) spos.line X.env=pure true)
  (hs:∀ x,foldedSetIterable iter X.env x=pure x:=by intro u0;rfl):PS X (.Assign [.Name y py] (.ListComp elt [⟨tg,iter,ifs,0⟩] sc pos) spos) (fun D σ H=>zIu own.length wi g tc te σ H fun v H1=>D.nx (σ.set i (some v)) H1):=by
 intro pins s σ H D I h
 rw[exec_Assign_Name_used _ _ _ _ hsw]
 refine wpAny_bind (wpAny_standAt (wpAny_bind ?_))
 show wpAny _ X.A (do let _ ← comprehension (.ListComp elt [⟨tg,iter,ifs,0⟩] sc pos) sc X.env _ (newList []) false (eval iter X.env) (some (assign (.Name y py) X.env))) _ _ s
 refine wpAny_bind (wpAny_mono (wpAny_comprehension_free (use:=some (assign (.Name y py) X.env)) (Q:=fun u0 s'=>SP X pins D .next s') rfl hs (wX fun y hy hf=>I.ok.has _ (T.cap y hy hf)) T.kind T.names
  (yq (hi pins s σ H _ I h) fun xv s₁ h₁=>yq h₁ fun it s₂ h₂=>?_)) (fun u0 s' hq=>wpAny_pure (wpAny_pure hq)) fun u0 u0 e=>e)
 refine yq (zEb (iter:=iter) (pos:=pos) (E:=X.xe) (Q:=fun v H1=>D.nx (σ.set i (some v)) H1) hc T hg ht he h₂) fun acc s₃ h₃=>yq h₃ fun cenv s₄ h₄=>codeAny_mono h₄ fun r s' hr=>?_
 obtain⟨A,H',m,rfl,rfl,J,f,hn,q⟩:=hr
 show wpAny _ X.A (assign (.Name y py) X.env (.ref A)) _ _ _
 refine wpAny_assign_Name (zDg J hN hy (.inl hl) (v:=.ref A) rfl (fun s'' J' ⟨a,sb,ha⟩=>?_) (.inr hl))
 have hCa:cenv.locals≠a:=by
  rcases ha with z | z
  ·rw[z];exact f.2.1
  ·exact fun e=>f.2.2.2.2.1 y a z e.symm
 refine⟨m,hn.sameBut sb hCa,fun h' hs'=>⟨_,H',?_,q⟩⟩
 exact J'.turned (t':=s''.toks) (fun b o hb e=>(hs'.2 b hb).trans e) f.1 f.2.1 f.2.2.2.1 f.2.2.2.2.1 f.2.2.2.2.2
end
end L2
namespace L3
open PySem PySem.Spec PyProof.Rows L2
inductive D where
 | non | bl (b:Bool) | int (i:Int) | str (x:Str) | tup (ds:List D) | adr (a:Addr) | dic (a:Addr)
mutual
noncomputable def zU(K:PySem.W.Frag)(H:Hp):D→V→Prop
 | .non,v=>v=V.non
 | .bl b,v=>v=V.bl b
 | .int i,v=>v=V.int i
 | .str x,v=>v=V.str x
 | .adr a,v=>v=V.ref a
 | .dic a,v=>v=V.ref a∧∃ o x,H a=some (.frz o (.own x))∧o.cls=.type "dict"
 | .tup ds,v=>∃ a xs,v=V.ref a∧SqT K H a xs∧Dens K H ds xs
noncomputable def Dens(K:PySem.W.Frag)(H:Hp):List D→List V→Prop
 | [],xs=>xs=[]
 | d::ds,xs=>∃ x r,xs=x::r∧zU K H d x∧Dens K H ds r
end
set_option genInjectivity false in
structure Gp where
 m:Addr→Option (List D)
 ro:Addr→Option (List D)
noncomputable def zR(G:Gp)(a:Addr)(o:List D):Gp:={ G with m:=fun b=>if b=a then some o else G.m b }
theorem zH{G:Gp}{a:Addr}{o:List D}:(zR G a o).m a=some o:=if_pos rfl
theorem zQ{G:Gp}{a b:Addr}{o:List D}(h:b≠a):(zR G a o).m b=G.m b:=if_neg h
theorem zAs{G:Gp}{a:Addr}{o u:List D}:zR (zR G a o) a u=zR G a u:=by
 unfold zR
 congr 1
 funext b;by_cases h:b=a
 ·simp only[if_pos h]
 ·simp only[if_neg h]
theorem gne{G:Gp}{a b:Addr}{o:List D}(h:G.m a=some o)(h':G.m b=none):a≠b:=fun e=>by rw[e,h'] at h;cases h
set_option genInjectivity false in
structure Sub (G G':Gp):Prop where
 m:∀ a o,G.m a=some o→G'.m a=some o
 ro:∀ a o,G.ro a=some o→G'.ro a=some o
theorem Sub.refl(G:Gp):Sub G G:=⟨fun u0 u0 h=>h,fun u0 u0 h=>h⟩
theorem Sub.trans{G G1 G2:Gp}(h:Sub G G1)(h':Sub G1 G2):Sub G G2:=⟨fun a o e=>h'.m a o (h.m a o e),fun a o e=>h'.ro a o (h.ro a o e)⟩
theorem Sub.new{G:Gp}{p:Addr}{o:List D}(h:G.m p=none):Sub G (zR G p o):=⟨fun a u e=>by rw[zQ (gne e h)];exact e,fun u0 u0 e=>e⟩
noncomputable def Ls(G:Gp)(a:Addr)(ds:List D):Prop:=G.m a=some ds∨G.ro a=some ds
theorem Ls.sub{G G':Gp}{a:Addr}{ds:List D}(h:Ls G a ds)(s:Sub G G'):Ls G' a ds:=by
 rcases h with h | h
 ·exact .inl (s.m a ds h)
 ·exact .inr (s.ro a ds h)
theorem Ls.own{G:Gp}{a:Addr}{ds:List D}:Ls (zR G a ds) a ds:=.inl zH
noncomputable def RoL(K:PySem.W.Frag)(H:Hp)(a:Addr)(xs:List V):Prop :=
 (∃ o,H a=some (.frz o (.lst xs)))∨∃(o:Obj) (its:Array Value) (n:Nat),K.lookup a=some o∧o.cls=.type "list"∧o.dict=none∧o.data=.seq its n∧its.size≤sizeLine∧zh xs its.toList
theorem RoL.sq{K:PySem.W.Frag}{H:Hp}{a:Addr}{xs:List V}(h:RoL K H a xs):SqL K H a xs:=by
 rcases h with h | h
 ·exact .inl (.inr h)
 ·exact .inr h
set_option genInjectivity false in
structure yK (K:PySem.W.Frag) (G:Gp) (H:Hp):Prop where
 m:∀ a ds,G.m a=some ds→∃ xs,H a=some (.lst xs)∧Dens K H ds xs
 ro:∀ a ds,G.ro a=some ds→∃ xs,RoL K H a xs∧Dens K H ds xs
set_option genInjectivity false in
structure yB (H H':Hp):Prop where
 tups:∀ a xs,H a=some (.tup xs)→H' a=some (.tup xs)
 frzs:∀ a o u,H a=some (.frz o u)→H' a=some (.frz o u)
section
variable {K:PySem.W.Frag} {H H' H'':Hp} {G G':Gp}
theorem yB.refl(H:Hp):yB H H:=⟨fun u0 u0 h=>h,fun u0 u0 u0 h=>h⟩
theorem yB.trans(a:yB H H')(b:yB H' H''):yB H H'':=⟨fun c xs h=>b.tups c xs (a.tups c xs h),fun c o u h=>b.frzs c o u (a.frzs c o u h)⟩
theorem yB.fresh{p:Addr}{o:HO}(h:H p=none):yB H (yp H p o):=⟨fun a xs e=>by rw[yF (yh e h)];exact e,fun a o u e=>by rw[yF (yh e h)];exact e⟩
theorem yB.lst{p:Addr}{xs:List V}{o:HO}(h:H p=some (.lst xs)):yB H (yp H p o) :=
 ⟨fun a ys e=>by rw[yF (zOI e h (by intro z;cases z))];exact e,fun a o u e=>by rw[yF (zOI e h (by intro z;cases z))];exact e⟩
theorem yB.sqT(g:yB H H'){a:Addr}{xs:List V}(h:SqT K H a xs):SqT K H' a xs:=by
 rcases h with (h | ⟨o,h⟩) | h
 ·exact .inl (.inl (g.tups _ _ h))
 ·exact .inl (.inr ⟨o,g.frzs _ _ _ h⟩)
 ·exact .inr h
theorem yB.roL(g:yB H H'){a:Addr}{xs:List V}(h:RoL K H a xs):RoL K H' a xs:=by
 rcases h with ⟨o,h⟩ | h
 ·exact .inl ⟨o,g.frzs _ _ _ h⟩
 ·exact .inr h
mutual
theorem zU.grow(g:yB H H'):∀ {d:D} {v:V},zU K H d v→zU K H' d v
 | .non,_,h=>by unfold zU at h ⊢;exact h
 | .bl _,_,h=>by unfold zU at h ⊢;exact h
 | .int _,_,h=>by unfold zU at h ⊢;exact h
 | .str _,_,h=>by unfold zU at h ⊢;exact h
 | .adr _,_,h=>by unfold zU at h ⊢;exact h
 | .dic _,_,h=>by unfold zU at h ⊢;obtain⟨e,o,x,q,c⟩:=h;exact⟨e,o,x,g.frzs _ _ _ q,c⟩
 | .tup ds,v,h=>by
  unfold zU at h ⊢
  obtain⟨a,xs,e,s,r⟩:=h
  exact⟨a,xs,e,g.sqT s,Dens.grow g r⟩
theorem Dens.grow(g:yB H H'):∀ {ds:List D} {xs:List V},Dens K H ds xs→Dens K H' ds xs
 | [],_,h=>by unfold Dens at h ⊢;exact h
 | d::ds,xs,h=>by
  unfold Dens at h ⊢
  obtain⟨x,r,e,h1,h2⟩:=h
  exact⟨x,r,e,zU.grow g h1,Dens.grow g h2⟩
end
theorem Dens.length:∀ {ds:List D} {xs:List V},Dens K H ds xs→ds.length=xs.length
 | [],xs,h=>by unfold Dens at h;rw[h];rfl
 | d::ds,xs,h=>by
  unfold Dens at h
  obtain⟨x,r,rfl,u0,h2⟩:=h
  simp[Dens.length h2]
theorem Dens.get:∀ {ds:List D} {xs:List V} {i:Nat} {d:D},Dens K H ds xs→ds[i]?=some d→∃ x,xs[i]?=some x∧zU K H d x
 | [],_,_,_,_,e=>by simp at e
 | d::ds,xs,0,d',h,e=>by
  unfold Dens at h
  obtain⟨x,r,rfl,h1,u0⟩:=h
  simp at e;subst e
  exact⟨x,rfl,h1⟩
 | d::ds,xs,i+1,d',h,e=>by
  unfold Dens at h
  obtain⟨x,r,rfl,u0,h2⟩:=h
  obtain⟨y,e1,e2⟩:=Dens.get (i:=i) (d:=d') h2 (by simpa using e)
  exact⟨y,by simpa using e1,e2⟩
theorem Dens.got:∀ {ds:List D} {xs:List V} {i:Nat} {x:V},Dens K H ds xs→xs[i]?=some x→∃ d,ds[i]?=some d∧zU K H d x
 | ds,xs,i,x,h,e=>by
  have hl:=h.length
  have hi:i<ds.length:=by rw[hl];exact(List.getElem?_eq_some_iff.mp e).1
  obtain⟨y,e1,e2⟩:=h.get (i:=i) (d:=ds[i]) (by simp[hi])
  rw[e] at e1;cases e1
  exact⟨ds[i],by simp[hi],e2⟩
theorem Dens.nil:Dens K H [] []:=by unfold Dens;rfl
theorem Dens.cons{d:D}{ds:List D}{x:V}{xs:List V}(h:zU K H d x)(h':Dens K H ds xs):Dens K H (d::ds) (x::xs):=by unfold Dens;exact⟨x,xs,rfl,h,h'⟩
theorem Dens.append:∀ {ds es:List D} {xs ys:List V},Dens K H ds xs→Dens K H es ys→Dens K H (ds++es) (xs++ys)
 | [],_,xs,_,h,h'=>by unfold Dens at h;rw[h];exact h'
 | d::ds,_,xs,_,h,h'=>by
  unfold Dens at h
  obtain⟨x,r,rfl,h1,h2⟩:=h
  exact Dens.cons h1 (Dens.append h2 h')
theorem Dens.of_get:∀ {ds:List D} {xs:List V},ds.length=xs.length→(∀(i:Nat) d x,ds[i]?=some d→xs[i]?=some x→zU K H d x)→Dens K H ds xs
 | [],[],_,_=>.nil
 | [],_::_,h,_=>by simp at h
 | _::_,[],h,_=>by simp at h
 | d::ds,x::xs,h,g=>.cons (g 0 d x rfl rfl) (Dens.of_get (by simpa using h) fun i d' x' e1 e2=>g (i+1) d' x' (by simpa using e1) (by simpa using e2))
theorem Dens.take{n:Nat}{ds:List D}{xs:List V}(h:Dens K H ds xs):Dens K H (ds.take n) (xs.take n) :=
 .of_get (by simp[h.length]) fun i d x e1 e2=>by
  rw[List.getElem?_take] at e1 e2
  split at e1
  ·rename_i hi
   rw[if_pos hi] at e2
   obtain⟨y,e,r⟩:=h.get e1
   rw[e2] at e;cases e;exact r
  ·cases e1
theorem Dens.drop{n:Nat}{ds:List D}{xs:List V}(h:Dens K H ds xs):Dens K H (ds.drop n) (xs.drop n) :=
 .of_get (by simp[h.length]) fun i d x e1 e2=>by
  rw[List.getElem?_drop] at e1 e2
  obtain⟨y,e,r⟩:=h.get e1
  rw[e2] at e;cases e;exact r
theorem Dens.set{ds:List D}{xs:List V}{d:D}{x:V}(i:Nat)(h:Dens K H ds xs)(hd:zU K H d x):Dens K H (ds.set i d) (xs.set i x) :=
 .of_get (by simp[h.length]) fun j d' x' e1 e2=>by
  by_cases hj:i=j
  ·subst hj
   have hi:i<ds.length:=by
    have:=(List.getElem?_eq_some_iff.mp e1).1;simpa using this
   rw[List.getElem?_set_self hi] at e1
   rw[List.getElem?_set_self (by rw[← h.length];exact hi)] at e2
   cases e1;cases e2;exact hd
  ·rw[List.getElem?_set_ne hj] at e1 e2
   obtain⟨y,e,r⟩:=h.get e1
   rw[e2] at e;cases e;exact r
theorem Dens.eraseIdx:∀ {ds:List D} {xs:List V} (i:Nat),Dens K H ds xs→Dens K H (ds.eraseIdx i) (xs.eraseIdx i)
 | [],xs,i,h=>by unfold Dens at h;subst h;exact .nil
 | d::ds,xs,0,h=>by
  unfold Dens at h
  obtain⟨x,r,rfl,h1,h2⟩:=h
  exact h2
 | d::ds,xs,i+1,h=>by
  unfold Dens at h
  obtain⟨x,r,rfl,h1,h2⟩:=h
  exact .cons h1 (Dens.eraseIdx i h2)
theorem Dens.ints(ns:List Int):Dens K H (ns.map D.int) (ns.map V.int):=by
 induction ns with
 | nil=>exact .nil
 | cons n r ih=>exact .cons (by unfold zU;rfl) ih
theorem yK.fresh{p:Addr}{o:HO}(h:H p=none)(r:yK K G H):yK K G (yp H p o) :=
  ⟨fun a ds e=>by
    obtain⟨xs,e1,e2⟩:=r.m a ds e
    exact⟨xs,by rw[yF (yh e1 h)];exact e1,e2.grow (.fresh h)⟩,
   fun a ds e=>by
    obtain⟨xs,e1,e2⟩:=r.ro a ds e
    exact⟨xs,(yB.fresh h).roL e1,e2.grow (.fresh h)⟩⟩
theorem yK.free{p:Addr}(r:yK K G H)(h:H p=none):G.m p=none:=by
 cases q:G.m p with
 | none=>rfl
 | some ds=>obtain⟨xs,e1,u0⟩:=r.m p _ q;rw[h] at e1;cases e1
theorem yK.own{l:Addr}{ds:List D}{xs:List V}(r:yK K G H)(e:H l=some (.lst xs))(d:Dens K H ds xs):yK K (zR G l ds) H :=
  ⟨fun b u q=>by
    by_cases hb:b=l
    · subst hb;rw[zH] at q;cases q;exact⟨xs,e,d⟩
    · rw[zQ hb] at q;exact r.m b u q,
   r.ro⟩
theorem yK.new{p:Addr}{ds:List D}{xs:List V}(h:H p=none)(r:yK K G H)(d:Dens K H ds xs):yK K (zR G p ds) (yp H p (.lst xs)) :=
 (r.fresh h).own zj (d.grow (.fresh h))
theorem yK.put{p:Addr}{ds':List D}{xs xs':List V}(h:H p=some (.lst xs))(r:yK K G H)(d:Dens K H ds' xs'):yK K (zR G p ds') (yp H p (.lst xs')) :=
  ⟨fun a u e=>by
    by_cases ha:a=p
    · subst ha
      rw[zH] at e;cases e
      exact⟨xs',zj,d.grow (.lst h)⟩
    · rw[zQ ha] at e
      obtain⟨ys,e1,e2⟩:=r.m a u e
      exact⟨ys,by rw[yF ha];exact e1,e2.grow (.lst h)⟩,
   fun a u e=>by
    obtain⟨ys,e1,e2⟩:=r.ro a u e
    exact⟨ys,(yB.lst h).roL e1,e2.grow (.lst h)⟩⟩
theorem yK.sub(s:Sub G G')(r:yK K G' H):yK K G H:=⟨fun a u e=>r.m a u (s.m a u e),fun a u e=>r.ro a u (s.ro a u e)⟩
theorem yK.sq{a:Addr}{ds:List D}(r:yK K G H)(e:Ls G a ds):∃ xs,SqL K H a xs∧Dens K H ds xs:=by
 rcases e with e | e
 ·obtain⟨xs,e1,e2⟩:=r.m a _ e
  exact⟨xs,.of e1,e2⟩
 ·obtain⟨xs,e1,e2⟩:=r.ro a _ e
  exact⟨xs,e1.sq,e2⟩
end
noncomputable abbrev S2:=List (Option D)
noncomputable abbrev zo:=S2→Gp→(D→Gp→Prop)→Prop
noncomputable abbrev TT2:=S2→Gp→(Bool→Gp→Prop)→Prop
noncomputable abbrev wN:=S2→Gp→(List D→Gp→Prop)→Prop
set_option genInjectivity false in
structure yC where
 nx:S2→Gp→Prop
 rt:D→Gp→Prop
 bk:S2→Gp→Prop:=fun u0 u0=>False
 ct:S2→Gp→Prop:=fun u0 u0=>False
noncomputable abbrev yi:=yC→S2→Gp→Prop
noncomputable def look:S2→Nat→Option D
 | [],_=>none
 | o::_,0=>o
 | _::r,i+1=>look r i
theorem zCE:∀ {σ:S2} {i:Nat} {d:D},look σ i=some d→σ[i]?=some (some d)
 | [],_,_,e=>by cases e
 | o::_,0,d,e=>by simp[look] at e;simp[e]
 | _::r,i+1,d,e=>by simpa using zCE (σ:=r) (i:=i) (d:=d) e
set_option genInjectivity false in
structure Rel (K:PySem.W.Frag) (σ:S2) (G:Gp) (σ1:L2.St) (H:Hp):Prop where
 g:yK K G H
 len:σ.length=σ1.length
 val:∀(i:Nat) d,σ[i]?=some (some d)→∃ v,σ1[i]?=some (some v)∧zU K H d v
theorem Rel.to{K:PySem.W.Frag}{σ:S2}{G G':Gp}{σ1:L2.St}{H H':Hp}(r:Rel K σ G σ1 H)(g:yB H H')(r':yK K G' H'):Rel K σ G' σ1 H' :=
 ⟨r',r.len,fun i d e=>by obtain⟨v,e1,e2⟩:=r.val i d e;exact⟨v,e1,e2.grow g⟩⟩
theorem Rel.set{K:PySem.W.Frag}{σ:S2}{G:Gp}{σ1:L2.St}{H:Hp}(r:Rel K σ G σ1 H)(i:Nat){d:D}{v:V}(h:zU K H d v):Rel K (σ.set i (some d)) G (σ1.set i (some v)) H :=
 ⟨r.g,by simp[r.len],fun j d' e=>by
  by_cases hj:i=j
  ·subst hj
   have hi:i<σ.length:=by
    have:=(List.getElem?_eq_some_iff.mp e).1;simpa using this
   rw[List.getElem?_set_self hi] at e
   cases e
   exact⟨v,by rw[List.getElem?_set_self (by rw[← r.len];exact hi)],h⟩
  ·rw[List.getElem?_set_ne hj] at e
   obtain⟨u,e1,e2⟩:=r.val j d' e
   exact⟨u,by rw[List.getElem?_set_ne hj];exact e1,e2⟩⟩
noncomputable def lE(K:PySem.W.Frag)(t:zo):TE:=fun σ1 H Q=>∃ σ G R,Rel K σ G σ1 H∧t σ G R∧∀ d G',R d G'→∀ v H',yB H H'→yK K G' H'→zU K H' d v→Q v H'
noncomputable def lT(K:PySem.W.Frag)(t:TT2):TT:=fun σ1 H Q=>∃ σ G R,Rel K σ G σ1 H∧t σ G R∧∀ b G',R b G'→∀ H',yB H H'→yK K G' H'→Q b H'
noncomputable def lA(K:PySem.W.Frag)(t:wN):TA:=fun σ1 H Q=>∃ σ G R,Rel K σ G σ1 H∧t σ G R∧∀ ds G',R ds G'→∀ vs H',yB H H'→yK K G' H'→Dens K H' ds vs→Q vs H'
set_option genInjectivity false in
structure ER (K:PySem.W.Frag) (H:Hp) (D2:yC) (E:Ends):Prop where
 nx:∀ σ G,D2.nx σ G→∀ σ1 H',yB H H'→Rel K σ G σ1 H'→E.nx σ1 H'
 bk:∀ σ G,D2.bk σ G→∀ σ1 H',yB H H'→Rel K σ G σ1 H'→E.bk σ1 H'
 ct:∀ σ G,D2.ct σ G→∀ σ1 H',yB H H'→Rel K σ G σ1 H'→E.ct σ1 H'
 rt:∀ d G,D2.rt d G→∀ v H',yB H H'→yK K G H'→zU K H' d v→E.rt v H'
theorem ER.to{K:PySem.W.Frag}{H H':Hp}{D2:yC}{E:Ends}(e:ER K H D2 E)(g:yB H H'):ER K H' D2 E :=
 ⟨fun σ G h σ1 H1 g1=>e.nx σ G h σ1 H1 (g.trans g1),fun σ G h σ1 H1 g1=>e.bk σ G h σ1 H1 (g.trans g1),fun σ G h σ1 H1 g1=>e.ct σ G h σ1 H1 (g.trans g1),fun d G h v H1 g1=>e.rt d G h v H1 (g.trans g1)⟩
noncomputable def lS(K:PySem.W.Frag)(t:yi):TS:=fun E σ1 H=>∃ σ G D2,Rel K σ G σ1 H∧t D2 σ G∧ER K H D2 E
noncomputable def E2(X:Cx)(e:Expr)(t:zo):Prop:=PE X e (lE X.K t)
noncomputable def T2(X:Cx)(e:Expr)(t:TT2):Prop:=PT X e (lT X.K t)
noncomputable def A2(X:Cx)(es:List Expr)(t:wN):Prop:=PA X es (lA X.K t)
noncomputable def P2(X:Cx)(st:Stmt)(t:yi):Prop:=PS X st (lS X.K t)
noncomputable def Ps2(X:Cx)(st:List Stmt)(t:yi):Prop:=PSs X st (lS X.K t)
section
variable {X:Cx} {a b c e o:Expr} {es:List Expr} {pos p:Pos} {ta tb tc te:zo}
noncomputable def zB(i:Nat):zo:=fun σ G R=>match look σ i with | some d=>R d G | none=>False
noncomputable def xC(d:D):zo:=fun u0 G R=>R d G
theorem zD(i:Nat){x:Str}(hN:X.N[i]?=some x:=by rfl)(hv:Vis X.env.scope x:=by first | exact Or.inl rfl | exact Or.inr (Or.inl rfl) | exact Or.inr (Or.inr rfl))(hd:(x==("__debug__":Str))=false:=by decide)
  (hcd:(x==("__classdict__":Str))=false:=by decide):E2 X (.Name x pos) (zB i):=by
 refine PE.mono (zGB hN hv hd hcd) ?_
 rintro σ1 H Q ⟨σ,G,R,r,t,k⟩
 unfold zB at t
 cases q:look σ i with
 | none=>rw[q] at t;exact t.elim
 | some d =>
  rw[q] at t
  obtain⟨v,e1,e2⟩:=r.val i d (zCE q)
  exact⟨v,e1,k d G t v H (.refl H) r.g e2⟩
theorem zL{i j}:E2 X (.Constant (.int i) j pos) (xC (.int i)):=by
 refine PE.mono zOm ?_
 rintro σ1 H Q ⟨σ,G,R,r,t,k⟩
 exact k _ G t _ H (.refl H) r.g (by unfold zU;rfl)
theorem zGG{i j}:E2 X (.Constant (.bool i) j pos) (xC (.bl i)):=by
 refine PE.mono zQK ?_
 rintro σ1 H Q ⟨σ,G,R,r,t,k⟩
 exact k _ G t _ H (.refl H) r.g (by unfold zU;rfl)
theorem zQd{i j}:E2 X (.Constant (.str i) j pos) (xC (.str i)):=by
 refine PE.mono zOn ?_
 rintro σ1 H Q ⟨σ,G,R,r,t,k⟩
 exact k _ G t _ H (.refl H) r.g (by unfold zU;rfl)
theorem zQe{j}:E2 X (.Constant .none j pos) (xC .non):=by
 refine PE.mono zK3 ?_
 rintro σ1 H Q ⟨σ,G,R,r,t,k⟩
 exact k _ G t _ H (.refl H) r.g (by unfold zU;rfl)
noncomputable abbrev Q2:=D→Gp→Prop
noncomputable def Fit(K:PySem.W.Frag)(r:R2)(f:D→D→Gp→Q2→Prop):Prop :=
 ∀ dx dy G R x y H Q,f dx dy G R→yK K G H→zU K H dx x→zU K H dy y→(∀ d G',R d G'→∀ v H',yB H H'→yK K G' H'→zU K H' d v→Q v H')→r x y H Q
noncomputable def zP(f:D→D→Gp→Q2→Prop)(ta tb:zo):zo:=fun σ G R=>ta σ G fun x G1=>tb σ G1 fun y G2=>f x y G2 R
theorem zIw{K:PySem.W.Frag}{r:R2}{f:D→D→Gp→Q2→Prop}(hf:Fit K r f){σ1:L2.St}{H:Hp}{Q:VK}(h:lE K (zP f ta tb) σ1 H Q):tOp r (lE K ta) (lE K tb) σ1 H Q:=by
 obtain⟨σ,G,R,rl,t,k⟩:=h
 refine⟨σ,G,_,rl,t,fun dx G1 t1 x H1 g1 r1 d1=>?_⟩
 refine⟨σ,G1,_,rl.to g1 r1,t1,fun dy G2 t2 y H2 g2 r2 d2=>?_⟩
 exact hf dx dy G2 R x y H2 Q t2 r2 (d1.grow g2) d2 fun d G' q v H' g' r' d'=>k d G' q v H' ((g1.trans g2).trans g') r' d'
theorem zGH{op:Operator}{r:R2}{f:D→D→Gp→Q2→Prop}(ho:OpR X (binaryOp op) r)(hf:Fit X.K r f)(ha:E2 X a ta)(hb:E2 X b tb):E2 X (.BinOp a op b pos) (zP f ta tb) :=
 PE.mono (zK7 ho ha hb) fun σ1 H Q h=>zIw hf h
theorem zIx{op:CmpOp}{r:R2}{f:D→D→Gp→Q2→Prop}(ho:OpR X (compareOp op) r)(hf:Fit X.K r f)(ha:E2 X a ta)(hb:E2 X b tb)(hm:behindInMarks op b=false):E2 X (.Compare a [op] [b] pos) (zP f ta tb) :=
 PE.mono (zNG ho ha hb hm) fun σ1 H Q h=>zIw hf h
noncomputable def xB(t:zo):TT2:=fun σ G R=>t σ G fun d G1=>match d with | .bl b=>R b G1 | _=>False
theorem zEc{op:CmpOp}{r:R2}{f:D→D→Gp→Q2→Prop}(ho:OpR X (compareOp op) r)(hf:Fit X.K r f)(ha:E2 X a ta)(hb:E2 X b tb)(hm:behindInMarks op b=false):T2 X (.Compare a [op] [b] pos) (xB (zP f ta tb)):=by
 refine PT.mono (zNH ho ha hb hm) ?_
 rintro σ1 H Q ⟨σ,G,R,rl,t,k⟩
 refine zIw hf ⟨σ,G,_,rl,t,fun d G' q v H' g' r' d'=>?_⟩
 cases d with
 | bl b =>
  unfold zU at d'
  exact⟨b,d',k b G' q H' g' r'⟩
 | _=>exact q.elim
noncomputable def ya(g:Int→Int→D):D→D→Gp→Q2→Prop:=fun x y G R=>match x,y with | .int i,.int j=>R (g i j) G | _,_=>False
noncomputable def zLI:D→Bool
 | .tup _=>false
 | .adr _=>false
 | .dic _=>false
 | _=>true
noncomputable def vOf:D→V
 | .non=>.non | .bl b=>.bl b | .int i=>.int i | .str x=>.str x | .tup _=>.non | .adr a=>.ref a | .dic a=>.ref a
theorem zIy{K:PySem.W.Frag}{H:Hp}{d:D}(h:zLI d=true):zU K H d (vOf d):=by
 cases d<;>first | (cases h;done) | (unfold zU;rfl)
theorem zAO{K:PySem.W.Frag}{gv:Int→Int→V}{g:Int→Int→D}(hg:∀ i j,zLI (g i j)=true∧gv i j=vOf (g i j)):Fit K (rI0 gv) (ya g):=by
 intro dx dy G R x y H Q h r d1 d2 k
 unfold ya at h
 cases dx with
 | int i =>
  cases dy with
  | int j =>
   unfold zU at d1 d2
   subst d1 d2
   exact⟨i,j,rfl,rfl,k _ G h _ H (.refl H) r (by rw[(hg i j).2];exact zIy (hg i j).1)⟩
  | _=>exact h.elim
 | _=>exact h.elim
noncomputable def wF(C:Int→Int→Prop)(g:Int→Int→D):D→D→Gp→Q2→Prop:=fun x y G R=>match x,y with | .int i,.int j=>C i j∧R (g i j) G | _,_=>False
theorem zDD{K:PySem.W.Frag}{C:Int→Int→Prop}{gv:Int→Int→V}{g:Int→Int→D}(hg:∀ i j,zLI (g i j)=true∧gv i j=vOf (g i j)):Fit K (rI C gv) (wF C g):=by
 intro dx dy G R x y H Q h r d1 d2 k
 unfold wF at h
 cases dx with
 | int i =>
  cases dy with
  | int j =>
   unfold zU at d1 d2
   subst d1 d2
   exact⟨i,j,rfl,rfl,h.1,k _ G h.2 _ H (.refl H) r (by rw[(hg i j).2];exact zIy (hg i j).1)⟩
  | _=>exact h.elim
 | _=>exact h.elim
end
end L3
namespace L3
open PySem PySem.Spec PyProof.Rows L2
section
variable {X:Cx} {a b c e o:Expr} {es:List Expr} {pos p:Pos} {ta tb tc te:zo}
noncomputable abbrev TL2:=S2→Gp→(List D→Gp→Prop)→Prop
noncomputable def lL(K:PySem.W.Frag)(t:TL2):TE:=fun σ1 H Q=>∃ σ G R,Rel K σ G σ1 H∧t σ G R∧∀ ds G',R ds G'→∀ l xs H',yB H H'→yK K G' H'→G'.m l=none→H' l=some (.lst xs)→Dens K H' ds xs→Q (.ref l) H'
noncomputable def F2(X:Cx)(e:Expr)(t:TL2):Prop:=PE X e (lL X.K t)
noncomputable def yA(t:TL2):zo:=fun σ G R=>t σ G fun ds G'=>∀ l,G'.m l=none→R (.adr l) (zR G' l ds)
theorem yD{t:TL2}(h:F2 X e t):E2 X e (yA t):=by
 refine PE.mono h ?_
 rintro σ1 H Q ⟨σ,G,R,r,q,k⟩
 exact⟨σ,G,_,r,q,fun ds G' q' l xs H' g r' n e' d=>k _ _ (q' l n) _ H' g (r'.own e' d) (by unfold zU;rfl)⟩
noncomputable def zI:wN:=fun u0 G R=>R [] G
noncomputable def zA(ta:zo)(tr:wN):wN:=fun σ G R=>ta σ G fun x G1=>tr σ G1 fun xs G2=>R (x::xs) G2
theorem zJ:A2 X [] zI:=by
 intro pos pins s σ1 H Q I h
 refine wz pos pins s σ1 H Q I ?_
 obtain⟨σ,G,R,r,q,k⟩:=h
 exact k [] G q [] H (.refl H) r.g .nil
theorem zC{tr:wN}(ha:E2 X e ta)(hr:A2 X es tr)(hs:starEach (e::es) X.env=(false,eval e X.env)::starEach es X.env:=by rfl):A2 X (e::es) (zA ta tr):=by
 intro pos pins s σ1 H Q I h
 refine yS ha hr hs pos pins s σ1 H Q I ?_
 obtain⟨σ,G,R,r,q,k⟩:=h
 refine⟨σ,G,_,r,q,fun d G1 q1 v H1 g1 r1 d1=>?_⟩
 refine⟨σ,G1,_,r.to g1 r1,q1,fun ds G2 q2 vs H2 g2 r2 d2=>?_⟩
 exact k _ G2 q2 _ H2 (g1.trans g2) r2 (.cons (d1.grow g2) d2)
noncomputable def yG(t:wN):zo:=fun σ G R=>t σ G fun ds G1=>ds.length≤sizeLine∧R (.tup ds) G1
theorem yV{t:wN}{x1}(h:A2 X es t):E2 X (.Tuple es x1 pos) (yG t):=by
 refine PE.mono (zLC h) ?_
 rintro σ1 H Q ⟨σ,G,R,r,q,k⟩
 refine⟨σ,G,_,r,q,fun ds G1 q1 vs H1 g1 r1 d1=>⟨by rw[← d1.length];exact q1.1,fun p hp=>?_⟩⟩
 refine k _ G1 q1.2 _ _ (g1.trans (.fresh hp)) (r1.fresh hp) ?_
 unfold zU
 exact⟨p,vs,rfl,.of zj,d1.grow (.fresh hp)⟩
noncomputable def wS(t:wN):TL2:=fun σ G R=>t σ G fun ds G1=>ds.length≤sizeLine∧R ds G1
theorem zAJ{t:wN}(h:A2 X es t):F2 X (.List es pos) (wS t):=by
 refine PE.mono (zPF h) ?_
 rintro σ1 H Q ⟨σ,G,R,r,q,k⟩
 refine⟨σ,G,_,r,q,fun ds G1 q1 vs H1 g1 r1 d1=>⟨by rw[← d1.length];exact q1.1,fun p hp=>?_⟩⟩
 exact k ds G1 q1.2 p vs _ (g1.trans (.fresh hp)) (r1.fresh hp) (r1.free hp) zj (d1.grow (.fresh hp))
noncomputable abbrev Sp2:=List D→Gp→Q2→Prop
noncomputable def lSp(K:PySem.W.Frag)(sp:Sp2):Sp:=fun vs H Q u0=>∃ ds G R,Dens K H ds vs∧yK K G H∧sp ds G R∧∀ d G',R d G'→∀ v H',yB H H'→yK K G' H'→zU K H' d v→Q v H'
noncomputable def Df(P:Program)(w:World)(K:PySem.W.Frag)(mg:Str→Option Value)(base:Heap)(k:Nat)(x:Str)(ps:List Str)(sp:Sp2):Prop :=
 ∃ f fd,zDB P w K mg base CX0 k f fd ps (lSp K sp)∧mg x=some (.ref f)∧PySem.W.keepIn K (.ref f)=true∧Binds K fd ps []
noncomputable def zK(sp:Sp2)(t:wN):zo:=fun σ G R=>t σ G fun ds G1=>sp ds G1 R
theorem za{sp:Sp2}{t:wN}{k k':Nat}{x:Str}{ps:List Str}(F:Df X.prog X.w X.K X.mg X.base k x ps sp)(hr:yd k' X.A)(hk:k≤k')(hg:Gl X x)(ha:A2 X (e::es) t)
  (hdb:(x==("__debug__":Str))=false:=by decide) (he:starEach (e::es) X.env=(false,eval e X.env)::starEach es X.env:=by rfl) (hpl:(backTo pos (starEach es X.env)).any (·.1)=false:=by rfl) :
  E2 X (.Call (.Name x p) (e::es) [] pos) (zK sp t):=by
 obtain⟨f,fd,F,hm,hkp,hb⟩:=F
 refine PE.mono (zIp (dvs:=[]) F (hr.mono hk) hg hm hkp hb .nil zOL ha hdb he hpl) ?_
 rintro σ1 H Q ⟨σ,G,R,r,q,kk⟩
 refine⟨σ,G,_,r,q,fun ds G1 q1 vs H1 g1 r1 d1=>?_⟩
 show lSp X.K _ (vs++[]) H1 Q E0
 rw[List.append_nil]
 exact⟨ds,G1,R,d1,r1,q1,fun d G' q' v H' g'=>kk d G' q' v H' (g1.trans g')⟩
noncomputable def spL(sp:List D→Gp→(List D→Gp→Prop)→Prop):Sp2:=fun ds G R=>sp ds G fun ls G'=>∀ l,G'.m l=none→R (.adr l) (zR G' l ls)
noncomputable def yw(sp:List D→Gp→(List D→Gp→Prop)→Prop)(t:wN):TL2:=fun σ G R=>t σ G fun ds G1=>sp ds G1 R
theorem zDm{sp:List D→Gp→(List D→Gp→Prop)→Prop}{t:wN}{k k':Nat}{x:Str}{ps:List Str}(F:Df X.prog X.w X.K X.mg X.base k x ps (spL sp))(hmono:∀ ds G R R',(∀ ls G',R ls G'→R' ls G')→sp ds G R→sp ds G R')(hr:yd k' X.A)(hk:k≤k')(hg:Gl X x)(ha:A2 X (e::es) t)
  (hdb:(x==("__debug__":Str))=false:=by decide) (he:starEach (e::es) X.env=(false,eval e X.env)::starEach es X.env:=by rfl) (hpl:(backTo pos (starEach es X.env)).any (·.1)=false:=by rfl) :
  F2 X (.Call (.Name x p) (e::es) [] pos) (yw sp t):=by
 obtain⟨f,fd,F,hm,hkp,hb⟩:=F
 refine PE.mono (zIp (dvs:=[]) F (hr.mono hk) hg hm hkp hb .nil zOL ha hdb he hpl) ?_
 rintro σ1 H Q ⟨σ,G,R,r,q,kk⟩
 refine⟨σ,G,_,r,q,fun ds G1 q1 vs H1 g1 r1 d1=>?_⟩
 show lSp X.K _ (vs++[]) H1 Q E0
 rw[List.append_nil]
 refine⟨ds,G1,fun d G'=>∃ l ls G0,d=.adr l∧G0.m l=none∧G'=zR G0 l ls∧R ls G0,d1,r1,hmono _ _ _ _ (fun ls G' q l n=>⟨l,ls,G',rfl,n,rfl,q⟩) q1,?_⟩
 rintro d G' ⟨l,ls,G0,rfl,n,rfl,q'⟩ v H' g' r' dv
 unfold zU at dv
 subst dv
 obtain⟨xs,e1,e2⟩:=r'.m l ls zH
 exact kk ls G0 q' l xs H' (g1.trans g') (r'.sub (.new n)) n e1 e2
section
variable {st:Stmt} {rest:List Stmt} {t u:yi}
noncomputable def yH:yi:=fun E σ G=>E.nx σ G
noncomputable def zX(t u:yi):yi:=fun E σ G=>t { E with nx:=u E } σ G
theorem yT:Ps2 X [] yH:=by
 intro pins s σ1 H E I h
 refine zNB pins s σ1 H E I ?_
 obtain⟨σ,G,D2,r,q,k⟩:=h
 exact k.nx σ G q σ1 H (.refl H) r
theorem zN(h1:P2 X st t)(h2:Ps2 X rest u):Ps2 X (st::rest) (zX t u):=by
 intro pins s σ1 H E I h
 refine zK4 h1 h2 pins s σ1 H E I ?_
 obtain⟨σ,G,D2,r,q,k⟩:=h
 refine⟨σ,G,_,r,q,⟨fun σ' G' q' σ1' H' g' r'=>⟨σ',G',D2,r',q',k.to g'⟩,k.bk,k.ct,k.rt⟩⟩
theorem zT(h1:P2 X st t):Ps2 X [st] t:=zNC h1
noncomputable def zu(te:zo):yi:=fun E σ G=>te σ G E.rt
theorem zp(he:E2 X e te):P2 X (.Return (some e) pos) (zu te):=by
 refine PS.mono (L2.zOv he) ?_
 rintro E σ1 H ⟨σ,G,D2,r,q,k⟩
 exact⟨σ,G,_,r,q,fun d G' q' v H' g' r' d'=>k.rt d G' q' v H' g' r' d'⟩
noncomputable def yk(te:zo):yi:=fun E σ G=>te σ G fun u0 G1=>E.nx σ G1
theorem zA0(he:E2 X e te)(hs:swapsWith e none pos.line X.env=pure false:=by rfl):P2 X (.Expr e pos) (yk te):=by
 refine PS.mono (L2.zND he hs) ?_
 rintro E σ1 H ⟨σ,G,D2,r,q,k⟩
 exact⟨σ,G,_,r,q,fun d G' q' v H' g' r' d'=>k.nx σ G' q' σ1 H' g' (r.to g' r')⟩
noncomputable def xIf(c:TT2)(t u:yi):yi:=fun E σ G=>c σ G fun b G1=>if b=true then t E σ G1 else u E σ G1
theorem zAl{x y:List Stmt}{tc:TT2}(hc:T2 X c tc)(ha:Ps2 X x t)(hb:Ps2 X y u):P2 X (.If c x y pos) (xIf tc t u):=by
 refine PS.mono (L2.zQQ hc ha hb) ?_
 rintro E σ1 H ⟨σ,G,D2,r,q,k⟩
 refine⟨σ,G,_,r,q,fun b G' q' H' g' r'=>?_⟩
 cases b with
 | true=>exact⟨σ,G',D2,r.to g' r',q',k.to g'⟩
 | false=>exact⟨σ,G',D2,r.to g' r',q',k.to g'⟩
noncomputable abbrev TG2:=D→S2→Gp→(S2→Gp→Prop)→Prop
noncomputable def lG(K:PySem.W.Frag)(g:TG2):TG:=fun v σ1 H Q=>∃ σ G d R,Rel K σ G σ1 H∧zU K H d v∧g d σ G R∧∀ σ' G',R σ' G'→∀ σ1' H',yB H H'→Rel K σ' G' σ1' H'→Q σ1' H'
noncomputable def G2(X:Cx)(tg:Expr)(g:TG2):Prop:=PG X tg (lG X.K g)
theorem PG.mono{tg:Expr}{t t':TG}(h:PG X tg t)(hm:∀ v σ H Q,t' v σ H Q→t v σ H Q):PG X tg t':=fun pins s σ H v u Q I r q=>h pins s σ H v u Q I r (hm v σ H Q q)
noncomputable def gN(i:Nat):TG2:=fun d σ G R=>R (σ.set i (some d)) G
theorem zAm(i:Nat){x:Str}(hN:X.N.Nodup)(hi:X.N[i]?=some x:=by rfl)(hx:Loc X.env.scope x:=by first | exact Or.inl rfl | exact Or.inr rfl)(hf:X.fn x=true∨X.env.scope.names.lookup x=some .local:=by first | exact .inl rfl | exact .inr rfl | assumption):G2 X (.Name x pos) (gN i):=by
 refine PG.mono (zBF hN hi hx hf) ?_
 rintro v σ1 H Q ⟨σ,G,d,R,r,dv,q,k⟩
 exact k _ G q _ H (.refl H) (r.set i dv)
noncomputable def gNN(i j:Nat):TG2:=fun d σ G R=>match d with | .tup [a,b]=>R ((σ.set i (some a)).set j (some b)) G | _=>False
theorem zIz(i j:Nat){x y:Str}{px py:Pos}{kk:Nat}(hc:X.calm=true)(hN:X.N.Nodup)(hi:X.N[i]?=some x:=by rfl)(hj:X.N[j]?=some y:=by rfl)(hx:Loc X.env.scope x:=by first | exact Or.inl rfl | exact Or.inr rfl)(hy:Loc X.env.scope y:=by first | exact Or.inl rfl | exact Or.inr rfl)
  (hf:X.fn x=true∨X.env.scope.names.lookup x=some .local:=by first | exact .inl rfl | exact .inr rfl | assumption) (hf':X.fn y=true∨X.env.scope.names.lookup y=some .local:=by first | exact .inl rfl | exact .inr rfl | assumption) :
  G2 X (.Tuple [.Name x px,.Name y py] kk pos) (gNN i j):=by
 refine PG.mono (zK5 (n:=2) hc (zDA (zBF hN hi hx hf) (zDA (zBF hN hj hy hf') zIn))) ?_
 rintro v σ1 H Q ⟨σ,G,d,R,r,dv,q,k⟩
 unfold gNN at q
 split at q
 ·rename_i d1 d2
  unfold zU at dv
  obtain⟨a,xs,rfl,hs,hd⟩:=dv
  unfold Dens at hd
  obtain⟨x1,r1,rfl,h1,hd⟩:=hd
  unfold Dens at hd
  obtain⟨x2,r2,rfl,h2,hd⟩:=hd
  unfold Dens at hd
  subst hd
  exact⟨a,[x1,x2],rfl,hs,rfl,x1,[x2],rfl,x2,[],rfl,rfl,k _ G q _ H (.refl H) ((r.set i h1).set j h2)⟩
 ·exact q.elim
noncomputable def zv(te:zo)(g:TG2):yi:=fun E σ G=>te σ G fun d G1=>g d σ G1 E.nx
theorem zLJ{g:TG2}{E:Ends}{σ1:L2.St}{H:Hp}{K:PySem.W.Frag}(h:lS K (zv te g) E σ1 H):zO0 (lE K te) (lG K g) E σ1 H:=by
 obtain⟨σ,G,D2,r,q,k⟩:=h
 refine⟨σ,G,_,r,q,fun d G' q' v H' g' r' d'=>⟨σ,G',d,_,r.to g' r',d',q',fun σ' G'' q'' σ1' H'' g'' r''=>k.nx σ' G'' q'' σ1' H'' (g'.trans g'') r''⟩⟩
theorem zx(i:Nat){x:Str}{pos':Pos}(hN:X.N.Nodup)(he:E2 X e te)(hi:X.N[i]?=some x:=by rfl)(hx:Loc X.env.scope x:=by first | exact Or.inl rfl | exact Or.inr rfl)(hs:swapsWith e (some (.Name x pos')) pos.line X.env=pure false:=by rfl)(hf:X.fn x=true∨X.env.scope.names.lookup x=some .local:=by first | exact .inl rfl | exact .inr rfl | assumption) :
  P2 X (.Assign [.Name x pos'] e pos) (zv te (gN i)):=by
 refine PS.mono (L2.zO2 hN hi hx he hs hf) fun E σ1 H h=>?_
 obtain⟨σ,G,D2,r,q,k⟩:=h
 refine⟨σ,G,_,r,q,fun d G' q' v H' g' r' d'=>?_⟩
 exact k.nx _ G' q' _ H' g' ((r.to g' r').set i d')
theorem zLK{tg:Expr}{g:TG2}(he:E2 X e te)(hg:G2 X tg g)(hs:swapsWithSole [tg] e pos.line X.env=pure false:=by rfl)(hw:swappedStores [tg] e X.env=pure none:=by rfl)
  (h1:(assignEach [tg] X.env).map (·.2)=[assign tg X.env]:=by rfl):P2 X (.Assign [tg] e pos) (zv te g) :=
 PS.mono (L2.zO1 he hg hs hw h1) fun u0 u0 u0 h=>zLJ h
noncomputable def gIx(to ti:zo):TG2:=fun d σ G R=>to σ G fun o G1=>ti σ G1 fun i G2=>match o,i with
 | .adr l,.int k=>match G2.m l with
  | some ds=>match ixN ds.length k with | some j=>R σ (zR G2 l (ds.set j d)) | none=>False
  | none=>False
 | _,_=>False
theorem zQf{i:Expr}{to ti:zo}(ho:E2 X o to)(hi:E2 X i ti)
  (ha:∀ v,assign (.Subscript o i pos) X.env v=(do
   let ov ← holding [v] (eval o X.env)
   let iv ← holding [v,ov] (eval i X.env)
   standAt pos
   holding [v,ov,iv] (setItem ov iv v)
   release [v,ov,iv] []):=by intro u0;rfl):G2 X (.Subscript o i pos) (gIx to ti):=by
 refine PG.mono (zOz ho hi set_list ha) ?_
 rintro v σ1 H Q ⟨σ,G,d,R,r,dv,q,k⟩
 refine⟨σ,G,_,r,q,fun dx G1 q1 x H1 g1 r1 d1=>⟨σ,G1,_,r.to g1 r1,q1,fun dy G2' q2 y H2 g2 r2 d2=>?_⟩⟩
 cases dx with
 | adr l =>
  cases dy with
  | int j =>
   dsimp only at q2
   cases e1:G2'.m l with
   | none=>rw[e1] at q2;exact q2.elim
   | some ds =>
    rw[e1] at q2
    dsimp only at q2
    cases e2:ixN ds.length j with
    | none=>rw[e2] at q2;exact q2.elim
    | some jj =>
     rw[e2] at q2
     dsimp only at q2
     have d1':=d1.grow g2
     unfold zU at d1' d2
     subst d1' d2
     obtain⟨xs,h1,h2⟩:=r2.m l ds e1
     refine⟨l,xs,j,jj,rfl,rfl,h1,by rw[← h2.length];exact e2,?_⟩
     have g3:yB H2 (yp H2 l (.lst (xs.set jj v))):=.lst h1
     exact k _ _ q2 _ _ ((g1.trans g2).trans g3) ((r.to (g1.trans g2) r2).to g3 (r2.put h1 (h2.set jj (dv.grow (g1.trans g2)))))
  | _=>exact q2.elim
 | _=>exact q2.elim
end
end
end L3
namespace L3
open PySem PySem.Spec PyProof.Rows L2
noncomputable abbrev TI2:=S2→Gp→(List D→(Gp→Prop)→Gp→Prop)→Prop
set_option genInjectivity false in
structure Walk (K:PySem.W.Frag) (H0:Hp) (ds:List D) (gd:Gp→Prop) (J:It):Prop where
 go:∀ i G H,gd G→yK K G H→yB H0 H→i<ds.length→J.go i H
 stop:∀ G H,gd G→yK K G H→yB H0 H→J.stop ds.length H
 yld:∀ i G H x H',gd G→yK K G H→yB H0 H→i<ds.length→J.yld i H x H'→yB H H'∧yK K G H'∧∃ d,ds[i]?=some d∧zU K H' d x
noncomputable def lI(K:PySem.W.Frag)(wi:TI2):TI:=fun σ1 H R=>∃ σ G R2,Rel K σ G σ1 H∧wi σ G R2∧∀ ds gd G',R2 ds gd G'→∀ J H',yB H H'→yK K G' H'→Walk K H' ds gd J→ds.length≤sizeLine→R J H'
noncomputable def I2(X:Cx)(tg iter:Expr)(wi:TI2):Prop:=PI X tg iter (lI X.K wi)
theorem PI.mono{X:Cx}{tg iter:Expr}{t t':TI}(h:PI X tg iter t)(hm:∀ σ H R,t' σ H R→t σ H R):PI X tg iter t':=fun pins s σ H R I q=>h pins s σ H R I (hm σ H R q)
section
variable {X:Cx} {tg:Expr} {a b c e o l iter elt:Expr} {es:List Expr} {pos p:Pos} {ta tb te:zo}
theorem zLL{l:Expr}{tl:TE}(hl:PE X l tl):PI X tg l (fun σ H R=>tl σ H fun x H1=>∃ a xs,x=.ref a∧((SqL X.K H1 a xs∧(xs.length≤sizeLine→R (Itl X.K a) H1))∨(SqT X.K H1 a xs∧(xs.length≤sizeLine→R (Itt X.K a) H1)))):=by
 intro pins s σ H R I h
 refine yq (hl pins s σ H _ I h) fun v s1 ⟨x,H1,I1,r1,q1⟩=>?_
 obtain⟨a,xs,e,q⟩:=q1
 subst e
 cases r1
 have fpk:∀ b∈[s1.heap.objs.size],zB8 X pins H1 b:=fun b hb=>by
  have e:b=s1.heap.objs.size:=by simpa using hb
  subst e
  exact I1.fpOk (Nat.le_refl _) (I1.hok.fresh (Nat.le_refl _))
 rcases q with ⟨hq,q⟩ | ⟨hq,q⟩
 ·obtain⟨its,rv,p,hz⟩:=I1.list hq
  refine wpAny_pyIter_list p.isList ?_
  exact⟨s1.heap.objs.size,[s1.heap.objs.size],_,_,H1,rfl,I1.kept (t':=s1.toks) fun b o e=>Heap.get?_push_of_some _ e,zJd a _,⟨_,Heap.get?_push_size _ rfl,rfl,rfl⟩,fpk,q hz⟩
 ·obtain⟨its,rv,p,hz⟩:=I1.tuple hq
  refine wpAny_pyIter_tuple (show s1.heap.IsTuple a its.toArray from p) ?_
  exact⟨s1.heap.objs.size,[s1.heap.objs.size],_,_,H1,rfl,I1.kept (t':=s1.toks) fun b o e=>Heap.get?_push_of_some _ e,zHt a _,⟨_,Heap.get?_push_size _ rfl,rfl,rfl⟩,fpk,q hz⟩
theorem zFg{K:PySem.W.Frag}{H0:Hp}{a:Addr}{ds:List D}:Walk K H0 ds (fun G=>Ls G a ds) (Itl K a) where
 go:=fun i G H g r u0 hi=>by
  obtain⟨xs,h1,h2⟩:=r.sq g
  exact⟨xs,xs[i]'(by rw[← h2.length];exact hi),h1,by simp⟩
 stop:=fun G H g r u0=>by
  obtain⟨xs,h1,h2⟩:=r.sq g
  exact⟨xs,h1,Nat.le_of_eq h2.length.symm⟩
 yld:=fun i G H x H' g r u0 hi y=>by
  obtain⟨xs,h1,h2⟩:=r.sq g
  obtain⟨e,y⟩:=y
  subst e
  obtain⟨d,e1,e2⟩:=h2.got (y xs h1)
  exact⟨.refl _,r,d,e1,e2⟩
theorem zLM{K:PySem.W.Frag}{H0:Hp}{a:Addr}{xs:List V}{ds:List D}(h:SqT K H0 a xs)(hd:Dens K H0 ds xs):Walk K H0 ds (fun u0=>True) (Itt K a) where
 go:=fun i G H u0 r g hi=>⟨xs,xs[i]'(by rw[← hd.length];exact hi),g.sqT h,by simp⟩
 stop:=fun G H u0 r g=>⟨xs,g.sqT h,Nat.le_of_eq hd.length.symm⟩
 yld:=fun i G H x H' u0 r g hi y=>by
  obtain⟨e,y⟩:=y
  subst e
  obtain⟨d,e1,e2⟩:=(hd.grow g).got (y xs (g.sqT h))
  exact⟨.refl _,r,d,e1,e2⟩
noncomputable def yX(lo:Int)(n:Nat):List D:=(List.range n).map fun(k:Nat)=>D.int (lo+(k:Int))
theorem wd(lo:Int)(n:Nat):(yX lo n).length=n:=by simp[yX]
theorem zEd{lo:Int}{n i:Nat}(h:i<n):(yX lo n)[i]?=some (.int (lo+i)):=by simp[yX,h]
theorem zEe{K:PySem.W.Frag}{H0:Hp}{lo:Int}{n:Nat}:Walk K H0 (yX lo n) (fun u0=>True) (Itr lo n) where
 go:=fun i G H u0 u0 u0 hi=>by rw[wd] at hi;exact hi
 stop:=fun G H u0 u0 u0=>by rw[wd];exact Nat.le_refl _
 yld:=fun i G H x H' u0 r u0 hi y=>by
  rw[wd] at hi
  obtain⟨e,rfl⟩:=y
  subst e
  exact⟨.refl _,r,_,zEd hi,by unfold zU;rfl⟩
noncomputable def iV(t:zo):TI2:=fun σ G R=>t σ G fun d G1=>match d with
 | .tup ds=>R ds (fun u0=>True) G1
 | .adr a=>∃ ds,Ls G1 a ds∧R ds (fun G=>Ls G a ds) G1
 | _=>False
theorem wO(h:E2 X l ta):I2 X tg l (iV ta):=by
 refine PI.mono (zLL h) ?_
 rintro σ1 H R ⟨σ,G,R2,r,q,k⟩
 refine⟨σ,G,_,r,q,fun d G1 q1 v H1 g1 r1 d1=>?_⟩
 cases d with
 | tup ds =>
  unfold zU at d1
  obtain⟨a,xs,rfl,h1,h2⟩:=d1
  exact⟨a,xs,rfl,.inr ⟨h1,fun hz=>k ds _ G1 q1 _ H1 g1 r1 (zLM h1 h2) (by rw[h2.length];exact hz)⟩⟩
 | adr a =>
  unfold zU at d1
  subst d1
  obtain⟨ds,e,q1⟩:=q1
  obtain⟨xs,h1,h2⟩:=r1.sq e
  exact⟨a,xs,rfl,.inl ⟨h1,fun hz=>k ds _ G1 q1 _ H1 g1 r1 zFg (by rw[h2.length];exact hz)⟩⟩
 | _=>exact q1.elim
noncomputable def iF(t:TL2):TI2:=fun σ G R=>t σ G fun ds G1=>∀ a,G1.m a=none→R ds (fun G=>Ls G a ds) (zR G1 a ds)
theorem zI0{t:TL2}(h:F2 X l t):I2 X tg l (iF t):=by
 refine PI.mono (zLL h) ?_
 rintro σ1 H R ⟨σ,G,R2,r,q,k⟩
 refine⟨σ,G,_,r,q,fun ds G1 q1 a xs H1 g1 r1 n e1 d1=>?_⟩
 exact⟨a,xs,rfl,.inl ⟨.of e1,fun hz=>k ds _ _ (q1 a n) _ H1 g1 (r1.own e1 d1) zFg (by rw[d1.length];exact hz)⟩⟩
noncomputable def iR1(t:wN):TI2:=fun σ G R=>t σ G fun ds G1=>match ds with | [.int j]=>(-1000000≤j∧j≤1000000)∧R (yX 0 j.toNat) (fun u0=>True) G1 | _=>False
noncomputable def iR2(t:wN):TI2:=fun σ G R=>t σ G fun ds G1=>match ds with | [.int i,.int j]=>((-1000000≤i∧i≤1000000)∧-1000000≤j∧j≤1000000)∧R (yX i (j-i).toNat) (fun u0=>True) G1 | _=>False
theorem yY{t:wN}(hg:Gl X "range")(hm:X.mg "range"=none)(ha:A2 X [a] t)(hs:starEach [a] X.env=[(false,eval a X.env)]:=by rfl):I2 X tg (.Call (.Name "range" p) [a] [] pos) (iR1 t):=by
 refine PI.mono (zJe hg hm ha hs) ?_
 rintro σ1 H R ⟨σ,G,R2,r,q,k⟩
 refine⟨σ,G,_,r,q,fun ds G1 q1 vs H1 g1 r1 d1=>?_⟩
 split at q1
 ·rename_i j
  unfold Dens at d1
  obtain⟨x,r',rfl,d1,d2⟩:=d1
  unfold zU at d1
  unfold Dens at d2
  subst d1 d2
  refine⟨j,rfl,by (first|lia|omega),by (first|lia|omega),k _ _ G1 q1.2 _ H1 g1 r1 zEe ?_⟩
  rw[wd,sizeLine_eq];(first|lia|omega)
 ·exact q1.elim
theorem zGs{t:wN}(hg:Gl X "range")(hm:X.mg "range"=none)(ha:A2 X [a,b] t)(hs:starEach [a,b] X.env=[(false,eval a X.env),(false,eval b X.env)]:=by rfl)(hs2:starEach [b] X.env=[(false,eval b X.env)]:=by rfl):I2 X tg (.Call (.Name "range" p) [a,b] [] pos) (iR2 t):=by
 refine PI.mono (zJf hg hm ha hs hs2) ?_
 rintro σ1 H R ⟨σ,G,R2,r,q,k⟩
 refine⟨σ,G,_,r,q,fun ds G1 q1 vs H1 g1 r1 d1=>?_⟩
 split at q1
 ·rename_i i j
  unfold Dens at d1
  obtain⟨x,r',rfl,d1,d2⟩:=d1
  unfold Dens at d2
  obtain⟨y,r',rfl,d2,d3⟩:=d2
  unfold zU at d1 d2
  unfold Dens at d3
  subst d1 d2 d3
  refine⟨i,j,rfl,⟨by (first|lia|omega),by (first|lia|omega),by (first|lia|omega),by (first|lia|omega)⟩,k _ _ G1 q1.2 _ H1 g1 r1 zEe ?_⟩
  rw[wd,sizeLine_eq];(first|lia|omega)
 ·exact q1.elim
set_option genInjectivity false in
structure zAe (σ σ':S2):Prop where
 len:σ.length=σ'.length
 val:∀(i:Nat) d,σ[i]?=some (some d)→σ'[i]?=some (some d)
theorem zAe.refl(σ:S2):zAe σ σ:=⟨rfl,fun u0 u0 h=>h⟩
noncomputable def Fg(P:S2→Gp→Prop):S2→Gp→Prop:=fun σ G=>∃ σ' G',zAe σ' σ∧Sub G' G∧P σ' G'
theorem Fg.of{P:S2→Gp→Prop}{σ:S2}{G:Gp}(h:P σ G):Fg P σ G:=⟨σ,G,.refl σ,.refl G,h⟩
theorem Rel.sub{K:PySem.W.Frag}{σ σ':S2}{G G':Gp}{σ1:L2.St}{H:Hp}(r:Rel K σ G σ1 H)(s:zAe σ' σ)(g:Sub G' G):Rel K σ' G' σ1 H :=
 ⟨r.g.sub g,s.len.trans r.len,fun i d e=>r.val i d (s.val i d e)⟩
noncomputable def zQg(wi:TI2)(g:TG2)(tb:yi):yi:=fun E σ G=>wi σ G fun ds gd G1=>∃ Pv:Nat→S2→Gp→Prop,Pv 0 σ G1∧(∀ i σ G,i≤ds.length→Pv i σ G→gd G) ∧
 (∀ i x σ G,ds[i]?=some x→Pv i σ G→g x σ G fun σ2 G2=>tb { E with nx:=Fg (Pv (i+1)),ct:=Fg (Pv (i+1)),bk:=E.nx } σ2 G2)∧∀ σ G,Pv ds.length σ G→E.nx σ G
theorem zQh{wi:TI2}{g:TG2}{tb:yi}{body:List Stmt}(hp:PassesOwn (model X.prog X.w) X.A X.env X.xe)(hc:X.calm=true)(hi:I2 X tg iter wi)(hg:G2 X tg g)(hb:Ps2 X body tb)
  (hs:∀ x,foldedSetIterable iter X.env x=pure x:=by intro u0;rfl):P2 X (.For tg iter body [] pos) (zQg wi g tb):=by
 refine PS.mono (L2.zO4 hp hc hi hg hb hs) ?_
 rintro E σ1 H ⟨σ,G,D2,r,q,k⟩
 refine⟨σ,G,_,r,q,fun ds gd G1 q1 J H1 g1 r1 W hz=>?_⟩
 obtain⟨Pv,p0,pg,pt,pd⟩:=q1
 refine⟨fun i m σ1' H'=>m=ds.length-i∧i≤ds.length∧yB H1 H'∧∃ σ' G',Rel X.K σ' G' σ1' H'∧Pv i σ' G',⟨ds.length,by simp,Nat.zero_le _,.refl _,σ,G1,r.to g1 r1,p0⟩,?_⟩
 rintro i m σ1' H' ⟨rfl,hi',g',σ',G',r',p'⟩
 have gd':=pg i σ' G' hi' p'
 by_cases hlt:i<ds.length
 ·refine .inr ⟨W.go i G' H' gd' r'.g g' hlt,fun σ1'' H''=>yB H1 H''∧∃ σ'' G'',Rel X.K σ'' G'' σ1'' H''∧Pv (i+1) σ'' G'',fun σ1'' H'' ⟨a1,σ'',G'',a2,a3⟩=>⟨ds.length-(i+1),by (first|lia|omega),rfl,hlt,a1,σ'',G'',a2,a3⟩,fun x H'' y=>?_⟩
  obtain⟨gy,ry,d,e1,e2⟩:=W.yld i G' H' x H'' gd' r'.g g' hlt y
  replace g':=g'.trans gy
  refine⟨σ',G',d,_,r'.to gy ry,e2,pt i d σ' G' e1 p',fun σ2 G2 q2 σ12 H2 g2 r2=>⟨σ2,G2,_,r2,q2,?_⟩⟩
  have back:∀ σ3 G3,Fg (Pv (i+1)) σ3 G3→∀ σ13 H3,yB H2 H3→Rel X.K σ3 G3 σ13 H3→yB H1 H3∧∃ σ'' G'',Rel X.K σ'' G'' σ13 H3∧Pv (i+1) σ'' G'':=by
   rintro σ3 G3 ⟨σ4,G4,a1,a2,a3⟩ σ13 H3 g3 r3
   exact⟨(g'.trans g2).trans g3,σ4,G4,r3.sub a1 a2,a3⟩
  exact⟨back,fun σ3 G3 q3 σ13 H3 g3 r3=>k.nx σ3 G3 q3 σ13 H3 (((g1.trans g').trans g2).trans g3) r3,back,fun d3 G3 q3 v3 H3 g3 r3 dv=>k.rt d3 G3 q3 v3 H3 (((g1.trans g').trans g2).trans g3) r3 dv⟩
 ·have e:i=ds.length:=by (first|lia|omega)
  subst e
  exact .inl ⟨W.stop G' H' gd' r'.g g',k.nx σ' G' (pd σ' G' p') σ1' H' (g1.trans g') r'⟩
noncomputable def FgG(P:Gp→Prop):Gp→Prop:=fun G=>∃ G',Sub G' G∧P G'
theorem FgG.of{P:Gp→Prop}{G:Gp}(h:P G):FgG P G:=⟨G,.refl G,h⟩
noncomputable def zf(wi:TI2)(bd:D→Option (List D))(tc:TT2)(te:zo):TL2:=fun σ G R=>wi σ G fun ds gd G1=>∀ A,G1.m A=none→∃ Pv:Nat→List D→Gp→Prop,Pv 0 [] (zR G1 A [])∧(∀ i acc G,i≤ds.length→Pv i acc G→gd G∧G.m A=some acc∧acc.length≤i) ∧
 (∀ i x acc G,ds[i]?=some x→Pv i acc G→match bd x with
  | some us=>tc (σ++us.map some) G fun b G3=>if b=true then te (σ++us.map some) G3 fun d G4=>G4.m A=some acc∧FgG (Pv (i+1) (acc++[d])) (zR G4 A (acc++[d])) else FgG (Pv (i+1) acc) G3
  | none=>False)∧∀ acc G,Pv ds.length acc G→∃ G',G'.m A=none∧Sub G' G∧R acc G'
noncomputable def Ts2(X:Cx)(ifs:List Expr)(t:TT2):Prop:=PTs X ifs (lT X.K t)
noncomputable def zAB:TT2:=fun u0 G R=>R true G
theorem zAP:Ts2 X [] zAB:=by
 intro pins s σ1 H Q I h
 refine zNU pins s σ1 H Q I ?_
 obtain⟨σ,G,R,r,q,k⟩:=h
 exact k true G q H (.refl H) r.g
theorem yx{t:TT2}(h:T2 X c t):Ts2 X [c] t:=zNV h
theorem Rel.app{K:PySem.W.Frag}{σ:S2}{G:Gp}{σ1:L2.St}{H:Hp}(r:Rel K σ G σ1 H){ds:List D}{vs:List V}(h:Dens K H ds vs):Rel K (σ++ds.map some) G (σ1++vs.map some) H :=
 ⟨r.g,by simp[r.len,h.length],fun i d e=>by
  by_cases hi:i<σ.length
  ·rw[List.getElem?_append_left hi] at e
   obtain⟨v,e1,e2⟩:=r.val i d e
   exact⟨v,by rw[List.getElem?_append_left (by rw[← r.len];exact hi)];exact e1,e2⟩
  ·rw[List.getElem?_append_right (by (first|lia|omega)),List.getElem?_map] at e
   cases q:ds[i-σ.length]? with
   | none=>rw[q] at e;cases e
   | some d' =>
    rw[q] at e;cases e
    obtain⟨v,e1,e2⟩:=h.get q
    exact⟨v,by rw[List.getElem?_append_right (by rw[← r.len];(first|lia|omega)),List.getElem?_map,← r.len,e1];rfl,e2⟩⟩
theorem zCQ{K:PySem.W.Frag}{wi:TI2}{bd:D→Option (List D)}{tc:TT2}{te:zo}{n:Nat}{g:TG}{N:Nat}
  (hb:∀(σ1:L2.St) (H:Hp) (d:D) (v:V) (us:List D) (Q:L2.St→Hp→Prop),σ1.length=N→zU K H d v→bd d=some us→us.length=n→(∀ vs,Dens K H us vs→Q (σ1++vs.map some) H)→g v (σ1++List.replicate n none) H Q)
  (hn:∀ d us,bd d=some us→us.length=n)
  {σ1:L2.St} {H:Hp} {Q:VK} (hl:σ1.length=N) (h:lL K (zf wi bd tc te) σ1 H Q):zIu n (lI K wi) g (lT K tc) (lE K te) σ1 H Q:=by
 obtain⟨σ,G,R,r,q,k⟩:=h
 refine⟨σ,G,_,r,q,fun ds gd G1 q1 J H1 g1 r1 W hz A hA=>?_⟩
 obtain⟨Pv,p0,pg,pt,pd⟩:=q1 A (r1.free hA)
 refine⟨fun i m H2=>m=ds.length-i∧i≤ds.length∧yB H1 H2∧∃ as G2,yK K G2 H2∧Pv i as G2,⟨ds.length,by simp,Nat.zero_le _,.fresh hA,[],zR G1 A [],r1.new hA .nil,p0⟩,?_⟩
 rintro i m H2 ⟨rfl,hi',g2,as,G2,r2,p2⟩
 obtain⟨gd2,al,hlen⟩:=pg i as G2 hi' p2
 by_cases hlt:i<ds.length
 ·refine .inr ⟨W.go i G2 H2 gd2 r2 g2 hlt,fun x H3 y=>?_⟩
  obtain⟨gy,ry,d,e3,dv⟩:=W.yld i G2 H2 x H3 gd2 r2 g2 hlt y
  replace g2:=g2.trans gy
  replace r2:=ry
  have q3:=pt i d as G2 e3 p2
  cases eb:bd d with
  | none=>rw[eb] at q3;exact q3.elim
  | some us =>
   rw[eb] at q3
   dsimp only at q3
   have hus:=hn d us eb
   refine hb σ1 H3 d x us _ hl dv eb hus fun vs hv=>⟨?_,?_,?_⟩
   ·rw[List.take_append_of_le_length (Nat.le_refl _),List.take_length]
   ·rw[List.length_append,List.length_map,← hv.length,hus]
   ·have rr:Rel K (σ++us.map some) G2 (σ1++vs.map some) H3:=(r.to (g1.trans g2) r2).app hv
    refine⟨σ++us.map some,G2,_,rr,q3,fun b G4 q4 H4 g4 r4=>?_⟩
    cases b with
    | false =>
     obtain⟨G5,s5,p5⟩:=q4
     exact⟨ds.length-(i+1),by (first|lia|omega),rfl,hlt,g2.trans g4,as,G5,r4.sub s5,p5⟩
    | true =>
     refine⟨σ++us.map some,G4,_,rr.to g4 r4,q4,fun d5 G5 q5 v H5 g5 r5 d5v=>?_⟩
     obtain⟨a5,G6,s6,p6⟩:=q5
     obtain⟨acc,e6,d6⟩:=r5.m A as a5
     refine⟨acc,e6,by rw[← d6.length];(first|lia|omega),ds.length-(i+1),by (first|lia|omega),rfl,hlt,((g2.trans g4).trans g5).trans (.lst e6),as++[d5],G6,?_,p6⟩
     exact(r5.put e6 (d6.append (.cons d5v .nil))).sub s6
 ·have e:i=ds.length:=by (first|lia|omega)
  subst e
  obtain⟨G',n',s',q'⟩:=pd as G2 p2
  obtain⟨acc,e6,d6⟩:=r2.m A as al
  exact .inl ⟨W.stop G2 H2 gd2 r2 g2,k as G' q' A acc H2 (g1.trans g2) (r2.sub s') n' e6 d6⟩
noncomputable def wy:D→Option (List D):=fun d=>some [d]
noncomputable def bd2:D→Option (List D):=fun d=>match d with | .tup [a,b]=>some [a,b] | _=>none
section
variable {ifs:List Expr} {sc:Scope} {N0:List Str} {wi:TI2} {tc:TT2}
theorem PE.at{t t':TE}(h:PE X e t)(hm:∀ σ H Q,σ.length=X.N.length→t' σ H Q→t σ H Q):PE X e t':=fun pins s σ H Q I q=>h pins s σ H Q I (hm σ H Q I.len q)
theorem PS.at{st:Stmt}{t t':TS}(h:PS X st t)(hm:∀ E σ H,σ.length=X.N.length→t' E σ H→t E σ H):PS X st t':=fun pins s σ H E I q=>h pins s σ H E I (hm E σ H I.len q)
theorem zGt(s t:List (Option V))(x:Option V):List.set (s++t) (List.length s) x=s++t.set 0 x:=by
 rw[List.set_append_right _ _ (Nat.le_refl _),Nat.sub_self]
theorem zLN(s t:List (Option V))(x:Option V):List.set (s++t) (List.length s+1) x=s++t.set 1 x:=by
 rw[List.set_append_right _ _ (show s.length≤s.length+1 by (first|lia|omega)),Nat.add_sub_cancel_left]
theorem bind1{K:PySem.W.Frag}{N:Nat}(σ1:L2.St)(H:Hp)(d:D)(v:V)(us:List D)(Q:L2.St→Hp→Prop)(hl:σ1.length=N)(dv:zU K H d v)(eb:wy d=some us)(hus:us.length=1)(h:∀ vs,Dens K H us vs→Q (σ1++vs.map some) H):zCm N v (σ1++List.replicate 1 none) H Q:=by
 cases eb
 have:=h [v] (.cons dv .nil)
 show Q (List.set (σ1++[none]) N (some v)) H
 rw[← hl,zGt]
 exact this
theorem zQi{K:PySem.W.Frag}{N:Nat}(σ1:L2.St)(H:Hp)(d:D)(v:V)(us:List D)(Q:L2.St→Hp→Prop)(hl:σ1.length=N)(dv:zU K H d v)(eb:bd2 d=some us)(hus:us.length=2)(h:∀ vs,Dens K H us vs→Q (σ1++vs.map some) H):zOy K 2 (zGl (zCm N) (zGl (zCm (N+1)) zOx)) v (σ1++List.replicate 2 none) H Q:=by
 unfold bd2 at eb
 split at eb
 ·rename_i d1 d2
  cases eb
  unfold zU at dv
  obtain⟨a,xs,rfl,hs,hd⟩:=dv
  have hd0:=hd
  unfold Dens at hd
  obtain⟨x1,r1,rfl,h1,hd⟩:=hd
  unfold Dens at hd
  obtain⟨x2,r2,rfl,h2,hd⟩:=hd
  unfold Dens at hd
  subst hd
  refine⟨a,[x1,x2],rfl,hs,rfl,x1,[x2],rfl,x2,[],rfl,rfl,?_⟩
  have:=h [x1,x2] hd0
  rw[← hl]
  have e1:List.set (σ1++List.replicate 2 none) (List.length σ1) (some x1)=σ1++[some x1,none]:=zGt σ1 _ _
  rw[e1,zLN]
  exact this
 ·cases eb
theorem zNW(x:Str){px:Pos}(hc:X.calm=true)(T:zCz X sc N0)(hi:I2 X (.Name x px) iter wi)
  (hnd:(N0++[x]).Nodup) (hx:(relabel sc X.env).names.lookup x=some .local)
  (ht:∀ C s H fp pins,Ts2 (X.comp (N0++[x]) sc C s H fp pins) ifs tc) (he:∀ C s H fp pins,E2 (X.comp (N0++[x]) sc C s H fp pins) elt te)
  (hs:∀ x,foldedSetIterable iter X.env x=pure x:=by intro u0;rfl):F2 X (.ListComp elt [⟨.Name x px,iter,ifs,0⟩] sc pos) (zf wi wy tc te):=by
 refine PE.at (zIv (own:=[x]) (g:=zCm X.N.length) (tc:=lT X.K tc) (te:=lE X.K te) hc T hi (fun C s H fp pins=>zBF (X:=X.comp (N0++[x]) sc C s H fp pins) hnd (by
  show(N0++[x])[X.N.length]?=some x
  rw[← T.len];simp) (.inl hx) (.inr hx)) ht he hs) fun σ H Q hl h=>?_
 exact zCQ (n:=1) (N:=X.N.length) bind1 (fun d us e=>by cases e;rfl) hl h
theorem zNX(x y:Str){px py pt:Pos}{kk:Nat}(hc:X.calm=true)(T:zCz X sc N0)(hi:I2 X (.Tuple [.Name x px,.Name y py] kk pt) iter wi)
  (hnd:(N0++[x,y]).Nodup) (hx:(relabel sc X.env).names.lookup x=some .local) (hy:(relabel sc X.env).names.lookup y=some .local)
  (ht:∀ C s H fp pins,Ts2 (X.comp (N0++[x,y]) sc C s H fp pins) ifs tc) (he:∀ C s H fp pins,E2 (X.comp (N0++[x,y]) sc C s H fp pins) elt te)
  (hs:∀ x,foldedSetIterable iter X.env x=pure x:=by intro u0;rfl):F2 X (.ListComp elt [⟨.Tuple [.Name x px,.Name y py] kk pt,iter,ifs,0⟩] sc pos) (zf wi bd2 tc te):=by
 refine PE.at (zIv (own:=[x,y]) (g:=zOy X.K 2 (zGl (zCm X.N.length) (zGl (zCm (X.N.length+1)) zOx))) (tc:=lT X.K tc) (te:=lE X.K te) hc T hi (fun C s H fp pins=>?_) ht he hs) fun σ H Q hl h=>?_
 ·have e1:(X.comp (N0++[x,y]) sc C s H fp pins).N[X.N.length]?=some x:=by
   show(N0++[x,y])[X.N.length]?=some x
   rw[← T.len];simp
  have e2:(X.comp (N0++[x,y]) sc C s H fp pins).N[X.N.length+1]?=some y:=by
   show(N0++[x,y])[X.N.length+1]?=some y
   rw[← T.len];simp
  exact zK5 (X:=X.comp (N0++[x,y]) sc C s H fp pins) (n:=2) hc (zDA (zBF hnd e1 (.inl hx) (.inr hx)) (zDA (zBF hnd e2 (.inl hy) (.inr hy)) zIn))
 ·refine zCQ (n:=2) (N:=X.N.length) zQi (fun d us e=>?_) hl h
  unfold bd2 at e
  split at e<;>first | (cases e;rfl) | (cases e;done)
noncomputable def zAK(i:Nat)(t:TL2):yi:=fun E σ G=>t σ G fun ds G'=>∀ l,G'.m l=none→E.nx (σ.set i (some (.adr l))) (zR G' l ds)
theorem zHz(i:Nat)(x:Str){y:Str}{px py spos:Pos}(hc:X.calm=true)(T:zCz X sc N0)(hi:I2 X (.Name x px) iter wi)
  (hnd:(N0++[x]).Nodup) (hx:(relabel sc X.env).names.lookup x=some .local)
  (ht:∀ C s H fp pins,Ts2 (X.comp (N0++[x]) sc C s H fp pins) ifs tc) (he:∀ C s H fp pins,E2 (X.comp (N0++[x]) sc C s H fp pins) elt te)
  (hN:X.N.Nodup) (hy:X.N[i]?=some y) (hl:X.env.scope.names.lookup y=some .local)
  (hsw:swapsWith (.ListComp elt [⟨.Name x px,iter,ifs,0⟩] sc pos) (some (.Name y py)) spos.line X.env=pure true)
  (hs:∀ x,foldedSetIterable iter X.env x=pure x:=by intro u0;rfl):P2 X (.Assign [.Name y py] (.ListComp elt [⟨.Name x px,iter,ifs,0⟩] sc pos) spos) (zAK i (zf wi wy tc te)):=by
 refine PS.at (zHy (own:=[x]) (g:=zCm X.N.length) (tc:=lT X.K tc) (te:=lE X.K te) hc T hi (fun C s H fp pins=>zBF (X:=X.comp (N0++[x]) sc C s H fp pins) hnd (by
  show(N0++[x])[X.N.length]?=some x
  rw[← T.len];simp) (.inl hx) (.inr hx)) ht he hN hy hl hsw hs) fun E σ1 H hl h=>?_
 obtain⟨σ,G,D2,r,q,k⟩:=h
 refine zCQ (n:=1) (N:=X.N.length) bind1 (fun d us e=>by cases e;rfl) hl ⟨σ,G,_,r,q,fun ds G' q' l xs H' g' r' n e d=>?_⟩
 exact k.nx _ _ (q' l n) _ H' g' ((r.to g' (r'.own e d)).set i (by unfold zU;rfl))
end
end
end L3
namespace L3
open PySem PySem.Spec PyProof.Rows L2
section
variable {X:Cx} {a b c e o:Expr} {es:List Expr} {pos p:Pos} {ta tb te:zo}
noncomputable def zDn(ta tb:zo):zo:=fun σ G R=>ta σ G fun x G1=>match x with | .bl c=>if c=true then tb σ G1 R else R (.bl false) G1 | _=>False
noncomputable def zPM(ta:zo):zo:=fun σ G R=>ta σ G fun x G1=>match x with | .bl c=>R (.bl (!c)) G1 | _=>False
theorem zFh{op}(h:E2 X a ta):E2 X (.BoolOp op [a] pos) ta:=zOs h
theorem zFi{rest:List Expr}(ha:E2 X a ta)(hb:E2 X (.BoolOp .And (b::rest) pos) tb):E2 X (.BoolOp .And (a::b::rest) pos) (zDn ta tb):=by
 refine PE.mono (zOt ha hb) ?_
 rintro σ1 H Q ⟨σ,G,R,r,q,k⟩
 refine⟨σ,G,_,r,q,fun d G1 q1 v H1 g1 r1 d1=>?_⟩
 cases d with
 | bl c =>
  unfold zU at d1
  refine⟨c,d1,?_⟩
  cases c with
  | true=>exact⟨σ,G1,R,r.to g1 r1,q1,fun d G' q' v H' g'=>k d G' q' v H' (g1.trans g')⟩
  | false=>exact k _ G1 q1 _ H1 g1 r1 (by unfold zU;rfl)
 | _=>exact q1.elim
theorem zQj(ha:E2 X a ta):E2 X (.UnaryOp .Not a pos) (zPM ta):=by
 refine PE.mono (zOu ha) ?_
 rintro σ1 H Q ⟨σ,G,R,r,q,k⟩
 refine⟨σ,G,_,r,q,fun d G1 q1 v H1 g1 r1 d1=>?_⟩
 cases d with
 | bl c =>
  unfold zU at d1
  exact⟨c,d1,k _ G1 q1 _ H1 g1 r1 (by unfold zU;rfl)⟩
 | _=>exact q1.elim
theorem zA1(h:E2 X e te)(he:∀ whole,isTrue e X.env whole=(do let v ← whole;standAt e.pos;holding [v] (truthy v)):=by intro u0;rfl):T2 X e (xB te):=by
 refine PT.mono (zOo h he) ?_
 rintro σ1 H Q ⟨σ,G,R,r,q,k⟩
 refine⟨σ,G,_,r,q,fun d G1 q1 v H1 g1 r1 d1=>?_⟩
 cases d with
 | bl c =>
  unfold zU at d1
  exact⟨c,d1,k _ G1 q1 H1 g1 r1⟩
 | _=>exact q1.elim
section
variable {t u:TT2} {rest:List Expr}
noncomputable def W2(X:Cx)(e:Expr)(t:TT2):Prop:=PW X e (lT X.K t)
theorem W2.test(h:W2 X e t):T2 X e t:=PW.pt h
noncomputable def zB5(t u:TT2):TT2:=fun σ G R=>t σ G fun c G1=>if c=true then u σ G1 R else R false G1
noncomputable def zB9(t u:TT2):TT2:=fun σ G R=>t σ G fun c G1=>if c=true then R true G1 else u σ G1 R
noncomputable def wn(t:TT2):TT2:=fun σ G R=>t σ G fun c G1=>R (!c) G1
theorem PW.mono{t t':TT}(h:PW X e t)(hm:∀ σ H Q,t' σ H Q→t σ H Q):PW X e t':=fun w pins s σ H Q I q=>h w pins s σ H Q I (hm σ H Q q)
theorem zLO(ha:T2 X a t):W2 X (.BoolOp .And [a] pos) t:=zNA ha
theorem zI1(ha:T2 X a t):W2 X (.BoolOp .Or [a] pos) t:=zOp ha
theorem w_and(ha:T2 X a t)(hb:W2 X (.BoolOp .And (b::rest) pos) u):W2 X (.BoolOp .And (a::b::rest) pos) (zB5 t u):=by
 refine PW.mono (zOq ha hb) ?_
 rintro σ1 H Q ⟨σ,G,R,r,q,k⟩
 refine⟨σ,G,_,r,q,fun c G1 q1 H1 g1 r1=>?_⟩
 cases c with
 | true=>exact⟨σ,G1,R,r.to g1 r1,q1,fun b G' q' H' g'=>k b G' q' H' (g1.trans g')⟩
 | false=>exact k _ G1 q1 H1 g1 r1
theorem w_or(ha:T2 X a t)(hb:W2 X (.BoolOp .Or (b::rest) pos) u):W2 X (.BoolOp .Or (a::b::rest) pos) (zB9 t u):=by
 refine PW.mono (zQL ha hb) ?_
 rintro σ1 H Q ⟨σ,G,R,r,q,k⟩
 refine⟨σ,G,_,r,q,fun c G1 q1 H1 g1 r1=>?_⟩
 cases c with
 | true=>exact k _ G1 q1 H1 g1 r1
 | false=>exact⟨σ,G1,R,r.to g1 r1,q1,fun b G' q' H' g'=>k b G' q' H' (g1.trans g')⟩
theorem zD4(ha:T2 X a t):T2 X (.UnaryOp .Not a pos) (wn t):=by
 refine PT.mono (zOr ha) ?_
 rintro σ1 H Q ⟨σ,G,R,r,q,k⟩
 exact⟨σ,G,_,r,q,fun c G1 q1 H1 g1 r1=>k _ G1 q1 H1 g1 r1⟩
end
theorem zA2(ha:E2 X a ta)(hb:E2 X b tb):E2 X (.BinOp a .Sub b pos) (zP (ya fun i j=>.int (i-j)) ta tb):=zGH zO8 (zAO fun u0 u0=>⟨rfl,rfl⟩) ha hb
theorem zDo(ha:E2 X a ta)(hb:E2 X b tb):E2 X (.BinOp a .Mult b pos) (zP (wF zFP fun i j=>.int (i*j)) ta tb):=zGH zO9 (zDD fun u0 u0=>⟨rfl,rfl⟩) ha hb
theorem zH0(ha:E2 X a ta)(hb:E2 X b tb):E2 X (.BinOp a .FloorDiv b pos) (zP (wF zK8 fun i j=>.int (i / j)) ta tb):=zGH zNF (zDD fun u0 u0=>⟨rfl,rfl⟩) ha hb
theorem zEf(ha:E2 X a ta)(hb:E2 X b tb):E2 X (.BinOp a .Mod b pos) (zP (wF (fun u0 j=>0<j) fun i j=>.int (i%j)) ta tb):=zGH zPA (zDD fun u0 u0=>⟨rfl,rfl⟩) ha hb
theorem zOM(ha:E2 X a ta)(hb:E2 X b tb):E2 X (.BinOp a .Pow b pos) (zP (wF zEa fun i j=>.int (i ^ j.toNat)) ta tb):=zGH zPB (zDD fun u0 u0=>⟨rfl,rfl⟩) ha hb
theorem zQk(ha:E2 X a ta)(hb:E2 X b tb):E2 X (.Compare a [.Lt] [b] pos) (zP (ya fun i j=>.bl (decide (i<j))) ta tb):=zIx zGn (zAO fun u0 u0=>⟨rfl,rfl⟩) ha hb (zCC _)
theorem zRV(ha:E2 X a ta)(hb:E2 X b tb):E2 X (.Compare a [.LtE] [b] pos) (zP (ya fun i j=>.bl (decide (i≤j))) ta tb):=zIx zIo (zAO fun u0 u0=>⟨rfl,rfl⟩) ha hb (zCC _)
theorem zLP(ha:E2 X a ta)(hb:E2 X b tb):T2 X (.Compare a [.Lt] [b] pos) (xB (zP (ya fun i j=>.bl (decide (i<j))) ta tb)):=zEc zGn (zAO fun u0 u0=>⟨rfl,rfl⟩) ha hb (zCC _)
theorem zJn(ha:E2 X a ta)(hb:E2 X b tb):T2 X (.Compare a [.Gt] [b] pos) (xB (zP (ya fun i j=>.bl (decide (j<i))) ta tb)):=zEc zQU (zAO fun u0 u0=>⟨rfl,rfl⟩) ha hb (zCC _)
theorem zRW(ha:E2 X a ta)(hb:E2 X b tb):T2 X (.Compare a [.GtE] [b] pos) (xB (zP (ya fun i j=>.bl (decide (j≤i))) ta tb)):=zEc zQV (zAO fun u0 u0=>⟨rfl,rfl⟩) ha hb (zCC _)
mutual
noncomputable def wf:D→D→Bool
 | .non,.non=>true
 | .bl a,.bl b=>a==b
 | .int a,.int b=>a==b
 | .bl a,.int b=>(if a then 1 else 0)==b
 | .int a,.bl b=>a==(if b then 1 else 0)
 | .str a,.str b=>a==b
 | .tup a,.tup b=>eqDs a b
 | _,_=>false
noncomputable def eqDs:List D→List D→Bool
 | [],[]=>true
 | x::xs,y::ys=>wf x y&&eqDs xs ys
 | _,_=>false
end
noncomputable def flat:Nat→D→Bool
 | _,.non=>true
 | _,.bl _=>true
 | _,.int _=>true
 | _,.str _=>true
 | _,.adr _=>false
 | _,.dic _=>false
 | 0,.tup _=>false
 | n+1,.tup ds=>ds.all (flat n)
theorem zEg:∀(xs ys:List D),eqDs xs ys=((List.range (min xs.length ys.length)).all (fun j=>wf (xs.getD j .non) (ys.getD j .non))&&xs.length==ys.length)
 | [],[]=>by simp[eqDs]
 | [],y::ys=>by simp[eqDs]
 | x::xs,[]=>by simp[eqDs]
 | x::xs,y::ys=>by
  unfold eqDs
  rw[zEg xs ys]
  have e1:min (x::xs).length (y::ys).length=min xs.length ys.length+1:=by simp only[List.length_cons];(first|lia|omega)
  rw[e1,List.range_succ_eq_map,List.all_cons,List.all_map]
  have e2:((x::xs).length==(y::ys).length)=(xs.length==ys.length):=by
   rw[Bool.eq_iff_iff];simp
  rw[e2,Bool.and_assoc]
  rfl
mutual
theorem zEh:∀ d:D,(∀ n,flat n d=true→wf d d=true)
 | .non,_,_=>rfl
 | .bl b,_,_=>by show (b==b)=true;simp
 | .int b,_,_=>by show (b==b)=true;simp
 | .str b,_,_=>by show (b==b)=true;simp
 | .adr _,n,h=>by cases n<;>simp[flat] at h
 | .dic _,n,h=>by cases n<;>simp[flat] at h
 | .tup ds,0,h=>by simp[flat] at h
 | .tup ds,n+1,h=>by
  show eqDs ds ds=true
  exact eqDs_refl ds n (by simpa[flat] using h)
theorem eqDs_refl:∀ ds:List D,(∀ n,(∀ d∈ds,flat n d=true)→eqDs ds ds=true)
 | [],_,_=>rfl
 | d::ds,n,h=>by
  show (wf d d&&eqDs ds ds)=true
  rw[zEh d n (h d List.mem_cons_self),eqDs_refl ds n fun x hx=>h x (List.mem_cons_of_mem _ hx)]
  rfl
end
section
variable {pins:List (Addr×Obj)} {σ1:L2.St} {H:Hp} {s:Shared}
mutual
theorem zU.inj(I:zV X pins σ1 H s):∀ {d d':D} {v:V} {n n':Nat},zU X.K H d v→zU X.K H d' v→flat n d=true→flat n' d'=true→d=d' 
 | .non,d',v,n,n',h,h',f,f'=>by
  unfold zU at h;subst h
  cases d' with
  | tup _=>unfold zU at h';obtain⟨u0,u0,e,u0⟩:=h';cases e
  | dic _=>unfold zU at h';cases h'.1
  | _=>unfold zU at h';first | rfl | cases h'
 | .bl b,d',v,n,n',h,h',f,f'=>by
  unfold zU at h;subst h
  cases d' with
  | tup _=>unfold zU at h';obtain⟨u0,u0,e,u0⟩:=h';cases e
  | dic _=>unfold zU at h';cases h'.1
  | _=>unfold zU at h';first | cases h';rfl | cases h'
 | .int b,d',v,n,n',h,h',f,f'=>by
  unfold zU at h;subst h
  cases d' with
  | tup _=>unfold zU at h';obtain⟨u0,u0,e,u0⟩:=h';cases e
  | dic _=>unfold zU at h';cases h'.1
  | _=>unfold zU at h';first | cases h';rfl | cases h'
 | .str b,d',v,n,n',h,h',f,f'=>by
  unfold zU at h;subst h
  cases d' with
  | tup _=>unfold zU at h';obtain⟨u0,u0,e,u0⟩:=h';cases e
  | dic _=>unfold zU at h';cases h'.1
  | _=>unfold zU at h';first | cases h';rfl | cases h'
 | .adr _,d',v,n,n',h,h',f,f'=>by cases n<;>simp[flat] at f
 | .dic _,d',v,n,n',h,h',f,f'=>by cases n<;>simp[flat] at f
 | .tup ds,d',v,n,n',h,h',f,f'=>by
  unfold zU at h
  obtain⟨a,xs,rfl,hs,hd⟩:=h
  cases d' with
  | tup ds' =>
   unfold zU at h'
   obtain⟨a',xs',e,hs',hd'⟩:=h'
   cases e
   have:=I.tuple_inj hs hs'
   subst this
   cases n with
   | zero=>simp[flat] at f
   | succ n =>
    cases n' with
    | zero=>simp[flat] at f'
    | succ n'=>rw[Dens.inj I hd hd' (by simpa[flat] using f) (by simpa[flat] using f')]
  | adr _=>cases n'<;>simp[flat] at f'
  | dic _=>cases n'<;>simp[flat] at f'
  | _=>unfold zU at h';cases h'
theorem Dens.inj(I:zV X pins σ1 H s):∀ {ds ds':List D} {xs:List V} {n n':Nat},Dens X.K H ds xs→Dens X.K H ds' xs→(∀ d∈ds,flat n d=true)→(∀ d∈ds',flat n' d=true)→ds=ds'
 | [],ds',xs,n,n',h,h',f,f'=>by
  unfold Dens at h;subst h
  cases ds' with
  | nil=>rfl
  | cons _ _=>unfold Dens at h';obtain⟨u0,u0,e,u0⟩:=h';cases e
 | d::ds,ds',xs,n,n',h,h',f,f'=>by
  unfold Dens at h
  obtain⟨x,r,rfl,h1,h2⟩:=h
  cases ds' with
  | nil=>unfold Dens at h';cases h'
  | cons d' ds' =>
   unfold Dens at h'
   obtain⟨x',r',e,h1',h2'⟩:=h'
   cases e
   rw[zU.inj I h1 h1' (f d List.mem_cons_self) (f' d' List.mem_cons_self),Dens.inj I h2 h2' (fun z hz=>f z (List.mem_cons_of_mem _ hz)) fun z hz=>f' z (List.mem_cons_of_mem _ hz)]
end
theorem in1_units{A:Around}:A.in1.units=A.units+1:=rfl
theorem zLQ(I:zV X pins σ1 H s):∀(n:Nat) (d d':D) (v v':V) (u u':Value) (A:Around),zU X.K H d v→zU X.K H d' v'→RelV v u→RelV v' u'→flat n d=true→flat n d'=true→A.units+n<cLine→SeqAt.EqAt A s u u' (wf d d'):=by
 intro n
 induction n with
 | zero =>
  intro d d' v v' u u' A h h' r r' f f' hu
  have fv:∀ {d:D} {v:V},flat 0 d=true→zU X.K H d v→zIt v=true∧v=vOf d:=fun {d v} f h=>by
   cases d<;>first | (simp[flat] at f;done) | (unfold zU at h;subst h;exact⟨rfl,rfl⟩)
  obtain⟨f1,e1⟩:=fv f h
  obtain⟨f2,e2⟩:=fv f' h'
  have q:=zLF (A:=A) (s:=s) r r' f1 f2
  have e:eqV v v'=wf d d':=by
   rw[e1,e2]
   cases d<;>first | (simp[flat] at f;done) | (cases d'<;>first | (simp[flat] at f';done) | rfl)
  rw[← e];exact q
 | succ n ih =>
  intro d d' v v' u u' A h h' r r' f f' hu
  by_cases hs:flat 0 d=true∧flat 0 d'=true
  ·have fv:∀ {d:D} {v:V},flat 0 d=true→zU X.K H d v→zIt v=true∧v=vOf d:=fun {d v} f h=>by
    cases d<;>first | (simp[flat] at f;done) | (unfold zU at h;subst h;exact⟨rfl,rfl⟩)
   obtain⟨f1,e1⟩:=fv hs.1 h
   obtain⟨f2,e2⟩:=fv hs.2 h'
   have q:=zLF (A:=A) (s:=s) r r' f1 f2
   have e:eqV v v'=wf d d':=by
    rw[e1,e2]
    cases d<;>first | (simp[flat] at hs;done) | (cases d'<;>first | (simp[flat] at hs;done) | rfl)
   rw[← e];exact q
  ·have hu0:A.units<cLine:=by (first|lia|omega)
   cases d with
   | tup ds =>
    unfold zU at h
    obtain⟨a,xs,rfl,hsq,hd⟩:=h
    cases r
    obtain⟨its,rv,tp,u0⟩:=I.tuple hsq
    have tp':s.heap.IsTuple a its.toArray:=tp
    cases d' with
    | tup ds' =>
     unfold zU at h'
     obtain⟨a',xs',rfl,hsq',hd'⟩:=h'
     cases r'
     obtain⟨its',rv',tp2,u0⟩:=I.tuple hsq'
     by_cases ha:a=a'
     ·subst ha
      have:=I.tuple_inj hsq hsq'
      subst this
      have hds:ds=ds':=Dens.inj I hd hd' (by simpa[flat] using f) (by simpa[flat] using f')
      subst hds
      have e:wf (.tup ds) (.tup ds)=true:=zEh _ _ f
      rw[e]
      exact SeqAt.EqAt.same _
     ·have q:=SeqAt.EqAt.of_refs ha (SeqAt.RcAt.tuples (A:=A) (s:=s) (e:=fun j=>wf (ds.getD j .non) (ds'.getD j .non)) tp' (show s.heap.IsTuple a' its'.toArray from tp2) hu0 fun j h1 h2=>by
       have h1':j<its.length:=by simpa using h1
       have h2':j<its'.length:=by simpa using h2
       have l1:=hd.length
       have l2:=rv.length
       have l3:=hd'.length
       have l4:=rv'.length
       obtain⟨x,ex,dx⟩:=hd.get (i:=j) (d:=ds[j]'(by (first|lia|omega))) (by simp)
       obtain⟨y,ey,dy⟩:=hd'.get (i:=j) (d:=ds'[j]'(by (first|lia|omega))) (by simp)
       obtain⟨ux,eux,rx⟩:=rv.get ex
       obtain⟨uy,euy,ry⟩:=rv'.get ey
       have e1:its.toArray[j]=ux:=by
        have:=(List.getElem?_eq_some_iff.mp eux).2
        simpa using this
       have e2:its'.toArray[j]=uy:=by
        have:=(List.getElem?_eq_some_iff.mp euy).2
        simpa using this
       have g1:ds.getD j .non=ds[j]'(by (first|lia|omega)):=by simp[List.getD,(show j<ds.length by (first|lia|omega))]
       have g2:ds'.getD j .non=ds'[j]'(by (first|lia|omega)):=by simp[List.getD,(show j<ds'.length by (first|lia|omega))]
       rw[e1,e2]
       show SeqAt.EqAt A.in1 s ux uy (wf (ds.getD j .non) (ds'.getD j .non))
       rw[g1,g2]
       refine ih _ _ x y ux uy A.in1 dx dy rx ry ?_ ?_ (by rw[in1_units];(first|lia|omega))
       ·have:∀ d∈ds,flat n d=true:=by simpa[flat] using f
        exact this _ (List.getElem_mem _)
       ·have:∀ d∈ds',flat n d=true:=by simpa[flat] using f'
        exact this _ (List.getElem_mem _))
      have e:wf (.tup ds) (.tup ds')=((List.range (min its.toArray.size its'.toArray.size)).all (fun j=>wf (ds.getD j .non) (ds'.getD j .non))&&its.toArray.size==its'.toArray.size):=by
       show eqDs ds ds'=_
       rw[zEg]
       simp[hd.length,rv.length,hd'.length,rv'.length]
      rw[e];exact q
    | adr _=>simp[flat] at f'
    | dic _=>simp[flat] at f'
    | non=>unfold zU at h';subst h';cases r';exact SeqAt.EqAt.tuple_none tp' hu0
    | bl _=>unfold zU at h';subst h';cases r';exact SeqAt.EqAt.tuple_bool _ tp' hu0
    | int _=>unfold zU at h';subst h';obtain⟨t,rfl⟩:=r';exact SeqAt.EqAt.tuple_int _ _ tp' hu0
    | str _=>unfold zU at h';subst h';obtain⟨t,rfl⟩:=r';exact SeqAt.EqAt.tuple_str _ _ tp' hu0
   | adr _=>simp[flat] at f
   | dic _=>simp[flat] at f
   | non =>
    cases d' with
    | tup ds' =>
     unfold zU at h h';subst h;cases r
     obtain⟨a',xs',rfl,hsq',hd'⟩:=h'
     cases r'
     obtain⟨its',rv',tp2,u0⟩:=I.tuple hsq'
     exact SeqAt.EqAt.none_tuple (show s.heap.IsTuple a' its'.toArray from tp2) hu0
    | adr _=>simp[flat] at f'
    | dic _=>simp[flat] at f'
    | _=>exact absurd ⟨rfl,rfl⟩ hs
   | bl _ =>
    cases d' with
    | tup ds' =>
     unfold zU at h h';subst h;cases r
     obtain⟨a',xs',rfl,hsq',hd'⟩:=h'
     cases r'
     obtain⟨its',rv',tp2,u0⟩:=I.tuple hsq'
     exact SeqAt.EqAt.bool_tuple _ (show s.heap.IsTuple a' its'.toArray from tp2) hu0
    | adr _=>simp[flat] at f'
    | dic _=>simp[flat] at f'
    | _=>exact absurd ⟨rfl,rfl⟩ hs
   | int _ =>
    cases d' with
    | tup ds' =>
     unfold zU at h h';subst h;obtain⟨t,rfl⟩:=r
     obtain⟨a',xs',rfl,hsq',hd'⟩:=h'
     cases r'
     obtain⟨its',rv',tp2,u0⟩:=I.tuple hsq'
     exact SeqAt.EqAt.int_tuple _ _ (show s.heap.IsTuple a' its'.toArray from tp2) hu0
    | adr _=>simp[flat] at f'
    | dic _=>simp[flat] at f'
    | _=>exact absurd ⟨rfl,rfl⟩ hs
   | str _ =>
    cases d' with
    | tup ds' =>
     unfold zU at h h';subst h;obtain⟨t,rfl⟩:=r
     obtain⟨a',xs',rfl,hsq',hd'⟩:=h'
     cases r'
     obtain⟨its',rv',tp2,u0⟩:=I.tuple hsq'
     exact SeqAt.EqAt.str_tuple _ _ (show s.heap.IsTuple a' its'.toArray from tp2) hu0
    | adr _=>simp[flat] at f'
    | dic _=>simp[flat] at f'
    | _=>exact absurd ⟨rfl,rfl⟩ hs
end
end
end L3
namespace L3
open PySem PySem.Spec PyProof.Rows L2
section
variable {X:Cx} {pins:List (Addr×Obj)} {σ1:L2.St} {H:Hp} {s:Shared} {A:Around}
theorem zEL(I:zV X pins σ1 H s){n:Nat}{ds ds':List D}{xs xs':List V}{its its':List Value}(hd:Dens X.K H ds xs)(hd':Dens X.K H ds' xs')(rv:zh xs its)(rv':zh xs' its')
  (f:∀ d∈ds,flat n d=true) (f':∀ d∈ds',flat n d=true) (hu:A.units+n<cLine) (j:Nat) (h1:j<its.toArray.size) (h2:j<its'.toArray.size) :
  SeqAt.EqAt A s its.toArray[j] its'.toArray[j] (wf (ds.getD j .non) (ds'.getD j .non)):=by
 have h1':j<its.length:=by simpa using h1
 have h2':j<its'.length:=by simpa using h2
 have l1:=hd.length
 have l2:=rv.length
 have l3:=hd'.length
 have l4:=rv'.length
 obtain⟨x,ex,dx⟩:=hd.get (i:=j) (d:=ds[j]'(by (first|lia|omega))) (by simp)
 obtain⟨y,ey,dy⟩:=hd'.get (i:=j) (d:=ds'[j]'(by (first|lia|omega))) (by simp)
 obtain⟨ux,eux,rx⟩:=rv.get ex
 obtain⟨uy,euy,ry⟩:=rv'.get ey
 have e1:its.toArray[j]=ux:=by
  have:=(List.getElem?_eq_some_iff.mp eux).2
  simpa using this
 have e2:its'.toArray[j]=uy:=by
  have:=(List.getElem?_eq_some_iff.mp euy).2
  simpa using this
 have g1:ds.getD j .non=ds[j]'(by (first|lia|omega)):=by simp[List.getD,(show j<ds.length by (first|lia|omega))]
 have g2:ds'.getD j .non=ds'[j]'(by (first|lia|omega)):=by simp[List.getD,(show j<ds'.length by (first|lia|omega))]
 rw[e1,e2,g1,g2]
 exact zLQ I n _ _ x y ux uy A dx dy rx ry (f _ (List.getElem_mem _)) (f' _ (List.getElem_mem _)) hu
theorem zBk{ds ds':List D}{n n':Nat}(h:ds.length=n)(h':ds'.length=n'):eqDs ds ds'=((List.range (min n n')).all (fun j=>wf (ds.getD j .non) (ds'.getD j .non))&&n==n'):=by
 rw[zEg,h,h']
theorem zPN(I:zV X pins σ1 H s){n:Nat}{d d':D}{v v':V}{u u':Value}(h:zU X.K H d v)(h':zU X.K H d' v')(r:RelV v u)(r':RelV v' u')(f:flat n d=true)(f':flat n d'=true)(hu:A.units+n+1<cLine) :
  SeqAt.RcAt A s u u' (wf d d'):=by
 have hu0:A.units<cLine:=by (first|lia|omega)
 have tupI:∀ {d:D} {v:V} {u:Value} {ds:List D},d=.tup ds→zU X.K H d v→RelV v u→∃ a xs its,u=.ref a∧Dens X.K H ds xs∧zh xs its∧s.heap.IsTuple a its.toArray:=fun {d v u ds} e h r=>by
  subst e
  unfold zU at h
  obtain⟨a,xs,rfl,hs,hd⟩:=h
  cases r
  obtain⟨its,rv,tp,u0⟩:=I.tuple hs
  exact⟨a,xs,its,rfl,hd,rv,tp⟩
 cases d with
 | tup ds =>
  obtain⟨a,xs,its,rfl,hd,rv,tp⟩:=tupI rfl h r
  cases d' with
  | tup ds' =>
   obtain⟨a',xs',its',rfl,hd',rv',tp'⟩:=tupI rfl h' r'
   cases n with
   | zero=>simp[flat] at f
   | succ n =>
    have q:=SeqAt.RcAt.tuples (A:=A) (s:=s) tp tp' hu0 (zEL (A:=A.in1) I hd hd' rv rv' (by simpa[flat] using f) (by simpa[flat] using f') (by rw[in1_units];(first|lia|omega)))
    have e:wf (.tup ds) (.tup ds')=((List.range (min its.toArray.size its'.toArray.size)).all (fun j=>wf (ds.getD j .non) (ds'.getD j .non))&&its.toArray.size==its'.toArray.size) :=
     zBk (by simp[hd.length,rv.length]) (by simp[hd'.length,rv'.length])
    rw[e];exact q
  | adr _=>cases n<;>simp[flat] at f'
  | dic _=>cases n<;>simp[flat] at f'
  | non=>unfold zU at h';subst h';cases r';exact SeqAt.RcAt.tuple_none tp hu0
  | bl _=>unfold zU at h';subst h';cases r';exact SeqAt.RcAt.tuple_bool _ tp hu0
  | int _=>unfold zU at h';subst h';obtain⟨t,rfl⟩:=r';exact SeqAt.RcAt.tuple_int _ _ tp hu0
  | str _=>unfold zU at h';subst h';obtain⟨t,rfl⟩:=r';exact SeqAt.RcAt.tuple_str _ _ tp hu0
 | adr _=>cases n<;>simp[flat] at f
 | dic _=>cases n<;>simp[flat] at f
 | non =>
  unfold zU at h;subst h;cases r
  cases d' with
  | tup ds'=>obtain⟨a',xs',its',rfl,hd',rv',tp'⟩:=tupI rfl h' r';exact SeqAt.RcAt.none_tuple tp' hu0
  | adr _=>cases n<;>simp[flat] at f'
  | dic _=>cases n<;>simp[flat] at f'
  | non=>unfold zU at h';subst h';cases r';exact SeqAt.RcAt.none_none
  | bl _=>unfold zU at h';subst h';cases r';exact SeqAt.RcAt.none_bool _
  | int _=>unfold zU at h';subst h';obtain⟨t,rfl⟩:=r';exact SeqAt.RcAt.none_int _ _
  | str _=>unfold zU at h';subst h';obtain⟨t,rfl⟩:=r';exact SeqAt.RcAt.none_str _ _
 | bl _ =>
  unfold zU at h;subst h;cases r
  cases d' with
  | tup ds'=>obtain⟨a',xs',its',rfl,hd',rv',tp'⟩:=tupI rfl h' r';exact SeqAt.RcAt.bool_tuple _ tp' hu0
  | adr _=>cases n<;>simp[flat] at f'
  | dic _=>cases n<;>simp[flat] at f'
  | non=>unfold zU at h';subst h';cases r';exact SeqAt.RcAt.bool_none _
  | bl _=>unfold zU at h';subst h';cases r';exact SeqAt.RcAt.bool_bool _ _
  | int _=>unfold zU at h';subst h';obtain⟨t,rfl⟩:=r';exact SeqAt.RcAt.bool_int _ _ _
  | str _=>unfold zU at h';subst h';obtain⟨t,rfl⟩:=r';exact SeqAt.RcAt.bool_str _ _ _
 | int _ =>
  unfold zU at h;subst h;obtain⟨t,rfl⟩:=r
  cases d' with
  | tup ds'=>obtain⟨a',xs',its',rfl,hd',rv',tp'⟩:=tupI rfl h' r';exact SeqAt.RcAt.int_tuple _ _ tp' hu0
  | adr _=>cases n<;>simp[flat] at f'
  | dic _=>cases n<;>simp[flat] at f'
  | non=>unfold zU at h';subst h';cases r';exact SeqAt.RcAt.int_none _ _
  | bl _=>unfold zU at h';subst h';cases r';exact SeqAt.RcAt.int_bool _ _ _
  | int _=>unfold zU at h';subst h';obtain⟨t,rfl⟩:=r';exact SeqAt.RcAt.int_int _ _ _ _
  | str _=>unfold zU at h';subst h';obtain⟨t,rfl⟩:=r';exact SeqAt.RcAt.int_str _ _ _ _
 | str _ =>
  unfold zU at h;subst h;obtain⟨t,rfl⟩:=r
  cases d' with
  | tup ds'=>obtain⟨a',xs',its',rfl,hd',rv',tp'⟩:=tupI rfl h' r';exact SeqAt.RcAt.str_tuple _ _ tp' hu0
  | adr _=>cases n<;>simp[flat] at f'
  | dic _=>cases n<;>simp[flat] at f'
  | non=>unfold zU at h';subst h';cases r';exact SeqAt.RcAt.str_none _ _
  | bl _=>unfold zU at h';subst h';cases r';exact SeqAt.RcAt.str_bool _ _ _
  | int _=>unfold zU at h';subst h';obtain⟨t,rfl⟩:=r';exact SeqAt.RcAt.str_int _ _ _ _
  | str _=>unfold zU at h';subst h';obtain⟨t,rfl⟩:=r';exact SeqAt.RcAt.str_str _ _ _ _
theorem zPO(I:zV X pins σ1 H s){n:Nat}{ds ds':List D}{xs xs':List V}{a a':Addr}(hs:SqL X.K H a xs)(hd:Dens X.K H ds xs)(hs':SqL X.K H a' xs')(hd':Dens X.K H ds' xs')(f:∀ d∈ds,flat n d=true)(f':∀ d∈ds',flat n d=true)(hu:A.units+n+1<cLine) :
  SeqAt.RcAt A s (.ref a) (.ref a') (eqDs ds ds'):=by
 have hu0:A.units<cLine:=by (first|lia|omega)
 obtain⟨its,rv,pl,u0⟩:=I.list hs
 obtain⟨its',rv',pl',u0⟩:=I.list hs'
 have e:=zBk (ds:=ds) (ds':=ds') (n:=its.toArray.size) (n':=its'.toArray.size) (by simp[hd.length,rv.length]) (by simp[hd'.length,rv'.length])
 by_cases hl:its.toArray.size=its'.toArray.size
 ·have q:=SeqAt.RcAt.lists (A:=A) (s:=s) pl.isList pl'.isList hl hu0 (zEL (A:=A.in1) I hd hd' rv rv' f f' (by rw[in1_units];(first|lia|omega)))
  have e':eqDs ds ds'=(List.range its.toArray.size).all (fun j=>wf (ds.getD j .non) (ds'.getD j .non)):=by
   rw[e,← hl];simp
  rw[e'];exact q
 ·have e':eqDs ds ds'=false:=by
   rw[e]
   have:(its.toArray.size==its'.toArray.size)=false:=by simpa using hl
   rw[this,Bool.and_false]
  rw[e']
  exact SeqAt.RcAt.lists_lengths pl.isList pl'.isList (by simpa using hl) hu0
noncomputable def zPP(K:PySem.W.Frag)(ng:Bool):R2:=fun x y H Q=>(∃ d d',zU K H d x∧zU K H d' y∧flat 8 d=true∧flat 8 d'=true∧Q (.bl (if ng then !wf d d' else wf d d')) H) ∨
 (∃ a a' xs xs' ds ds',x=.ref a∧y=.ref a'∧SqL K H a xs∧SqL K H a' xs'∧Dens K H ds xs∧Dens K H ds' xs'∧(∀ d∈ds,flat 8 d=true)∧(∀ d∈ds',flat 8 d=true)∧Q (.bl (if ng then !eqDs ds ds' else eqDs ds ds')) H)
theorem zLR(hu:X.A.units+10<cLine):OpR X (compareOp .Eq) (zPP X.K false):=by
 intro pins s σ H x y v u Q I rx ry h
 rcases h with ⟨d,d',h1,h2,f1,f2,q⟩ | ⟨a,a',xs,xs',ds,ds',rfl,rfl,h1,h2,h3,h4,f1,f2,q⟩
 ·exact zPN (A:=X.A) I h1 h2 rx ry f1 f2 (by (first|lia|omega)) X.prog X.w X.xe _ ⟨.bl _,H,I,rfl,q⟩
 ·cases rx;cases ry
  exact zPO (A:=X.A) I h1 h3 h2 h4 f1 f2 (by (first|lia|omega)) X.prog X.w X.xe _ ⟨.bl _,H,I,rfl,q⟩
end
section
variable {X:Cx} {pins:List (Addr×Obj)} {σ1:L2.St} {H:Hp} {s:Shared} {A:Around}
theorem zPQ(I:zV X pins σ1 H s){n:Nat}{d d':D}{v v':V}{u u':Value}(h:zU X.K H d v)(h':zU X.K H d' v')(r:RelV v u)(r':RelV v' u')(f:flat n d=true)(f':flat n d'=true)(hu:A.units+n+1<cLine) :
  SeqAt.RcNeAt A s u u' (!wf d d'):=by
 have hu0:A.units<cLine:=by (first|lia|omega)
 have tupI:∀ {d:D} {v:V} {u:Value} {ds:List D},d=.tup ds→zU X.K H d v→RelV v u→∃ a xs its,u=.ref a∧Dens X.K H ds xs∧zh xs its∧s.heap.IsTuple a its.toArray:=fun {d v u ds} e h r=>by
  subst e
  unfold zU at h
  obtain⟨a,xs,rfl,hs,hd⟩:=h
  cases r
  obtain⟨its,rv,tp,u0⟩:=I.tuple hs
  exact⟨a,xs,its,rfl,hd,rv,tp⟩
 cases d with
 | tup ds =>
  obtain⟨a,xs,its,rfl,hd,rv,tp⟩:=tupI rfl h r
  cases d' with
  | tup ds' =>
   obtain⟨a',xs',its',rfl,hd',rv',tp'⟩:=tupI rfl h' r'
   cases n with
   | zero=>simp[flat] at f
   | succ n =>
    have q:=SeqAt.RcNeAt.tuples (A:=A) (s:=s) tp tp' hu0 (zEL (A:=A.in1) I hd hd' rv rv' (by simpa[flat] using f) (by simpa[flat] using f') (by rw[in1_units];(first|lia|omega)))
    have e:wf (.tup ds) (.tup ds')=((List.range (min its.toArray.size its'.toArray.size)).all (fun j=>wf (ds.getD j .non) (ds'.getD j .non))&&its.toArray.size==its'.toArray.size) :=
     zBk (by simp[hd.length,rv.length]) (by simp[hd'.length,rv'.length])
    rw[e];exact q
  | adr _=>cases n<;>simp[flat] at f'
  | dic _=>cases n<;>simp[flat] at f'
  | non=>unfold zU at h';subst h';cases r';exact SeqAt.RcNeAt.tuple_none tp hu0
  | bl _=>unfold zU at h';subst h';cases r';exact SeqAt.RcNeAt.tuple_bool _ tp hu0
  | int _=>unfold zU at h';subst h';obtain⟨t,rfl⟩:=r';exact SeqAt.RcNeAt.tuple_int _ _ tp hu0
  | str _=>unfold zU at h';subst h';obtain⟨t,rfl⟩:=r';exact SeqAt.RcNeAt.tuple_str _ _ tp hu0
 | adr _=>cases n<;>simp[flat] at f
 | dic _=>cases n<;>simp[flat] at f
 | non =>
  unfold zU at h;subst h;cases r
  cases d' with
  | tup ds'=>obtain⟨a',xs',its',rfl,hd',rv',tp'⟩:=tupI rfl h' r';exact SeqAt.RcNeAt.none_tuple tp' hu0
  | adr _=>cases n<;>simp[flat] at f'
  | dic _=>cases n<;>simp[flat] at f'
  | non=>unfold zU at h';subst h';cases r';exact SeqAt.RcNeAt.none_none
  | bl _=>unfold zU at h';subst h';cases r';exact SeqAt.RcNeAt.none_bool _
  | int _=>unfold zU at h';subst h';obtain⟨t,rfl⟩:=r';exact SeqAt.RcNeAt.none_int _ _
  | str _=>unfold zU at h';subst h';obtain⟨t,rfl⟩:=r';exact SeqAt.RcNeAt.none_str _ _
 | bl _ =>
  unfold zU at h;subst h;cases r
  cases d' with
  | tup ds'=>obtain⟨a',xs',its',rfl,hd',rv',tp'⟩:=tupI rfl h' r';exact SeqAt.RcNeAt.bool_tuple _ tp' hu0
  | adr _=>cases n<;>simp[flat] at f'
  | dic _=>cases n<;>simp[flat] at f'
  | non=>unfold zU at h';subst h';cases r';exact SeqAt.RcNeAt.bool_none _
  | bl _=>unfold zU at h';subst h';cases r';exact SeqAt.RcNeAt.bool_bool _ _
  | int _=>unfold zU at h';subst h';obtain⟨t,rfl⟩:=r';exact SeqAt.RcNeAt.bool_int _ _ _
  | str _=>unfold zU at h';subst h';obtain⟨t,rfl⟩:=r';exact SeqAt.RcNeAt.bool_str _ _ _
 | int _ =>
  unfold zU at h;subst h;obtain⟨t,rfl⟩:=r
  cases d' with
  | tup ds'=>obtain⟨a',xs',its',rfl,hd',rv',tp'⟩:=tupI rfl h' r';exact SeqAt.RcNeAt.int_tuple _ _ tp' hu0
  | adr _=>cases n<;>simp[flat] at f'
  | dic _=>cases n<;>simp[flat] at f'
  | non=>unfold zU at h';subst h';cases r';exact SeqAt.RcNeAt.int_none _ _
  | bl _=>unfold zU at h';subst h';cases r';exact SeqAt.RcNeAt.int_bool _ _ _
  | int _=>unfold zU at h';subst h';obtain⟨t,rfl⟩:=r';exact SeqAt.RcNeAt.int_int _ _ _ _
  | str _=>unfold zU at h';subst h';obtain⟨t,rfl⟩:=r';exact SeqAt.RcNeAt.int_str _ _ _ _
 | str _ =>
  unfold zU at h;subst h;obtain⟨t,rfl⟩:=r
  cases d' with
  | tup ds'=>obtain⟨a',xs',its',rfl,hd',rv',tp'⟩:=tupI rfl h' r';exact SeqAt.RcNeAt.str_tuple _ _ tp' hu0
  | adr _=>cases n<;>simp[flat] at f'
  | dic _=>cases n<;>simp[flat] at f'
  | non=>unfold zU at h';subst h';cases r';exact SeqAt.RcNeAt.str_none _ _
  | bl _=>unfold zU at h';subst h';cases r';exact SeqAt.RcNeAt.str_bool _ _ _
  | int _=>unfold zU at h';subst h';obtain⟨t,rfl⟩:=r';exact SeqAt.RcNeAt.str_int _ _ _ _
  | str _=>unfold zU at h';subst h';obtain⟨t,rfl⟩:=r';exact SeqAt.RcNeAt.str_str _ _ _ _
theorem zPR(I:zV X pins σ1 H s){n:Nat}{ds ds':List D}{xs xs':List V}{a a':Addr}(hs:SqL X.K H a xs)(hd:Dens X.K H ds xs)(hs':SqL X.K H a' xs')(hd':Dens X.K H ds' xs')(f:∀ d∈ds,flat n d=true)(f':∀ d∈ds',flat n d=true)(hu:A.units+n+1<cLine) :
  SeqAt.RcNeAt A s (.ref a) (.ref a') (!eqDs ds ds'):=by
 have hu0:A.units<cLine:=by (first|lia|omega)
 obtain⟨its,rv,pl,u0⟩:=I.list hs
 obtain⟨its',rv',pl',u0⟩:=I.list hs'
 have e:=zBk (ds:=ds) (ds':=ds') (n:=its.toArray.size) (n':=its'.toArray.size) (by simp[hd.length,rv.length]) (by simp[hd'.length,rv'.length])
 by_cases hl:its.toArray.size=its'.toArray.size
 ·have q:=SeqAt.RcNeAt.lists (A:=A) (s:=s) pl.isList pl'.isList hl hu0 (zEL (A:=A.in1) I hd hd' rv rv' f f' (by rw[in1_units];(first|lia|omega)))
  have e':eqDs ds ds'=(List.range its.toArray.size).all (fun j=>wf (ds.getD j .non) (ds'.getD j .non)):=by
   rw[e,← hl];simp
  rw[e'];exact q
 ·have e':eqDs ds ds'=false:=by
   rw[e]
   have:(its.toArray.size==its'.toArray.size)=false:=by simpa using hl
   rw[this,Bool.and_false]
  rw[e']
  exact SeqAt.RcNeAt.lists_lengths pl.isList pl'.isList (by simpa using hl) hu0
theorem zPS(hu:X.A.units+10<cLine):OpR X (compareOp .NotEq) (zPP X.K true):=by
 intro pins s σ H x y v u Q I rx ry h
 rcases h with ⟨d,d',h1,h2,f1,f2,q⟩ | ⟨a,a',xs,xs',ds,ds',rfl,rfl,h1,h2,h3,h4,f1,f2,q⟩
 ·exact zPQ (A:=X.A) I h1 h2 rx ry f1 f2 (by (first|lia|omega)) X.prog X.w X.xe _ ⟨.bl _,H,I,rfl,q⟩
 ·cases rx;cases ry
  exact zPR (A:=X.A) I h1 h3 h2 h4 f1 f2 (by (first|lia|omega)) X.prog X.w X.xe _ ⟨.bl _,H,I,rfl,q⟩
end
section
variable {X:Cx} {pins:List (Addr×Obj)} {σ1:L2.St} {H:Hp} {s:Shared} {A:Around}
noncomputable def zPT(K:PySem.W.Frag)(ng:Bool):R2:=fun x y H Q=>∃ d ds a xs,zU K H d x∧y=.ref a∧(SqL K H a xs∨SqT K H a xs)∧Dens K H ds xs∧flat 8 d=true∧(∀ z∈ds,flat 8 z=true)∧Q (.bl (if ng then !ds.any fun z=>wf z d else ds.any fun z=>wf z d)) H
theorem zJo{its:List Value}{ds:List D}(g:D→Bool)(hl:its.length=ds.length)(hinj:∀(i j:Nat) (u:Value) (z z':D),its[i]?=some u→its[j]?=some u→ds[i]?=some z→ds[j]?=some z'→z=z') :
  ∃ e:Value→Bool,(∀(j:Nat) (u:Value) (z:D),its[j]?=some u→ds[j]?=some z→e u=g z)∧its.any e=ds.any g:=by
 classical
 have key:∀(j:Nat) (u:Value) (z:D),its[j]?=some u→ds[j]?=some z→decide (∃(j:Nat) (z:D),its[j]?=some u∧ds[j]?=some z∧g z=true)=g z:=by
  intro j u z h1 h2
  cases hg:g z with
  | true=>exact decide_eq_true ⟨j,z,h1,h2,hg⟩
  | false =>
   refine decide_eq_false ?_
   rintro⟨j',z',h3,h4,h5⟩
   rw[hinj j j' u z z' h1 h3 h2 h4,h5] at hg
   cases hg
 refine⟨fun u=>decide (∃(j:Nat) (z:D),its[j]?=some u∧ds[j]?=some z∧g z=true),key,?_⟩
 rw[Bool.eq_iff_iff,List.any_eq_true,List.any_eq_true]
 constructor
 ·rintro⟨u,hu,he⟩
  obtain⟨j,z,h1,h2,h3⟩:=of_decide_eq_true he
  exact⟨z,List.mem_of_getElem? h2,h3⟩
 ·rintro⟨z,hz,hg⟩
  obtain⟨j,hj⟩:=List.getElem?_of_mem hz
  have hj':j<ds.length:=(List.getElem?_eq_some_iff.mp hj).1
  refine⟨its[j]'(by (first|lia|omega)),List.getElem_mem _,decide_eq_true ⟨j,z,by simp,hj,hg⟩⟩
theorem zEM(I:zV X pins σ1 H s){n:Nat}{ds:List D}{xs:List V}{its:List Value}{d:D}{v:V}{u:Value}(hd:Dens X.K H ds xs)(rv:zh xs its)(h:zU X.K H d v)(r:RelV v u)(f:∀ z∈ds,flat n z=true)(f':flat n d=true)(hu:A.units+n<cLine) :
  ∃ e:Value→Bool,(∀ y,y∈its.toArray→SeqAt.EqAt A s y u (e y))∧its.toArray.any e=ds.any fun z=>wf z d:=by
 have l1:=hd.length
 have l2:=rv.length
 obtain⟨e,h1,h2⟩:=zJo (its:=its) (ds:=ds) (fun z=>wf z d) (by (first|lia|omega)) (by
  intro i j w z z' a1 a2 a3 a4
  obtain⟨x,b1,b2⟩:=hd.get a3
  obtain⟨x',b3,b4⟩:=hd.get a4
  obtain⟨w1,c1,c2⟩:=rv.get b1
  obtain⟨w2,c3,c4⟩:=rv.get b3
  rw[a1] at c1;cases c1
  rw[a2] at c3;cases c3
  have:=c2.inj c4
  subst this
  exact zU.inj I b2 b4 (f z (List.mem_of_getElem? a3)) (f z' (List.mem_of_getElem? a4)))
 refine⟨e,fun y hy=>?_,by simpa using h2⟩
 have hy':y∈its:=by simpa using hy
 obtain⟨j,hj⟩:=List.getElem?_of_mem hy'
 have hjl:j<its.length:=(List.getElem?_eq_some_iff.mp hj).1
 obtain⟨x,b1,b2⟩:=hd.get (i:=j) (d:=ds[j]'(by (first|lia|omega))) (by simp)
 obtain⟨w1,c1,c2⟩:=rv.get b1
 rw[hj] at c1;cases c1
 rw[h1 j _ (ds[j]'(by (first|lia|omega))) hj (by simp)]
 exact zLQ I n _ _ x v _ u A b2 h c2 r (f _ (List.getElem_mem _)) f' hu
theorem zLS(hu:X.A.units+10<cLine):OpR X (compareOp .In) (zPT X.K false):=by
 intro pins s σ H x y v u Q I rx ry h
 obtain⟨d,ds,a,xs,h1,rfl,h2,h3,f1,f2,q⟩:=h
 cases ry
 rcases h2 with h2 | h2
 ·obtain⟨its,rv,pl,u0⟩:=I.list h2
  obtain⟨e,e1,e2⟩:=zEM (A:=X.A.in1) I h3 rv h1 rx f2 f1 (by rw[in1_units];(first|lia|omega))
  exact SeqAt.in_listAt e pl.isList e1 ⟨.bl _,H,I,rfl,by rw[e2];exact q⟩
 ·obtain⟨its,rv,tp,u0⟩:=I.tuple h2
  obtain⟨e,e1,e2⟩:=zEM (A:=X.A.in1) I h3 rv h1 rx f2 f1 (by rw[in1_units];(first|lia|omega))
  exact SeqAt.in_tupleAt e (show s.heap.IsTuple a its.toArray from tp) e1 ⟨.bl _,H,I,rfl,by rw[e2];exact q⟩
theorem zJp(hu:X.A.units+10<cLine):OpR X (compareOp .NotIn) (zPT X.K true):=by
 intro pins s σ H x y v u Q I rx ry h
 obtain⟨d,ds,a,xs,h1,rfl,h2,h3,f1,f2,q⟩:=h
 cases ry
 rcases h2 with h2 | h2
 ·obtain⟨its,rv,pl,u0⟩:=I.list h2
  obtain⟨e,e1,e2⟩:=zEM (A:=X.A.in1) I h3 rv h1 rx f2 f1 (by rw[in1_units];(first|lia|omega))
  exact SeqAt.notIn_listAt e pl.isList e1 ⟨.bl _,H,I,rfl,by rw[e2];exact q⟩
 ·obtain⟨its,rv,tp,u0⟩:=I.tuple h2
  obtain⟨e,e1,e2⟩:=zEM (A:=X.A.in1) I h3 rv h1 rx f2 f1 (by rw[in1_units];(first|lia|omega))
  exact SeqAt.notIn_tupleAt e (show s.heap.IsTuple a its.toArray from tp) e1 ⟨.bl _,H,I,rfl,by rw[e2];exact q⟩
end
section
variable {X:Cx} {a b c e o:Expr} {es:List Expr} {pos p:Pos} {ta tb te:zo}
noncomputable def fEq(ng:Bool):D→D→Gp→Q2→Prop:=fun x y G R=>match x,y with
 | .adr l,.adr l'=>∃ ds ds',Ls G l ds∧Ls G l' ds'∧(∀ d∈ds,flat 8 d=true)∧(∀ d∈ds',flat 8 d=true)∧R (.bl (if ng then !eqDs ds ds' else eqDs ds ds')) G
 | x,y=>flat 8 x=true∧flat 8 y=true∧R (.bl (if ng then !wf x y else wf x y)) G
theorem zH1{K:PySem.W.Frag}{ng:Bool}:Fit K (zPP K ng) (fEq ng):=by
 intro dx dy G R x y H Q h r d1 d2 k
 unfold fEq at h
 split at h
 ·rename_i l l'
  obtain⟨ds,ds',e1,e2,f1,f2,h⟩:=h
  obtain⟨xs,s1,t1⟩:=r.sq e1
  obtain⟨xs',s2,t2⟩:=r.sq e2
  unfold zU at d1 d2
  exact .inr ⟨l,l',xs,xs',ds,ds',d1,d2,s1,s2,t1,t2,f1,f2,k _ G h _ H (.refl H) r (by unfold zU;rfl)⟩
 ·obtain⟨f1,f2,h⟩:=h
  exact .inl ⟨_,_,d1,d2,f1,f2,k _ G h _ H (.refl H) r (by unfold zU;rfl)⟩
noncomputable def fIn(ng:Bool):D→D→Gp→Q2→Prop:=fun x y G R=>match y with
 | .adr l=>∃ ds,Ls G l ds∧flat 8 x=true∧(∀ d∈ds,flat 8 d=true)∧R (.bl (if ng then !ds.any fun z=>wf z x else ds.any fun z=>wf z x)) G
 | .tup ds=>flat 8 x=true∧(∀ d∈ds,flat 8 d=true)∧R (.bl (if ng then !ds.any fun z=>wf z x else ds.any fun z=>wf z x)) G
 | _=>False
theorem zH2{K:PySem.W.Frag}{ng:Bool}:Fit K (zPT K ng) (fIn ng):=by
 intro dx dy G R x y H Q h r d1 d2 k
 unfold fIn at h
 split at h
 ·rename_i l
  obtain⟨ds,e1,f1,f2,h⟩:=h
  obtain⟨xs,s1,t1⟩:=r.sq e1
  unfold zU at d2
  exact⟨dx,ds,l,xs,d1,d2,.inl s1,t1,f1,f2,k _ G h _ H (.refl H) r (by unfold zU;rfl)⟩
 ·rename_i ds
  obtain⟨f1,f2,h⟩:=h
  unfold zU at d2
  obtain⟨l,xs,e,s1,t1⟩:=d2
  exact⟨dx,ds,l,xs,d1,e,.inr s1,t1,f1,f2,k _ G h _ H (.refl H) r (by unfold zU;rfl)⟩
 ·exact h.elim
theorem zPU{k:Nat}(hr:yd k X.A)(ha:E2 X a ta)(hb:E2 X b tb):E2 X (.Compare a [.Eq] [b] pos) (zP (fEq false) ta tb):=zIx (zLR (by have:=hr.units;(first|lia|omega))) zH1 ha hb (zCC _)
theorem zQl{k:Nat}(hr:yd k X.A)(ha:E2 X a ta)(hb:E2 X b tb)(hm:behindInMarks .In b=false:=by rfl):E2 X (.Compare a [.In] [b] pos) (zP (fIn false) ta tb):=zIx (zLS (by have:=hr.units;(first|lia|omega))) zH2 ha hb hm
theorem zH3{k:Nat}(hr:yd k X.A)(ha:E2 X a ta)(hb:E2 X b tb):T2 X (.Compare a [.Eq] [b] pos) (xB (zP (fEq false) ta tb)):=zEc (zLR (by have:=hr.units;(first|lia|omega))) zH1 ha hb (zCC _)
theorem zEi{k:Nat}(hr:yd k X.A)(ha:E2 X a ta)(hb:E2 X b tb):T2 X (.Compare a [.NotEq] [b] pos) (xB (zP (fEq true) ta tb)):=zEc (zPS (by have:=hr.units;(first|lia|omega))) zH1 ha hb (zCC _)
theorem zPV{k:Nat}(hr:yd k X.A)(ha:E2 X a ta)(hb:E2 X b tb)(hm:behindInMarks .In b=false:=by rfl):T2 X (.Compare a [.In] [b] pos) (xB (zP (fIn false) ta tb)):=zEc (zLS (by have:=hr.units;(first|lia|omega))) zH2 ha hb hm
theorem zDE{k:Nat}(hr:yd k X.A)(ha:E2 X a ta)(hb:E2 X b tb)(hm:behindInMarks .NotIn b=false:=by rfl):T2 X (.Compare a [.NotIn] [b] pos) (xB (zP (fIn true) ta tb)):=zEc (zJp (by have:=hr.units;(first|lia|omega))) zH2 ha hb hm
noncomputable def zi:D→D→Gp→Q2→Prop:=fun x y G R=>match x,y with
 | .adr l,.int k=>∃ ds d,Ls G l ds∧atI ds k=some d∧R d G
 | .tup ds,.int k=>match atI ds k with | some d=>R d G | none=>False
 | _,_=>False
theorem zGu{K:PySem.W.Frag}{H:Hp}{ds:List D}{xs:List V}{k:Int}{d:D}(h:Dens K H ds xs)(e:atI ds k=some d):∃ x,atI xs k=some x∧zU K H d x:=by
 unfold atI at e ⊢
 rw[h.length] at e
 cases q:ixN xs.length k with
 | none=>rw[q] at e;cases e
 | some j =>
  rw[q] at e
  exact h.get e
theorem zPW{K:PySem.W.Frag}:Fit K (fun x y H Q=>zQa K x y H Q∨zQb K x y H Q) zi:=by
 intro dx dy G R x y H Q h r d1 d2 k
 unfold zi at h
 split at h
 ·rename_i l i
  obtain⟨ds,d,e1,e2,h⟩:=h
  obtain⟨xs,s1,t1⟩:=r.sq e1
  obtain⟨z,e3,t2⟩:=zGu t1 e2
  unfold zU at d1 d2
  exact .inl ⟨l,xs,i,z,d1,d2,s1,e3,k _ G h _ H (.refl H) r t2⟩
 ·rename_i ds i
  split at h
  ·rename_i d e2
   unfold zU at d1 d2
   obtain⟨l,xs,e,s1,t1⟩:=d1
   obtain⟨z,e3,t2⟩:=zGu t1 e2
   exact .inr ⟨l,xs,i,z,e,d2,s1,e3,k _ G h _ H (.refl H) r t2⟩
  ·exact h.elim
 ·exact h.elim
theorem zm(ha:E2 X a ta)(hb:E2 X b tb)(hs:zIs b:=by intro u0 u0;rfl):E2 X (.Subscript a b pos) (zP zi ta tb) :=
 PE.mono (zQZ (zNP.or zPH) ha hb hs) fun σ1 H Q h=>zIw zPW h
noncomputable def zH4(K:PySem.W.Frag)(r:List V→Hp→VK→Prop)(f:Sp2):Prop :=
 ∀ ds G R vs H Q,f ds G R→yK K G H→Dens K H ds vs→(∀ d G',R d G'→∀ v H',yB H H'→yK K G' H'→zU K H' d v→Q v H')→r vs H Q
theorem zFj{K:PySem.W.Frag}{r:List V→Hp→VK→Prop}{f:Sp2}{t:wN}(hf:zH4 K r f){σ1:L2.St}{H:Hp}{Q:VK}(h:lE K (zK f t) σ1 H Q):tCB r (lA K t) σ1 H Q:=by
 obtain⟨σ,G,R,rl,q,k⟩:=h
 exact⟨σ,G,_,rl,q,fun ds G1 q1 vs H1 g1 r1 d1=>hf ds G1 R vs H1 Q q1 r1 d1 fun d G' q' v H' g'=>k d G' q' v H' (g1.trans g')⟩
theorem zGI{id:String}{x:Str}{r:List V→Hp→VK→Prop}{f:Sp2}{t:wN}(hc:wE X (.builtin id) r)(hf:zH4 X.K r f)(hg:Gl X x)(hm:X.mg x=none)(hv:bootBuiltins x=some (.builtin id))(ha:A2 X (e::es) t)(hn:x≠"__name__":=by decide)(hdb:(x==("__debug__":Str))=false:=by decide)
  (he:starEach (e::es) X.env=(false,eval e X.env)::starEach es X.env:=by rfl) (hpl:(backTo pos (starEach es X.env)).any (·.1)=false:=by rfl):E2 X (.Call (.Name x p) (e::es) [] pos) (zK f t) :=
 PE.mono (zAA hc hg hm hv ha hn hdb he hpl) fun σ1 H Q h=>zFj hf h
theorem zGv{T:String}{x:Str}{r:List V→Hp→VK→Prop}{f:Sp2}{t:wN}(hc:wE X (.type T) r)(hf:zH4 X.K r f)(hg:Gl X x)(hm:X.mg x=none)(hv:bootBuiltins x=some (.type T))(ha:A2 X (e::es) t)(hn:x≠"__name__":=by decide)(hdb:(x==("__debug__":Str))=false:=by decide)
  (he:starEach (e::es) X.env=(false,eval e X.env)::starEach es X.env:=by rfl) (hpl:(backTo pos (starEach es X.env)).any (·.1)=false:=by rfl):E2 X (.Call (.Name x p) (e::es) [] pos) (zK f t) :=
 PE.mono (zBS hc hg hm hv ha hn hdb he hpl) fun σ1 H Q h=>zFj hf h
noncomputable def zGw(G:Gp):D→List D→Prop
 | .tup es,ds=>es=ds
 | .adr l,ds=>Ls G l ds
 | _,_=>False
theorem zEN{K:PySem.W.Frag}{G:Gp}{H:Hp}{d:D}{v:V}{ds:List D}(r:yK K G H)(h:zU K H d v)(e:zGw G d ds):∃ l xs,v=.ref l∧(SqL K H l xs∨SqT K H l xs)∧Dens K H ds xs:=by
 cases d with
 | tup _ =>
  have e:_=ds:=e
  subst e
  unfold zU at h
  obtain⟨l,xs,e,s1,t1⟩:=h
  exact⟨l,xs,e,.inr s1,t1⟩
 | adr l =>
  unfold zU at h
  obtain⟨xs,s1,t1⟩:=r.sq (show Ls G l ds from e)
  exact⟨l,xs,h,.inl s1,t1⟩
 | _=>exact e.elim
theorem zCF{K:PySem.W.Frag}{H:Hp}{d:D}{vs:List V}(h:Dens K H [d] vs):∃ v,vs=[v]∧zU K H d v:=by
 unfold Dens at h
 obtain⟨v,r,e,h1,h2⟩:=h
 unfold Dens at h2
 subst h2
 exact⟨v,e,h1⟩
theorem zON{K:PySem.W.Frag}{H:Hp}{d d':D}{vs:List V}(h:Dens K H [d,d'] vs):∃ v v',vs=[v,v']∧zU K H d v∧zU K H d' v':=by
 unfold Dens at h
 obtain⟨v,r,e,h1,h2⟩:=h
 obtain⟨v',e2,h3⟩:=zCF h2
 subst e2
 exact⟨v,v',e,h1,h3⟩
noncomputable def yR:Sp2:=fun ds G R=>match ds with | [d]=>∃ l,zGw G d l∧R (.int l.length) G | _=>False
theorem zNY:zH4 X.K (fun xs H Q=>∃ p ys,xs=[.ref p]∧(SqL X.K H p ys∨SqT X.K H p ys)∧Q (.int ys.length) H) yR:=by
 intro ds G R vs H Q h r d k
 unfold yR at h
 split at h
 ·rename_i d0
  obtain⟨v,rfl,d1⟩:=zCF d
  obtain⟨l,e,h⟩:=h
  obtain⟨a,xs,rfl,s1,t1⟩:=zEN r d1 e
  exact⟨a,xs,rfl,s1,k _ G h _ H (.refl H) r (by rw[← t1.length];unfold zU;rfl)⟩
 ·exact h.elim
theorem wo{t:wN}(hg:Gl X "len")(hm:X.mg "len"=none)(ha:A2 X [e] t)(he:starEach [e] X.env=(false,eval e X.env)::starEach [] X.env:=by rfl)(hpl:(backTo pos (starEach [] X.env)).any (·.1)=false:=by rfl):E2 X (.Call (.Name "len" p) [e] [] pos) (zK yR t):=zGI zGE zNY hg hm PySem.boot_len ha (by decide) (by decide) he hpl
noncomputable def ye:Sp2:=fun ds G R=>match ds with | [.int i,.int j]=>R (.int (if j<i then j else i)) G | _=>False
noncomputable def yr:Sp2:=fun ds G R=>match ds with | [.int i,.int j]=>R (.int (if j>i then j else i)) G | _=>False
theorem zLT{f:Int→Int→Int}{sp:Sp2}(hs:∀ ds G R,sp ds G R→∃ i j,ds=[.int i,.int j]∧R (.int (f i j)) G):zH4 X.K (fun xs H Q=>∃ i j,xs=[.int i,.int j]∧Q (.int (f i j)) H) sp:=by
 intro ds G R vs H Q h r d k
 obtain⟨i,j,rfl,h'⟩:=hs ds G R h
 obtain⟨v,v',rfl,d1,d2⟩:=zON d
 unfold zU at d1 d2
 subst d1 d2
 exact⟨i,j,rfl,k _ G h' _ H (.refl H) r (by unfold zU;rfl)⟩
theorem zFk{t:wN}{e':Expr}(hc:X.calm=true)(hg:Gl X "min")(hm:X.mg "min"=none)(ha:A2 X [e,e'] t)(he:starEach [e,e'] X.env=(false,eval e X.env)::starEach [e'] X.env:=by rfl)(hpl:(backTo pos (starEach [e'] X.env)).any (·.1)=false:=by rfl):E2 X (.Call (.Name "min" p) [e,e'] [] pos) (zK ye t):=zGI (zJi hc) (zLT fun ds G R h=>by unfold ye at h;split at h;exact⟨_,_,rfl,h⟩;exact h.elim) hg hm (by decide +kernel) ha (by decide) (by decide) he hpl
theorem zGx{t:wN}{e':Expr}(hc:X.calm=true)(hg:Gl X "max")(hm:X.mg "max"=none)(ha:A2 X [e,e'] t)(he:starEach [e,e'] X.env=(false,eval e X.env)::starEach [e'] X.env:=by rfl)(hpl:(backTo pos (starEach [e'] X.env)).any (·.1)=false:=by rfl):E2 X (.Call (.Name "max" p) [e,e'] [] pos) (zK yr t):=zGI (zJh hc) (zLT fun ds G R h=>by unfold yr at h;split at h;exact⟨_,_,rfl,h⟩;exact h.elim) hg hm (by decide +kernel) ha (by decide) (by decide) he hpl
end
end L3
namespace L3
open PySem PySem.Spec PyProof.Rows L2
section
variable {X:Cx} {a b c e o:Expr} {es:List Expr} {pos p p2:Pos} {ta tb te to:zo} {tl:TL2}
noncomputable def zNZ(K:PySem.W.Frag)(r:List V→Hp→VK→Prop)(g:Sp2):Prop :=
 ∀ ds G R l xs H Q,g ds G R→yK K G H→H l=some (.lst xs)→Dens K H ds xs→(∀ d G',R d G'→∀ v H',yB H H'→yK K G' H'→zU K H' d v→Q v H')→r [.ref l] H Q
noncomputable def zb(g:Sp2)(t:TL2):zo:=fun σ G R=>t σ G fun ds G1=>g ds G1 R
theorem zEj{K:PySem.W.Frag}{r:List V→Hp→VK→Prop}{g:Sp2}(hf:zNZ K r g){σ1:L2.St}{H:Hp}{Q:VK}(h:lE K (zb g tl) σ1 H Q):tCB r (zLB (lL K tl) zPE) σ1 H Q:=by
 obtain⟨σ,G,R,rl,q,k⟩:=h
 exact⟨σ,G,_,rl,q,fun ds G1 q1 l xs H1 g1 r1 n e d1=>hf ds G1 R l xs H1 Q q1 r1 e d1 fun d G' q' v H' g'=>k d G' q' v H' (g1.trans g')⟩
theorem zJq{T:String}{x:Str}{r:List V→Hp→VK→Prop}{g:Sp2}(hc:wE X (.type T) r)(hf:zNZ X.K r g)(hg:Gl X x)(hm:X.mg x=none)(hv:bootBuiltins x=some (.type T))(ha:F2 X e tl)(hn:x≠"__name__":=by decide)(hdb:(x==("__debug__":Str))=false:=by decide)
  (he:starEach [e] X.env=(false,eval e X.env)::starEach [] X.env:=by rfl) (hpl:(backTo pos (starEach [] X.env)).any (·.1)=false:=by rfl):E2 X (.Call (.Name x p) [e] [] pos) (zb g tl) :=
 PE.mono (zBS hc hg hm hv (yS ha wz he) hn hdb he hpl) fun σ1 H Q h=>zEj hf h
theorem zGy{id:String}{x:Str}{r:List V→Hp→VK→Prop}{g:Sp2}(hc:wE X (.builtin id) r)(hf:zNZ X.K r g)(hg:Gl X x)(hm:X.mg x=none)(hv:bootBuiltins x=some (.builtin id))(ha:F2 X e tl)(hn:x≠"__name__":=by decide)(hdb:(x==("__debug__":Str))=false:=by decide)
  (he:starEach [e] X.env=(false,eval e X.env)::starEach [] X.env:=by rfl) (hpl:(backTo pos (starEach [] X.env)).any (·.1)=false:=by rfl):E2 X (.Call (.Name x p) [e] [] pos) (zb g tl) :=
 PE.mono (zAA hc hg hm hv (yS ha wz he) hn hdb he hpl) fun σ1 H Q h=>zEj hf h
noncomputable def zn:Sp2:=fun ds G R=>R (.tup ds) G
theorem zH5{K:PySem.W.Frag}:zNZ K (fun xs H Q=>∃ p ys,xs=[.ref p]∧((SqL K H p ys∧∀ l,H l=none→Q (.ref l) (yp H l (.tup ys)))∨(SqT K H p ys∧Q (.ref p) H))) zn:=by
 intro ds G R l xs H Q h r e d k
 refine⟨l,xs,rfl,.inl ⟨.of e,fun l' n=>k _ G h _ _ (.fresh n) (r.fresh n) ?_⟩⟩
 unfold zU
 exact⟨l',xs,rfl,.of zj,d.grow (.fresh n)⟩
theorem wg(hg:Gl X "tuple")(hm:X.mg "tuple"=none)(ha:F2 X e tl)(he:starEach [e] X.env=(false,eval e X.env)::starEach [] X.env:=by rfl)(hpl:(backTo pos (starEach [] X.env)).any (·.1)=false:=by rfl) :
  E2 X (.Call (.Name "tuple" p) [e] [] pos) (zb zn tl):=zJq zCn zH5 hg hm (by decide +kernel) ha (by decide) (by decide) he hpl
noncomputable def zCR:Sp2:=fun ds G R=>match ds with | [d]=>∃ l,zGw G d l∧R (.tup l) G | _=>False
theorem zJr{K:PySem.W.Frag}:zH4 K (fun xs H Q=>∃ p ys,xs=[.ref p]∧((SqL K H p ys∧∀ l,H l=none→Q (.ref l) (yp H l (.tup ys)))∨(SqT K H p ys∧Q (.ref p) H))) zCR:=by
 intro ds G R vs H Q h r d k
 unfold zCR at h
 split at h
 ·rename_i d0
  obtain⟨v,rfl,d1⟩:=zCF d
  obtain⟨l,e,h⟩:=h
  obtain⟨a,xs,rfl,s1,t1⟩:=zEN r d1 e
  rcases s1 with s1 | s1
  ·refine⟨a,xs,rfl,.inl ⟨s1,fun l' n=>k _ G h _ _ (.fresh n) (r.fresh n) ?_⟩⟩
   unfold zU
   exact⟨l',xs,rfl,.of zj,t1.grow (.fresh n)⟩
  ·refine⟨a,xs,rfl,.inr ⟨s1,k _ G h _ H (.refl H) r ?_⟩⟩
   unfold zU
   exact⟨a,xs,rfl,s1,t1⟩
 ·exact h.elim
theorem zGJ{t:wN}(hg:Gl X "tuple")(hm:X.mg "tuple"=none)(ha:A2 X [e] t)(he:starEach [e] X.env=(false,eval e X.env)::starEach [] X.env:=by rfl)(hpl:(backTo pos (starEach [] X.env)).any (·.1)=false:=by rfl) :
  E2 X (.Call (.Name "tuple" p) [e] [] pos) (zK zCR t):=zGv zCn zJr hg hm (by decide +kernel) ha (by decide) (by decide) he hpl
theorem zCG:∀ {xs:List V} {us:List Value},xs.length=us.length→(∀(i:Nat) (x:V) (u:Value),xs[i]?=some x→us[i]?=some u→RelV x u)→zh xs us
 | [],[],_,_=>.nil
 | [],_::_,h,_=>by cases h
 | _::_,[],h,_=>by cases h
 | x::xs,u::us,h,g=>.cons (g 0 x u rfl rfl) (zCG (by simpa using h) fun i y w e1 e2=>g (i+1) y w (by simpa using e1) (by simpa using e2))
theorem zGK:wE X (.builtin "sorted") (fun xs H Q=>∃(p:Addr) (ns:List Int),xs=[.ref p]∧SqL X.K H p (ns.map V.int)∧ns.length<64∧∀(l:Addr) (ns':List Int),H l=none→ns'.Perm ns→ns'.Pairwise (·≤·)→Q (.ref l) (yp H l (.lst (ns'.map V.int)))):=by
 intro pins s σ H xs us Q I r h
 obtain⟨p,ns,rfl,hq,hz,q⟩:=h
 obtain⟨u,rfl,rx⟩:=vals1 r
 cases rx
 obtain⟨its,rv,pl,u0⟩:=I.list hq
 have hl:=rv.length
 rw[List.length_map] at hl
 refine sorted_ints (vs:=its) (ns:=ns) pl.isList (intsAre_of rv) (by (first|lia|omega)) fun out ns' i1 i2 i3=>?_
 obtain⟨e,he⟩:=sortedAll_at s.heap its out
 have hn:H (s.heap.objs.size+1)=none:=I.hok.fresh (Nat.le_succ _)
 refine⟨.ref (s.heap.objs.size+1),_,I.laid (t':=s.toks) (o:=.lst (ns'.map V.int)) (fun b u q=>sortedAll_old q) (Nat.le_succ _) ?_,rfl,q _ ns' hn i2 i3⟩
 have hp:=i2.length_eq
 refine⟨?_,out.toList,e,zDk i1,?_⟩
 ·rw[List.length_map,hp,sizeLine_eq];(first|lia|omega)
 ·rw[he]<;>rfl
noncomputable def intsOf:List D→Option (List Int)
 | []=>some []
 | .int i::r=>(intsOf r).map (i::·)
 | _::_=>none
theorem zEk:∀ ns:List Int,intsOf (ns.map D.int)=some ns
 | []=>rfl
 | n::r=>by simp[intsOf,zEk r]
theorem zFl:∀ {ds:List D} {ns:List Int},intsOf ds=some ns→ds=ns.map D.int
 | [],ns,h=>by simp[intsOf] at h;subst h;rfl
 | d::r,ns,h=>by
  cases d with
  | int i =>
   unfold intsOf at h
   cases q:intsOf r with
   | none=>rw[q] at h;cases h
   | some ms =>
    rw[q] at h
    cases h
    rw[zFl q];rfl
  | _=>simp[intsOf] at h
theorem Dens.ints_inv{K:PySem.W.Frag}{H:Hp}:∀ {ns:List Int} {xs:List V},Dens K H (ns.map D.int) xs→xs=ns.map V.int
 | [],xs,h=>by unfold Dens at h;exact h
 | n::r,xs,h=>by
  rw[List.map_cons] at h
  unfold Dens at h
  obtain⟨x,y,rfl,h1,h2⟩:=h
  unfold zU at h1
  rw[h1,Dens.ints_inv h2];rfl
noncomputable def zA3(t:TL2):TL2:=fun σ G R=>t σ G fun ds G1=>match intsOf ds with | some ns=>ns.length<64∧∀(ns':List Int),ns'.Perm ns→ns'.Pairwise (·≤·)→R (ns'.map D.int) G1 | none=>False
theorem zJs(hg:Gl X "sorted")(hm:X.mg "sorted"=none)(ha:F2 X e tl)(he:starEach [e] X.env=(false,eval e X.env)::starEach [] X.env:=by rfl)(hpl:(backTo pos (starEach [] X.env)).any (·.1)=false:=by rfl) :
  F2 X (.Call (.Name "sorted" p) [e] [] pos) (zA3 tl):=by
 refine PE.mono (zAA zGK hg hm boot_sorted (yS ha wz he) (by decide) (by decide) he hpl) ?_
 rintro σ1 H Q ⟨σ,G,R,rl,q,k⟩
 refine⟨σ,G,_,rl,q,fun ds G1 q1 l xs H1 g1 r1 n e1 d1=>?_⟩
 cases q2:intsOf ds with
 | none=>rw[q2] at q1;exact q1.elim
 | some ns =>
  rw[q2] at q1
  have hds:=zFl q2
  subst hds
  have hxs:=d1.ints_inv
  subst hxs
  refine⟨l,ns,rfl,.of e1,q1.1,fun l' ns' n' h1 h2=>?_⟩
  exact k _ G1 (q1.2 ns' h1 h2) l' _ _ (g1.trans (.fresh n')) (r1.fresh n') (r1.free n') zj (Dens.ints ns')
theorem zFm{t:TA}(hg:Gl X "range")(hm:X.mg "range"=none)(ha:PA X [a] t)(hs:starEach [a] X.env=[(false,eval a X.env)]:=by rfl) :
  PE X (.Call (.Name "range" p) [a] [] pos) (fun σ H Q=>t σ H fun vs H1=>∃ j:Int,vs=[.int j]∧∀ l,H1 l=none→Q (.ref l) (yp H1 l (.rng 0 j))):=by
 intro pins s σ H Q I h
 refine Call_ (zCB I hg hm boot_range (PyProof.Rows.callWith_type1 (yq (ha pos pins s σ H _ I h) fun us s1 ⟨vs,H1,I1,r1,q1⟩=>?_) hs rfl))
 obtain⟨j,e,q⟩:=q1
 subst e
 cases r1 with
 | cons r rr =>
  cases rr
  obtain⟨t,rfl⟩:=r
  refine call_range_1 ?_
  have hn:H1 s1.heap.objs.size=none:=I1.hok.fresh (Nat.le_refl _)
  exact⟨.ref s1.heap.objs.size,_,I1.laid (o:=.rng 0 j) (fun b u e=>Heap.get?_push_of_some _ e) (Nat.le_refl _) ⟨_,_,_,Heap.get?_push_size _ rfl⟩,rfl,q _ hn⟩
theorem zH6(hc:X.calm=true):wE X (.type "list") (fun xs H Q=>∃ p j,xs=[.ref p]∧H p=some (.rng 0 j)∧(0≤j∧j≤1000000)∧∀ l,H l=none→Q (.ref l) (yp H l (.lst ((List.range j.toNat).map fun(k:Nat)=>V.int k)))):=by
 intro pins s σ H xs us Q I r h
 obtain⟨p,j,rfl,hp,⟨h0,h1⟩,q⟩:=h
 obtain⟨u,rfl,rx⟩:=vals1 r
 cases rx
 obtain⟨t1,t2,t3,ho⟩:∃ t u v,s.heap.get? p=some { cls:=.type "range",data:=.fields #[.int 0 t,.int j u,.int 1 v] }:=I.hok p _ hp
 have hsz:Builtin.Range.rangeSize 0 j 1=((j.toNat:Nat):Int):=by rw[rangeSize_one];split<;>(first|lia|omega)
 refine call_list_range (I.ok.hd hc) (show IsRange s.heap p 0 j 1 t1 t2 t3 from ho) (small_one (by (first|lia|omega)) (by (first|lia|omega)) (by (first|lia|omega)) (by (first|lia|omega))) hsz (by (first|lia|omega)) fun h' tk acc' c' kp e hacc=>?_
 have hn:H s.heap.objs.size=none:=I.hok.fresh (Nat.le_refl _)
 refine⟨.ref s.heap.objs.size,_,I.laid (o:=.lst ((List.range j.toNat).map fun(k:Nat)=>V.int k)) kp (Nat.le_refl _) ?_,rfl,q _ hn⟩
 refine⟨?_,acc'.toList,c',?_,by rw[e]⟩
 ·rw[List.length_map,List.length_range,sizeLine_eq];(first|lia|omega)
 ·refine zCG (by simp[hacc.1]) fun i x v e1 e2=>?_
  have e2':acc'[i]?=some v:=by simpa using e2
  obtain⟨t,rfl⟩:=hacc.2 i v e2'
  rw[List.getElem?_map] at e1
  cases q':(List.range j.toNat)[i]? with
  | none=>rw[q'] at e1;cases e1
  | some k =>
   rw[q'] at e1
   cases e1
   have hk:k=i:=by
    have:=(List.getElem?_eq_some_iff.mp q').2
    simpa using this.symm
   subst hk
   refine⟨t,?_⟩
   congr 1
   (first|lia|omega)
noncomputable def zEl(t:wN):TL2:=fun σ G R=>t σ G fun ds G1=>match ds with | [.int j]=>(0≤j∧j≤1000000)∧R (yX 0 j.toNat) G1 | _=>False
theorem zI2{t:wN}{pos':Pos}(hc:X.calm=true)(hg:Gl X "list")(hm:X.mg "list"=none)(hg2:Gl X "range")(hm2:X.mg "range"=none)(ha:A2 X [a] t)(hs:starEach [a] X.env=[(false,eval a X.env)]:=by rfl)
  (he:starEach [.Call (.Name "range" p2) [a] [] pos] X.env=(false,eval (.Call (.Name "range" p2) [a] [] pos) X.env)::starEach [] X.env:=by rfl) (hpl:(backTo pos' (starEach [] X.env)).any (·.1)=false:=by rfl) :
  F2 X (.Call (.Name "list" p) [.Call (.Name "range" p2) [a] [] pos] [] pos') (zEl t):=by
 refine PE.mono (zBS (zH6 hc) hg hm (by decide +kernel) (yS (zFm hg2 hm2 ha hs) wz he) (by decide) (by decide) he hpl) ?_
 rintro σ1 H Q ⟨σ,G,R,rl,q,k⟩
 refine⟨σ,G,_,rl,q,fun ds G1 q1 vs H1 g1 r1 d1=>?_⟩
 split at q1
 ·rename_i j
  obtain⟨v,rfl,d2⟩:=zCF d1
  unfold zU at d2
  subst d2
  refine⟨j,rfl,fun l n=>⟨l,j,rfl,zj,q1.1,fun l' n'=>?_⟩⟩
  have g2:yB H1 (yp H1 l (.rng 0 j)):=.fresh n
  have r2:=r1.fresh (o:=.rng 0 j) n
  refine k _ G1 q1.2 l' _ _ ((g1.trans g2).trans (.fresh n')) (r2.fresh n') (r2.free n') zj ?_
  have:(List.range j.toNat).map (fun(k:Nat)=>V.int k)=((List.range j.toNat).map fun(k:Nat)=>(k:Int)).map V.int:=by simp
  rw[this]
  have e2:yX 0 j.toNat=((List.range j.toNat).map fun(k:Nat)=>(k:Int)).map D.int:=by simp[yX]
  rw[e2]
  exact Dens.ints _
 ·exact q1.elim
noncomputable def zPX(ta tb:zo):TL2:=fun σ G R=>ta σ G fun x G1=>tb σ G1 fun y G2=>match x,y with
 | .adr l,.int k=>match G2.m l with
  | some ds=>(0≤k∧k≤1000)∧ds.length≤1000∧R ((List.replicate k.toNat ds).flatten) G2
  | none=>False
 | _,_=>False
theorem Dens.rep{K:PySem.W.Frag}{H:Hp}{ds:List D}{xs:List V}(h:Dens K H ds xs):∀ n:Nat,Dens K H (List.replicate n ds).flatten (List.replicate n xs).flatten
 | 0=>.nil
 | n+1=>by
  rw[List.replicate_succ,List.flatten_cons,List.replicate_succ,List.flatten_cons]
  exact h.append (Dens.rep h n)
theorem zQm(ha:E2 X a ta)(hb:E2 X b tb):F2 X (.BinOp a .Mult b pos) (zPX ta tb):=by
 refine PE.mono (zK7 zPL ha hb) ?_
 rintro σ1 H Q ⟨σ,G,R,rl,q,k⟩
 refine⟨σ,G,_,rl,q,fun dx G1 q1 x H1 g1 r1 d1=>⟨σ,G1,_,rl.to g1 r1,q1,fun dy G2 q2 y H2 g2 r2 d2=>?_⟩⟩
 split at q2
 ·rename_i l i
  split at q2
  ·rename_i ds e
   obtain⟨⟨h0,h1⟩,hz,q3⟩:=q2
   have d1':=d1.grow g2
   unfold zU at d1' d2
   subst d1' d2
   obtain⟨xs,e1,e2⟩:=r2.m l ds e
   have hlen:=e2.length
   refine⟨l,i,xs,rfl,rfl,e1,by (first|lia|omega),by (first|lia|omega),?_,fun l' n'=>?_⟩
   ·have h3:i.toNat≤1000:=by (first|lia|omega)
    have h4:xs.length≤1000:=by (first|lia|omega)
    have:=Nat.mul_le_mul h4 h3
    rw[sizeLine_eq];(first|lia|omega)
   ·exact k _ G2 q3 l' _ _ ((g1.trans g2).trans (.fresh n')) (r2.fresh n') (r2.free n') zj ((e2.rep i.toNat).grow (.fresh n'))
  ·exact q2.elim
 ·exact q2.elim
noncomputable def zEm(to:zo)(t:wN):zo:=fun σ G R=>to σ G fun x G1=>match x with
 | .adr l=>match G1.m l with
  | some _=>t σ G1 fun ds G2=>match ds with
   | [d]=>(match G2.m l with | some xs=>xs.length≤1000000∧R .non (zR G2 l (xs++[d])) | none=>False)
   | _=>False
  | none=>False
 | _=>False
theorem zA4{t:wN}{apos:Pos}(ho:E2 X o to)(ha:A2 X [e] t)
  (hbase:attributeBase o "append" X.env (eval o X.env)=eval o X.env:=by rfl)
  (hfew:((backTo pos (starEach [e] X.env)).all (fun x=>!x.1)&&(backToKw pos (keywordEach [] X.env)).all (fun x=>x.1.isSome)
   && decide ([e].length+([]:List Keyword).length+(if ([]:List Keyword).isEmpty then 0 else 1)<30))=true:=by rfl)
  (hline:(apos.endLine==pos.line)=true:=by rfl) (hs:starEach [e] X.env=(false,eval e X.env)::starEach [] X.env:=by rfl) (hplain:(backTo pos (starEach [] X.env)).any (·.1)=false:=by rfl) :
  E2 X (.Call (.Attribute o "append" apos) [e] [] pos) (zEm to t):=by
 refine PE.mono (zLG PySem.F.plainAttrs_list PySem.F.slot_list_append PySem.F.type_list_append zDj ho ha hbase hfew hline hs hplain) ?_
 rintro σ1 H Q ⟨σ,G,R,rl,q,k⟩
 refine⟨σ,G,_,rl,q,fun dx G1 q1 x H1 g1 r1 d1=>?_⟩
 split at q1
 ·rename_i l
  split at q1
  ·rename_i ds0 e0
   unfold zU at d1
   subst d1
   obtain⟨xs0,a1,a2⟩:=r1.m l ds0 e0
   refine⟨.inl ⟨rfl,xs0,.of a1⟩,σ,G1,_,rl.to g1 r1,q1,fun ds G2 q2 vs H2 g2 r2 d2=>?_⟩
   split at q2
   ·rename_i d
    split at q2
    ·rename_i xs e1
     obtain⟨v,rfl,d3⟩:=zCF d2
     obtain⟨ys,b1,b2⟩:=r2.m l xs e1
     have hlen:=b2.length
     refine⟨l,ys,v,rfl,rfl,b1,by rw[sizeLine_eq];(first|lia|omega),?_⟩
     exact k _ _ q2.2 _ _ ((g1.trans g2).trans (.lst b1)) (r2.put b1 (b2.append (.cons d3 .nil))) (by unfold zU;rfl)
    ·exact q2.elim
   ·exact q2.elim
  ·exact q1.elim
 ·exact q1.elim
noncomputable def zJt(to:zo)(t:TL2):zo:=fun σ G R=>to σ G fun x G1=>match x with
 | .adr l=>match G1.m l with
  | some _=>t σ G1 fun zs G2=>match G2.m l with | some xs=>xs.length+zs.length≤1000000∧R .non (zR G2 l (xs++zs)) | none=>False
  | none=>False
 | _=>False
theorem zEn{apos:Pos}(ho:E2 X o to)(ha:F2 X e tl)
  (hbase:attributeBase o "extend" X.env (eval o X.env)=eval o X.env:=by rfl)
  (hfew:((backTo pos (starEach [e] X.env)).all (fun x=>!x.1)&&(backToKw pos (keywordEach [] X.env)).all (fun x=>x.1.isSome)
   && decide ([e].length+([]:List Keyword).length+(if ([]:List Keyword).isEmpty then 0 else 1)<30))=true:=by rfl)
  (hline:(apos.endLine==pos.line)=true:=by rfl) (hs:starEach [e] X.env=(false,eval e X.env)::starEach [] X.env:=by rfl) (hplain:(backTo pos (starEach [] X.env)).any (·.1)=false:=by rfl) :
  E2 X (.Call (.Attribute o "extend" apos) [e] [] pos) (zJt to tl):=by
 refine PE.mono (zLG PySem.F.plainAttrs_list PySem.F.slot_list_extend PySem.F.type_list_extend zJk ho (yS ha wz hs) hbase hfew hline hs hplain) ?_
 rintro σ1 H Q ⟨σ,G,R,rl,q,k⟩
 refine⟨σ,G,_,rl,q,fun dx G1 q1 x H1 g1 r1 d1=>?_⟩
 split at q1
 ·rename_i l
  split at q1
  ·rename_i ds0 e0
   unfold zU at d1
   subst d1
   obtain⟨xs0,a1,a2⟩:=r1.m l ds0 e0
   refine⟨.inl ⟨rfl,xs0,.of a1⟩,σ,G1,_,rl.to g1 r1,q1,fun zs G2 q2 l2 ys H2 g2 r2 n2 e2 d2=>?_⟩
   split at q2
   ·rename_i xs e1
    obtain⟨ws,b1,b2⟩:=r2.m l xs e1
    have hl1:=b2.length
    have hl2:=d2.length
    refine⟨l,l2,ws,ys,rfl,rfl,b1,e2,by rw[sizeLine_eq];(first|lia|omega),?_⟩
    exact k _ _ q2.2 _ _ ((g1.trans g2).trans (.lst b1)) (r2.put b1 (b2.append d2)) (by unfold zU;rfl)
   ·exact q2.elim
  ·exact q1.elim
 ·exact q1.elim
noncomputable def zLU(to:zo)(t:wN):zo:=fun σ G R=>to σ G fun x G1=>match x with
 | .adr l=>match G1.m l with
  | some _=>t σ G1 fun ds G2=>match ds with
   | [.int i]=>(match G2.m l with
    | some xs=>(0≤i∧i<xs.length∧i≤1000000)∧(match xs[i.toNat]? with | some d=>R d (zR G2 l (xs.eraseIdx i.toNat)) | none=>False)
    | none=>False)
   | _=>False
  | none=>False
 | _=>False
theorem zOO{t:wN}{apos:Pos}(ho:E2 X o to)(ha:A2 X [e] t)
  (hbase:attributeBase o "pop" X.env (eval o X.env)=eval o X.env:=by rfl)
  (hfew:((backTo pos (starEach [e] X.env)).all (fun x=>!x.1)&&(backToKw pos (keywordEach [] X.env)).all (fun x=>x.1.isSome)
   && decide ([e].length+([]:List Keyword).length+(if ([]:List Keyword).isEmpty then 0 else 1)<30))=true:=by rfl)
  (hline:(apos.endLine==pos.line)=true:=by rfl) (hs:starEach [e] X.env=(false,eval e X.env)::starEach [] X.env:=by rfl) (hplain:(backTo pos (starEach [] X.env)).any (·.1)=false:=by rfl) :
  E2 X (.Call (.Attribute o "pop" apos) [e] [] pos) (zLU to t):=by
 refine PE.mono (zLG PySem.F.plainAttrs_list PySem.F.slot_list_pop PySem.F.type_list_pop zLH ho ha hbase hfew hline hs hplain) ?_
 rintro σ1 H Q ⟨σ,G,R,rl,q,k⟩
 refine⟨σ,G,_,rl,q,fun dx G1 q1 x H1 g1 r1 d1=>?_⟩
 split at q1
 ·rename_i l
  split at q1
  ·rename_i ds0 e0
   unfold zU at d1
   subst d1
   obtain⟨xs0,a1,a2⟩:=r1.m l ds0 e0
   refine⟨.inl ⟨rfl,xs0,.of a1⟩,σ,G1,_,rl.to g1 r1,q1,fun ds G2 q2 vs H2 g2 r2 d2=>?_⟩
   split at q2
   ·rename_i i
    split at q2
    ·rename_i xs e1
     obtain⟨⟨h0,h1,h9⟩,q2⟩:=q2
     split at q2
     ·rename_i d e2
      obtain⟨v,rfl,d3⟩:=zCF d2
      unfold zU at d3
      subst d3
      obtain⟨ys,b1,b2⟩:=r2.m l xs e1
      have hlen:=b2.length
      obtain⟨z,c1,c2⟩:=b2.get e2
      refine⟨l,ys,i,i.toNat,z,rfl,rfl,b1,by (first|lia|omega),by (first|lia|omega),?_,c1,?_⟩
      ·have hi:¬ i<0:=by (first|lia|omega)
       unfold seqIndex?
       simp only[if_neg hi]
       rw[if_pos (by rw[Bool.and_eq_true];exact⟨decide_eq_true h0,decide_eq_true (by (first|lia|omega))⟩)]
      ·exact k _ _ q2 _ _ ((g1.trans g2).trans (.lst b1)) (r2.put b1 (b2.eraseIdx i.toNat)) (c2.grow (.lst b1))
     ·exact q2.elim
    ·exact q2.elim
   ·exact q2.elim
  ·exact q1.elim
 ·exact q1.elim
noncomputable def zCH:D→String→Bool
 | .tup _,T=>decide (T="tuple")
 | .bl _,T=>decide (T="bool"∨T="int")
 | .int _,T=>decide (T="int")
 | .str _,T=>decide (T="str")
 | .non,_=>false
 | .adr _,_=>false
 | .dic _,T=>decide (T="dict")
noncomputable def tys:List String:=["tuple","bool","int","str","list","dict"]
theorem zGz{T:String}(hT:T∈tys):wE X (.builtin "isinstance") (fun xs H Q=>∃ x d,xs=[x,.ty T]∧zU X.K H d x∧((∀ l,d≠.adr l)∧Q (.bl (zCH d T)) H∨∃ l ys,d=.adr l∧SqL X.K H l ys∧Q (.bl (decide (T="list"))) H)):=by
 intro pins s σ H xs us Q I r h
 obtain⟨x,d,rfl,hd,q⟩:=h
 obtain⟨u,u',rfl,rx,ry⟩:=vals2 r
 obtain rfl:u'=Value.type T:=ry
 simp only[tys,List.mem_cons,List.not_mem_nil,or_false] at hT
 rcases q with ⟨hna,q⟩ | ⟨l,ys,rfl,hs,q⟩
 ·cases d with
  | tup _ =>
   unfold zU at hd
   obtain⟨a,ys,rfl,hs,u0⟩:=hd
   cases (show u=Value.ref a from rx)
   obtain⟨u0,u0,⟨o,h1,h2,u0⟩,u0⟩:=I.tuple hs
   rcases hT with rfl | rfl | rfl | rfl | rfl | rfl<;>exact PySem.W.kia_one PySem.W.kitx_tuple I.kIn ⟨o,h1,h2⟩ (by rfl) (fun z=>nomatch z) fun tk=>⟨.bl _,H,I.tok _,rfl,q⟩
  | bl _ =>
   unfold zU at hd
   subst hd
   rcases hT with rfl | rfl | rfl | rfl | rfl | rfl<;>exact zCO I rx (.bl _) (by rfl) fun tk=>⟨.bl _,H,I.tok _,rfl,q⟩
  | int _ =>
   unfold zU at hd
   subst hd
   rcases hT with rfl | rfl | rfl | rfl | rfl | rfl<;>exact zCO I rx (.int _) (by rfl) fun tk=>⟨.bl _,H,I.tok _,rfl,q⟩
  | str _ =>
   unfold zU at hd
   subst hd
   rcases hT with rfl | rfl | rfl | rfl | rfl | rfl<;>exact zCO I rx (.str _) (by rfl) fun tk=>⟨.bl _,H,I.tok _,rfl,q⟩
  | non =>
   unfold zU at hd
   subst hd
   rcases hT with rfl | rfl | rfl | rfl | rfl | rfl<;>exact zCO I rx .non (by rfl) fun tk=>⟨.bl _,H,I.tok _,rfl,q⟩
  | dic a =>
   unfold zU at hd
   obtain⟨rfl,o,y,hs,hc⟩:=hd
   cases (show u=Value.ref a from rx)
   have h1:=(I.hok a _ hs).1
   rcases hT with rfl | rfl | rfl | rfl | rfl | rfl<;>exact PySem.W.kia_one PySem.W.kitx_dict I.kIn ⟨o,h1,hc⟩ (by rfl) (fun z=>nomatch z) fun tk=>⟨.bl _,H,I.tok _,rfl,q⟩
  | adr l=>exact absurd rfl (hna l)
 ·unfold zU at hd
  subst hd
  cases (show u=Value.ref l from rx)
  obtain⟨u0,u0,pl,u0⟩:=I.list hs
  obtain⟨o,h1,h2,u0⟩:=pl.isList
  rcases hT with rfl | rfl | rfl | rfl | rfl | rfl<;>exact PySem.W.kia_one PySem.W.kitx_list I.kIn ⟨o,h1,h2⟩ (by rfl) (fun z=>nomatch z) fun tk=>⟨.bl _,H,I.tok _,rfl,q⟩
noncomputable def zCk(T:String)(te:zo):zo:=fun σ G R=>te σ G fun d G1=>match d with
 | .adr l=>(∃ ds,Ls G1 l ds)∧R (.bl (decide (T="list"))) G1
 | d=>R (.bl (zCH d T)) G1
theorem zDF{T:String}{x:Str}(hg:Gl X "isinstance")(hm:X.mg "isinstance"=none)(hg2:Gl X x)(hm2:X.mg x=none)(hv:bootBuiltins x=some (.type T))(ha:E2 X e te)(hT:T∈tys:=by decide)
  (he:starEach [e,.Name x p2] X.env=(false,eval e X.env)::starEach [.Name x p2] X.env:=by rfl) (he2:starEach [.Name x p2] X.env=(false,eval (.Name x p2) X.env)::starEach [] X.env:=by rfl) (hpl:(backTo pos (starEach [.Name x p2] X.env)).any (·.1)=false:=by rfl)
  (hn:x≠"__name__":=by decide) (hdb:(x==("__debug__":Str))=false:=by decide) :
  E2 X (.Call (.Name "isinstance" p) [e,.Name x p2] [] pos) (zCk T te):=by
 refine PE.mono (zAA (zGz (T:=T) hT) hg hm (by decide +kernel) (yS ha (yS (zEK (v:=.ty T) hg2 hm2 hv rfl hn hdb) wz he2) he) (by decide) (by decide) he hpl) ?_
 rintro σ1 H Q ⟨σ,G,R,rl,q,k⟩
 refine⟨σ,G,_,rl,q,fun d G1 q1 v H1 g1 r1 d1=>?_⟩
 refine⟨v,d,rfl,d1,?_⟩
 cases d with
 | adr l =>
  obtain⟨⟨ds,hl⟩,q1⟩:=q1
  obtain⟨xs,hs,u0⟩:=r1.sq hl
  exact .inr ⟨l,xs,rfl,hs,k _ G1 q1 _ H1 g1 r1 (by unfold zU;rfl)⟩
 | _=>exact .inl ⟨fun l z=>(by cases z),k _ G1 q1 _ H1 g1 r1 (by unfold zU;rfl)⟩
noncomputable def zH7(i:Nat)(te:zo)(f:Int→Int→Int):yi:=fun E σ G=>match look σ i with
 | some (.int a)=>te σ G fun y G1=>match y with | .int b=>E.nx (σ.set i (some (.int (f a b)))) G1 | _=>False
 | _=>False
end
section
variable {P:Program} {w:World} {K:PySem.W.Frag} {mg:Str→Option Value} {base:Heap}
noncomputable def FgR(R:Q2):Q2:=fun d G=>∃ G',Sub G' G∧R d G'
theorem FgR.of{R:Q2}{d:D}{G:Gp}(h:R d G):FgR R d G:=⟨G,.refl G,h⟩
noncomputable def zS(N:List Str)(ds:List D):S2:=ds.map some++List.replicate (N.length-ds.length) none
theorem zDp{N:List Str}{ds:List D}{vs:List V}{G:Gp}{H:Hp}(r:yK K G H)(d:Dens K H ds vs):Rel K (zS N ds) G (L2.start N vs) H :=
 ⟨r,by simp[zS,L2.start,d.length],fun i x e=>by
  unfold zS at e
  unfold L2.start
  by_cases hi:i<ds.length
  ·rw[List.getElem?_append_left (by simpa using hi),List.getElem?_map] at e
   cases q:ds[i]? with
   | none=>rw[q] at e;cases e
   | some y =>
    rw[q] at e;cases e
    obtain⟨v,e1,e2⟩:=d.get q
    refine⟨v,?_,e2⟩
    rw[List.getElem?_append_left (by rw[List.length_map,← d.length];exact hi),List.getElem?_map,e1];rfl
  ·rw[List.getElem?_append_right (by simpa using hi),List.getElem?_replicate] at e
   split at e<;>cases e⟩
theorem zQn{x qual:Str}{st:Stmt}{f:Addr}{fd:FuncData}{N ps:List Str}{k:Nat}{sp:Sp2}(F:Fun K x qual st f fd)(S:zZ N ps (zG st))(hm:mg x=some (.ref f))(hb:Binds K fd ps [])(len:∀ ds G R,sp ds G R→ds.length=ps.length)
  (hbody:∀(cdv:Value) (A:Around) (outer:List Env) (s:Shared) (H:Hp) (E:XK),yd k (A.deeper (envOfC qual (zG st) s.heap.objs.size f cdv)) →
   ∃ t,Ps2 (zCD CX0 P w K mg base N qual (zG st) f cdv A outer s H E).nox (zW st) t∧∀ ds G R,sp ds G R→t { nx:=fun u0 G'=>FgR R .non G',rt:=FgR R } (zS N ds) G):Df P w K mg base (k+1) x ps sp:=by
 refine⟨f,fd,F.ok S ?_ ?_,hm,F.kp,hb⟩
 ·rintro vs H Q E ⟨ds,G,R,d,r,h,u0⟩
  rw[← d.length]
  exact len ds G R h
 ·intro cdv A outer s H vs Q E hr h
  obtain⟨ds,G,R,d,r,h,kk⟩:=h
  obtain⟨t,ht,q⟩:=hbody cdv A outer s H E hr
  refine⟨_,ht,zS N ds,G,_,zDp r d,q ds G R h,⟨?_,?_,?_,?_⟩⟩
  ·rintro σ G' ⟨G'',s',q'⟩ σ1 H' g' r'
   exact kk _ G'' q' _ H' g' (r'.g.sub s') (by unfold zU;rfl)
  ·intro σ G' h;exact h.elim
  ·intro σ G' h;exact h.elim
  ·rintro d' G' ⟨G'',s',q'⟩ v H' g' r' dv
   exact kk _ G'' q' _ H' g' (r'.sub s') dv
end
end L3
namespace L3
open PySem PySem.Spec PyProof.Rows L2
section
variable {P:Program} {w:World} {K:PySem.W.Frag} {mg:Str→Option Value} {base:Heap}
noncomputable abbrev zd(R:Q2):yC:={ nx:=fun u0 G'=>FgR R .non G',rt:=FgR R }
theorem zz{x qual:Str}{st:Stmt}{f:Addr}{fd:FuncData}{N ps:List Str}{k:Nat}{sp:Sp2}(t:yi)(F:Fun K x qual st f fd)(S:zZ N ps (zG st))(hm:mg x=some (.ref f))(hb:Binds K fd ps [])
  (ht:∀(cdv:Value) (A:Around) (outer:List Env) (s:Shared) (H:Hp) (E:XK),yd k (A.deeper (envOfC qual (zG st) s.heap.objs.size f cdv))→Ps2 (zCD CX0 P w K mg base N qual (zG st) f cdv A outer s H E).nox (zW st) t)
  (hs:∀ ds G R,sp ds G R→ds.length=ps.length∧t (zd R) (zS N ds) G):Df P w K mg base (k+1) x ps sp :=
 zQn F S hm hb (fun ds G R h=>(hs ds G R h).1) fun cdv A outer s H E hr=>⟨t,ht cdv A outer s H E hr,fun ds G R h=>(hs ds G R h).2⟩
end
noncomputable def zAf(osc sc:Scope):List (Str×NameKind):=sc.names.map fun(n,k)=>if (k==NameKind.free&&osc.kind==.function&&osc.names.lookup n==some .cell) then (n,NameKind.cell) else (n,k)
noncomputable def zJu(ns:List (Str×NameKind))(x:Str):Bool:=match ns.lookup x with | some .local=>true | some .cell=>true | some .free=>true | _=>false
noncomputable def zLV(osc sc:Scope)(N N0 own:List Str):Bool :=
 decide (sc.kind=.function)&&sc.names.all (fun y=>decide (y.2≠.cell))&&sc.names.all (fun y=>decide (y.2=.local→sc.names.lookup y.1=some .local))
 && sc.names.all (fun y=>decide (y.2=.free→osc.names.lookup y.1=some .cell∨osc.names.lookup y.1=some .free))
 && decide (N0.length=N.length)&&(List.range N0.length).all (fun i=>match N0[i]? with | some x=>!zJu (zAf osc sc) x||decide (N[i]?=some x∧sc.names.lookup x=some .free) | none=>true)
 && decide ((N0++own).Nodup)&&own.all (fun x=>decide ((zAf osc sc).lookup x=some .local))
set_option genInjectivity false in
structure zG0 (X:Cx) (sc:Scope) (N0 own:List Str):Prop where
 ok:zCz X sc N0
 nd:(N0++own).Nodup
 loc:∀ x∈own,(relabel sc X.env).names.lookup x=some .local
theorem zg{X:Cx}{osc sc:Scope}{N N0 own:List Str}(h:zLV osc sc N N0 own=true)(e1:X.env.scope=osc:=by rfl)(e2:X.N=N:=by rfl):zG0 X sc N0 own:=by
 subst e1 e2
 unfold zLV at h
 simp only[Bool.and_eq_true,decide_eq_true_eq,List.all_eq_true] at h
 obtain⟨⟨⟨⟨⟨⟨⟨h1,h2⟩,h3⟩,h4⟩,h5⟩,h6⟩,h7⟩,h8⟩:=h
 refine⟨⟨h1,h2,h3,h4,h5,fun i x e v=>?_⟩,h7,h8⟩
 have hi:i<N0.length:=(List.getElem?_eq_some_iff.mp e).1
 have q:=h6 i (List.mem_range.mpr hi)
 rw[e] at q
 dsimp only at q
 have hv:zJu (zAf X.env.scope sc) x=true:=by
  have v':(zAf X.env.scope sc).lookup x=some .local∨(zAf X.env.scope sc).lookup x=some .cell∨(zAf X.env.scope sc).lookup x=some .free:=v
  unfold zJu
  rcases v' with v' | v' | v'<;>rw[v']
 rw[hv] at q
 simpa using q
section
variable {X:Cx} {elt iter:Expr} {pos:Pos} {te:zo} {ifs:List Expr} {sc:Scope} {N0:List Str} {wi:TI2} {tc:TT2}
theorem zBl(x:Str){px:Pos}(hc:X.calm=true)(T:zG0 X sc N0 [x])(hi:I2 X (.Name x px) iter wi)
  (ht:∀ C s H fp pins,Ts2 (X.comp (N0++[x]) sc C s H fp pins) ifs tc) (he:∀ C s H fp pins,E2 (X.comp (N0++[x]) sc C s H fp pins) elt te)
  (hs:∀ x,foldedSetIterable iter X.env x=pure x:=by intro u0;rfl):F2 X (.ListComp elt [⟨.Name x px,iter,ifs,0⟩] sc pos) (zf wi wy tc te) :=
 zNW x hc T.ok hi T.nd (T.loc x (by simp)) ht he hs
theorem zLW(x y:Str){px py pt:Pos}{kk:Nat}(hc:X.calm=true)(T:zG0 X sc N0 [x,y])(hi:I2 X (.Tuple [.Name x px,.Name y py] kk pt) iter wi)
  (ht:∀ C s H fp pins,Ts2 (X.comp (N0++[x,y]) sc C s H fp pins) ifs tc) (he:∀ C s H fp pins,E2 (X.comp (N0++[x,y]) sc C s H fp pins) elt te)
  (hs:∀ x,foldedSetIterable iter X.env x=pure x:=by intro u0;rfl):F2 X (.ListComp elt [⟨.Tuple [.Name x px,.Name y py] kk pt,iter,ifs,0⟩] sc pos) (zf wi bd2 tc te) :=
 zNX x y hc T.ok hi T.nd (T.loc x (by simp)) (T.loc y (by simp)) ht he hs
theorem zBm(i:Nat)(x:Str){y:Str}{px py spos:Pos}(hc:X.calm=true)(T:zG0 X sc N0 [x])(hi:I2 X (.Name x px) iter wi)
  (ht:∀ C s H fp pins,Ts2 (X.comp (N0++[x]) sc C s H fp pins) ifs tc) (he:∀ C s H fp pins,E2 (X.comp (N0++[x]) sc C s H fp pins) elt te)
  (hN:X.N.Nodup) (hy:X.N[i]?=some y:=by rfl) (hl:X.env.scope.names.lookup y=some .local:=by rfl)
  (hsw:swapsWith (.ListComp elt [⟨.Name x px,iter,ifs,0⟩] sc pos) (some (.Name y py)) spos.line X.env=pure true:=by rfl)
  (hs:∀ x,foldedSetIterable iter X.env x=pure x:=by intro u0;rfl):P2 X (.Assign [.Name y py] (.ListComp elt [⟨.Name x px,iter,ifs,0⟩] sc pos) spos) (zAK i (zf wi wy tc te)) :=
 zHz i x hc T.ok hi T.nd (T.loc x (by simp)) ht he hN hy hl hsw hs
end
set_option genInjectivity false in
structure Ext (G G':Gp):Prop where
 sub:Sub G G'
 ro:G'.ro=G.ro
theorem Ext.refl(G:Gp):Ext G G:=⟨.refl G,rfl⟩
theorem Ext.trans{G G1 G2:Gp}(h:Ext G G1)(h':Ext G1 G2):Ext G G2:=⟨h.sub.trans h'.sub,h'.ro.trans h.ro⟩
theorem Ext.new{G:Gp}{l:Addr}{o:List D}(h:G.m l=none):Ext G (zR G l o):=⟨.new h,rfl⟩
theorem Ext.ls{G G':Gp}(h:Ext G G'){a:Addr}{ds:List D}(e:Ls G a ds):Ls G' a ds:=e.sub h.sub
theorem Ext.own{G G':Gp}(h:Ext G G'){A:Addr}(n:G'.m A=none):G.m A=none:=by
 cases q:G.m A with
 | none=>rfl
 | some u=>rw[h.sub.m A u q] at n;cases n
noncomputable def ze(t:zo)(σ:S2)(G:Gp)(d:D):Prop:=∀ G2,Ext G G2→∀ R:D→Gp→Prop,R d G2→t σ G2 R
noncomputable def PuT(t:TT2)(σ:S2)(G:Gp)(b:Bool):Prop:=∀ G2,Ext G G2→∀ R:Bool→Gp→Prop,R b G2→t σ G2 R
noncomputable def PuL(t:TL2)(σ:S2)(G:Gp)(ds:List D):Prop:=∀ G2,Ext G G2→∀ R:List D→Gp→Prop,R ds G2→t σ G2 R
noncomputable def PuA(t:wN)(σ:S2)(G:Gp)(ds:List D):Prop:=∀ G2,Ext G G2→∀ R:List D→Gp→Prop,R ds G2→t σ G2 R
noncomputable def PuI(t:TI2)(σ:S2)(G:Gp)(ds:List D):Prop:=∀ G2,Ext G G2→∀ R:List D→(Gp→Prop)→Gp→Prop,(∀ gd G3,Ext G2 G3→(∀ G4,Ext G3 G4→gd G4)→R ds gd G3)→t σ G2 R
theorem ze.mono{t:zo}{σ:S2}{G G':Gp}{d:D}(h:ze t σ G d)(e:Ext G G'):ze t σ G' d:=fun G2 x=>h G2 (e.trans x)
section
variable {σ:S2} {G:Gp}
theorem zE{i:Nat}{d:D}(h:look σ i=some d):ze (zB i) σ G d:=fun G2 u0 R q=>by unfold zB;rw[h];exact q
theorem yU{d:D}:ze (xC d) σ G d:=fun u0 u0 u0 q=>q
theorem zM:PuA zI σ G []:=fun u0 u0 u0 q=>q
theorem zF{ta:zo}{tr:wN}{d:D}{ds:List D}(h:ze ta σ G d)(h':PuA tr σ G ds):PuA (zA ta tr) σ G (d::ds):=fun G2 x R q=>h G2 x _ (h' G2 x _ q)
theorem yP{t:wN}{ds:List D}(h:PuA t σ G ds)(hl:ds.length≤100000):ze (yG t) σ G (.tup ds):=fun G2 x R q=>h G2 x _ ⟨by rw[sizeLine_eq];(first|lia|omega),q⟩
theorem wp{f:D→D→Gp→Q2→Prop}{ta tb:zo}{x y d:D}(ha:ze ta σ G x)(hb:ze tb σ G y)(h:∀ G2,Ext G G2→∀ R:D→Gp→Prop,R d G2→f x y G2 R):ze (zP f ta tb) σ G d:=fun G2 e R q=>ha G2 e _ (hb G2 e _ (h G2 e R q))
theorem zBU{g:Int→Int→D}{ta tb:zo}{i j:Int}(ha:ze ta σ G (.int i))(hb:ze tb σ G (.int j)):ze (zP (ya g) ta tb) σ G (g i j):=wp ha hb fun u0 u0 u0 q=>q
theorem zY{sp:Sp2}{t:wN}{ds:List D}{d:D}(ha:PuA t σ G ds)(h:∀ G2,Ext G G2→∀ R:D→Gp→Prop,R d G2→sp ds G2 R):ze (zK sp t) σ G d:=fun G2 e R q=>ha G2 e _ (h G2 e R q)
theorem zG1{sp:List D→Gp→(List D→Gp→Prop)→Prop}{t:wN}{ds ls:List D}(ha:PuA t σ G ds)(h:∀ G2,Ext G G2→∀ R:List D→Gp→Prop,R ls G2→sp ds G2 R):PuL (yw sp t) σ G ls:=fun G2 e R q=>ha G2 e _ (h G2 e R q)
theorem wK{t:zo}{b:Bool}(h:ze t σ G (.bl b)):PuT (xB t) σ G b:=fun G2 e R q=>h G2 e _ q
theorem zLX:PuT zAB σ G true:=fun u0 u0 u0 q=>q
theorem zNa{t u:TT2}{b c:Bool}(h:PuT t σ G b)(h':b=true→PuT u σ G c):PuT (zB5 t u) σ G (b&&c):=fun G2 e R q=>h G2 e _ (by
 cases b with
 | false=>simpa using q
 | true=>rw[if_pos rfl];exact h' rfl G2 e _ (by simpa using q))
theorem zH8{t u:TT2}{b c:Bool}(h:PuT t σ G b)(h':b=false→PuT u σ G c):PuT (zB9 t u) σ G (b||c):=fun G2 e R q=>h G2 e _ (by
 cases b with
 | true=>simpa using q
 | false=>rw[if_neg (by simp)];exact h' rfl G2 e _ (by simpa using q))
theorem zBH{t:TT2}{b:Bool}(h:PuT t σ G b):PuT (wn t) σ G (!b):=fun G2 e R q=>h G2 e _ q
theorem zBV{tl:TL2}{ds:List D}(h:PuL tl σ G ds):ze (zb zn tl) σ G (.tup ds):=fun G2 e R q=>h G2 e _ q
theorem zAQ{t:zo}{ds:List D}(h:ze t σ G (.tup ds)):PuI (iV t) σ G ds:=fun G2 e R q=>h G2 e _ (q _ G2 (.refl _) fun u0 u0=>trivial)
theorem zBW{t:zo}{a:Addr}{ds:List D}(h:ze t σ G (.adr a))(hr:Ls G a ds):PuI (iV t) σ G ds:=fun G2 e R q=>h G2 e _ ⟨ds,e.ls hr,q _ G2 (.refl _) fun G4 e4=>e4.ls (e.ls hr)⟩
theorem zQo{t:TL2}{ds:List D}(h:PuL t σ G ds):PuI (iF t) σ G ds:=fun G2 e R q=>h G2 e _ fun a n=>q _ _ (.new n) fun G4 e4=>e4.ls .own
end
end L3
namespace HT
open PySem PySem.Spec PyProof.Rows
section
variable {prog:Program} {w:World} {A:Around} {E:Value→Shared→Prop} {s:Shared}
theorem zLY{t b:Addr}{ws:List Value}{Q:Value→Shared→Prop}(ht:IsTup s.heap t #[])(hb:IsTup s.heap b ws.toArray)(h:Q (.ref b) s):wpAny (model prog w) A (binaryOp .Add (.ref t) (.ref b)) Q E s:=by
 obtain⟨⟨cls,dd,data,sl⟩,ho,hc,n,hd⟩:=id ht
 obtain⟨⟨cls2,dd2,data2,sl2⟩,ho2,hc2,n2,hd2⟩:=id hb
 simp only at hc hd hc2 hd2
 subst hc hd hc2 hd2
 exact concat_meets ⟨_,ho,rfl⟩ ⟨_,ho2,rfl⟩ noFill_tuple_add seq_tuple_add PySem.F.slot_tuple_add PySem.F.entry_tuple_add (PySem.F.args_tuple_add_2 _ _)
   (tuple_addW0 t b #[] ws.toArray n n2 dd dd2 sl sl2 rfl) ⟨ho,ho2,h⟩
theorem zG2{l:Addr}{vs:List Value}{Q:List Value→Shared→Prop}(hl:IsTup s.heap l vs.toArray)
  (h:Q vs { s with heap:=(s.heap.push (seqObj "list" #[] 0)).update s.heap.objs.size (Obj.mapSeq (·++vs.toArray)) }) (hsz:vs.length≤sizeLine:=by size_fits) :
  wpAny (model prog w) A (collect (.ref l)) Q E s:=by
 obtain⟨o,ho,hc,n,hd⟩:=id hl
 unfold collect
 refine wpAny_bind (wpAny_runValue (codeAny_builtin entry_proto_collect' ?_))
 show wpAny _ _ (do again (.builtin "list.__iadd__" ⟨[← newList [],.ref l],[]⟩)) _ _ s
 refine wpAny_bind (wpAny_newList (wpAny_pure ⟨Code.quiet_builtin _ (by decide +kernel),codeAny_builtin entry_list_iadd' ?_⟩))
 show wpAny _ _ (Builtin.List.listExtendWith (.ref s.heap.objs.size) (.ref l) (.ref s.heap.objs.size)) _ _ { s with heap:=s.heap.push (seqObj "list" #[] 0) }
 unfold Builtin.List.listExtendWith
 have ho':(s.heap.push (seqObj "list" #[] 0)).get? l=some o:=Heap.get?_push_of_some _ ho
 refine wpAny_bind (wpAny_typeOf (T:="tuple") ⟨o,ho',hc⟩ ?_)
 have ht:(Value.type "tuple"==Value.type "tuple")=true:=by rfl
 rw[if_pos (by rw[ht];simp)]
 refine wpAny_bind (listItems_at ho' hd ?_)
 refine wpAny_bind (listItems_at (xs:=#[]) (n:=0) (Heap.get?_push_size _ rfl) rfl ?_)
 rw[if_neg (by simp)]
 refine wpAny_bind (listUpdate_at (xs:=#[]) (n:=0) (Heap.get?_push_size _ rfl) rfl ?_ (Nat.zero_le _) (by show(#[]++vs.toArray).size≤sizeLine+1;simp only[Array.size_append,List.size_toArray,List.length_nil];(first|lia|omega)))
 refine wpAny_pure ?_
 show wpAny (model prog w) A (do
   let o ← load s.heap.objs.size
   match o.data with
   | .seq xs _=>pure xs.toList
   | _=>unsupported "internal:collect") Q E { s with heap:=(s.heap.push (seqObj "list" #[] 0)).update s.heap.objs.size (Obj.mapSeq (·++vs.toArray)) }
 refine wpAny_bind (wpAny_load (get?_update_seq (Heap.get?_push_size _ rfl) _) ?_)
 show wpAny _ _ (pure ((#[]:Array Value)++vs.toArray).toList) Q E _
 rw[show((#[]:Array Value)++vs.toArray).toList=vs by simp]
 exact wpAny_pure h
theorem zFS{Q:List Value→Shared→Prop}{r:Addr}{a b c:Int}{t u v:Tok}{n:Nat}(hh:A.handled=none)(hr:IsRange s.heap r a b c t u v)(hsmall:Builtin.Range.small a b c=true)
  (hn:Builtin.Range.rangeSize a b c=n) (hlen:n≤2 ^ 24)
  (hQ:∀ h' tk acc,(∀ b o,s.heap.get? b=some o→h'.get? b=some o)→ItemsOf (fun i v=>∃ t,v=.int (a+i*c) t) acc n→Q acc.toList { s with heap:=h',toks:=tk }) :
  wpAny (model prog w) A (collect (.ref r)) Q E s:=by
 unfold collect
 refine wpAny_bind (wpAny_runValue (codeAny_builtin PySem.F.entry_proto_collect ?_))
 rw[Around.under_plainId PySem.F.plain_proto_collect _]
 show wpAny _ A.in1 (newList []>>=fun l=>again (.builtin "list.__iadd__" ⟨[l,.ref r],[]⟩)) _ _ s
 refine wpAny_bind (wpAny_newObj_type ?_)
 refine wpAny_pure ⟨plainId_quiet PySem.F.plain_list_iadd _,codeAny_builtin PySem.F.entry_list_iadd ?_⟩
 rw[Around.under_plainId PySem.F.plain_list_iadd _]
 show wpAny _ A.in1 (Builtin.List.listExtendWith (.ref s.heap.objs.size) (.ref r) (.ref s.heap.objs.size)) _ _ _
 have hS:(s.heap.push { cls:=.type "list",data:=.seq ([]:List Value).toArray }).get? s.heap.objs.size=some { cls:=.type "list",data:=.seq #[] 0 }:=Heap.get?_push_size _ rfl
 refine wpAny_mono (wpAny_extend_range (A:=A) (R:=fun res s'=>∃ h' tk acc c',res=.ok (.ret (.ref s.heap.objs.size))∧s'={ s with heap:=h',toks:=tk }∧(∀ b o,s.heap.get? b=some o→h'.get? b=some o)∧h'.get? s.heap.objs.size=some { cls:=.type "list",dict:=none,data:=.seq acc c',slots:=#[] }∧ItemsOf (fun i v=>∃ t,v=.int (a+i*c) t) acc n)
  (s:={ s with heap:=s.heap.push { cls:=.type "list",data:=.seq ([]:List Value).toArray } }) hh (Heap.get?_push_of_some _ hr) hsmall hn hlen s.heap.objs.size (.ref s.heap.objs.size) 0 hS fun h' tk acc' c' hk hS' hacc=>?_) (fun fin s' h=>?_) (fun e s' h=>?_)
 ·exact⟨h',tk,acc',c',rfl,rfl,fun b o e=>hk b o (Nat.ne_of_lt (Heap.lt_size e)) (Heap.get?_push_of_some _ e),hS',hacc⟩
 ·have fin':∀ {r' s''},(∃ h' tk acc c',r'=(.ok (.ret (.ref s.heap.objs.size)):Result)∧s''={ s with heap:=h',toks:=tk }∧(∀ b o,s.heap.get? b=some o→h'.get? b=some o)∧h'.get? s.heap.objs.size=some { cls:=.type "list",dict:=none,data:=.seq acc c',slots:=#[] }∧ItemsOf (fun i v=>∃ t,v=.int (a+i*c) t) acc n) →
    wpAny (model prog w) A (match Value.ref s.heap.objs.size with
     | Value.ref a=>do
      match (← load a).data with
       | Data.seq xs _=>pure xs.toList
       | _=>unsupported "internal:collect"
     | _=>unsupported "internal:collect") Q E s'':=by
   rintro r' s'' ⟨h',tk,acc,c',rfl,rfl,hk,hS',hacc⟩
   show wpAny _ A (load s.heap.objs.size>>=_) _ _ _
   refine wpAny_bind (wpAny_load hS' ?_)
   exact wpAny_pure (hQ h' tk acc hk hacc)
  cases fin with
  | done f =>
   have hf:=h
   obtain⟨h',tk,acc,c',e,u0⟩:=h
   cases e
   exact fin' hf
  | again c'=>exact⟨h.1,codeAny_mono h.2 fun r s'' hr=>by
    have hf:=hr
    obtain⟨h',tk,acc,c',e,u0⟩:=hr
    subst e
    exact fin' hf⟩
 ·obtain⟨u0,u0,u0,u0,e,u0⟩:=h
  cases e
theorem zCA(r:Addr)(a b c:Int)(t u v:Tok)(n:Nat)(hsmall:Builtin.Range.small a b c=true)(hn:Builtin.Range.rangeSize a b c=n)(hlen:n≤2 ^ 24) :
  Meets (Builtin.«tuple.__new__» ⟨[.type "tuple",.ref r],[]⟩)
   (fun A R s=>A.handled=none∧IsRange s.heap r a b c t u v∧∀(h':Heap) tk acc,(∀ b o',s.heap.get? b=some o'→h'.get? b=some o')→ItemsOf (fun i v=>∃ t,v=.int (a+i*c) t) acc n→R (.ok (.ret (.ref h'.objs.size))) { s with heap:=h'.push { cls:=.type "tuple",data:=.seq acc },toks:=tk }) :=
 .of_wp fun prog w A R s h=>by
  obtain⟨hp,g,d,tk,os⟩:=s;obtain⟨hh,ht,h⟩:=h
  have hsub:=sub_tuple_self
  have hinit:=init_tuple_lookup
  have hmh:=madeHere_tuple
  have hT:Shared.TypeIs ⟨hp,g,d,tk,os⟩ (.ref r) "range":=⟨_,ht,rfl⟩
  wp_walk using wpAny_typeOf hT,zFS (A:=A.in1) hh ht hsmall hn hlen
  intro h' tk' acc hk hacc
  show wpAny _ _ (Builtin.Tuple.tupleExact acc.toList.toArray>>=fun v=>ret v) _ _ _
  unfold Builtin.Tuple.tupleExact
  refine wpAny_bind (wpAny_newObj_type ?_ (by show acc.toList.toArray.size≤sizeLine;simp only[Array.toArray_toList];rw[hacc.1,sizeLine_eq];(first|lia|omega)))
  refine wpAny_pure ⟨_,rfl,?_⟩
  have e:acc.toList.toArray=acc:=by simp
  rw[e]
  exact h h' tk' acc hk hacc
theorem zDq{Q:Value→Shared→Prop}{r:Addr}{a b c:Int}{t u v:Tok}{n:Nat}(hh:A.handled=none)(hr:IsRange s.heap r a b c t u v)(hsmall:Builtin.Range.small a b c=true)
  (hn:Builtin.Range.rangeSize a b c=n) (hlen:n≤2 ^ 24)
  (hQ:∀(h':Heap) tk acc,(∀ b o,s.heap.get? b=some o→h'.get? b=some o)→ItemsOf (fun i v=>∃ t,v=.int (a+i*c) t) acc n→Q (.ref h'.objs.size) { s with heap:=h'.push { cls:=.type "tuple",data:=.seq acc },toks:=tk }) :
  wpAny (model prog w) A (call (.type "tuple") [.ref r]) Q E s :=
 callType_new PySem.F.called_tuple (by decide) (PySem.F.typeCall_tuple_1 _) (PySem.F.newCall_tuple_1 _) (fun obj=>PySem.F.args_object_init_2 obj _) PySem.F.entry_tuple_new
  (zCA r a b c t u v n hsmall hn hlen) ⟨hh,hr,fun h' tk acc hk hacc=>⟨⟨_,Heap.get?_push_size _ rfl,rfl⟩,hQ h' tk acc hk hacc⟩⟩
end
end HT
namespace HT
open PySem PySem.Spec PyProof.Rows
section
variable {prog:Program} {w:World} {A:Around} {E:Value→Shared→Prop} {s:Shared}
end
end HT
namespace HT
open PySem PySem.Spec PyProof.Rows
end HT
namespace L3
open PySem PySem.Spec PyProof.Rows L2
section
variable {X:Cx} {a b c e o:Expr} {es:List Expr} {pos p:Pos} {ta tb te:zo}
noncomputable def yJ:D→D→Gp→Q2→Prop:=fun x y G R=>match x,y with
 | .int i,.int j=>R (.int (i+j)) G
 | .tup xs,.tup ys=>xs.length+ys.length≤1000000∧R (.tup (xs++ys)) G
 | _,_=>False
theorem OpR.or{f:Value→Value→Sem Value}{r r':R2}(h:OpR X f r)(h':OpR X f r'):OpR X f (fun x y H Q=>r x y H Q∨r' x y H Q):=by
 intro pins s σ H x y v u Q I rx ry q
 rcases q with q | q
 ·exact h pins s σ H x y v u Q I rx ry q
 ·exact h' pins s σ H x y v u Q I rx ry q
noncomputable def zOP(K:PySem.W.Frag):R2:=fun x y H Q=>∃ a b ys,x=.ref a∧y=.ref b∧SqT K H a []∧SqT K H b ys∧Q (.ref b) H
theorem zNb:OpR X (binaryOp .Add) (zOP X.K):=by
 intro pins s σ H x y v u Q I rx ry h
 obtain⟨a,b,ys,rfl,rfl,ha,hb,q⟩:=h
 cases rx
 cases ry
 obtain⟨its,r1,p1,u0⟩:=I.tuple ha
 obtain⟨its2,r2,p2,u0⟩:=I.tuple hb
 have:its=[]:=r1.nil_iff.mpr rfl
 subst this
 exact HT.zLY p1 p2 ⟨.ref b,H,I,rfl,q⟩
theorem zNc{K:PySem.W.Frag}:Fit K (fun x y H Q=>rI0 (fun i j=>.int (i+j)) x y H Q∨zOK K x y H Q∨zOP K x y H Q) yJ:=by
 intro dx dy G R x y H Q h r d1 d2 k
 unfold yJ at h
 split at h
 ·rename_i i j
  unfold zU at d1 d2
  subst d1 d2
  exact .inl ⟨i,j,rfl,rfl,k _ G h _ H (.refl H) r (by unfold zU;rfl)⟩
 ·rename_i xs ys
  obtain⟨hz,h⟩:=h
  unfold zU at d1 d2
  obtain⟨a,us,rfl,s1,t1⟩:=d1
  obtain⟨b,ws,rfl,s2,t2⟩:=d2
  have l1:=t1.length
  have l2:=t2.length
  by_cases hx:xs=[]
  ·subst hx
   have hu:us=[]:=List.length_eq_zero_iff.mp (by rw[← l1];rfl)
   subst hu
   exact .inr (.inr ⟨a,b,ws,rfl,rfl,s1,s2,k _ G h _ H (.refl H) r (by unfold zU;exact⟨b,ws,rfl,s2,by simpa using t2⟩)⟩)
  ·refine .inr (.inl ⟨a,b,us,ws,rfl,rfl,s1,s2,fun z=>hx (List.length_eq_zero_iff.mp (by rw[l1,z];rfl)),by rw[sizeLine_eq];(first|lia|omega),fun z=>?_,fun u0 p hp=>?_⟩)
   ·have hy:ys=[]:=List.length_eq_zero_iff.mp (by rw[l2,z];rfl)
    subst hy
    exact k _ G h _ H (.refl H) r (by unfold zU;exact⟨a,us,rfl,s1,by simpa using t1⟩)
   ·exact k _ G h _ _ (.fresh hp) (r.fresh hp) (by unfold zU;exact⟨p,us++ws,rfl,.of zj,(t1.append t2).grow (.fresh hp)⟩)
 ·exact h.elim
theorem wM(ha:E2 X a ta)(hb:E2 X b tb):E2 X (.BinOp a .Add b pos) (zP yJ ta tb):=zGH (zO7.or (zNO.or zNb)) zNc ha hb
noncomputable def zCo(ta tb:zo):TL2:=fun σ G R=>ta σ G fun x G1=>tb σ G1 fun y G2=>match x,y with
 | .adr l,.adr m=>∃ xs ys,G2.m l=some xs∧G2.m m=some ys∧xs.length+ys.length≤1000000∧R (xs++ys) G2
 | _,_=>False
theorem zFn(ha:E2 X a ta)(hb:E2 X b tb):F2 X (.BinOp a .Add b pos) (zCo ta tb):=by
 refine PE.mono (zK7 zPK ha hb) ?_
 rintro σ1 H Q ⟨σ,G,R,rl,q,k⟩
 refine⟨σ,G,_,rl,q,fun dx G1 q1 x H1 g1 r1 d1=>⟨σ,G1,_,rl.to g1 r1,q1,fun dy G2 q2 y H2 g2 r2 d2=>?_⟩⟩
 split at q2
 ·rename_i l m
  obtain⟨xs,ys,e1,e2,hz,q3⟩:=q2
  have d1':=d1.grow g2
  unfold zU at d1' d2
  subst d1' d2
  obtain⟨us,a1,a2⟩:=r2.m l xs e1
  obtain⟨ws,b1,b2⟩:=r2.m m ys e2
  have l1:=a2.length
  have l2:=b2.length
  refine⟨l,m,us,ws,rfl,rfl,a1,b1,by rw[sizeLine_eq];(first|lia|omega),fun p hp=>?_⟩
  exact k _ G2 q3 p _ _ ((g1.trans g2).trans (.fresh hp)) (r2.fresh hp) (r2.free hp) zj ((a2.append b2).grow (.fresh hp))
 ·exact q2.elim
noncomputable def zI3(t:wN):TL2:=fun σ G R=>t σ G fun ds G1=>match ds with
 | [d]=>∃ es:List D,zGw G1 d es∧R es G1
 | _=>False
theorem zLZ{t:wN}(hg:Gl X "list")(hm:X.mg "list"=none)(ha:A2 X [e] t)(he:starEach [e] X.env=(false,eval e X.env)::starEach [] X.env:=by rfl)(hpl:(backTo pos (starEach [] X.env)).any (·.1)=false:=by rfl) :
  F2 X (.Call (.Name "list" p) [e] [] pos) (zI3 t):=by
 refine PE.mono (zBS zGF hg hm (by decide +kernel) ha (by decide) (by decide) he hpl) ?_
 rintro σ1 H Q ⟨σ,G,R,rl,q,k⟩
 refine⟨σ,G,_,rl,q,fun ds G1 q1 vs H1 g1 r1 d1=>?_⟩
 split at q1
 ·rename_i d
  obtain⟨es,e1,q1⟩:=q1
  obtain⟨v,rfl,d2⟩:=zCF d1
  obtain⟨a,xs,rfl,s1,t1⟩:=zEN r1 d2 e1
  refine⟨a,xs,rfl,s1,fun l' n'=>?_⟩
  exact k _ G1 q1 l' _ _ (g1.trans (.fresh n')) (r1.fresh n') (r1.free n') zj (t1.grow (.fresh n'))
 ·exact q1.elim
theorem zJv(hc:X.calm=true):wE X (.type "tuple") (fun xs H Q=>∃ p j,xs=[.ref p]∧H p=some (.rng 0 j)∧(0≤j∧j≤1000000)∧∀ l,H l=none→Q (.ref l) (yp H l (.tup ((List.range j.toNat).map fun(k:Nat)=>V.int k)))):=by
 intro pins s σ H xs us Q I r h
 obtain⟨p,j,rfl,hp,⟨h0,h1⟩,q⟩:=h
 obtain⟨u,rfl,rx⟩:=vals1 r
 cases rx
 obtain⟨t1,t2,t3,ho⟩:∃ t u v,s.heap.get? p=some { cls:=.type "range",data:=.fields #[.int 0 t,.int j u,.int 1 v] }:=I.hok p _ hp
 have hsz:Builtin.Range.rangeSize 0 j 1=((j.toNat:Nat):Int):=by rw[rangeSize_one];split<;>(first|lia|omega)
 refine HT.zDq (I.ok.hd hc) (show IsRange s.heap p 0 j 1 t1 t2 t3 from ho) (small_one (by (first|lia|omega)) (by (first|lia|omega)) (by (first|lia|omega)) (by (first|lia|omega))) hsz (by (first|lia|omega)) fun h' tk acc kp hacc=>?_
 have I1:zV X pins σ H { s with heap:=h',toks:=tk }:=I.kept (t':=tk) kp
 have hn:H h'.objs.size=none:=I1.hok.fresh (Nat.le_refl _)
 refine⟨.ref h'.objs.size,_,I1.laid (t':=tk) (o:=.tup ((List.range j.toNat).map fun(k:Nat)=>V.int k)) (fun b ob q=>Heap.get?_push_of_some _ q) (Nat.le_refl _) ?_,rfl,q _ hn⟩
 refine⟨?_,acc.toList,?_,by simpa using zC8.new _ _⟩
 ·rw[List.length_map,List.length_range,sizeLine_eq];(first|lia|omega)
 ·refine zCG (by simp[hacc.1]) fun i x v e1 e2=>?_
  have e2':acc[i]?=some v:=by simpa using e2
  obtain⟨t,rfl⟩:=hacc.2 i v e2'
  rw[List.getElem?_map] at e1
  cases q':(List.range j.toNat)[i]? with
  | none=>rw[q'] at e1;cases e1
  | some k =>
   rw[q'] at e1
   cases e1
   have hk:k=i:=by
    have:=(List.getElem?_eq_some_iff.mp q').2
    simpa using this.symm
   subst hk
   refine⟨t,?_⟩
   congr 1
   (first|lia|omega)
noncomputable def zFo(t:wN):zo:=fun σ G R=>t σ G fun ds G1=>match ds with | [.int j]=>(0≤j∧j≤1000000)∧R (.tup (yX 0 j.toNat)) G1 | _=>False
theorem zLa{t:wN}{pos' p2:Pos}(hc:X.calm=true)(hg:Gl X "tuple")(hm:X.mg "tuple"=none)(hg2:Gl X "range")(hm2:X.mg "range"=none)(ha:A2 X [a] t)(hs:starEach [a] X.env=[(false,eval a X.env)]:=by rfl)
  (he:starEach [.Call (.Name "range" p2) [a] [] pos] X.env=(false,eval (.Call (.Name "range" p2) [a] [] pos) X.env)::starEach [] X.env:=by rfl) (hpl:(backTo pos' (starEach [] X.env)).any (·.1)=false:=by rfl) :
  E2 X (.Call (.Name "tuple" p) [.Call (.Name "range" p2) [a] [] pos] [] pos') (zFo t):=by
 refine PE.mono (zBS (zJv hc) hg hm (by decide +kernel) (yS (zFm hg2 hm2 ha hs) wz he) (by decide) (by decide) he hpl) ?_
 rintro σ1 H Q ⟨σ,G,R,rl,q,k⟩
 refine⟨σ,G,_,rl,q,fun ds G1 q1 vs H1 g1 r1 d1=>?_⟩
 split at q1
 ·rename_i j
  obtain⟨v,rfl,d2⟩:=zCF d1
  unfold zU at d2
  subst d2
  refine⟨j,rfl,fun l n=>⟨l,j,rfl,zj,q1.1,fun l' n'=>?_⟩⟩
  have g2:yB H1 (yp H1 l (.rng 0 j)):=.fresh n
  have r2:=r1.fresh (o:=.rng 0 j) n
  refine k _ G1 q1.2 _ _ ((g1.trans g2).trans (.fresh n')) (r2.fresh n') ?_
  have:(List.range j.toNat).map (fun(k:Nat)=>V.int k)=((List.range j.toNat).map fun(k:Nat)=>(k:Int)).map V.int:=by simp
  rw[this]
  have e2:yX 0 j.toNat=((List.range j.toNat).map fun(k:Nat)=>(k:Int)).map D.int:=by simp[yX]
  rw[e2]
  unfold zU
  exact⟨l',_,rfl,.of zj,Dens.ints _⟩
 ·exact q1.elim
noncomputable abbrev TO2:=S2→Gp→(Option Int→Gp→Prop)→Prop
noncomputable def lO(K:PySem.W.Frag)(t:TO2):TO:=fun σ1 H Q=>∃ σ G R,Rel K σ G σ1 H∧t σ G R∧∀ o G',R o G'→∀ H',yB H H'→yK K G' H'→Q o H'
noncomputable def O2(X:Cx)(e:Option Expr)(t:TO2):Prop:=PO X e (lO X.K t)
noncomputable def zCS:TO2:=fun u0 G R=>R none G
noncomputable def zFp(t:zo):TO2:=fun σ G R=>t σ G fun d G1=>match d with | .int i=>R (some i) G1 | _=>False
theorem zLb:O2 X none zCS:=by
 intro pins s σ1 H Q I h
 refine zNM pins s σ1 H Q I ?_
 obtain⟨σ,G,R,r,q,k⟩:=h
 exact k none G q H (.refl H) r.g
theorem zLc(h:E2 X e te):O2 X (some e) (zFp te):=by
 intro pins s σ1 H Q I q
 refine zNN h pins s σ1 H Q I ?_
 obtain⟨σ,G,R,r,q,k⟩:=q
 refine⟨σ,G,_,r,q,fun d G1 q1 v H1 g1 r1 d1=>?_⟩
 cases d with
 | int i =>
  unfold zU at d1
  exact⟨i,d1,k _ G1 q1 H1 g1 r1⟩
 | _=>exact q1.elim
noncomputable def cutD(xs:List D)(lo hi:Option Int):List D:=(xs.drop (HT.sIx xs.length 0 lo)).take (HT.sIx xs.length xs.length hi-HT.sIx xs.length 0 lo)
end
section
variable {σ:S2} {G:Gp}
theorem yl{α:Type}{ds:List α}{i:Nat}{x:α}(h:ds[i]?=some x):ds.take (i+1)=ds.take i++[x]:=by
 rw[List.take_add_one,h];rfl
theorem wa{wi:TI2}{bd:D→Option (List D)}{tc:TT2}{te:zo}{ds:List D}(p:D→Bool)(f:D→D)(us:D→List D)(hw:PuI wi σ G ds)
  (hx:∀ x∈ds,bd x=some (us x)∧PuT tc (σ++(us x).map some) G (p x)∧(p x=true→ze te (σ++(us x).map some) G (f x))):PuL (zf wi bd tc te) σ G ((ds.filter p).map f):=by
 intro G2 e R q
 refine hw G2 e _ fun gd G3 e3 hgd A nA=>?_
 refine⟨fun i acc G'=>G'=zR G3 A acc∧acc=((ds.take i).filter p).map f,⟨rfl,by simp⟩,?_,?_,?_⟩
 ·rintro i acc G' hi ⟨rfl,rfl⟩
  refine⟨hgd _ (.new nA),zH,?_⟩
  rw[List.length_map]
  exact Nat.le_trans (List.length_filter_le _ _) (by rw[List.length_take];(first|lia|omega))
 ·rintro i x acc G' hi ⟨rfl,rfl⟩
  obtain⟨hb,ht,he⟩:=hx x (List.mem_of_getElem? hi)
  rw[hb]
  dsimp only
  have ex:Ext G (zR G3 A (((ds.take i).filter p).map f)):=(e.trans e3).trans (.new nA)
  refine ht _ ex _ ?_
  cases hp:p x with
  | false =>
   rw[if_neg (by simp)]
   exact .of ⟨rfl,by rw[yl hi];simp[hp]⟩
  | true =>
   rw[if_pos rfl]
   refine he hp _ ex _ ⟨zH,.of ⟨zAs,by rw[yl hi];simp[hp]⟩⟩
 ·rintro acc G' ⟨rfl,rfl⟩
  exact⟨G2,e3.own nA,e3.sub.trans (.new nA),by rw[List.take_length];exact q⟩
theorem zBn{wi:TI2}{bd:D→Option (List D)}{te:zo}{ds:List D}(f:D→D)(us:D→List D)(hw:PuI wi σ G ds)
  (hx:∀ x∈ds,bd x=some (us x)∧ze te (σ++(us x).map some) G (f x)):PuL (zf wi bd zAB te) σ G (ds.map f):=by
 have:=wa (tc:=zAB) (fun u0=>true) f us hw fun x h=>⟨(hx x h).1,zLX,fun u0=>(hx x h).2⟩
 rwa [List.filter_eq_self.mpr (fun u0 u0=>rfl)] at this
theorem zBX{t:wN}{j:Int}(h:PuA t σ G [.int j])(hj:-1000000≤j∧j≤1000000):PuI (iR1 t) σ G (yX 0 j.toNat):=fun G2 e R q=>h G2 e _ ⟨hj,q _ G2 (.refl _) fun u0 u0=>trivial⟩
theorem zJw{t:wN}{i j:Int}(h:PuA t σ G [.int i,.int j])(hj:(-1000000≤i∧i≤1000000)∧-1000000≤j∧j≤1000000):PuI (iR2 t) σ G (yX i (j-i).toNat):=fun G2 e R q=>h G2 e _ ⟨hj,q _ G2 (.refl _) fun u0 u0=>trivial⟩
theorem zAe.nil:zAe [] []:=.refl _
theorem zAe.keep{o:Option D}{r r':S2}(h:zAe r r'):zAe (o::r) (o::r'):=⟨by simp[h.len],fun i d e=>by
 cases i with
 | zero=>simpa using e
 | succ i=>simpa using h.val i d (by simpa using e)⟩
theorem zAe.skip{o:Option D}{r r':S2}(h:zAe r r'):zAe (none::r) (o::r'):=⟨by simp[h.len],fun i d e=>by
 cases i with
 | zero=>simp at e
 | succ i=>simpa using h.val i d (by simpa using e)⟩
theorem zI4{σ:S2}{G:Gp}:Fg (fun σ' G'=>σ'=σ∧G'=G)=fun σ' G'=>zAe σ σ'∧Sub G G':=by
 funext σ' G'
 apply propext
 constructor
 ·rintro⟨u0,u0,h1,h2,rfl,rfl⟩
  exact⟨h1,h2⟩
 ·rintro⟨h1,h2⟩
  exact⟨σ,G,h1,h2,rfl,rfl⟩
noncomputable def wV(wi:TI2)(g:TG2)(tb:yi):yi:=fun E σ G=>Fg (fun σ' G'=>zQg wi g tb E σ' G') σ G
theorem wj{X:Cx}{tg iter:Expr}{pos:Pos}{wi:TI2}{g:TG2}{tb:yi}{body:List Stmt}(hp:PassesOwn (model X.prog X.w) X.A X.env X.xe)(hc:X.calm=true)(hi:I2 X tg iter wi)(hg:G2 X tg g)(hb:Ps2 X body tb)
  (hs:∀ x,foldedSetIterable iter X.env x=pure x:=by intro u0;rfl):P2 X (.For tg iter body [] pos) (wV wi g tb):=by
 refine PS.mono (zQh hp hc hi hg hb hs) ?_
 rintro E σ1 H ⟨σ,G,D2,r,⟨σ',G',s1,s2,q⟩,k⟩
 exact⟨σ',G',D2,r.sub s1 s2,q,k⟩
theorem zLd{wi:TI2}{g:TG2}{tb:yi}{E:yC}{ds:List D}(hw:PuI wi σ G ds)
  (hb:∀ x∈ds,∀ G1,Ext G G1→g x σ G1 fun σ2 G2=>tb { E with nx:=fun σ' G'=>zAe σ σ'∧Sub G1 G',ct:=fun σ' G'=>zAe σ σ'∧Sub G1 G',bk:=E.nx } σ2 G2) (h:∀ G1,Ext G G1→E.nx σ G1) {σ0:S2} (hf:zAe σ σ0:=by exact .refl _):wV wi g tb E σ0 G:=by
 refine⟨σ,G,hf,.refl G,?_⟩
 refine hw G (.refl G) _ fun gd G3 e3 hgd=>⟨fun i σ' G'=>σ'=σ∧G'=G3,⟨rfl,rfl⟩,?_,?_,?_⟩
 ·rintro i σ' G' u0 ⟨rfl,rfl⟩
  exact hgd _ (.refl _)
 ·rintro i x σ' G' hi ⟨rfl,rfl⟩
  rw[zI4]
  exact hb x (List.mem_of_getElem? hi) _ e3
 ·rintro σ' G' ⟨rfl,rfl⟩
  exact h _ e3
end
noncomputable def zJx(ds:List D)(gd:Gp→Prop)(G1:Gp)(g:TG2)(tb:yi)(E:yC)(σ:S2):Prop:=∃ Pv:Nat→S2→Gp→Prop,Pv 0 σ G1∧(∀ i σ G,i≤ds.length→Pv i σ G→gd G) ∧
 (∀ i x σ G,ds[i]?=some x→Pv i σ G→g x σ G fun σ2 G2=>tb { E with nx:=Fg (Pv (i+1)),ct:=Fg (Pv (i+1)),bk:=E.nx } σ2 G2)∧∀ σ G,Pv ds.length σ G→E.nx σ G
theorem zPY{σ:S2}{I:Gp→Prop}:Fg (fun σ' G'=>σ'=σ∧I G')=fun σ' G'=>zAe σ σ'∧∃ G'',Sub G'' G'∧I G'':=by
 funext σ' G'
 apply propext
 constructor
 ·rintro⟨u0,G'',h1,h2,rfl,h3⟩
  exact⟨h1,G'',h2,h3⟩
 ·rintro⟨h1,G'',h2,h3⟩
  exact⟨σ,G'',h1,h2,rfl,h3⟩
theorem zAa{ds:List D}{gd:Gp→Prop}{G1:Gp}{g:TG2}{tb:yi}{E:yC}{σ:S2}(I:Nat→Gp→Prop)(h0:I 0 G1)(hg:∀ i G',I i G'→gd G')
  (hb:∀ i x,ds[i]?=some x→∀ G2,I i G2→g x σ G2 fun σ2 G3=>tb { E with nx:=fun σ' G'=>zAe σ σ'∧∃ G'',Sub G'' G'∧I (i+1) G'',ct:=fun σ' G'=>zAe σ σ'∧∃ G'',Sub G'' G'∧I (i+1) G'',bk:=E.nx } σ2 G3)
  (h:∀ G2,I ds.length G2→E.nx σ G2):zJx ds gd G1 g tb E σ:=by
 refine⟨fun i σ' G'=>σ'=σ∧I i G',⟨rfl,h0⟩,?_,?_,?_⟩
 ·rintro i σ' G' u0 ⟨u0,h⟩
  exact hg i G' h
 ·rintro i x σ' G' hi ⟨rfl,hI⟩
  rw[zPY]
  exact hb i x hi G' hI
 ·rintro σ' G' ⟨rfl,hI⟩
  exact h G' hI
noncomputable def zOQ(ds:List D)(gd:Gp→Prop)(G1:Gp)(A:Addr)(bd:D→Option (List D))(tc:TT2)(te:zo)(σ:S2)(R:List D→Gp→Prop):Prop:=∃ Pv:Nat→List D→Gp→Prop,Pv 0 [] (zR G1 A [])∧(∀ i acc G,i≤ds.length→Pv i acc G→gd G∧G.m A=some acc∧acc.length≤i) ∧
 (∀ i x acc G,ds[i]?=some x→Pv i acc G→match bd x with
  | some us=>tc (σ++us.map some) G fun b G3=>if b=true then te (σ++us.map some) G3 fun d G4=>G4.m A=some acc∧FgG (Pv (i+1) (acc++[d])) (zR G4 A (acc++[d])) else FgG (Pv (i+1) acc) G3
  | none=>False)∧∀ acc G,Pv ds.length acc G→∃ G',G'.m A=none∧Sub G' G∧R acc G'
theorem zEO{wi:TI2}{bd:D→Option (List D)}{tc:TT2}{te:zo}{σ:S2}{G:Gp}{R:List D→Gp→Prop}(h:wi σ G fun ds gd G1=>∀ A,G1.m A=none→zOQ ds gd G1 A bd tc te σ R):zf wi bd tc te σ G R:=h
theorem zDG{ds:List D}{gd:Gp→Prop}{G1:Gp}{bd:D→Option (List D)}{tc:TT2}{te:zo}{σ:S2}{R:List D→Gp→Prop}{A:Addr}(I:Nat→List D→Gp→Prop)(h0:I 0 [] (zR G1 A []))(hg:∀ i acc G',I i acc G'→gd G'∧G'.m A=some acc∧acc.length≤i)
  (hb:∀ i x acc G',ds[i]?=some x→I i acc G'→∃ us,bd x=some us∧tc (σ++us.map some) G' fun b G3=>if b=true then te (σ++us.map some) G3 fun d G4=>G4.m A=some acc∧FgG (I (i+1) (acc++[d])) (zR G4 A (acc++[d])) else FgG (I (i+1) acc) G3)
  (h:∀ acc G',I ds.length acc G'→∃ G'',G''.m A=none∧Sub G'' G'∧R acc G''):zOQ ds gd G1 A bd tc te σ R:=by
 refine⟨I,h0,fun i acc G' u0 q=>hg i acc G' q,fun i x acc G' hi q=>?_,h⟩
 obtain⟨us,e,q⟩:=hb i x acc G' hi q
 rw[e]
 exact q
noncomputable def zFq:Sp2:=fun ds G R=>∃(a:Addr) (ns:List Int),ds=[.adr a]∧G.ro a=some (ns.map D.int)∧ns.length≤63∧(∀ l,G.m l=none)∧R (.bl true) G
theorem zPZ{K:PySem.W.Frag}{H:Hp}{a:Addr}{ns:List Int}(hl:ns.length≤63)(hO:zNT H)(hS:SqL K H a (ns.map V.int)):lSp K zFq [.ref a] H (fun v u0=>v=.bl true) fun u0 u0 u0=>False:=by
 refine⟨[.adr a],⟨fun u0=>none,fun b=>if b=a then some (ns.map D.int) else none⟩,fun d u0=>d=.bl true,.cons (by unfold zU;rfl) .nil,⟨fun b ds e=>(by cases e),fun b ds e=>?_⟩,⟨a,ns,rfl,by simp,hl,fun u0=>rfl,rfl⟩,fun d G' q v H' g r dv=>?_⟩
 ·by_cases hb:b=a
  ·subst hb
   simp at e
   subst e
   refine⟨_,?_,Dens.ints ns⟩
   rcases hS with h | h
   ·rcases hO b with h' | ⟨o,xs,h'⟩ | ⟨ps,h'⟩
    ·rcases h with h | ⟨o,h⟩<;>(rw[h'] at h;cases h)
    ·rcases h with h | ⟨o',h⟩
     ·rw[h'] at h;cases h
     ·exact .inl ⟨o',h⟩
    ·rcases h with h | ⟨o',h⟩<;>(rw[h'] at h;cases h)
   ·exact .inr h
  ·simp[hb] at e
 ·subst q
  unfold zU at dv
  exact dv
noncomputable def OkS(s:Int)(b:Bool):Prop:=b=false→0≤s∧s<2147483647
noncomputable def zAR(G:Gp)(l:Addr):Prop:=∃ s b,G.m l=some [.int s,.bl b]∧OkS s b
noncomputable def Dr(l:Addr)(G G':Gp):Prop:=∃ s b,G'=zR G l [.int s,.bl b]∧OkS s b
theorem Dr.st{l:Addr}{G G':Gp}(h:Dr l G G'):zAR G' l:=by
 obtain⟨s,b,rfl,h⟩:=h
 exact⟨s,b,zH,h⟩
theorem Dr.trans{l:Addr}{G G1 G2:Gp}(h:Dr l G G1)(h':Dr l G1 G2):Dr l G G2:=by
 obtain⟨s,b,rfl,h⟩:=h
 obtain⟨s',b',rfl,h'⟩:=h'
 exact⟨s',b',zAs,h'⟩
theorem zNd{G:Gp}{l:Addr}{o:List D}(h:G.m l=some o):zR G l o=G:=by
 cases G with
 | mk m ro =>
  unfold zR
  congr 1
  funext b
  by_cases hb:b=l
  ·subst hb;rw[if_pos rfl];exact h.symm
  ·rw[if_neg hb]
theorem Dr.refl{l:Addr}{G:Gp}(h:zAR G l):Dr l G G:=by
 obtain⟨s,b,h1,h2⟩:=h
 exact⟨s,b,(zNd h1).symm,h2⟩
theorem Dr.ro{l:Addr}{G G':Gp}(h:Dr l G G'):G'.ro=G.ro:=by
 obtain⟨s,b,rfl,h⟩:=h;rfl
theorem Dr.ne{l a:Addr}{G G':Gp}(h:Dr l G G')(ha:a≠l):G'.m a=G.m a:=by
 obtain⟨s,b,rfl,h⟩:=h;exact zQ ha
theorem Dr.none{l a:Addr}{G G':Gp}(h:Dr l G G')(s:zAR G l)(ha:G.m a=none):G'.m a=none:=by
 obtain⟨u0,u0,h1,u0⟩:=s
 rw[h.ne (fun e=>by subst e;rw[h1] at ha;cases ha)];exact ha
theorem zAR.ne{l a:Addr}{G:Gp}(s:zAR G l)(ha:G.m a=none):a≠l:=fun e=>by
 obtain⟨u0,u0,h1,u0⟩:=s
 subst e;rw[h1] at ha;cases ha
theorem zAR.ext{l:Addr}{G G':Gp}(s:zAR G l)(h:Sub G G'):zAR G' l:=by
 obtain⟨x,b,h1,h2⟩:=s
 exact⟨x,b,h.m l _ h1,h2⟩
theorem Dr.sub{l:Addr}{G G1 G2:Gp}(h:Dr l G1 G2)(e:Sub G G1):∃ G',Dr l G G'∧Sub G' G2:=by
 obtain⟨s,b,rfl,h⟩:=h
 refine⟨zR G l [.int s,.bl b],⟨s,b,rfl,h⟩,⟨fun a o q=>?_,fun a o q=>e.ro a o q⟩⟩
 by_cases ha:a=l
 ·subst ha;rw[zH] at q ⊢;exact q
 ·rw[zQ ha] at q ⊢;exact e.m a o q
theorem zDH{α:Type}(x:α)(r:List α):atI (x::r) 0=some x:=zCP (j:=0) rfl
theorem zG3{α:Type}(x y:α)(r:List α):atI (x::y::r) 1=some y:=zCP (j:=1) rfl
theorem zLe{α:Type}(x y z:α)(r:List α):atI (x::y::z::r) 2=some z:=zCP (j:=2) rfl
theorem zDI{x:D}{r:List D}{G:Gp}{R:Q2}:zi (.tup (x::r)) (.int 0) G R=R x G:=by simp only[zi,zDH]
theorem zDJ{x y:D}{r:List D}{G:Gp}{R:Q2}:zi (.tup (x::y::r)) (.int 1) G R=R y G:=by simp only[zi,zG3]
theorem zEo{x y z:D}{r:List D}{G:Gp}{R:Q2}:zi (.tup (x::y::z::r)) (.int 2) G R=R z G:=by simp only[zi,zLe]
theorem zBo{x:D}{ng:Bool}{ds:List D}{G:Gp}{R:Q2}:fIn ng x (.tup ds) G R=(flat 8 x=true∧(∀ d∈ds,flat 8 d=true)∧R (.bl (if ng then !ds.any fun z=>wf z x else ds.any fun z=>wf z x)) G):=rfl
theorem zH9:(0≤sizeLine)=True:=by rw[sizeLine_eq];simp
theorem zIA:(1≤sizeLine)=True:=by rw[sizeLine_eq];simp
theorem zIB:(2≤sizeLine)=True:=by rw[sizeLine_eq];simp
theorem zIC:(3≤sizeLine)=True:=by rw[sizeLine_eq];simp
theorem zAS(p:Prop):(True∧p)=p:=by simp
theorem zBp{p q:Prop}:(if true=true then p else q)=p:=if_pos rfl
theorem zBq{p q:Prop}:(if false=true then p else q)=q:=if_neg (by simp)
end L3
namespace L3
open PySem PySem.Spec PyProof.Rows L2
section
variable {X:Cx} {pins:List (Addr×Obj)} {σ1:L2.St} {H:Hp} {s:Shared} {A:Around}
end
section
variable {X:Cx} {e o:Expr} {es:List Expr} {to:zo} {t:wN} {name:Str} {apos cpos:Pos}
end
end L3
namespace HT
open PySem PySem.Spec PyProof.Rows
section
variable {prog:Program} {w:World} {A:Around} {R:Result→Shared→Prop} {I:Addr} {fp wr:List Addr} {n:Nat} {P:Nat→Value→Prop} {St:Nat→Heap→Prop}
end
section
variable {prog:Program} {w:World} {A:Around} {E:Value→Shared→Prop} {s:Shared}
theorem IsTup.at'{h h':Heap}{a:Addr}{its:Array Value}(x:IsTup h a its)(k:∀ o,h.get? a=some o→h'.get? a=some o):IsTup h' a its:=let ⟨o,h1,h2,h3⟩:=x;⟨o,k o h1,h2,h3⟩
end
end HT
namespace L3
open PySem PySem.Spec PyProof.Rows L2
section
variable {X:Cx} {a b c d e o:Expr} {es:List Expr} {pos p:Pos} {ta tb tc td te:zo} {tl:TL2}
theorem zI5{x:Str}{n:Int}{t:Tok}(hg:Gl X x)(hm:X.mg x=some (.int n t))(hd:(x==("__debug__":Str))=false:=by decide):E2 X (.Name x pos) (xC (.int n)):=by
 refine PE.mono (zIm (v:=.int n) hg hm ⟨t,rfl⟩ hd) ?_
 rintro σ1 H Q ⟨σ,G,R,r,q,k⟩
 exact k _ G q _ H (.refl H) r.g (by unfold zU;rfl)
theorem zG4{A:Around}{prog:Program}{w:World}{bs:List Bool}:TruthOf prog w A (fun i v=>(bs.map Value.bool).toArray[i]?=some v) (fun i=>bs.getD i false):=by
 intro i v s Q E h q
 have hi:i<bs.length:=by
  have:=(Array.getElem?_eq_some_iff.mp h).1
  simpa using this
 have:v=.bool bs[i]:=by
  have:=h
  simp[hi] at this
  exact this.symm
 subst this
 have e:bs.getD i false=bs[i]:=by simp[List.getD,hi]
 have q':Q (bs.getD i false) s:=q
 rw[e] at q'
 exact wpAny_truthy_bool q'
theorem all_range(bs:List Bool):(List.range bs.length).all (fun i=>bs.getD i false)=bs.all id:=by
 rw[Bool.eq_iff_iff]
 simp only[List.all_eq_true,List.mem_range,id]
 constructor
 ·intro h x hx
  obtain⟨i,hi⟩:=List.getElem?_of_mem hx
  have hl:i<bs.length:=(List.getElem?_eq_some_iff.mp hi).1
  have:=h i hl
  simp[List.getD,hi] at this
  exact this
 ·intro h i hi
  have:bs.getD i false=bs[i]:=by simp[List.getD,hi]
  rw[this]
  exact h _ (List.getElem_mem _)
theorem zEp:∀ {bs:List Bool} {us:List Value},zh (bs.map V.bl) us→us=bs.map Value.bool
 | [],_,h=>by cases h;rfl
 | b::r,_,h=>by
  rw[List.map_cons] at h
  cases h with
  | cons h1 h2=>rw[zEp h2,(show _=Value.bool b from h1)];rfl
theorem zJy(hc:X.calm=true):wE X (.builtin "all") (fun xs H Q=>∃ l bs,xs=[.ref l]∧SqL X.K H l (List.map V.bl bs)∧Q (.bl (bs.all id)) H):=by
 intro pins s σ H xs us Q I r h
 obtain⟨l,bs,rfl,hs,q⟩:=h
 obtain⟨u,rfl,rx⟩:=vals1 r
 cases rx
 obtain⟨its,rv,pl,u0⟩:=I.list hs
 have:=zEp rv
 subst this
 have hl:=pl.isList
 have ll:l<s.heap.objs.size:=by obtain⟨o,e,u0⟩:=hl;exact Heap.lt_size e
 refine call_all_walkS (wpAny_pyIter_list hl ?_)
 refine⟨_,_,_,_,_,_,_,fun i=>bs.getD i false,rfl,(Walks.list (A:=X.A.in1) (I.ok.hd hc) s.heap.objs.size l (Nat.ne_of_lt ll) (bs.map Value.bool).toArray).toS,⟨⟨_,Heap.get?_push_size _ rfl,rfl,rfl⟩,hl.push _⟩,zG4,fun s' hm=>?_⟩
 have e1:(bs.map Value.bool).toArray.size=bs.length:=by simp
 rw[e1,all_range,Moved.eq_with hm]
 refine⟨.bl _,H,I.kept (t':=s'.toks) fun b o e=>hm.heap b o (fun z=>?_) (Heap.get?_push_of_some _ e),rfl,q⟩
 rw[List.mem_singleton] at z
 have:=Heap.lt_size e
 rw[z] at this
 exact absurd this (Nat.lt_irrefl _)
noncomputable def zJz:Sp2:=fun ds G R=>∃ bs:List Bool,ds=bs.map D.bl∧R (.bl (bs.all id)) G
theorem Dens.bools_inv{K:PySem.W.Frag}{H:Hp}:∀ {bs:List Bool} {xs:List V},Dens K H (bs.map D.bl) xs→xs=bs.map V.bl
 | [],xs,h=>by unfold Dens at h;exact h
 | n::r,xs,h=>by
  rw[List.map_cons] at h
  unfold Dens at h
  obtain⟨x,y,rfl,h1,h2⟩:=h
  unfold zU at h1
  rw[h1,Dens.bools_inv h2];rfl
theorem zLf(hc:X.calm=true)(hg:Gl X "all")(hm:X.mg "all"=none)(ha:F2 X e tl)(he:starEach [e] X.env=(false,eval e X.env)::starEach [] X.env:=by rfl)(hpl:(backTo pos (starEach [] X.env)).any (·.1)=false:=by rfl) :
  E2 X (.Call (.Name "all" p) [e] [] pos) (zb zJz tl):=zGy (zJy hc) (by
   rintro ds G R l xs H Q ⟨bs,rfl,h⟩ r e d k
   have:=d.bools_inv
   subst this
   exact⟨l,bs,rfl,.of e,k _ G h _ H (.refl H) r (by unfold zU;rfl)⟩) hg hm (by decide +kernel) ha (by decide) (by decide) he hpl
noncomputable def zBI(f g:D→D→Gp→Q2→Prop)(ta tb tc:zo):zo:=fun σ G R=>ta σ G fun x G1=>tb σ G1 fun y G2=>f x y G2 fun z G3=>match z with | .bl k=>if k=true then tc σ G3 fun w G4=>g y w G4 R else R (.bl false) G3 | _=>False
section
variable {op op' op'':CmpOp} {r r' r'':R2} {f g h:D→D→Gp→Q2→Prop}
theorem zG5{K:PySem.W.Frag}(hf:Fit K r f)(hg:Fit K r' g){σ1:L2.St}{H:Hp}{Q:VK}(hh:lE K (zBI f g ta tb tc) σ1 H Q):zK9 r r' (lE K ta) (lE K tb) (lE K tc) σ1 H Q:=by
 obtain⟨σ,G,R,rl,t,k⟩:=hh
 refine⟨σ,G,_,rl,t,fun dx G1 t1 x H1 g1 r1 d1=>?_⟩
 refine⟨σ,G1,_,rl.to g1 r1,t1,fun dy G2 t2 y H2 g2 r2 d2=>?_⟩
 refine hf dx dy G2 _ x y H2 _ t2 r2 (d1.grow g2) d2 fun dz G3 t3 z H3 g3 r3 d3=>?_
 cases dz with
 | bl kk =>
  unfold zU at d3
  refine⟨kk,d3,?_⟩
  cases kk with
  | true =>
   dsimp only at t3
   rw[if_pos rfl] at t3
   rw[if_pos rfl]
   refine⟨σ,G3,_,rl.to ((g1.trans g2).trans g3) r3,t3,fun dw G4 t4 w H4 g4 r4 d4=>?_⟩
   exact hg dy dw G4 R y w H4 Q t4 r4 ((d2.grow g3).grow g4) d4 fun d G' q v H' g' r' d'=>k d G' q v H' ((((g1.trans g2).trans g3).trans g4).trans g') r' d'
  | false =>
   dsimp only at t3
   rw[if_neg (by simp)] at t3
   rw[if_neg (by simp)]
   exact k _ G3 t3 _ H3 ((g1.trans g2).trans g3) r3 (by unfold zU;rfl)
 | _=>exact t3.elim
theorem zLg(ho:OpR X (compareOp op) r)(ho':OpR X (compareOp op') r')(hf:Fit X.K r f)(hg:Fit X.K r' g)(ha:E2 X a ta)(hb:E2 X b tb)(hc:E2 X c tc)(hm:lastMarks [op,op'] [b,c]=false:=by with_unfolding_all rfl) :
  E2 X (.Compare a [op,op'] [b,c] pos) (zBI f g ta tb tc):=PE.mono (zLA ho ho' ha hb hc hm) fun σ1 H Q h=>zG5 hf hg h
end
end
end L3
namespace K
open PySem PySem.Spec PyProof.Rows L2 L3
noncomputable abbrev nD(n:Nat):D:=.int (n:Int)
noncomputable def yj(n:Nat):List (Nat×Nat):=(List.range n).flatMap fun i=>(List.range (n-(i+1))).map fun k=>(i,i+1+k)
noncomputable def zt(p:Nat×Nat):D:=.tup [nD p.1,nD p.2]
noncomputable def zO(n:Nat)(q:Nat×Nat→Bool):D:=.tup [nD n,.tup (((yj n).filter q).map zt)]
noncomputable def adj(q:Nat×Nat→Bool)(i j:Nat):Bool:=decide (i≠j)&&q (min i j,max i j)
theorem yZ{n:Nat}{p:Nat×Nat}:p∈yj n↔p.1<p.2∧p.2<n:=by
 obtain⟨i,j⟩:=p
 unfold yj
 simp only[List.mem_flatMap,List.mem_map,List.mem_range,Prod.mk.injEq]
 constructor
 ·rintro⟨a,ha,k,hk,rfl,rfl⟩;(first|lia|omega)
 ·rintro⟨h1,h2⟩;exact⟨i,by (first|lia|omega),j-(i+1),by (first|lia|omega),rfl,by (first|lia|omega)⟩
theorem zCp{α β:Type}{f:α→List β}:∀ {l:List α},l.Nodup→(∀ x∈l,(f x).Nodup)→(∀ x∈l,∀ y∈l,x≠y→∀ z,z∈f x→z∉f y)→(l.flatMap f).Nodup
 | [],_,_,_=>by simp
 | a::r,h,h1,h2=>by
  rw[List.flatMap_cons]
  obtain⟨ha,hr⟩:=List.nodup_cons.mp h
  refine List.nodup_append.mpr ⟨h1 a (by simp),zCp hr (fun x hx=>h1 x (by simp[hx])) (fun x hx y hy=>h2 x (by simp[hx]) y (by simp[hy])),fun x hx y hy e=>?_⟩
  subst e
  obtain⟨b,hb,hz⟩:=List.mem_flatMap.mp hy
  exact h2 a (by simp) b (by simp[hb]) (fun e=>ha (e▸hb)) x hx hz
theorem zCq{α β:Type}{f:α→β}(hf:∀ x y,f x=f y→x=y):∀ {l:List α},l.Nodup→(l.map f).Nodup
 | [],_=>by simp
 | a::r,h=>by
  obtain⟨ha,hr⟩:=List.nodup_cons.mp h
  rw[List.map_cons]
  refine List.nodup_cons.mpr ⟨fun hm=>?_,zCq hf hr⟩
  obtain⟨b,hb,e⟩:=List.mem_map.mp hm
  exact ha (hf _ _ e▸hb)
theorem ym(n:Nat):(yj n).Nodup:=by
 unfold yj
 refine zCp List.nodup_range (fun i u0=>zCq (fun x y e=>by simpa using e) List.nodup_range) fun i u0 j u0 hne z hz hz'=>?_
 obtain⟨k,u0,rfl⟩:=List.mem_map.mp hz
 obtain⟨k',u0,e⟩:=List.mem_map.mp hz'
 exact hne (by simpa using(congrArg Prod.fst e).symm)
theorem zC0{n:Nat}(h:n≤100):(yj n).length≤10000:=by
 unfold yj
 rw[List.length_flatMap]
 have:∀ l:List Nat,(∀ x∈l,x≤100)→l.sum≤100*l.length:=by
  intro l
  induction l with
  | nil=>simp
  | cons a r ih =>
   intro h
   have h1:=h a (by simp)
   have h2:=ih fun x hx=>h x (by simp[hx])
   simp only[List.sum_cons,List.length_cons];(first|lia|omega)
 have q:=this ((List.range n).map fun i=>((List.range (n-(i+1))).map fun k=>(i,i+1+k)).length) (by simp;(first|lia|omega))
 simp only[List.length_map,List.length_range] at q ⊢
 (first|lia|omega)
theorem zCI{n:Nat}(p:Nat×Nat):flat (n+1) (zt p)=true:=by simp[zt,flat]
theorem zBr{i j:Int}:wf (.int i) (.int j)=decide (i=j):=by show (i==j)=decide (i=j);rw[Bool.eq_iff_iff];simp
theorem zNe(p q:Nat×Nat):wf (zt p) (zt q)=decide (p=q):=by
 obtain⟨a,b⟩:=p
 obtain⟨c,d⟩:=q
 show (((a:Int)==(c:Int))&&(((b:Int)==(d:Int))&&true))=decide ((a,b)=(c,d))
 rw[Bool.eq_iff_iff];simp;(first|lia|omega)
theorem zEP(l:List (Nat×Nat))(p:Nat×Nat):((l.map zt).any fun z=>wf z (zt p))=decide (p∈l):=by
 rw[List.any_map,Bool.eq_iff_iff]
 simp only[List.any_eq_true,Function.comp,zNe,decide_eq_true_eq]
 constructor
 ·rintro⟨x,h,rfl⟩;exact h
 ·intro h;exact⟨p,h,rfl⟩
theorem zEF{a b:Nat}:((a:Int)=(b:Int))↔a=b:=by (first|lia|omega)
theorem zBs{n:Nat}{q:Nat×Nat→Bool}{G:Gp}{R:Q2}:zi (zO n q) (.int 0) G R=R (nD n) G:=zDI
theorem zCJ{n:Nat}{q:Nat×Nat→Bool}{G:Gp}{R:Q2}:zi (zO n q) (.int 1) G R=R (.tup (((yj n).filter q).map zt)) G:=zDJ
noncomputable def zAC:List D→Gp→(List D→Gp→Prop)→Prop:=fun ds G R=>∃ n:Nat,ds=[nD n]∧n≤100∧R ((yj n).map zt) G
theorem zEq:∀ ds G R R',(∀ ls G',R ls G'→R' ls G')→zAC ds G R→zAC ds G R':=by
 rintro ds G R R' h ⟨n,e,hn,q⟩
 exact⟨n,e,hn,h _ _ q⟩
noncomputable def yt:List D→Gp→(List D→Gp→Prop)→Prop:=fun ds G R=>∃ ps:List Nat,ds=[.tup (ps.map nD)]∧ps.length≤100∧R (((yj ps.length).map fun p=>(ps.getD p.1 0,ps.getD p.2 0)).map zt) G
theorem zFT:∀ ds G R R',(∀ ls G',R ls G'→R' ls G')→yt ds G R→yt ds G R':=by
 rintro ds G R R' h ⟨n,e,hn,q⟩
 exact⟨n,e,hn,h _ _ q⟩
noncomputable def yQ:=zAC
theorem zBt:∀ ds G R R',(∀ ls G',R ls G'→R' ls G')→yQ ds G R→yQ ds G R':=zEq
noncomputable def wT:Sp2:=fun ds G R=>∃(n:Nat) (q:Nat×Nat→Bool) (i j:Nat),ds=[zO n q,nD i,nD j]∧i<n∧j<n∧R (.bl (adj q i j)) G
noncomputable def wG:Sp2:=fun ds G R=>∃(n:Nat) (q:Nat×Nat→Bool) (i:Nat),ds=[zO n q,nD i]∧i<n∧n≤100∧R (.tup (((List.range n).filter (adj q i)).map nD)) G
noncomputable def zGL:yi:=(zu (zP (fIn false) (yG (zA (zK ye (zA (zB 1) (zA (zB 2) zI))) (zA (zK yr (zA (zB 1) (zA (zB 2) zI))) zI))) (zP zi (zB 0) (xC (.int 1)))))
theorem zEQ{n:Nat}{q:Nat×Nat→Bool}{i j:Nat}(hi:i<n)(hj:j<n):decide ((min i j,max i j)∈(yj n).filter q)=adj q i j:=by
 rw[Bool.eq_iff_iff,decide_eq_true_eq,List.mem_filter,yZ]
 unfold adj
 simp only[Bool.and_eq_true,decide_eq_true_eq]
 constructor
 ·rintro⟨h1,h2⟩;exact⟨by (first|lia|omega),h2⟩
 ·rintro⟨h1,h2⟩;exact⟨by (first|lia|omega),h2⟩
theorem zDK{n:Nat}{q:Nat×Nat→Bool}:∀ d∈((yj n).filter q).map zt,flat 8 d=true:=by
 intro x hx
 obtain⟨p,u0,rfl⟩:=List.mem_map.mp hx
 exact zCI p
theorem zPa(ds:List D)(G:Gp)(R:Q2)(h:wT ds G R):ds.length=3∧zGL (zd R) (zS ["web","one","other"] ds) G:=by
 obtain⟨n,q,i,j,rfl,hi,hj,h⟩:=h
 refine⟨rfl,?_⟩
 have e1:(if (j:Int)<(i:Int) then (j:Int) else i)=((min i j:Nat):Int):=by split<;>(first|lia|omega)
 have e2:(if (j:Int)>(i:Int) then (j:Int) else i)=((max i j:Nat):Int):=by split<;>(first|lia|omega)
 unfold zGL
 ((try dsimp only [zu,zX,zv,xIf,yk,yH,gN,gNN,zP,yG,wS,yA,zA,zI,zK,yw,zb,zn,zB,look,zS,ye,yr,zBo,zDI,zDJ,zEo,zBs,zCJ,ya,wF,yJ,fEq,xC,xB,zB9,zB5,wn,zH7,List.map,List.cons_append,List.nil_append,List.set_cons_zero,List.set_cons_succ,List.length_cons,List.length_nil,List.replicate_succ,List.replicate_zero,Nat.reduceSub,Nat.reduceAdd,zH9,zIA,zIB,zIC,zAS,zBp,zBq,if_true,if_false,Bool.false_eq_true]) <;> (try simp only [zu,zX,zv,xIf,yk,yH,gN,gNN,zP,yG,wS,yA,zA,zI,zK,yw,zb,zn,zB,look,zS,ye,yr,zBo,zDI,zDJ,zEo,zBs,zCJ,ya,wF,yJ,fEq,xC,xB,zB9,zB5,wn,zH7,List.map,List.cons_append,List.nil_append,List.set_cons_zero,List.set_cons_succ,List.length_cons,List.length_nil,List.replicate_succ,List.replicate_zero,Nat.reduceSub,Nat.reduceAdd,zH9,zIA,zIB,zIC,zAS,zBp,zBq,if_true,if_false,Bool.false_eq_true]))
 rw[e1,e2]
 have e3:=zEP ((yj n).filter q) (min i j,max i j)
 rw[zEQ hi hj] at e3
 refine⟨zCI (min i j,max i j),zDK,?_⟩
 rw[← e3] at h
 exact .of h
noncomputable def zDL:yi:=(zu (zb zn (zf (iR1 (zA (zP zi (zB 0) (xC (.int 0))) zI)) wy (xB (zK wT (zA (zB 0) (zA (zB 1) (zA (zB 2) zI))))) (zB 2))))
theorem zAD(n:Nat):yX 0 ((n:Int)).toNat=(List.range n).map nD:=by simp[yX,nD]
theorem zLh(ds:List D)(G:Gp)(R:Q2)(h:wG ds G R):ds.length=2∧zDL (zd R) (zS ["web","place"] ds) G:=by
 obtain⟨n,q,i,rfl,hi,hn,h⟩:=h
 refine⟨rfl,?_⟩
 unfold zDL zu
 have hw:PuI (iR1 (zA (zP zi (zB 0) (xC (.int 0))) zI)) (zS ["web","place"] [zO n q,nD i]) G ((List.range n).map nD):=by
  rw[← zAD]
  exact zBX (zF (wp (zE rfl) yU fun u0 u0 u0 q=>by rw[zBs];exact q) zM) (by (first|lia|omega))
 have:=wa (tc:=(xB (zK wT (zA (zB 0) (zA (zB 1) (zA (zB 2) zI)))))) (te:=zB 2) (bd:=wy) (fun d=>match d with | .int j=>adj q i j.toNat | _=>false) (fun d=>d) (fun d=>[d]) hw fun x hx=>by
  obtain⟨j,hj,rfl⟩:=List.mem_map.mp hx
  refine⟨rfl,wK (zY (zF (zE rfl) (zF (zE rfl) (zF (zE rfl) zM))) fun u0 u0 u0 q'=>⟨n,q,i,j,rfl,hi,List.mem_range.mp hj,q'⟩),fun u0=>zE rfl⟩
 refine zBV this G (.refl G) _ (.of ?_)
 have e:List.map (fun d=>d) (List.filter (fun d=>match d with | .int j=>adj q i j.toNat | _=>false) ((List.range n).map nD))=((List.range n).filter (adj q i)).map nD:=by
  rw[List.map_id',List.filter_map]
  rfl
 rw[e]
 exact h
noncomputable def zI6(d:D):Nat×Nat:=match d with | .tup [.int i,.int j]=>(i.toNat,j.toNat) | _=>(0,0)
theorem zJ0(p:Nat×Nat):zI6 (zt p)=p:=rfl
theorem zID(f:Nat×Nat→Bool)(l:List (Nat×Nat)):List.map (fun d=>d) (List.filter (fun d=>f (zI6 d)) (l.map zt))=(l.filter f).map zt:=by
 rw[List.map_id',List.filter_map]
 congr 1
theorem yu{σ:S2}{G:Gp}{n:Nat}{q:Nat×Nat→Bool}{t:zo}(h:ze t σ G (zO n q)):ze (zP zi t (xC (.int 0))) σ G (nD n):=wp h yU fun u0 u0 u0 q=>by rw[zBs];exact q
theorem zCr{σ:S2}{G:Gp}{n:Nat}{q:Nat×Nat→Bool}{t:zo}(h:ze t σ G (zO n q)):ze (zP zi t (xC (.int 1))) σ G (.tup (((yj n).filter q).map zt)):=wp h yU fun u0 u0 u0 q=>by rw[zCJ];exact q
theorem zAT{l:Addr}{x:D}{ds:List D}{k:Int}{G:Gp}{R:Q2}(h:G.m l=some ds)(e:atI ds k=some x)(q:R x G):zi (.adr l) (.int k) G R:=⟨ds,x,.inl h,e,q⟩
theorem zOR{i:Nat}{l:Addr}{x d:D}{r:List D}{σ:S2}{G:Gp}{R:S2→Gp→Prop}(ho:look σ i=some (.adr l))(h:G.m l=some (x::r))(q:R σ (zR G l (d::r))):gIx (zB i) (xC (.int 0)) d σ G R:=by
 unfold gIx zB
 rw[ho]
 show match G.m l with | some ds=>_ | none=>_
 rw[h]
 have e:ixN (x::r).length 0=some 0:=by simp[ixN]
 show match ixN (x::r).length 0 with | some j=>R σ (zR G l ((x::r).set j d)) | none=>False
 rw[e]
 exact q
noncomputable def zAE:Sp2:=fun ds G R=>∃(a:Addr) (ns:List Int) (k:Nat),ds=[.adr a,nD k]∧Ls G a (ns.map D.int)∧∀ c:Int,R (.int c) G
noncomputable def zBJ:yi:=(zX (xIf (xB (zP (ya fun i j=>.bl (decide (i<j))) (zB 1) (zK yR (zA (zB 0) zI)))) (zu (zP zi (zB 0) (zB 1))) yH) (zu (xC (.int 0))))
theorem zG6(ds:List D)(G:Gp)(R:Q2)(h:zAE ds G R):ds.length=2∧zBJ (zd R) (zS ["script","k"] ds) G:=by
 obtain⟨a,ns,k,rfl,ha,h⟩:=h
 refine⟨rfl,?_⟩
 unfold zBJ
 ((try dsimp only [zu,zX,zv,xIf,yk,yH,gN,gNN,zP,yG,wS,yA,zA,zI,zK,yw,zb,zn,zB,look,zS,ye,yr,zBo,zDI,zDJ,zEo,zBs,zCJ,ya,wF,yJ,fEq,xC,xB,zB9,zB5,wn,zH7,List.map,List.cons_append,List.nil_append,List.set_cons_zero,List.set_cons_succ,List.length_cons,List.length_nil,List.replicate_succ,List.replicate_zero,Nat.reduceSub,Nat.reduceAdd,zH9,zIA,zIB,zIC,zAS,zBp,zBq,if_true,if_false,Bool.false_eq_true]) <;> (try simp only [zu,zX,zv,xIf,yk,yH,gN,gNN,zP,yG,wS,yA,zA,zI,zK,yw,zb,zn,zB,look,zS,ye,yr,zBo,zDI,zDJ,zEo,zBs,zCJ,ya,wF,yJ,fEq,xC,xB,zB9,zB5,wn,zH7,List.map,List.cons_append,List.nil_append,List.set_cons_zero,List.set_cons_succ,List.length_cons,List.length_nil,List.replicate_succ,List.replicate_zero,Nat.reduceSub,Nat.reduceAdd,zH9,zIA,zIB,zIC,zAS,zBp,zBq,if_true,if_false,Bool.false_eq_true]))
 refine⟨ns.map D.int,ha,?_⟩
 dsimp only
 by_cases hk:k<ns.length
 ·rw[decide_eq_true (by rw[List.length_map];(first|lia|omega)),if_pos rfl]
  exact⟨_,.int ns[k],ha,zCP (by simp[hk]),FgR.of (h _)⟩
 ·rw[decide_eq_false (by rw[List.length_map];(first|lia|omega)),if_neg (by simp)]
  exact FgR.of (h 0)
noncomputable def yy:List D→Gp→(List D→Gp→Prop)→Prop:=fun ds G R=>∃(a:Addr) (ns:List Int) (k:Nat),ds=[.adr a,nD k]∧Ls G a (ns.map D.int)∧∀ s b,OkS s b→R [.int s,.bl b] G
theorem zGM:∀ ds G R R',(∀ ls G',R ls G'→R' ls G')→yy ds G R→yy ds G R':=by
 rintro ds G R R' h ⟨a,ns,k,e,ha,q⟩
 exact⟨a,ns,k,e,ha,fun s b o=>h _ _ (q s b o)⟩
noncomputable def zCT:yi:=(zX (zv (zK zAE (zA (zB 0) (zA (zB 1) zI))) (gN 2)) (zX (xIf (xB (zP (ya fun i j=>.bl (decide (j≤i))) (zB 2) (zP (wF zEa fun i j=>.int (i ^ j.toNat)) (xC (.int 10)) (xC (.int 18))))) (zu (yA (wS (zA (zP (ya fun i j=>.int (i-j)) (zB 2) (zP (wF zEa fun i j=>.int (i ^ j.toNat)) (xC (.int 10)) (xC (.int 18)))) (zA (xC (.bl true)) zI))))) yH) (zu (yA (wS (zA (zP (wF (fun u0 j=>0<j) fun i j=>.int (i%j)) (zB 2) (xC (.int 2147483647))) (zA (xC (.bl false)) zI)))))))
theorem zLi:zEa 10 18:=by unfold zEa;decide
theorem zJ1(ds:List D)(G:Gp)(R:Q2)(h:spL yy ds G R):ds.length=2∧zCT (zd R) (zS ["script","k","cell"] ds) G:=by
 obtain⟨a,ns,k,rfl,ha,h⟩:=h
 refine⟨rfl,?_⟩
 unfold zCT
 ((try dsimp only [zu,zX,zv,xIf,yk,yH,gN,gNN,zP,yG,wS,yA,zA,zI,zK,yw,zb,zn,zB,look,zS,ye,yr,zBo,zDI,zDJ,zEo,zBs,zCJ,ya,wF,yJ,fEq,xC,xB,zB9,zB5,wn,zH7,List.map,List.cons_append,List.nil_append,List.set_cons_zero,List.set_cons_succ,List.length_cons,List.length_nil,List.replicate_succ,List.replicate_zero,Nat.reduceSub,Nat.reduceAdd,zH9,zIA,zIB,zIC,zAS,zBp,zBq,if_true,if_false,Bool.false_eq_true]) <;> (try simp only [zu,zX,zv,xIf,yk,yH,gN,gNN,zP,yG,wS,yA,zA,zI,zK,yw,zb,zn,zB,look,zS,ye,yr,zBo,zDI,zDJ,zEo,zBs,zCJ,ya,wF,yJ,fEq,xC,xB,zB9,zB5,wn,zH7,List.map,List.cons_append,List.nil_append,List.set_cons_zero,List.set_cons_succ,List.length_cons,List.length_nil,List.replicate_succ,List.replicate_zero,Nat.reduceSub,Nat.reduceAdd,zH9,zIA,zIB,zIC,zAS,zBp,zBq,if_true,if_false,Bool.false_eq_true]))
 refine⟨a,ns,k,rfl,ha,fun c=>?_⟩
 ((try dsimp only [zu,zX,zv,xIf,yk,yH,gN,gNN,zP,yG,wS,yA,zA,zI,zK,yw,zb,zn,zB,look,zS,ye,yr,zBo,zDI,zDJ,zEo,zBs,zCJ,ya,wF,yJ,fEq,xC,xB,zB9,zB5,wn,zH7,List.map,List.cons_append,List.nil_append,List.set_cons_zero,List.set_cons_succ,List.length_cons,List.length_nil,List.replicate_succ,List.replicate_zero,Nat.reduceSub,Nat.reduceAdd,zH9,zIA,zIB,zIC,zAS,zBp,zBq,if_true,if_false,Bool.false_eq_true]) <;> (try simp only [zu,zX,zv,xIf,yk,yH,gN,gNN,zP,yG,wS,yA,zA,zI,zK,yw,zb,zn,zB,look,zS,ye,yr,zBo,zDI,zDJ,zEo,zBs,zCJ,ya,wF,yJ,fEq,xC,xB,zB9,zB5,wn,zH7,List.map,List.cons_append,List.nil_append,List.set_cons_zero,List.set_cons_succ,List.length_cons,List.length_nil,List.replicate_succ,List.replicate_zero,Nat.reduceSub,Nat.reduceAdd,zH9,zIA,zIB,zIC,zAS,zBp,zBq,if_true,if_false,Bool.false_eq_true]))
 refine⟨zLi,?_⟩
 split
 ·refine⟨zLi,fun l hl=>?_⟩
  exact FgR.of (h _ true (fun z=>by cases z) l hl)
 ·refine⟨by decide,fun l hl=>?_⟩
  exact FgR.of (h _ false (fun u0=>⟨Int.emod_nonneg _ (by decide),Int.emod_lt_of_pos _ (by decide)⟩) l hl)
noncomputable def zy:Sp2:=fun ds G R=>∃(l:Addr) (m:Nat),ds=[.adr l,nD m]∧zAR G l∧0<m∧m<1000000∧∀(r:Nat) G',r<m→Dr l G G'→R (nD r) G'
noncomputable def zDM:yi:=(zX (xIf (xB (zP zi (zB 0) (xC (.int 1)))) (zX (zv (zP (wF (fun u0 j=>0<j) fun i j=>.int (i%j)) (zP zi (zB 0) (xC (.int 0))) (zB 1)) (gN 2)) (zX (zv (zP (wF zK8 fun i j=>.int (i / j)) (zP zi (zB 0) (xC (.int 0))) (zB 1)) (gIx (zB 0) (xC (.int 0)))) (zu (zB 2)))) yH) (zX (zv (zP (wF (fun u0 j=>0<j) fun i j=>.int (i%j)) (zP yJ (zP (wF zFP fun i j=>.int (i*j)) (zP zi (zB 0) (xC (.int 0))) (xC (.int 48271))) (xC (.int 29))) (xC (.int 2147483647))) (gIx (zB 0) (xC (.int 0)))) (zX (zv (zP (wF (fun u0 j=>0<j) fun i j=>.int (i%j)) (zP yJ (zP yJ (zP (wF zFP fun i j=>.int (i*j)) (zP zi (zB 0) (xC (.int 0))) (zP zi (zB 0) (xC (.int 0)))) (zP (wF zFP fun i j=>.int (i*j)) (xC (.int 39373)) (zP zi (zB 0) (xC (.int 0))))) (xC (.int 7))) (xC (.int 2147483629))) (gN 3)) (zX (zv (zP (wF (fun u0 j=>0<j) fun i j=>.int (i%j)) (zP yJ (zP (wF zFP fun i j=>.int (i*j)) (zB 3) (zB 3)) (zP (wF zFP fun i j=>.int (i*j)) (xC (.int 16807)) (zB 3))) (xC (.int 2147483587))) (gN 3)) (zu (zP (wF (fun u0 j=>0<j) fun i j=>.int (i%j)) (zP (wF zK8 fun i j=>.int (i / j)) (zB 3) (xC (.int 8))) (zB 1)))))))
theorem zEr{x:Int}{m:Nat}(h:0<m):∃ r:Nat,r<m∧x%(m:Int)=r:=⟨(x%(m:Int)).toNat,by
 have h1:=Int.emod_nonneg x (b:=(m:Int)) (by (first|lia|omega))
 have h2:=Int.emod_lt_of_pos x (b:=(m:Int)) (by (first|lia|omega))
 (first|lia|omega),by
 have h1:=Int.emod_nonneg x (b:=(m:Int)) (by (first|lia|omega))
 (first|lia|omega)⟩
theorem zLj(ds:List D)(G:Gp)(R:Q2)(h:zy ds G R):ds.length=2∧zDM (zd R) (zS ["state","many","found","mixed"] ds) G:=by
 obtain⟨l,m,rfl,⟨s,b,hG,ok⟩,hm,hm2,h⟩:=h
 refine⟨rfl,?_⟩
 unfold zDM
 ((try dsimp only [zu,zX,zv,xIf,yk,yH,gN,gNN,zP,yG,wS,yA,zA,zI,zK,yw,zb,zn,zB,look,zS,ye,yr,zBo,zDI,zDJ,zEo,zBs,zCJ,ya,wF,yJ,fEq,xC,xB,zB9,zB5,wn,zH7,List.map,List.cons_append,List.nil_append,List.set_cons_zero,List.set_cons_succ,List.length_cons,List.length_nil,List.replicate_succ,List.replicate_zero,Nat.reduceSub,Nat.reduceAdd,zH9,zIA,zIB,zIC,zAS,zBp,zBq,if_true,if_false,Bool.false_eq_true]) <;> (try simp only [zu,zX,zv,xIf,yk,yH,gN,gNN,zP,yG,wS,yA,zA,zI,zK,yw,zb,zn,zB,look,zS,ye,yr,zBo,zDI,zDJ,zEo,zBs,zCJ,ya,wF,yJ,fEq,xC,xB,zB9,zB5,wn,zH7,List.map,List.cons_append,List.nil_append,List.set_cons_zero,List.set_cons_succ,List.length_cons,List.length_nil,List.replicate_succ,List.replicate_zero,Nat.reduceSub,Nat.reduceAdd,zH9,zIA,zIB,zIC,zAS,zBp,zBq,if_true,if_false,Bool.false_eq_true]))
 refine zAT hG (zG3 _ _ _) ?_
 cases b with
 | true =>
  ((try dsimp only [zu,zX,zv,xIf,yk,yH,gN,gNN,zP,yG,wS,yA,zA,zI,zK,yw,zb,zn,zB,look,zS,ye,yr,zBo,zDI,zDJ,zEo,zBs,zCJ,ya,wF,yJ,fEq,xC,xB,zB9,zB5,wn,zH7,List.map,List.cons_append,List.nil_append,List.set_cons_zero,List.set_cons_succ,List.length_cons,List.length_nil,List.replicate_succ,List.replicate_zero,Nat.reduceSub,Nat.reduceAdd,zH9,zIA,zIB,zIC,zAS,zBp,zBq,if_true,if_false,Bool.false_eq_true]) <;> (try simp only [zu,zX,zv,xIf,yk,yH,gN,gNN,zP,yG,wS,yA,zA,zI,zK,yw,zb,zn,zB,look,zS,ye,yr,zBo,zDI,zDJ,zEo,zBs,zCJ,ya,wF,yJ,fEq,xC,xB,zB9,zB5,wn,zH7,List.map,List.cons_append,List.nil_append,List.set_cons_zero,List.set_cons_succ,List.length_cons,List.length_nil,List.replicate_succ,List.replicate_zero,Nat.reduceSub,Nat.reduceAdd,zH9,zIA,zIB,zIC,zAS,zBp,zBq,if_true,if_false,Bool.false_eq_true]))
  refine zAT hG (zDH _ _) ?_
  ((try dsimp only [zu,zX,zv,xIf,yk,yH,gN,gNN,zP,yG,wS,yA,zA,zI,zK,yw,zb,zn,zB,look,zS,ye,yr,zBo,zDI,zDJ,zEo,zBs,zCJ,ya,wF,yJ,fEq,xC,xB,zB9,zB5,wn,zH7,List.map,List.cons_append,List.nil_append,List.set_cons_zero,List.set_cons_succ,List.length_cons,List.length_nil,List.replicate_succ,List.replicate_zero,Nat.reduceSub,Nat.reduceAdd,zH9,zIA,zIB,zIC,zAS,zBp,zBq,if_true,if_false,Bool.false_eq_true]) <;> (try simp only [zu,zX,zv,xIf,yk,yH,gN,gNN,zP,yG,wS,yA,zA,zI,zK,yw,zb,zn,zB,look,zS,ye,yr,zBo,zDI,zDJ,zEo,zBs,zCJ,ya,wF,yJ,fEq,xC,xB,zB9,zB5,wn,zH7,List.map,List.cons_append,List.nil_append,List.set_cons_zero,List.set_cons_succ,List.length_cons,List.length_nil,List.replicate_succ,List.replicate_zero,Nat.reduceSub,Nat.reduceAdd,zH9,zIA,zIB,zIC,zAS,zBp,zBq,if_true,if_false,Bool.false_eq_true]))
  refine⟨by (first|lia|omega),zAT hG (zDH _ _) ?_⟩
  ((try dsimp only [zu,zX,zv,xIf,yk,yH,gN,gNN,zP,yG,wS,yA,zA,zI,zK,yw,zb,zn,zB,look,zS,ye,yr,zBo,zDI,zDJ,zEo,zBs,zCJ,ya,wF,yJ,fEq,xC,xB,zB9,zB5,wn,zH7,List.map,List.cons_append,List.nil_append,List.set_cons_zero,List.set_cons_succ,List.length_cons,List.length_nil,List.replicate_succ,List.replicate_zero,Nat.reduceSub,Nat.reduceAdd,zH9,zIA,zIB,zIC,zAS,zBp,zBq,if_true,if_false,Bool.false_eq_true]) <;> (try simp only [zu,zX,zv,xIf,yk,yH,gN,gNN,zP,yG,wS,yA,zA,zI,zK,yw,zb,zn,zB,look,zS,ye,yr,zBo,zDI,zDJ,zEo,zBs,zCJ,ya,wF,yJ,fEq,xC,xB,zB9,zB5,wn,zH7,List.map,List.cons_append,List.nil_append,List.set_cons_zero,List.set_cons_succ,List.length_cons,List.length_nil,List.replicate_succ,List.replicate_zero,Nat.reduceSub,Nat.reduceAdd,zH9,zIA,zIB,zIC,zAS,zBp,zBq,if_true,if_false,Bool.false_eq_true]))
  refine⟨⟨by (first|lia|omega),by (first|lia|omega)⟩,zOR rfl hG ?_⟩
  ((try dsimp only [zu,zX,zv,xIf,yk,yH,gN,gNN,zP,yG,wS,yA,zA,zI,zK,yw,zb,zn,zB,look,zS,ye,yr,zBo,zDI,zDJ,zEo,zBs,zCJ,ya,wF,yJ,fEq,xC,xB,zB9,zB5,wn,zH7,List.map,List.cons_append,List.nil_append,List.set_cons_zero,List.set_cons_succ,List.length_cons,List.length_nil,List.replicate_succ,List.replicate_zero,Nat.reduceSub,Nat.reduceAdd,zH9,zIA,zIB,zIC,zAS,zBp,zBq,if_true,if_false,Bool.false_eq_true]) <;> (try simp only [zu,zX,zv,xIf,yk,yH,gN,gNN,zP,yG,wS,yA,zA,zI,zK,yw,zb,zn,zB,look,zS,ye,yr,zBo,zDI,zDJ,zEo,zBs,zCJ,ya,wF,yJ,fEq,xC,xB,zB9,zB5,wn,zH7,List.map,List.cons_append,List.nil_append,List.set_cons_zero,List.set_cons_succ,List.length_cons,List.length_nil,List.replicate_succ,List.replicate_zero,Nat.reduceSub,Nat.reduceAdd,zH9,zIA,zIB,zIC,zAS,zBp,zBq,if_true,if_false,Bool.false_eq_true]))
  obtain⟨r,hr,e⟩:=zEr (x:=s) hm
  rw[e]
  exact FgR.of (h r _ hr ⟨_,true,rfl,fun z=>by cases z⟩)
 | false =>
  obtain⟨h0,h1⟩:=ok rfl
  ((try dsimp only [zu,zX,zv,xIf,yk,yH,gN,gNN,zP,yG,wS,yA,zA,zI,zK,yw,zb,zn,zB,look,zS,ye,yr,zBo,zDI,zDJ,zEo,zBs,zCJ,ya,wF,yJ,fEq,xC,xB,zB9,zB5,wn,zH7,List.map,List.cons_append,List.nil_append,List.set_cons_zero,List.set_cons_succ,List.length_cons,List.length_nil,List.replicate_succ,List.replicate_zero,Nat.reduceSub,Nat.reduceAdd,zH9,zIA,zIB,zIC,zAS,zBp,zBq,if_true,if_false,Bool.false_eq_true]) <;> (try simp only [zu,zX,zv,xIf,yk,yH,gN,gNN,zP,yG,wS,yA,zA,zI,zK,yw,zb,zn,zB,look,zS,ye,yr,zBo,zDI,zDJ,zEo,zBs,zCJ,ya,wF,yJ,fEq,xC,xB,zB9,zB5,wn,zH7,List.map,List.cons_append,List.nil_append,List.set_cons_zero,List.set_cons_succ,List.length_cons,List.length_nil,List.replicate_succ,List.replicate_zero,Nat.reduceSub,Nat.reduceAdd,zH9,zIA,zIB,zIC,zAS,zBp,zBq,if_true,if_false,Bool.false_eq_true]))
  refine zAT hG (zDH _ _) ?_
  ((try dsimp only [zu,zX,zv,xIf,yk,yH,gN,gNN,zP,yG,wS,yA,zA,zI,zK,yw,zb,zn,zB,look,zS,ye,yr,zBo,zDI,zDJ,zEo,zBs,zCJ,ya,wF,yJ,fEq,xC,xB,zB9,zB5,wn,zH7,List.map,List.cons_append,List.nil_append,List.set_cons_zero,List.set_cons_succ,List.length_cons,List.length_nil,List.replicate_succ,List.replicate_zero,Nat.reduceSub,Nat.reduceAdd,zH9,zIA,zIB,zIC,zAS,zBp,zBq,if_true,if_false,Bool.false_eq_true]) <;> (try simp only [zu,zX,zv,xIf,yk,yH,gN,gNN,zP,yG,wS,yA,zA,zI,zK,yw,zb,zn,zB,look,zS,ye,yr,zBo,zDI,zDJ,zEo,zBs,zCJ,ya,wF,yJ,fEq,xC,xB,zB9,zB5,wn,zH7,List.map,List.cons_append,List.nil_append,List.set_cons_zero,List.set_cons_succ,List.length_cons,List.length_nil,List.replicate_succ,List.replicate_zero,Nat.reduceSub,Nat.reduceAdd,zH9,zIA,zIB,zIC,zAS,zBp,zBq,if_true,if_false,Bool.false_eq_true]))
  refine⟨.inl ⟨by (first|lia|omega),by (first|lia|omega)⟩,by decide,zOR rfl hG ?_⟩
  have p0:=Int.emod_nonneg (s*48271+29) (b:=2147483647) (by decide)
  have p1:=Int.emod_lt_of_pos (s*48271+29) (b:=2147483647) (by decide)
  generalize (s*48271+29)%2147483647=s1 at p0 p1 ⊢
  have hG1:(zR G l [D.int s1,D.bl false]).m l=some [D.int s1,D.bl false]:=zH
  ((try dsimp only [zu,zX,zv,xIf,yk,yH,gN,gNN,zP,yG,wS,yA,zA,zI,zK,yw,zb,zn,zB,look,zS,ye,yr,zBo,zDI,zDJ,zEo,zBs,zCJ,ya,wF,yJ,fEq,xC,xB,zB9,zB5,wn,zH7,List.map,List.cons_append,List.nil_append,List.set_cons_zero,List.set_cons_succ,List.length_cons,List.length_nil,List.replicate_succ,List.replicate_zero,Nat.reduceSub,Nat.reduceAdd,zH9,zIA,zIB,zIC,zAS,zBp,zBq,if_true,if_false,Bool.false_eq_true]) <;> (try simp only [zu,zX,zv,xIf,yk,yH,gN,gNN,zP,yG,wS,yA,zA,zI,zK,yw,zb,zn,zB,look,zS,ye,yr,zBo,zDI,zDJ,zEo,zBs,zCJ,ya,wF,yJ,fEq,xC,xB,zB9,zB5,wn,zH7,List.map,List.cons_append,List.nil_append,List.set_cons_zero,List.set_cons_succ,List.length_cons,List.length_nil,List.replicate_succ,List.replicate_zero,Nat.reduceSub,Nat.reduceAdd,zH9,zIA,zIB,zIC,zAS,zBp,zBq,if_true,if_false,Bool.false_eq_true]))
  refine zAT hG1 (zDH _ _) (zAT hG1 (zDH _ _) ?_)
  ((try dsimp only [zu,zX,zv,xIf,yk,yH,gN,gNN,zP,yG,wS,yA,zA,zI,zK,yw,zb,zn,zB,look,zS,ye,yr,zBo,zDI,zDJ,zEo,zBs,zCJ,ya,wF,yJ,fEq,xC,xB,zB9,zB5,wn,zH7,List.map,List.cons_append,List.nil_append,List.set_cons_zero,List.set_cons_succ,List.length_cons,List.length_nil,List.replicate_succ,List.replicate_zero,Nat.reduceSub,Nat.reduceAdd,zH9,zIA,zIB,zIC,zAS,zBp,zBq,if_true,if_false,Bool.false_eq_true]) <;> (try simp only [zu,zX,zv,xIf,yk,yH,gN,gNN,zP,yG,wS,yA,zA,zI,zK,yw,zb,zn,zB,look,zS,ye,yr,zBo,zDI,zDJ,zEo,zBs,zCJ,ya,wF,yJ,fEq,xC,xB,zB9,zB5,wn,zH7,List.map,List.cons_append,List.nil_append,List.set_cons_zero,List.set_cons_succ,List.length_cons,List.length_nil,List.replicate_succ,List.replicate_zero,Nat.reduceSub,Nat.reduceAdd,zH9,zIA,zIB,zIC,zAS,zBp,zBq,if_true,if_false,Bool.false_eq_true]))
  refine⟨.inl ⟨by (first|lia|omega),by (first|lia|omega)⟩,zAT hG1 (zDH _ _) ?_⟩
  ((try dsimp only [zu,zX,zv,xIf,yk,yH,gN,gNN,zP,yG,wS,yA,zA,zI,zK,yw,zb,zn,zB,look,zS,ye,yr,zBo,zDI,zDJ,zEo,zBs,zCJ,ya,wF,yJ,fEq,xC,xB,zB9,zB5,wn,zH7,List.map,List.cons_append,List.nil_append,List.set_cons_zero,List.set_cons_succ,List.length_cons,List.length_nil,List.replicate_succ,List.replicate_zero,Nat.reduceSub,Nat.reduceAdd,zH9,zIA,zIB,zIC,zAS,zBp,zBq,if_true,if_false,Bool.false_eq_true]) <;> (try simp only [zu,zX,zv,xIf,yk,yH,gN,gNN,zP,yG,wS,yA,zA,zI,zK,yw,zb,zn,zB,look,zS,ye,yr,zBo,zDI,zDJ,zEo,zBs,zCJ,ya,wF,yJ,fEq,xC,xB,zB9,zB5,wn,zH7,List.map,List.cons_append,List.nil_append,List.set_cons_zero,List.set_cons_succ,List.length_cons,List.length_nil,List.replicate_succ,List.replicate_zero,Nat.reduceSub,Nat.reduceAdd,zH9,zIA,zIB,zIC,zAS,zBp,zBq,if_true,if_false,Bool.false_eq_true]))
  refine⟨.inl ⟨by (first|lia|omega),by (first|lia|omega)⟩,by decide,?_⟩
  have p2:=Int.emod_nonneg (s1*s1+39373*s1+7) (b:=2147483629) (by decide)
  have p3:=Int.emod_lt_of_pos (s1*s1+39373*s1+7) (b:=2147483629) (by decide)
  generalize (s1*s1+39373*s1+7)%2147483629=s2 at p2 p3 ⊢
  refine⟨.inl ⟨by (first|lia|omega),by (first|lia|omega)⟩,.inl ⟨by (first|lia|omega),by (first|lia|omega)⟩,by decide,⟨by decide,by decide⟩,by (first|lia|omega),?_⟩
  obtain⟨r,hr,e⟩:=zEr (x:=(s2*s2+16807*s2)%2147483587 / 8) hm
  rw[e]
  exact FgR.of (h r _ hr ⟨_,false,rfl,fun u0=>⟨p0,p1⟩⟩)
end K
namespace K
open PySem PySem.Spec PyProof.Rows L2 L3
noncomputable def zER:yi:=(zu (yA (yw yt (zA (zFo (zA (zB 0) zI)) zI))))
noncomputable def zBu:yi:=(zX (zv (yA (wS zI)) (gN 1)) (zX (wV (iR1 (zA (zK yR (zA (zB 0) zI)) zI)) (gN 2) (wV (iR2 (zA (zP yJ (zB 2) (xC (.int 1))) (zA (zK yR (zA (zB 0) zI)) zI))) (gN 3) (yk (zEm (zB 1) (zA (yG (zA (zP zi (zB 0) (zB 2)) (zA (zP zi (zB 0) (zB 3)) zI))) zI))))) (zu (zB 1))))
noncomputable def zBK(n i:Nat):List (Nat×Nat):=(List.range i).flatMap fun i=>(List.range (n-(i+1))).map fun k=>(i,i+1+k)
theorem zDs(n:Nat):zBK n n=yj n:=rfl
theorem zC1(n i:Nat):zBK n (i+1)=zBK n i++(List.range (n-(i+1))).map fun k=>(i,i+1+k):=by
 unfold zBK
 rw[List.range_succ,List.flatMap_append]
 simp
theorem zFr{n i:Nat}(hi:i≤n)(h:n≤100):(zBK n i).length≤10000:=by
 have:(zBK n i).length≤(yj n).length:=by
  obtain⟨k,rfl⟩:=Nat.exists_eq_add_of_le hi
  rw[← zDs]
  have:∀ k,(zBK (i+k) i).length≤(zBK (i+k) (i+k)).length:=fun k=>by
   unfold zBK
   rw[List.range_add,List.flatMap_append,List.length_append];(first|lia|omega)
  exact this k
 have:=zC0 h
 (first|lia|omega)
theorem zGN{n i:Nat}{x:D}(h:((List.range n).map nD)[i]?=some x):x=nD i∧i<n:=by
 rw[List.getElem?_map] at h
 cases q:(List.range n)[i]? with
 | none=>rw[q] at h;cases h
 | some k =>
  rw[q] at h
  cases h
  obtain⟨h1,h2⟩:=List.getElem?_eq_some_iff.mp q
  simp at h1 h2
  subst h2
  exact⟨rfl,h1⟩
theorem zJ2{lo:Int}{n i:Nat}{x:D}(h:(yX lo n)[i]?=some x):x=.int (lo+i)∧i<n:=by
 have hi:i<n:=by
  have:=(List.getElem?_eq_some_iff.mp h).1
  rwa [wd] at this
 rw[zEd hi] at h
 cases h
 exact⟨rfl,hi⟩
theorem zA5{wi:TI2}{g:TG2}{tb:yi}{E:yC}{σ:S2}{G:Gp}(h:wi σ G fun ds gd G1=>zJx ds gd G1 g tb E σ):wV wi g tb E σ G:=.of h
theorem zGO{t:wN}{g:TG2}{tb:yi}{E:yC}{σ:S2}{G:Gp}{n:Nat}(ht:PuA t σ G [nD n])(hn:n≤1000)(h:zJx ((List.range n).map nD) (fun u0=>True) G g tb E σ):wV (iR1 t) g tb E σ G:=by
 refine zA5 (ht G (.refl G) _ ⟨by (first|lia|omega),?_⟩)
 rw[zAD]
 exact h
theorem zPb{t:wN}{g:TG2}{tb:yi}{E:yC}{σ:S2}{G:Gp}{i j:Int}(ht:PuA t σ G [.int i,.int j])(hn:(-1000≤i∧i≤1000)∧-1000≤j∧j≤1000)(h:zJx (yX i (j-i).toNat) (fun u0=>True) G g tb E σ):wV (iR2 t) g tb E σ G :=
 zA5 (ht G (.refl G) _ ⟨by (first|lia|omega),h⟩)
theorem zCU{i:Nat}{l:Addr}{d:D}{xs:List D}{σ:S2}{G:Gp}{t:wN}{R:Q2}(ho:look σ i=some (.adr l))(h:G.m l=some xs)(ht:∀ Q:List D→Gp→Prop,Q [d] G→t σ G Q)(hz:xs.length≤1000000)(q:R .non (zR G l (xs++[d]))):zEm (zB i) t σ G R:=by
 unfold zEm zB
 rw[ho]
 show match G.m l with | some _=>_ | none=>_
 rw[h]
 refine ht _ ?_
 show match G.m l with | some xs=>_ | none=>_
 rw[h]
 exact⟨hz,q⟩
theorem zGP{i:Nat}{l:Addr}{zs xs:List D}{σ:S2}{G:Gp}{t:TL2}{R:Q2}(ho:look σ i=some (.adr l))(h:G.m l=some xs)(ht:∀ Q:List D→Gp→Prop,Q zs G→t σ G Q)(hz:xs.length+zs.length≤1000000)(q:R .non (zR G l (xs++zs))):zJt (zB i) t σ G R:=by
 unfold zJt zB
 rw[ho]
 show match G.m l with | some _=>_ | none=>_
 rw[h]
 refine ht _ ?_
 show match G.m l with | some xs=>_ | none=>_
 rw[h]
 exact⟨hz,q⟩
theorem zI7{ps:List Nat}{i:Nat}(h:i<ps.length):atI (ps.map nD) (i:Int)=some (nD (ps.getD i 0)):=zCP (by simp[List.getD,h])
theorem zBv{σ:S2}{G:Gp}{t u:zo}{ps:List Nat}{i:Nat}(h:ze t σ G (.tup (ps.map nD)))(h':ze u σ G (nD i))(hi:i<ps.length):ze (zP zi t u) σ G (nD (ps.getD i 0)):=wp h h' fun u0 u0 u0 q=>by
 simp only[zi,zI7 hi];exact q
theorem zAb{σ:S2}{G:Gp}{t:zo}{ps:List Nat}(h:ze t σ G (.tup (ps.map nD))):ze (zK yR (zA t zI)) σ G (nD ps.length):=zY (zF h zM) fun u0 u0 u0 q=>⟨ps.map nD,rfl,by rw[List.length_map];exact q⟩
theorem zIE(ds:List D)(G:Gp)(R:Q2)(h:spL yt ds G R):ds.length=1∧zBu (zd R) (zS ["places","found","k","j"] ds) G:=by
 obtain⟨ps,rfl,hn,h⟩:=h
 refine⟨rfl,?_⟩
 unfold zBu
 let at2:Nat×Nat→Nat×Nat:=fun p=>(ps.getD p.1 0,ps.getD p.2 0)
 generalize hN:ps.length=n at *
 ((try dsimp only [zu,zX,zv,xIf,yk,yH,gN,gNN,zP,yG,wS,yA,zA,zI,zK,yw,zb,zn,zB,look,zS,ye,yr,zBo,zDI,zDJ,zEo,zBs,zCJ,ya,wF,yJ,fEq,xC,xB,zB9,zB5,wn,zH7,List.map,List.cons_append,List.nil_append,List.set_cons_zero,List.set_cons_succ,List.length_cons,List.length_nil,List.replicate_succ,List.replicate_zero,Nat.reduceSub,Nat.reduceAdd,zH9,zIA,zIB,zIC,zAS,zBp,zBq,if_true,if_false,Bool.false_eq_true]) <;> (try simp only [zu,zX,zv,xIf,yk,yH,gN,gNN,zP,yG,wS,yA,zA,zI,zK,yw,zb,zn,zB,look,zS,ye,yr,zBo,zDI,zDJ,zEo,zBs,zCJ,ya,wF,yJ,fEq,xC,xB,zB9,zB5,wn,zH7,List.map,List.cons_append,List.nil_append,List.set_cons_zero,List.set_cons_succ,List.length_cons,List.length_nil,List.replicate_succ,List.replicate_zero,Nat.reduceSub,Nat.reduceAdd,zH9,zIA,zIB,zIC,zAS,zBp,zBq,if_true,if_false,Bool.false_eq_true]))
 intro l hl
 refine zGO (n:=n) (zF (by rw[← hN];exact zAb (zE rfl)) zM) (by (first|lia|omega)) ?_
 refine zAa (fun i G'=>G'=zR G l (((zBK n i).map at2).map zt)) rfl (fun u0 u0 u0=>trivial) ?_ ?_
 ·rintro i x hx G2 rfl
  obtain⟨rfl,hi⟩:=zGN hx
  simp only[gN,List.set_cons_succ,List.set_cons_zero]
  refine zPb (i:=(i:Int)+1) (j:=n) (zF (wp (zE rfl) yU fun u0 u0 u0 q=>q) (zF (by rw[← hN];exact zAb (zE rfl)) zM)) (by (first|lia|omega)) ?_
  refine zAa (fun k G'=>G'=zR G l (((zBK n i++(List.range k).map fun k=>(i,i+1+k)).map at2).map zt)) (by simp) (fun u0 u0 u0=>trivial) ?_ ?_
  ·rintro k x hx G2 rfl
   obtain⟨rfl,hk⟩:=zJ2 hx
   have ek:((i:Int)+1+(k:Int))=((i+1+k:Nat):Int):=by (first|lia|omega)
   rw[ek]
   simp only[gN,List.set_cons_succ,List.set_cons_zero,yk]
   have hlen:=zFr (n:=n) (i:=i) (by (first|lia|omega)) hn
   have pt:PuA (zA (yG (zA (zP zi (zB 0) (zB 2)) (zA (zP zi (zB 0) (zB 3)) zI))) zI) [some (.tup (ps.map nD)),some (.adr l),some (nD i),some (nD (i+1+k))] (zR G l (((zBK n i++(List.range k).map fun k=>(i,i+1+k)).map at2).map zt)) [zt (at2 (i,i+1+k))] :=
    zF (yP (zF (zBv (zE rfl) (zE rfl) (by (first|lia|omega))) (zF (zBv (zE rfl) (zE rfl) (by (first|lia|omega))) zM)) (by simp)) zM
   refine zCU (d:=zt (at2 (i,i+1+k))) rfl zH (fun Q q=>pt _ (.refl _) Q q) (by simp;(first|lia|omega)) ⟨?_,_,.refl _,?_⟩
   ·exact .keep (.keep (.keep (.skip .nil)))
   ·rw[zAs,List.range_succ]
    simp
  ·rintro G2 rfl
   refine⟨.keep (.keep (.skip (.skip .nil))),_,.refl _,?_⟩
   rw[wd,zC1]
   have:((n:Int)-((i:Int)+1)).toNat=n-(i+1):=by (first|lia|omega)
   rw[this]
 ·rintro G2 rfl
  rw[List.length_map,List.length_range,zDs]
  exact FgR.of (h l hl)
theorem zNf(ds:List D)(G:Gp)(R:Q2)(h:spL zAC ds G R):ds.length=1∧zER (zd R) (zS ["many"] ds) G:=by
 obtain⟨n,rfl,hn,h⟩:=h
 refine⟨rfl,?_⟩
 unfold zER
 have e:(yj (List.range n).length).map (fun p=>((List.range n).getD p.1 0,(List.range n).getD p.2 0))=yj n:=by
  rw[List.length_range]
  conv=>rhs;rw[← List.map_id' (yj n)]
  refine List.map_congr_left fun p hp=>?_
  obtain⟨h1,h2⟩:=yZ.mp hp
  have e1:(List.range n).getD p.1 0=p.1:=by simp[List.getD,show p.1<n by (first|lia|omega)]
  have e2:(List.range n).getD p.2 0=p.2:=by simp[List.getD,h2]
  rw[e1,e2]
 have pt:PuA (zA (zFo (zA (zB 0) zI)) zI) (zS ["many"] [nD n]) G [.tup ((List.range n).map nD)] :=
  zF (fun G2 e R q=>zF (d:=nD n) (zE rfl) zM G2 e _ ⟨by (first|lia|omega),by rw[zAD];exact q⟩) zM
 have:=zG1 (sp:=yt) (ls:=(yj n).map zt) pt fun u0 u0 u0 q=>⟨List.range n,rfl,by simpa using hn,by rw[e];exact q⟩
 refine this G (.refl G) _ fun l hl=>?_
 exact FgR.of (h l hl)
noncomputable def zCV:yi:=(zX (zv (yA (wS zI)) (gN 1)) (zX (wV (iR1 (zA (zB 0) zI)) (gN 2) (yk (zJt (zB 1) (zf (iR2 (zA (zP yJ (zB 2) (xC (.int 1))) (zA (zB 0) zI))) wy zAB (yG (zA (zB 2) (zA (zB 3) zI))))))) (zu (zB 1))))
theorem zJ3(ds:List D)(G:Gp)(R:Q2)(h:spL yQ ds G R):ds.length=1∧zCV (zd R) (zS ["many","found","one"] ds) G:=by
 obtain⟨n,rfl,hn,h⟩:=h
 refine⟨rfl,?_⟩
 unfold zCV
 ((try dsimp only [zu,zX,zv,xIf,yk,yH,gN,gNN,zP,yG,wS,yA,zA,zI,zK,yw,zb,zn,zB,look,zS,ye,yr,zBo,zDI,zDJ,zEo,zBs,zCJ,ya,wF,yJ,fEq,xC,xB,zB9,zB5,wn,zH7,List.map,List.cons_append,List.nil_append,List.set_cons_zero,List.set_cons_succ,List.length_cons,List.length_nil,List.replicate_succ,List.replicate_zero,Nat.reduceSub,Nat.reduceAdd,zH9,zIA,zIB,zIC,zAS,zBp,zBq,if_true,if_false,Bool.false_eq_true]) <;> (try simp only [zu,zX,zv,xIf,yk,yH,gN,gNN,zP,yG,wS,yA,zA,zI,zK,yw,zb,zn,zB,look,zS,ye,yr,zBo,zDI,zDJ,zEo,zBs,zCJ,ya,wF,yJ,fEq,xC,xB,zB9,zB5,wn,zH7,List.map,List.cons_append,List.nil_append,List.set_cons_zero,List.set_cons_succ,List.length_cons,List.length_nil,List.replicate_succ,List.replicate_zero,Nat.reduceSub,Nat.reduceAdd,zH9,zIA,zIB,zIC,zAS,zBp,zBq,if_true,if_false,Bool.false_eq_true]))
 intro l hl
 refine zGO (n:=n) (zF (zE rfl) zM) (by (first|lia|omega)) ?_
 refine zAa (fun i G'=>G'=zR G l ((zBK n i).map zt)) rfl (fun u0 u0 u0=>trivial) ?_ ?_
 ·rintro i x hx G2 rfl
  obtain⟨rfl,hi⟩:=zGN hx
  have hlen:=zFr (n:=n) (i:=i+1) (by (first|lia|omega)) hn
  rw[zC1,List.length_append,List.length_map,List.length_range] at hlen
  have hw:PuI (iR2 (zA (zP yJ (zB 2) (xC (.int 1))) (zA (zB 0) zI))) [some (nD n),some (.adr l),some (nD i)] (zR G l ((zBK n i).map zt)) (yX ((i:Int)+1) ((n:Int)-((i:Int)+1)).toNat) :=
   zJw (zF (wp (zE rfl) yU fun u0 u0 u0 q=>q) (zF (zE rfl) zM)) (by (first|lia|omega))
  have:=zBn (bd:=wy) (te:=yG (zA (zB 2) (zA (zB 3) zI))) (fun d=>.tup [nD i,d]) (fun d=>[d]) hw fun x hx=>⟨rfl,yP (zF (zE rfl) (zF (zE rfl) zM)) (by simp)⟩
  ((try dsimp only [zu,zX,zv,xIf,yk,yH,gN,gNN,zP,yG,wS,yA,zA,zI,zK,yw,zb,zn,zB,look,zS,ye,yr,zBo,zDI,zDJ,zEo,zBs,zCJ,ya,wF,yJ,fEq,xC,xB,zB9,zB5,wn,zH7,List.map,List.cons_append,List.nil_append,List.set_cons_zero,List.set_cons_succ,List.length_cons,List.length_nil,List.replicate_succ,List.replicate_zero,Nat.reduceSub,Nat.reduceAdd,zH9,zIA,zIB,zIC,zAS,zBp,zBq,if_true,if_false,Bool.false_eq_true]) <;> (try simp only [zu,zX,zv,xIf,yk,yH,gN,gNN,zP,yG,wS,yA,zA,zI,zK,yw,zb,zn,zB,look,zS,ye,yr,zBo,zDI,zDJ,zEo,zBs,zCJ,ya,wF,yJ,fEq,xC,xB,zB9,zB5,wn,zH7,List.map,List.cons_append,List.nil_append,List.set_cons_zero,List.set_cons_succ,List.length_cons,List.length_nil,List.replicate_succ,List.replicate_zero,Nat.reduceSub,Nat.reduceAdd,zH9,zIA,zIB,zIC,zAS,zBp,zBq,if_true,if_false,Bool.false_eq_true]))
  have e:((n:Int)-((i:Int)+1)).toNat=n-(i+1):=by (first|lia|omega)
  have e2:List.map (fun d=>D.tup [nD i,d]) (yX ((i:Int)+1) ((n:Int)-((i:Int)+1)).toNat)=((List.range (n-(i+1))).map fun k=>(i,i+1+k)).map zt:=by
   rw[e]
   unfold yX
   rw[List.map_map,List.map_map]
   refine List.map_congr_left fun k u0=>?_
   simp[zt,nD]
  rw[e2] at this
  refine zGP rfl zH (fun Q q=>this _ (.refl _) Q q) (by simp only[List.length_map,List.length_range];(first|lia|omega)) ⟨.keep (.keep (.skip .nil)),_,.refl _,?_⟩
  rw[zAs,zC1,List.map_append]
 ·rintro G2 rfl
  rw[List.length_map,List.length_range,zDs]
  exact FgR.of (h l hl)
end K
namespace K
open PySem PySem.Spec PyProof.Rows L2 L3
theorem zLk(l:List Nat)(i:Nat):((l.map nD).any fun z=>wf z (nD i))=decide (i∈l):=by
 rw[List.any_map,Bool.eq_iff_iff]
 simp only[List.any_eq_true,Function.comp,zBr,decide_eq_true_eq,zEF]
 constructor
 ·rintro⟨x,h,rfl⟩;exact h
 ·intro h;exact⟨i,h,rfl⟩
theorem zDN(l:List Nat):∀ d∈l.map nD,flat 8 d=true:=by
 intro d hd
 obtain⟨k,u0,rfl⟩:=List.mem_map.mp hd
 rfl
theorem zEs{σ:S2}{G:Gp}{t u:zo}{ng:Bool}{x:D}{ds:List D}{b:Bool}(h:ze t σ G x)(h':ze u σ G (.tup ds))(f:flat 8 x=true)(fs:∀ d∈ds,flat 8 d=true)(e:(if ng then !ds.any fun z=>wf z x else ds.any fun z=>wf z x)=b):ze (zP (fIn ng) t u) σ G (.bl b) :=
 wp h h' fun u0 u0 u0 q=>⟨f,fs,by rw[e];exact q⟩
theorem wk{σ:S2}{G:Gp}{t u:zo}{i j:Int}(h:ze t σ G (.int i))(h':ze u σ G (.int j)):ze (zP yJ t u) σ G (.int (i+j)):=wp h h' fun u0 u0 u0 q=>q
noncomputable def zBw(n:Nat)(r:List Nat):Prop:=r.Perm (List.range n++List.range n)
theorem zBw.len{n:Nat}{r:List Nat}(h:zBw n r):r.length=2*n:=by
 have:=h.length_eq
 simp at this;(first|lia|omega)
theorem zBw.mem{n:Nat}{r:List Nat}(h:zBw n r){x:Nat}:x∈r↔x<n:=by
 rw[h.mem_iff];simp
theorem zG7{n i:Nat}:(List.range n).count i=if i<n then 1 else 0:=by
 induction n with
 | zero=>simp
 | succ n ih =>
  rw[List.range_succ,List.count_append,ih]
  by_cases h:i=n
  ·subst h;simp
  ·have:(n==i)=false:=by simpa using fun e=>h e.symm
   simp[List.count_cons,this]
   split<;>split<;>(first|lia|omega)
theorem zBw.count{n:Nat}{r:List Nat}(h:zBw n r){i:Nat}(hi:i<n):r.count i=2:=by
 rw[h.count_eq,List.count_append,zG7,if_pos hi]
noncomputable def both(r:List Nat)(p:Nat×Nat):List Nat:=r.filter fun x=>decide (x=p.1)||decide (x=p.2)
noncomputable def zA6(r:List Nat)(p:Nat×Nat):Bool:=match both r p with | a::b::c::_=>decide (a≠b)&&decide (b≠c) | _=>false
theorem zLl{n:Nat}{r:List Nat}(h:zBw n r){p:Nat×Nat}(hp:p∈yj n):(both r p).length=4:=by
 obtain⟨i,j⟩:=p
 obtain⟨h1,h2⟩:=yZ.mp hp
 have:∀ l:List Nat,(l.filter fun x=>decide (x=i)||decide (x=j)).length=l.count i+l.count j:=by
  intro l
  induction l with
  | nil=>rfl
  | cons a r ih =>
   simp only[List.filter_cons,List.count_cons]
   by_cases ha:a=i
   ·subst ha
    have:¬ a=j:=by dsimp only at h1;(first|lia|omega)
    simp[this,ih];(first|lia|omega)
   ·by_cases hb:a=j
    ·subst hb;simp[ha,ih];(first|lia|omega)
    ·simp[ha,hb,ih]
 unfold both
 rw[this,h.count (by dsimp only at h1 h2;(first|lia|omega)),h.count h2]
theorem _root_.L3.Sub.put {G G' : Gp} {f : Addr} {x : List D} (h : Sub G G') (n : G.m f = none) : Sub G (zR G' f x) :=
  ⟨fun a o e => by rw [zQ (gne e n)]; exact h.m a o e, fun a o e => h.ro a o e⟩
noncomputable def zAg:Sp2:=fun ds G R=>∃(n:Nat) (r:List Nat),ds=[.tup (r.map nD)]∧zBw n r∧n≤100∧R (zO n (zA6 r)) G
noncomputable def zBx:yi:=(zX (zv (zP (wF zK8 fun i j=>.int (i / j)) (zK yR (zA (zB 0) zI)) (xC (.int 2))) (gN 1)) (zX (zv (yA (wS zI)) (gN 2)) (zX (wV (iF (yw yQ (zA (zB 1) zI))) (gNN 3 4) (zX (zAK 5 (zf (iV (zB 0)) wy (xB (zP (fIn false) (zB 6) (yG (zA (zB 3) (zA (zB 4) zI))))) (zB 6))) (xIf (zB5 (xB (zP (fEq true) (zP zi (zB 5) (xC (.int 0))) (zP zi (zB 5) (xC (.int 1))))) (xB (zP (fEq true) (zP zi (zB 5) (xC (.int 1))) (zP zi (zB 5) (xC (.int 2)))))) (yk (zEm (zB 2) (zA (yG (zA (zB 3) (zA (zB 4) zI))) zI))) yH))) (zu (yG (zA (zB 1) (zA (zK zCR (zA (zB 2) zI)) zI)))))))
theorem zNg{σ:S2}{G:Gp}{r:List Nat}{p:Nat×Nat}{x1 x2 x5:Option D}(h:σ=[some (.tup (r.map nD)),x1,x2,some (nD p.1),some (nD p.2),x5]) :
  PuL (zf (iV (zB 0)) wy (xB (zP (fIn false) (zB 6) (yG (zA (zB 3) (zA (zB 4) zI))))) (zB 6)) σ G ((both r p).map nD):=by
 subst h
 have:=wa (bd:=wy) (tc:=(xB (zP (fIn false) (zB 6) (yG (zA (zB 3) (zA (zB 4) zI)))))) (te:=zB 6) (fun d=>match d with | .int x=>decide (x.toNat=p.1)||decide (x.toNat=p.2) | _=>false) (fun d=>d) (fun d=>[d])
  (zAQ (σ:=[some (.tup (r.map nD)),x1,x2,some (nD p.1),some (nD p.2),x5]) (G:=G) (zE (i:=0) rfl)) fun x hx=>by
   obtain⟨k,hk,rfl⟩:=List.mem_map.mp hx
   refine⟨rfl,wK (zEs (zE (d:=nD k) rfl) (yP (zF (zE (d:=nD p.1) rfl) (zF (zE (d:=nD p.2) rfl) zM)) (by simp)) rfl (zDN [p.1,p.2]) ?_),fun u0=>zE rfl⟩
   have:=zLk [p.1,p.2] k
   simp only[List.map] at this
   simp only[Bool.false_eq_true,if_false,this]
   rw[Bool.eq_iff_iff]
   simp
 have e:List.map (fun d=>d) (List.filter (fun d=>match d with | .int x=>decide (x.toNat=p.1)||decide (x.toNat=p.2) | _=>false) (r.map nD))=(both r p).map nD:=by
  rw[List.map_id',List.filter_map]
  rfl
 rw[e] at this
 exact this
theorem zAZ{α:Type}{f:α→D}{l:List α}{i:Nat}{x:D}(h:(l.map f)[i]?=some x):∃ a,l[i]?=some a∧x=f a:=by
 rw[List.getElem?_map] at h
 cases q:l[i]? with
 | none=>rw[q] at h;cases h
 | some a=>rw[q] at h;cases h;exact⟨a,rfl,rfl⟩
theorem zIF(ds:List D)(G:Gp)(R:Q2)(h:zAg ds G R):ds.length=1∧zBx (zd R) (zS ["ring","many","found","one","other","some"] ds) G:=by
 obtain⟨n,r,rfl,hr,hn,h⟩:=h
 refine⟨rfl,?_⟩
 unfold zBx
 ((try dsimp only [zu,zX,zv,xIf,yk,yH,gN,gNN,zP,yG,wS,yA,zA,zI,zK,yw,zb,zn,zB,look,zS,ye,yr,zBo,zDI,zDJ,zEo,zBs,zCJ,ya,wF,yJ,fEq,xC,xB,zB9,zB5,wn,zH7,zAK,List.map,List.cons_append,List.nil_append,List.set_cons_zero,List.set_cons_succ,List.length_cons,List.length_nil,List.replicate_succ,List.replicate_zero,Nat.reduceSub,Nat.reduceAdd,zH9,zIA,zIB,zIC,zAS,zBp,zBq,if_true,if_false,Bool.false_eq_true]) <;> (try simp only [zu,zX,zv,xIf,yk,yH,gN,gNN,zP,yG,wS,yA,zA,zI,zK,yw,zb,zn,zB,look,zS,ye,yr,zBo,zDI,zDJ,zEo,zBs,zCJ,ya,wF,yJ,fEq,xC,xB,zB9,zB5,wn,zH7,zAK,List.map,List.cons_append,List.nil_append,List.set_cons_zero,List.set_cons_succ,List.length_cons,List.length_nil,List.replicate_succ,List.replicate_zero,Nat.reduceSub,Nat.reduceAdd,zH9,zIA,zIB,zIC,zAS,zBp,zBq,if_true,if_false,Bool.false_eq_true]))
 refine⟨r.map nD,rfl,?_⟩
 ((try dsimp only [zu,zX,zv,xIf,yk,yH,gN,gNN,zP,yG,wS,yA,zA,zI,zK,yw,zb,zn,zB,look,zS,ye,yr,zBo,zDI,zDJ,zEo,zBs,zCJ,ya,wF,yJ,fEq,xC,xB,zB9,zB5,wn,zH7,zAK,List.map,List.cons_append,List.nil_append,List.set_cons_zero,List.set_cons_succ,List.length_cons,List.length_nil,List.replicate_succ,List.replicate_zero,Nat.reduceSub,Nat.reduceAdd,zH9,zIA,zIB,zIC,zAS,zBp,zBq,if_true,if_false,Bool.false_eq_true]) <;> (try simp only [zu,zX,zv,xIf,yk,yH,gN,gNN,zP,yG,wS,yA,zA,zI,zK,yw,zb,zn,zB,look,zS,ye,yr,zBo,zDI,zDJ,zEo,zBs,zCJ,ya,wF,yJ,fEq,xC,xB,zB9,zB5,wn,zH7,zAK,List.map,List.cons_append,List.nil_append,List.set_cons_zero,List.set_cons_succ,List.length_cons,List.length_nil,List.replicate_succ,List.replicate_zero,Nat.reduceSub,Nat.reduceAdd,zH9,zIA,zIB,zIC,zAS,zBp,zBq,if_true,if_false,Bool.false_eq_true]))
 refine⟨⟨by decide,by decide⟩,fun f hf=>?_⟩
 have e:(((r.map nD).length:Int) / 2)=(n:Int):=by rw[List.length_map,hr.len];(first|lia|omega)
 rw[e]
 refine zA5 ⟨n,rfl,hn,fun a ha=>?_⟩
 have fa:a≠f:=fun e=>by rw[e,zH] at ha;cases ha
 have ga:G.m a=none:=by rw[zQ fa] at ha;exact ha
 refine zAa (fun k G'=>G'.m f=some ((((yj n).take k).filter (zA6 r)).map zt)∧G'.m a=some ((yj n).map zt)∧Sub G G') ⟨?_,zH,?_⟩ (fun u0 u0 h=>.inl h.2.1) ?_ ?_
 ·rw[zQ (Ne.symm fa)];exact zH
 ·exact((Sub.refl G).put hf).put ga
 ·rintro k x hx G2 ⟨h1,h2,h3⟩
  obtain⟨p,hp,rfl⟩:=zAZ hx
  have hp':=List.mem_of_getElem? hp
  have hc:(((yj n).take (k+1)).filter (zA6 r))=(((yj n).take k).filter (zA6 r))++(if zA6 r p=true then [p] else []):=by
   rw[yl hp,List.filter_append]
   congr 1
   simp[List.filter_cons]
  show gNN 3 4 (.tup [nD p.1,nD p.2]) _ _ _
  ((try dsimp only [zu,zX,zv,xIf,yk,yH,gN,gNN,zP,yG,wS,yA,zA,zI,zK,yw,zb,zn,zB,look,zS,ye,yr,zBo,zDI,zDJ,zEo,zBs,zCJ,ya,wF,yJ,fEq,xC,xB,zB9,zB5,wn,zH7,zAK,List.map,List.cons_append,List.nil_append,List.set_cons_zero,List.set_cons_succ,List.length_cons,List.length_nil,List.replicate_succ,List.replicate_zero,Nat.reduceSub,Nat.reduceAdd,zH9,zIA,zIB,zIC,zAS,zBp,zBq,if_true,if_false,Bool.false_eq_true]) <;> (try simp only [zu,zX,zv,xIf,yk,yH,gN,gNN,zP,yG,wS,yA,zA,zI,zK,yw,zb,zn,zB,look,zS,ye,yr,zBo,zDI,zDJ,zEo,zBs,zCJ,ya,wF,yJ,fEq,xC,xB,zB9,zB5,wn,zH7,zAK,List.map,List.cons_append,List.nil_append,List.set_cons_zero,List.set_cons_succ,List.length_cons,List.length_nil,List.replicate_succ,List.replicate_zero,Nat.reduceSub,Nat.reduceAdd,zH9,zIA,zIB,zIC,zAS,zBp,zBq,if_true,if_false,Bool.false_eq_true]))
  refine zNg rfl G2 (.refl G2) _ fun s hs=>?_
  have hl:=zLl hr hp'
  have hz:((((yj n).take k).filter (zA6 r)).map zt).length≤1000000:=by
   rw[List.length_map]
   have:=List.length_filter_le (zA6 r) ((yj n).take k)
   rw[List.length_take] at this
   have:=zC0 hn
   (first|lia|omega)
  have sf:s≠f:=fun e=>by rw[e,h1] at hs;cases hs
  have sa:s≠a:=fun e=>by rw[e,h2] at hs;cases hs
  have gs:G.m s=none:=by
   cases q:G.m s with
   | none=>rfl
   | some o=>rw[h3.m s o q] at hs;cases hs
  match hb:both r p,hl with
  | [x,y,z,w],_ =>
   have hcr:zA6 r p=(decide (x≠y)&&decide (y≠z)):=by unfold zA6;rw[hb]
   rw[hcr] at hc
   ((try dsimp only [zu,zX,zv,xIf,yk,yH,gN,gNN,zP,yG,wS,yA,zA,zI,zK,yw,zb,zn,zB,look,zS,ye,yr,zBo,zDI,zDJ,zEo,zBs,zCJ,ya,wF,yJ,fEq,xC,xB,zB9,zB5,wn,zH7,zAK,List.map,List.cons_append,List.nil_append,List.set_cons_zero,List.set_cons_succ,List.length_cons,List.length_nil,List.replicate_succ,List.replicate_zero,Nat.reduceSub,Nat.reduceAdd,zH9,zIA,zIB,zIC,zAS,zBp,zBq,if_true,if_false,Bool.false_eq_true]) <;> (try simp only [zu,zX,zv,xIf,yk,yH,gN,gNN,zP,yG,wS,yA,zA,zI,zK,yw,zb,zn,zB,look,zS,ye,yr,zBo,zDI,zDJ,zEo,zBs,zCJ,ya,wF,yJ,fEq,xC,xB,zB9,zB5,wn,zH7,zAK,List.map,List.cons_append,List.nil_append,List.set_cons_zero,List.set_cons_succ,List.length_cons,List.length_nil,List.replicate_succ,List.replicate_zero,Nat.reduceSub,Nat.reduceAdd,zH9,zIA,zIB,zIC,zAS,zBp,zBq,if_true,if_false,Bool.false_eq_true]))
   refine zAT zH (zDH _ _) (zAT zH (zG3 _ _ _) ?_)
   ((try dsimp only [zu,zX,zv,xIf,yk,yH,gN,gNN,zP,yG,wS,yA,zA,zI,zK,yw,zb,zn,zB,look,zS,ye,yr,zBo,zDI,zDJ,zEo,zBs,zCJ,ya,wF,yJ,fEq,xC,xB,zB9,zB5,wn,zH7,zAK,List.map,List.cons_append,List.nil_append,List.set_cons_zero,List.set_cons_succ,List.length_cons,List.length_nil,List.replicate_succ,List.replicate_zero,Nat.reduceSub,Nat.reduceAdd,zH9,zIA,zIB,zIC,zAS,zBp,zBq,if_true,if_false,Bool.false_eq_true]) <;> (try simp only [zu,zX,zv,xIf,yk,yH,gN,gNN,zP,yG,wS,yA,zA,zI,zK,yw,zb,zn,zB,look,zS,ye,yr,zBo,zDI,zDJ,zEo,zBs,zCJ,ya,wF,yJ,fEq,xC,xB,zB9,zB5,wn,zH7,zAK,List.map,List.cons_append,List.nil_append,List.set_cons_zero,List.set_cons_succ,List.length_cons,List.length_nil,List.replicate_succ,List.replicate_zero,Nat.reduceSub,Nat.reduceAdd,zH9,zIA,zIB,zIC,zAS,zBp,zBq,if_true,if_false,Bool.false_eq_true]))
   refine⟨rfl,rfl,?_⟩
   have exy:(!wf (nD x) (nD y))=decide (x≠y):=by rw[zBr];rw[Bool.eq_iff_iff];simp;(first|lia|omega)
   have eyz:(!wf (nD y) (nD z))=decide (y≠z):=by rw[zBr];rw[Bool.eq_iff_iff];simp;(first|lia|omega)
   rw[exy]
   have no:(decide (x≠y)&&decide (y≠z))=false→zAe [some (.tup (r.map nD)),some (.int n),some (.adr f),none,none,none] [some (.tup (r.map nD)),some (.int n),some (.adr f),some (nD p.1),some (nD p.2),some (.adr s)]∧∃ G'',Sub G'' (zR G2 s ([x,y,z,w].map nD))∧(G''.m f=some ((((yj n).take (k+1)).filter (zA6 r)).map zt)∧G''.m a=some ((yj n).map zt)∧Sub G G''):=fun hf=>by
    refine⟨.keep (.keep (.keep (.skip (.skip (.skip .nil))))),G2,.new hs,?_,h2,h3⟩
    rw[hc,hf];simpa using h1
   by_cases c1:x≠y
   ·rw[decide_eq_true c1]
    ((try dsimp only [zu,zX,zv,xIf,yk,yH,gN,gNN,zP,yG,wS,yA,zA,zI,zK,yw,zb,zn,zB,look,zS,ye,yr,zBo,zDI,zDJ,zEo,zBs,zCJ,ya,wF,yJ,fEq,xC,xB,zB9,zB5,wn,zH7,zAK,List.map,List.cons_append,List.nil_append,List.set_cons_zero,List.set_cons_succ,List.length_cons,List.length_nil,List.replicate_succ,List.replicate_zero,Nat.reduceSub,Nat.reduceAdd,zH9,zIA,zIB,zIC,zAS,zBp,zBq,if_true,if_false,Bool.false_eq_true]) <;> (try simp only [zu,zX,zv,xIf,yk,yH,gN,gNN,zP,yG,wS,yA,zA,zI,zK,yw,zb,zn,zB,look,zS,ye,yr,zBo,zDI,zDJ,zEo,zBs,zCJ,ya,wF,yJ,fEq,xC,xB,zB9,zB5,wn,zH7,zAK,List.map,List.cons_append,List.nil_append,List.set_cons_zero,List.set_cons_succ,List.length_cons,List.length_nil,List.replicate_succ,List.replicate_zero,Nat.reduceSub,Nat.reduceAdd,zH9,zIA,zIB,zIC,zAS,zBp,zBq,if_true,if_false,Bool.false_eq_true]))
    refine zAT zH (zG3 _ _ _) (zAT zH (zLe _ _ _ _) ?_)
    ((try dsimp only [zu,zX,zv,xIf,yk,yH,gN,gNN,zP,yG,wS,yA,zA,zI,zK,yw,zb,zn,zB,look,zS,ye,yr,zBo,zDI,zDJ,zEo,zBs,zCJ,ya,wF,yJ,fEq,xC,xB,zB9,zB5,wn,zH7,zAK,List.map,List.cons_append,List.nil_append,List.set_cons_zero,List.set_cons_succ,List.length_cons,List.length_nil,List.replicate_succ,List.replicate_zero,Nat.reduceSub,Nat.reduceAdd,zH9,zIA,zIB,zIC,zAS,zBp,zBq,if_true,if_false,Bool.false_eq_true]) <;> (try simp only [zu,zX,zv,xIf,yk,yH,gN,gNN,zP,yG,wS,yA,zA,zI,zK,yw,zb,zn,zB,look,zS,ye,yr,zBo,zDI,zDJ,zEo,zBs,zCJ,ya,wF,yJ,fEq,xC,xB,zB9,zB5,wn,zH7,zAK,List.map,List.cons_append,List.nil_append,List.set_cons_zero,List.set_cons_succ,List.length_cons,List.length_nil,List.replicate_succ,List.replicate_zero,Nat.reduceSub,Nat.reduceAdd,zH9,zIA,zIB,zIC,zAS,zBp,zBq,if_true,if_false,Bool.false_eq_true]))
    refine⟨rfl,rfl,?_⟩
    rw[eyz]
    by_cases c2:y≠z
    ·rw[decide_eq_true c2]
     ((try dsimp only [zu,zX,zv,xIf,yk,yH,gN,gNN,zP,yG,wS,yA,zA,zI,zK,yw,zb,zn,zB,look,zS,ye,yr,zBo,zDI,zDJ,zEo,zBs,zCJ,ya,wF,yJ,fEq,xC,xB,zB9,zB5,wn,zH7,zAK,List.map,List.cons_append,List.nil_append,List.set_cons_zero,List.set_cons_succ,List.length_cons,List.length_nil,List.replicate_succ,List.replicate_zero,Nat.reduceSub,Nat.reduceAdd,zH9,zIA,zIB,zIC,zAS,zBp,zBq,if_true,if_false,Bool.false_eq_true]) <;> (try simp only [zu,zX,zv,xIf,yk,yH,gN,gNN,zP,yG,wS,yA,zA,zI,zK,yw,zb,zn,zB,look,zS,ye,yr,zBo,zDI,zDJ,zEo,zBs,zCJ,ya,wF,yJ,fEq,xC,xB,zB9,zB5,wn,zH7,zAK,List.map,List.cons_append,List.nil_append,List.set_cons_zero,List.set_cons_succ,List.length_cons,List.length_nil,List.replicate_succ,List.replicate_zero,Nat.reduceSub,Nat.reduceAdd,zH9,zIA,zIB,zIC,zAS,zBp,zBq,if_true,if_false,Bool.false_eq_true]))
     refine zCU (d:=zt p) rfl (by rw[zQ (Ne.symm sf)];exact h1) (fun Q q=>by ((try dsimp only [zu,zX,zv,xIf,yk,yH,gN,gNN,zP,yG,wS,yA,zA,zI,zK,yw,zb,zn,zB,look,zS,ye,yr,zBo,zDI,zDJ,zEo,zBs,zCJ,ya,wF,yJ,fEq,xC,xB,zB9,zB5,wn,zH7,zAK,List.map,List.cons_append,List.nil_append,List.set_cons_zero,List.set_cons_succ,List.length_cons,List.length_nil,List.replicate_succ,List.replicate_zero,Nat.reduceSub,Nat.reduceAdd,zH9,zIA,zIB,zIC,zAS,zBp,zBq,if_true,if_false,Bool.false_eq_true]) <;> (try simp only [zu,zX,zv,xIf,yk,yH,gN,gNN,zP,yG,wS,yA,zA,zI,zK,yw,zb,zn,zB,look,zS,ye,yr,zBo,zDI,zDJ,zEo,zBs,zCJ,ya,wF,yJ,fEq,xC,xB,zB9,zB5,wn,zH7,zAK,List.map,List.cons_append,List.nil_append,List.set_cons_zero,List.set_cons_succ,List.length_cons,List.length_nil,List.replicate_succ,List.replicate_zero,Nat.reduceSub,Nat.reduceAdd,zH9,zIA,zIB,zIC,zAS,zBp,zBq,if_true,if_false,Bool.false_eq_true]));exact q) hz ⟨.keep (.keep (.keep (.skip (.skip (.skip .nil))))),_,.refl _,?_,?_,?_⟩
     ·rw[zH,hc,decide_eq_true c1,decide_eq_true c2]
      simp
     ·rw[zQ fa,zQ (Ne.symm sa)];exact h2
     ·exact(h3.put gs).put hf
    ·rw[decide_eq_false c2]
     ((try dsimp only [zu,zX,zv,xIf,yk,yH,gN,gNN,zP,yG,wS,yA,zA,zI,zK,yw,zb,zn,zB,look,zS,ye,yr,zBo,zDI,zDJ,zEo,zBs,zCJ,ya,wF,yJ,fEq,xC,xB,zB9,zB5,wn,zH7,zAK,List.map,List.cons_append,List.nil_append,List.set_cons_zero,List.set_cons_succ,List.length_cons,List.length_nil,List.replicate_succ,List.replicate_zero,Nat.reduceSub,Nat.reduceAdd,zH9,zIA,zIB,zIC,zAS,zBp,zBq,if_true,if_false,Bool.false_eq_true]) <;> (try simp only [zu,zX,zv,xIf,yk,yH,gN,gNN,zP,yG,wS,yA,zA,zI,zK,yw,zb,zn,zB,look,zS,ye,yr,zBo,zDI,zDJ,zEo,zBs,zCJ,ya,wF,yJ,fEq,xC,xB,zB9,zB5,wn,zH7,zAK,List.map,List.cons_append,List.nil_append,List.set_cons_zero,List.set_cons_succ,List.length_cons,List.length_nil,List.replicate_succ,List.replicate_zero,Nat.reduceSub,Nat.reduceAdd,zH9,zIA,zIB,zIC,zAS,zBp,zBq,if_true,if_false,Bool.false_eq_true]))
     exact no (by simp[c2])
   ·rw[decide_eq_false c1]
    ((try dsimp only [zu,zX,zv,xIf,yk,yH,gN,gNN,zP,yG,wS,yA,zA,zI,zK,yw,zb,zn,zB,look,zS,ye,yr,zBo,zDI,zDJ,zEo,zBs,zCJ,ya,wF,yJ,fEq,xC,xB,zB9,zB5,wn,zH7,zAK,List.map,List.cons_append,List.nil_append,List.set_cons_zero,List.set_cons_succ,List.length_cons,List.length_nil,List.replicate_succ,List.replicate_zero,Nat.reduceSub,Nat.reduceAdd,zH9,zIA,zIB,zIC,zAS,zBp,zBq,if_true,if_false,Bool.false_eq_true]) <;> (try simp only [zu,zX,zv,xIf,yk,yH,gN,gNN,zP,yG,wS,yA,zA,zI,zK,yw,zb,zn,zB,look,zS,ye,yr,zBo,zDI,zDJ,zEo,zBs,zCJ,ya,wF,yJ,fEq,xC,xB,zB9,zB5,wn,zH7,zAK,List.map,List.cons_append,List.nil_append,List.set_cons_zero,List.set_cons_succ,List.length_cons,List.length_nil,List.replicate_succ,List.replicate_zero,Nat.reduceSub,Nat.reduceAdd,zH9,zIA,zIB,zIC,zAS,zBp,zBq,if_true,if_false,Bool.false_eq_true]))
    exact no (by simp[c1])
 ·rintro G2 ⟨h1,h2,h3⟩
  rw[List.length_map,List.take_length] at h1
  ((try dsimp only [zu,zX,zv,xIf,yk,yH,gN,gNN,zP,yG,wS,yA,zA,zI,zK,yw,zb,zn,zB,look,zS,ye,yr,zBo,zDI,zDJ,zEo,zBs,zCJ,ya,wF,yJ,fEq,xC,xB,zB9,zB5,wn,zH7,zAK,List.map,List.cons_append,List.nil_append,List.set_cons_zero,List.set_cons_succ,List.length_cons,List.length_nil,List.replicate_succ,List.replicate_zero,Nat.reduceSub,Nat.reduceAdd,zH9,zIA,zIB,zIC,zAS,zBp,zBq,if_true,if_false,Bool.false_eq_true]) <;> (try simp only [zu,zX,zv,xIf,yk,yH,gN,gNN,zP,yG,wS,yA,zA,zI,zK,yw,zb,zn,zB,look,zS,ye,yr,zBo,zDI,zDJ,zEo,zBs,zCJ,ya,wF,yJ,fEq,xC,xB,zB9,zB5,wn,zH7,zAK,List.map,List.cons_append,List.nil_append,List.set_cons_zero,List.set_cons_succ,List.length_cons,List.length_nil,List.replicate_succ,List.replicate_zero,Nat.reduceSub,Nat.reduceAdd,zH9,zIA,zIB,zIC,zAS,zBp,zBq,if_true,if_false,Bool.false_eq_true]))
  refine⟨((yj n).filter (zA6 r)).map zt,.inl h1,?_⟩
  exact⟨G,h3,h⟩
end K
namespace K
open PySem PySem.Spec PyProof.Rows L2 L3
theorem zEt{α:Type}:∀(l:List α) (i:Nat) (h:i<l.length),(l[i]::l.eraseIdx i).Perm l
 | a::r,0,_=>by simp
 | a::r,i+1,h=>by
  have hi:i<r.length:=by simpa using h
  simp only[List.getElem_cons_succ,List.eraseIdx_cons_succ]
  exact(List.Perm.swap a (r[i]'hi) _).trans ((zEt r i (by simpa using h)).cons a)
theorem zCs{α β:Type}(f:α→β):∀(l:List α) (i:Nat),(l.map f).eraseIdx i=(l.eraseIdx i).map f
 | [],_=>by simp
 | a::r,0=>by simp
 | a::r,i+1=>by simp[zCs f r i]
noncomputable def DrS(l:Addr)(G G':Gp):Prop:=∃ G1,Dr l G G1∧Sub G1 G'
theorem DrS.dr{l:Addr}{G G1 G2:Gp}(h:DrS l G G1)(d:Dr l G1 G2):DrS l G G2:=by
 obtain⟨G0,d0,s0⟩:=h
 obtain⟨G3,d3,s3⟩:=d.sub s0
 exact⟨G3,d0.trans d3,s3⟩
theorem DrS.put{l f:Addr}{G G1:Gp}{x:List D}(h:DrS l G G1)(s:zAR G l)(n:G.m f=none):DrS l G (zR G1 f x):=by
 obtain⟨G0,d0,s0⟩:=h
 exact⟨G0,d0,s0.put (d0.none s n)⟩
theorem DrS.refl{l:Addr}{G:Gp}(s:zAR G l):DrS l G G:=⟨G,.refl s,.refl G⟩
theorem DrS.st{l:Addr}{G G':Gp}(h:DrS l G G'):zAR G' l:=by
 obtain⟨G0,d0,s0⟩:=h
 exact d0.st.ext s0
theorem DrS.own{l:Addr}{G G':Gp}(h:DrS l G G')(s:zAR G l){a:Addr}(n:G'.m a=none):G.m a=none:=by
 obtain⟨G0,d0,s0⟩:=h
 have n0:G0.m a=none:=by
  cases q:G0.m a with
  | none=>rfl
  | some o=>rw[s0.m a o q] at n;cases n
 by_cases ha:a=l
 ·subst ha
  obtain⟨u0,u0,e,u0⟩:=d0.st
  rw[e] at n0;cases n0
 ·rw[d0.ne ha] at n0;exact n0
theorem DrS.fin{l:Addr}{G G':Gp}{d:D}{R:Q2}(h:DrS l G G')(q:∀ G',Dr l G G'→R d G'):FgR R d G':=by
 obtain⟨G0,d0,s0⟩:=h
 exact⟨G0,s0,q G0 d0⟩
theorem drawn{σ:S2}{G G0:Gp}{st lf:Addr}{xs:List Nat}{i0 i2 k:Nat}{t:wN}{R:Q2}(h0:look σ i0=some (.adr st))(h2:look σ i2=some (.adr lf))(hk:σ.length=k)
  (ht:PuA t σ G [nD xs.length]) (hs:zAR G st) (hs0:zAR G0 st) (hne:lf≠st) (hx:G.m lf=some (xs.map nD)) (h0lf:G0.m lf=none) (hd:DrS st G0 G) (hlen:xs.length≤1000)
  (hR:∀(ys:List Nat) (G':Gp),ys.Perm xs→DrS st G0 G'→R (.tup (ys.map nD)) G') :
  zb zn (zf (iR1 t) wy zAB (zLU (zB i2) (zA (zK zy (zA (zB i0) (zA (zK yR (zA (zB i2) zI)) zI))) zI))) σ G R:=by
 have lk:∀(j:Nat) (o:D) (d:D),look σ j=some o→look (σ++[some d]) j=some o:=fun j o d h=>by
  clear h0 h2 hk ht
  induction σ generalizing j with
  | nil=>cases h
  | cons a r ih =>
   cases j with
   | zero=>exact h
   | succ j=>exact ih j h
 refine zEO (ht G (.refl G) _ ⟨by (first|lia|omega),fun A hA=>?_⟩)
 rw[zAD]
 have Alf:A≠lf:=fun e=>by rw[e,hx] at hA;cases hA
 have Ast:A≠st:=hs.ne hA
 refine zDG (fun i acc G'=>∃ ys zs:List Nat,acc=ys.map nD∧ys.length=i∧(ys++zs).Perm xs∧G'.m A=some acc∧G'.m lf=some (zs.map nD)∧DrS st G0 G')
  ⟨[],xs,rfl,rfl,.refl _,zH,by rw[zQ (Ne.symm Alf)];exact hx,hd.put hs0 (hd.own hs0 hA)⟩ (fun i acc G' ⟨ys,zs,h1,h2,h3,h4,h5,h6⟩=>⟨trivial,h4,by rw[h1,List.length_map];(first|lia|omega)⟩) ?_ ?_
 ·rintro i x acc G' hi ⟨ys,zs,rfl,h2',h3,h4,h5,h6⟩
  obtain⟨rfl,hi⟩:=zGN hi
  refine⟨[nD i],rfl,?_⟩
  have hz:ys.length+zs.length=xs.length:=by have:=h3.length_eq;rwa [List.length_append] at this
  have st':=h6.st
  unfold zAB
  dsimp only
  rw[if_pos rfl]
  unfold zLU
  rw[show zB i2=fun σ G R=>match look σ i2 with | some d=>R d G | none=>False from rfl]
  dsimp only
  rw[show List.map some [nD i]=[some (nD i)] from rfl,lk i2 _ _ h2]
  dsimp only
  rw[h5]
  dsimp only
  simp only[zA,zK,zB,zI,lk i0 _ _ h0,lk i2 _ _ h2]
  refine⟨zs.map nD,.inl h5,?_⟩
  rw[List.length_map]
  refine⟨st,zs.length,rfl,st',by (first|lia|omega),by (first|lia|omega),fun r G1 hr d1=>?_⟩
  have e1:G1.m lf=some (zs.map nD):=by rw[d1.ne hne];exact h5
  dsimp only
  rw[e1]
  dsimp only
  refine⟨⟨by (first|lia|omega),by rw[List.length_map];(first|lia|omega),by (first|lia|omega)⟩,?_⟩
  have e2:(List.map nD zs)[(r:Int).toNat]?=some (nD zs[r]):=by simp[hr]
  rw[e2]
  dsimp only
  have Aa:(zR G1 lf ((List.map nD zs).eraseIdx (r:Int).toNat)).m A=some (ys.map nD):=by rw[zQ Alf,d1.ne Ast];exact h4
  refine⟨Aa,.of ⟨ys++[zs[r]],zs.eraseIdx r,by simp,by simp[h2'],?_,zH,?_,?_⟩⟩
  ·rw[List.append_assoc]
   exact((zEt zs r hr).append_left ys).trans h3
  ·rw[zQ (Ne.symm Alf),zH]
   simp[zCs]
  ·have hA0:G0.m A=none:=hd.own hs0 hA
   exact(((h6.dr d1).put hs0 h0lf).put hs0 hA0)
 ·rintro acc G' ⟨ys,zs,rfl,h2',h3,h4,h5,h6⟩
  rw[List.length_map,List.length_range] at h2'
  have hz:ys.length+zs.length=xs.length:=by have:=h3.length_eq;rwa [List.length_append] at this
  have:zs=[]:=List.length_eq_zero_iff.mp (by (first|lia|omega))
  subst this
  rw[List.append_nil] at h3
  -- forget the list itself
  obtain⟨G1,d1,s1⟩:=h6
  refine⟨G1,d1.none hs0 (hd.own hs0 hA),s1,?_⟩
  exact hR ys G1 h3 ⟨G1,d1,.refl _⟩
noncomputable def zBY:Sp2:=fun ds G R=>∃(l:Addr) (n:Nat),ds=[.adr l,nD n]∧zAR G l∧n≤100∧∀(r:List Nat) (G':Gp),zBw n r→Dr l G G'→R (.tup (r.map nD)) G'
noncomputable def zDO:yi:=(zX (zv (yA (zPX (yA (zEl (zA (zB 1) zI))) (xC (.int 2)))) (gN 2)) (zu (zb zn (zf (iR1 (zA (zP (wF zFP fun i j=>.int (i*j)) (xC (.int 2)) (zB 1)) zI)) wy zAB (zLU (zB 2) (zA (zK zy (zA (zB 0) (zA (zK yR (zA (zB 2) zI)) zI))) zI))))))
theorem zLm(ds:List D)(G:Gp)(R:Q2)(h:zBY ds G R):ds.length=2∧zDO (zd R) (zS ["state","many","left"] ds) G:=by
 obtain⟨l,n,rfl,hs,hn,h⟩:=h
 refine⟨rfl,?_⟩
 unfold zDO zX zv yA zPX zEl
 ((try dsimp only [zu,zX,zv,xIf,yk,yH,gN,gNN,zP,yG,wS,yA,zA,zI,zK,yw,zb,zn,zB,look,zS,ye,yr,zBo,zDI,zDJ,zEo,zBs,zCJ,ya,wF,yJ,fEq,xC,xB,zB9,zB5,wn,zH7,zAK,List.map,List.cons_append,List.nil_append,List.set_cons_zero,List.set_cons_succ,List.length_cons,List.length_nil,List.replicate_succ,List.replicate_zero,Nat.reduceSub,Nat.reduceAdd,zH9,zIA,zIB,zIC,zAS,zBp,zBq,if_true,if_false,Bool.false_eq_true]) <;> (try simp only [zu,zX,zv,xIf,yk,yH,gN,gNN,zP,yG,wS,yA,zA,zI,zK,yw,zb,zn,zB,look,zS,ye,yr,zBo,zDI,zDJ,zEo,zBs,zCJ,ya,wF,yJ,fEq,xC,xB,zB9,zB5,wn,zH7,zAK,List.map,List.cons_append,List.nil_append,List.set_cons_zero,List.set_cons_succ,List.length_cons,List.length_nil,List.replicate_succ,List.replicate_zero,Nat.reduceSub,Nat.reduceAdd,zH9,zIA,zIB,zIC,zAS,zBp,zBq,if_true,if_false,Bool.false_eq_true]))
 refine⟨by (first|lia|omega),fun a ha=>?_⟩
 rw[zH]
 dsimp only
 rw[zAD]
 refine⟨by (first|lia|omega),by simp;(first|lia|omega),fun lf hlf=>?_⟩
 have e:(List.replicate (2:Int).toNat (List.map nD (List.range n))).flatten=(List.range n++List.range n).map nD:=by
  show(List.replicate 2 _).flatten=_
  simp[List.replicate_succ]
 rw[e]
 have hlf0:G.m lf=none:=by
  have:lf≠a:=fun e=>by rw[e,zH] at hlf;cases hlf
  rw[zQ this] at hlf;exact hlf
 have la:lf≠l:=hs.ne hlf0
 have hsG:zAR (zR (zR G a (List.map nD (List.range n))) lf ((List.range n++List.range n).map nD)) l:=(hs.ext (.new ha)).ext (.new hlf)
 have hdr:DrS l G (zR (zR G a (List.map nD (List.range n))) lf ((List.range n++List.range n).map nD)):=((DrS.refl hs).put hs ha).put hs hlf0
 have hlen:(List.range n++List.range n).length=2*n:=by simp;(first|lia|omega)
 refine drawn (k:=3) (xs:=List.range n++List.range n) (i0:=0) (i2:=2) rfl rfl rfl (zF ?_ zM) hsG hs la zH hlf0 hdr (by (first|lia|omega)) fun ys G' hp hd=>hd.fin fun G1 d1=>h ys G1 hp d1
 have:nD (List.range n++List.range n).length=.int (2*(n:Int)):=by rw[hlen];unfold nD;congr 1
 rw[this]
 exact wp yU (zE rfl) fun u0 u0 u0 q=>⟨.inl ⟨by decide,by decide⟩,q⟩
theorem zEu{l s:List (Nat×Nat)}(h:s.Sublist l)(nd:l.Nodup):(l.filter fun x=>decide (x∈s))=s:=by
 induction h with
 | slnil=>rfl
 | @cons s l a h ih =>
  obtain⟨h1,h2⟩:=List.nodup_cons.mp nd
  have:a∉s:=fun m=>h1 (h.subset m)
  rw[List.filter_cons,if_neg (by simpa using this)]
  exact ih h2
 | @cons_cons s l a h ih =>
  obtain⟨h1,h2⟩:=List.nodup_cons.mp nd
  rw[List.filter_cons,if_pos (by simp)]
  congr 1
  refine Eq.trans (List.filter_congr fun x hx=>?_) (ih h2)
  have:x≠a:=fun e=>h1 (e▸hx)
  simp[this]
theorem zNh{n:Nat}{s:List (Nat×Nat)}(h:s.Sublist (yj n)):zO n (fun p=>decide (p∈s))=.tup [nD n,.tup (s.map zt)]:=by
 unfold zO
 rw[zEu h (ym n)]
theorem picked{σ:S2}{G G0:Gp}{st pl:Addr}{n i0 i4 k:Nat}{tc:TT2}{R:List D→Gp→Prop}(h0:look σ i0=some (.adr st))(h4:look σ i4=some (.adr pl))(hk:σ.length=k)
  (hs0:zAR G0 st) (hne:pl≠st) (hx:G.m pl=some ((yj n).map zt)) (hd:DrS st G0 G)
  (hc:∀(p:Nat×Nat) (G':Gp) (Q:Bool→Gp→Prop),p∈yj n→zAR G' st→(∀ b G1,Dr st G' G1→Q b G1)→tc (σ++[some (zt p)]) G' Q)
  (hR:∀(s:List (Nat×Nat)) (G':Gp),s.Sublist (yj n)→DrS st G0 G'→R (s.map zt) G') :
  zf (iV (zB i4)) wy tc (zB k) σ G R:=by
 have lk:∀ d,look (σ++[some d]) k=some d:=fun d=>by
  subst hk
  clear h0 h4 hc
  induction σ with
  | nil=>rfl
  | cons a r ih=>exact ih
 refine zEO ?_
 unfold iV zB
 rw[h4]
 refine⟨(yj n).map zt,.inl hx,fun A hA=>?_⟩
 have Apl:A≠pl:=fun e=>by rw[e,hx] at hA;cases hA
 have Ast:A≠st:=hd.st.ne hA
 have hA0:=hd.own hs0 hA
 refine zDG (fun i acc G'=>∃ s:List (Nat×Nat),acc=s.map zt∧s.Sublist ((yj n).take i)∧G'.m A=some acc∧G'.m pl=some ((yj n).map zt)∧DrS st G0 G')
  ⟨[],rfl,by simp,zH,by rw[zQ (Ne.symm Apl)];exact hx,hd.put hs0 hA0⟩ (fun i acc G' ⟨s,h1,h2,h3,h4,h5⟩=>⟨.inl h4,h3,by rw[h1,List.length_map];exact Nat.le_trans h2.length_le (by rw[List.length_take];(first|lia|omega))⟩) ?_ ?_
 ·rintro i x acc G' hi ⟨s,rfl,h2,h3,h4',h5⟩
  obtain⟨p,hp,rfl⟩:=zAZ hi
  refine⟨[zt p],rfl,hc p G' _ (List.mem_of_getElem? hp) h5.st fun b G1 d1=>?_⟩
  have m1:G1.m A=some (s.map zt):=by rw[d1.ne Ast];exact h3
  have m2:G1.m pl=some ((yj n).map zt):=by rw[d1.ne hne];exact h4'
  cases b with
  | false =>
   rw[if_neg (by simp)]
   exact .of ⟨s,rfl,by rw[yl hp];exact h2.trans (List.sublist_append_left _ _),m1,m2,h5.dr d1⟩
  | true =>
   rw[if_pos rfl]
   show match look (σ++[some (zt p)]) k with | some d=>_ | none=>_
   rw[lk]
   refine⟨m1,.of ⟨s++[p],by simp,by rw[yl hp];exact h2.append (List.Sublist.refl _),zH,by rw[zQ (Ne.symm Apl)];exact m2,(h5.dr d1).put hs0 hA0⟩⟩
 ·rintro acc G' ⟨s,rfl,h2,h3,h4',h5⟩
  rw[List.length_map,List.take_length] at h2
  obtain⟨G1,d1,s1⟩:=h5
  exact⟨G1,d1.none hs0 hA0,s1,hR s G1 h2 ⟨G1,d1,.refl _⟩⟩
noncomputable def wY:Sp2:=fun ds G R=>∃(l:Addr) (m:Nat),ds=[.adr l,nD m]∧zAR G l∧1≤m∧m≤50∧∀(n:Nat) (q:Nat×Nat→Bool) (G':Gp),1≤n→n≤m→Dr l G G'→R (zO n q) G'
noncomputable def zES:yi:=(zX (zv (zP yJ (xC (.int 1)) (zK zy (zA (zB 0) (zA (zB 1) zI)))) (gN 2)) (zX (zv (zK zy (zA (zB 0) (zA (xC (.int 5)) zI))) (gN 3)) (zX (zv (yA (yw yQ (zA (zB 2) zI))) (gN 4)) (zX (xIf (xB (zP (fEq false) (zB 3) (xC (.int 0)))) (zu (zK zAg (zA (zK zBY (zA (zB 0) (zA (zB 2) zI))) zI))) yH) (zX (xIf (xB (zP (fEq false) (zB 3) (xC (.int 1)))) (zu (yG (zA (zB 2) (zA (zb zn (zf (iV (zB 4)) wy (zB9 (xB (zP (fEq false) (zP zi (zB 6) (xC (.int 1))) (zP yJ (zP zi (zB 6) (xC (.int 0))) (xC (.int 1))))) (xB (zP (fEq false) (zK zy (zA (zB 0) (zA (xC (.int 6)) zI))) (xC (.int 0))))) (zB 6))) zI)))) yH) (zX (zv (zP zi (yA (wS (zA (xC (.int 2)) (zA (xC (.int 3)) (zA (xC (.int 4)) zI))))) (zP (ya fun i j=>.int (i-j)) (zB 3) (xC (.int 2)))) (gN 5)) (zu (yG (zA (zB 2) (zA (zb zn (zf (iV (zB 4)) wy (xB (zP (fEq false) (zK zy (zA (zB 0) (zA (zB 5) zI))) (xC (.int 0)))) (zB 6))) zI))))))))))
theorem zNi(ds:List D)(G:Gp)(R:Q2)(h:wY ds G R):ds.length=2∧zES (zd R) (zS ["state","most","many","way","pairs_v","far"] ds) G:=by
 obtain⟨l,m,rfl,hs,hm1,hm,h⟩:=h
 refine⟨rfl,?_⟩
 unfold zES
 ((try dsimp only [zu,zX,zv,xIf,yk,yH,gN,gNN,zP,yG,wS,yA,zA,zI,zK,yw,zb,zn,zB,look,zS,ye,yr,zBo,zDI,zDJ,zEo,zBs,zCJ,ya,wF,yJ,fEq,xC,xB,zB9,zB5,wn,zH7,zAK,List.map,List.cons_append,List.nil_append,List.set_cons_zero,List.set_cons_succ,List.length_cons,List.length_nil,List.replicate_succ,List.replicate_zero,Nat.reduceSub,Nat.reduceAdd,zH9,zIA,zIB,zIC,zAS,zBp,zBq,if_true,if_false,Bool.false_eq_true]) <;> (try simp only [zu,zX,zv,xIf,yk,yH,gN,gNN,zP,yG,wS,yA,zA,zI,zK,yw,zb,zn,zB,look,zS,ye,yr,zBo,zDI,zDJ,zEo,zBs,zCJ,ya,wF,yJ,fEq,xC,xB,zB9,zB5,wn,zH7,zAK,List.map,List.cons_append,List.nil_append,List.set_cons_zero,List.set_cons_succ,List.length_cons,List.length_nil,List.replicate_succ,List.replicate_zero,Nat.reduceSub,Nat.reduceAdd,zH9,zIA,zIB,zIC,zAS,zBp,zBq,if_true,if_false,Bool.false_eq_true]))
 refine⟨l,m,rfl,hs,by (first|lia|omega),by (first|lia|omega),fun r G1 hr d1=>?_⟩
 ((try dsimp only [zu,zX,zv,xIf,yk,yH,gN,gNN,zP,yG,wS,yA,zA,zI,zK,yw,zb,zn,zB,look,zS,ye,yr,zBo,zDI,zDJ,zEo,zBs,zCJ,ya,wF,yJ,fEq,xC,xB,zB9,zB5,wn,zH7,zAK,List.map,List.cons_append,List.nil_append,List.set_cons_zero,List.set_cons_succ,List.length_cons,List.length_nil,List.replicate_succ,List.replicate_zero,Nat.reduceSub,Nat.reduceAdd,zH9,zIA,zIB,zIC,zAS,zBp,zBq,if_true,if_false,Bool.false_eq_true]) <;> (try simp only [zu,zX,zv,xIf,yk,yH,gN,gNN,zP,yG,wS,yA,zA,zI,zK,yw,zb,zn,zB,look,zS,ye,yr,zBo,zDI,zDJ,zEo,zBs,zCJ,ya,wF,yJ,fEq,xC,xB,zB9,zB5,wn,zH7,zAK,List.map,List.cons_append,List.nil_append,List.set_cons_zero,List.set_cons_succ,List.length_cons,List.length_nil,List.replicate_succ,List.replicate_zero,Nat.reduceSub,Nat.reduceAdd,zH9,zIA,zIB,zIC,zAS,zBp,zBq,if_true,if_false,Bool.false_eq_true]))
 refine⟨l,5,rfl,d1.st,by (first|lia|omega),by (first|lia|omega),fun way G2 hway d2=>?_⟩
 have d12:=d1.trans d2
 have e1:(1:Int)+(r:Int)=((r+1:Nat):Int):=by (first|lia|omega)
 ((try dsimp only [zu,zX,zv,xIf,yk,yH,gN,gNN,zP,yG,wS,yA,zA,zI,zK,yw,zb,zn,zB,look,zS,ye,yr,zBo,zDI,zDJ,zEo,zBs,zCJ,ya,wF,yJ,fEq,xC,xB,zB9,zB5,wn,zH7,zAK,List.map,List.cons_append,List.nil_append,List.set_cons_zero,List.set_cons_succ,List.length_cons,List.length_nil,List.replicate_succ,List.replicate_zero,Nat.reduceSub,Nat.reduceAdd,zH9,zIA,zIB,zIC,zAS,zBp,zBq,if_true,if_false,Bool.false_eq_true]) <;> (try simp only [zu,zX,zv,xIf,yk,yH,gN,gNN,zP,yG,wS,yA,zA,zI,zK,yw,zb,zn,zB,look,zS,ye,yr,zBo,zDI,zDJ,zEo,zBs,zCJ,ya,wF,yJ,fEq,xC,xB,zB9,zB5,wn,zH7,zAK,List.map,List.cons_append,List.nil_append,List.set_cons_zero,List.set_cons_succ,List.length_cons,List.length_nil,List.replicate_succ,List.replicate_zero,Nat.reduceSub,Nat.reduceAdd,zH9,zIA,zIB,zIC,zAS,zBp,zBq,if_true,if_false,Bool.false_eq_true]))
 rw[e1]
 refine⟨r+1,rfl,by (first|lia|omega),fun pl hpl=>?_⟩
 have hpl0:G.m pl=none:=by
  have:pl≠l:=d2.st.ne hpl
  rw[d12.ne this] at hpl;exact hpl
 have hne:pl≠l:=hs.ne hpl0
 have hdr:DrS l G (zR G2 pl ((yj (r+1)).map zt)):=(DrS.put (x:=(yj (r+1)).map zt) ⟨G2,d12,.refl _⟩ hs hpl0)
 have fin:∀(s:List (Nat×Nat)) (G':Gp),s.Sublist (yj (r+1))→DrS l G G'→FgR R (.tup [.int ((r+1:Nat):Int),.tup (s.map zt)]) G':=fun s G' hsub hd=>hd.fin fun G3 d3=>by
  have:=h (r+1) (fun p=>decide (p∈s)) G3 (by (first|lia|omega)) (by (first|lia|omega)) d3
  rw[zNh hsub] at this
  exact this
 have e0:wf (nD way) (.int 0)=decide (way=0):=by rw[zBr];rw[Bool.eq_iff_iff];simp
 have e1':wf (nD way) (.int 1)=decide (way=1):=by rw[zBr];rw[Bool.eq_iff_iff];simp;(first|lia|omega)
 refine⟨rfl,rfl,?_⟩
 rw[e0]
 by_cases w0:way=0
 ·rw[decide_eq_true w0,if_pos rfl]
  refine⟨l,r+1,rfl,hdr.st,by (first|lia|omega),fun ring G3 hring d3=>?_⟩
  ((try dsimp only [zu,zX,zv,xIf,yk,yH,gN,gNN,zP,yG,wS,yA,zA,zI,zK,yw,zb,zn,zB,look,zS,ye,yr,zBo,zDI,zDJ,zEo,zBs,zCJ,ya,wF,yJ,fEq,xC,xB,zB9,zB5,wn,zH7,zAK,List.map,List.cons_append,List.nil_append,List.set_cons_zero,List.set_cons_succ,List.length_cons,List.length_nil,List.replicate_succ,List.replicate_zero,Nat.reduceSub,Nat.reduceAdd,zH9,zIA,zIB,zIC,zAS,zBp,zBq,if_true,if_false,Bool.false_eq_true]) <;> (try simp only [zu,zX,zv,xIf,yk,yH,gN,gNN,zP,yG,wS,yA,zA,zI,zK,yw,zb,zn,zB,look,zS,ye,yr,zBo,zDI,zDJ,zEo,zBs,zCJ,ya,wF,yJ,fEq,xC,xB,zB9,zB5,wn,zH7,zAK,List.map,List.cons_append,List.nil_append,List.set_cons_zero,List.set_cons_succ,List.length_cons,List.length_nil,List.replicate_succ,List.replicate_zero,Nat.reduceSub,Nat.reduceAdd,zH9,zIA,zIB,zIC,zAS,zBp,zBq,if_true,if_false,Bool.false_eq_true]))
  refine⟨r+1,ring,rfl,hring,by (first|lia|omega),?_⟩
  exact(hdr.dr d3).fin fun G4 d4=>h _ _ G4 (by (first|lia|omega)) (by (first|lia|omega)) d4
 ·rw[decide_eq_false w0,if_neg (by simp)]
  refine⟨rfl,rfl,?_⟩
  rw[e1']
  by_cases w1:way=1
  ·rw[decide_eq_true w1,if_pos rfl]
   refine picked (k:=6) (i0:=0) (n:=r+1) rfl rfl rfl hs hne zH hdr (fun p G' Q hp hst hQ=>?_) fun s G' hsub hd=>?_
   ·show zB9 _ _ _ _ _
    unfold zt
    ((try dsimp only [zu,zX,zv,xIf,yk,yH,gN,gNN,zP,yG,wS,yA,zA,zI,zK,yw,zb,zn,zB,look,zS,ye,yr,zBo,zDI,zDJ,zEo,zBs,zCJ,ya,wF,yJ,fEq,xC,xB,zB9,zB5,wn,zH7,zAK,List.map,List.cons_append,List.nil_append,List.set_cons_zero,List.set_cons_succ,List.length_cons,List.length_nil,List.replicate_succ,List.replicate_zero,Nat.reduceSub,Nat.reduceAdd,zH9,zIA,zIB,zIC,zAS,zBp,zBq,if_true,if_false,Bool.false_eq_true]) <;> (try simp only [zu,zX,zv,xIf,yk,yH,gN,gNN,zP,yG,wS,yA,zA,zI,zK,yw,zb,zn,zB,look,zS,ye,yr,zBo,zDI,zDJ,zEo,zBs,zCJ,ya,wF,yJ,fEq,xC,xB,zB9,zB5,wn,zH7,zAK,List.map,List.cons_append,List.nil_append,List.set_cons_zero,List.set_cons_succ,List.length_cons,List.length_nil,List.replicate_succ,List.replicate_zero,Nat.reduceSub,Nat.reduceAdd,zH9,zIA,zIB,zIC,zAS,zBp,zBq,if_true,if_false,Bool.false_eq_true]))
    refine⟨rfl,rfl,?_⟩
    cases wf (nD p.2) (.int ((p.1:Int)+1)) with
    | true=>rw[if_pos rfl];exact hQ true G' (.refl hst)
    | false =>
     rw[if_neg (by simp)]
     refine⟨l,6,rfl,hst,by (first|lia|omega),by (first|lia|omega),fun x G3 hx d3=>?_⟩
     exact⟨rfl,rfl,hQ _ G3 d3⟩
   ·exact fin s G' hsub hd
  ·rw[decide_eq_false w1,if_neg (by simp)]
   intro a ha
   have hat:∃ far:Nat,atI [D.int 2,D.int 3,D.int 4] ((way:Int)-2)=some (nD far)∧0<far∧far≤4:=by
    have:way=2∨way=3∨way=4:=by (first|lia|omega)
    rcases this with rfl | rfl | rfl
    ·exact⟨2,zDH _ _,by (first|lia|omega),by (first|lia|omega)⟩
    ·exact⟨3,zG3 _ _ _,by (first|lia|omega),by (first|lia|omega)⟩
    ·exact⟨4,zLe _ _ _ _,by (first|lia|omega),by (first|lia|omega)⟩
   obtain⟨far,hat,hf1,hf2⟩:=hat
   refine zAT zH hat ?_
   have apl:pl≠a:=fun e=>by rw[← e,zH] at ha;cases ha
   have ha0:=hdr.own hs ha
   refine picked (k:=6) (i0:=0) (n:=r+1) rfl rfl rfl hs hne (by rw[zQ apl];exact zH) (hdr.put hs ha0) (fun p G' Q hp hst hQ=>?_) fun s G' hsub hd=>?_
   ·show xB _ _ _ _
    ((try dsimp only [zu,zX,zv,xIf,yk,yH,gN,gNN,zP,yG,wS,yA,zA,zI,zK,yw,zb,zn,zB,look,zS,ye,yr,zBo,zDI,zDJ,zEo,zBs,zCJ,ya,wF,yJ,fEq,xC,xB,zB9,zB5,wn,zH7,zAK,List.map,List.cons_append,List.nil_append,List.set_cons_zero,List.set_cons_succ,List.length_cons,List.length_nil,List.replicate_succ,List.replicate_zero,Nat.reduceSub,Nat.reduceAdd,zH9,zIA,zIB,zIC,zAS,zBp,zBq,if_true,if_false,Bool.false_eq_true]) <;> (try simp only [zu,zX,zv,xIf,yk,yH,gN,gNN,zP,yG,wS,yA,zA,zI,zK,yw,zb,zn,zB,look,zS,ye,yr,zBo,zDI,zDJ,zEo,zBs,zCJ,ya,wF,yJ,fEq,xC,xB,zB9,zB5,wn,zH7,zAK,List.map,List.cons_append,List.nil_append,List.set_cons_zero,List.set_cons_succ,List.length_cons,List.length_nil,List.replicate_succ,List.replicate_zero,Nat.reduceSub,Nat.reduceAdd,zH9,zIA,zIB,zIC,zAS,zBp,zBq,if_true,if_false,Bool.false_eq_true]))
    refine⟨l,far,rfl,hst,by (first|lia|omega),by (first|lia|omega),fun x G3 hx d3=>?_⟩
    exact⟨rfl,rfl,hQ _ G3 d3⟩
   ·exact fin s G' hsub hd
end K
namespace K
open PySem PySem.Spec PyProof.Rows L2 L3
section
variable {σ:S2} {G:Gp}
theorem zLn{x y:D}{ng:Bool}{G:Gp}{R:Q2}(hx:flat 8 x=true)(hy:flat 8 y=true)(q:R (.bl (if ng then !wf x y else wf x y)) G):fEq ng x y G R:=by
 cases x with
 | adr _=>simp[flat] at hx
 | _=>exact⟨hx,hy,q⟩
theorem zCt{ta tb:zo}{x y:D}{ng b:Bool}(ha:ze ta σ G x)(hb:ze tb σ G y)(hx:flat 8 x=true)(hy:flat 8 y=true)(e:(if ng then !wf x y else wf x y)=b):ze (zP (fEq ng) ta tb) σ G (.bl b) :=
 wp ha hb fun u0 u0 u0 q=>zLn hx hy (by rw[e];exact q)
theorem zJ4{ta tb:zo}{x:D}(ha:ze ta σ G x)(hb:ze tb σ G x)(hx:flat 8 x=true):ze (zP (fEq true) ta tb) σ G (.bl false) :=
 zCt ha hb hx hx (by rw[zEh x 8 hx];rfl)
theorem zIG{T:String}{t:zo}{d:D}{b:Bool}(h:ze t σ G d)(hd:∀ l,d≠.adr l)(hi:zCH d T=b):ze (zCk T t) σ G (.bl b):=fun G2 e R q=>h G2 e _ (by
 subst hi
 cases d with
 | adr l=>exact absurd rfl (hd l)
 | _=>exact q)
theorem zPc{T:String}{t:zo}{d:D}(h:ze t σ G d)(hi:zCH d T=true):ze (zCk T t) σ G (.bl true):=zIG h (fun l z=>by subst z;cases hi) hi
theorem zLo{t u:TT2}(h:PuT t σ G false)(h':PuT u σ G false):PuT (zB9 t u) σ G false:=zH8 h fun u0=>h'
theorem zB6{tc:TT2}{t u:yi}{E:yC}(h:PuT tc σ G false)(h':u E σ G):xIf tc t u E σ G:=h G (.refl G) _ (by rw[if_neg (by simp)];exact h')
theorem zC2{tc:TT2}{t u:yi}{E:yC}(h:PuT tc σ G true)(h':t E σ G):xIf tc t u E σ G:=h G (.refl G) _ (by rw[if_pos rfl];exact h')
theorem zQp{te:zo}{t u:yi}{E:yC}(h:te σ G fun d G1=>match d with | .bl b=>if b=true then t E σ G1 else u E σ G1 | _=>False):xIf (xB te) t u E σ G:=h
theorem zBZ{tc:TT2}{t u:yi}{E:yC}(h:PuT tc σ G false)(h':u E σ G):zX (xIf tc t yH) u E σ G:=h G (.refl G) _ (by rw[if_neg (by simp)];exact h')
theorem zAn{te:zo}{E:yC}{d:D}(h:ze te σ G d)(h':E.rt d G):zu te E σ G:=h G (.refl G) _ h'
theorem wZ{te:zo}{g:TG2}{u:yi}{E:yC}(h:te σ G fun d G1=>g d σ G1 fun σ' G'=>u E σ' G'):zX (zv te g) u E σ G:=h
theorem zC3{sp:Sp2}{t:wN}{ds:List D}{R:Q2}(h:PuA t σ G ds)(h':sp ds G R):zK sp t σ G R:=h G (.refl G) _ h'
theorem zIH{ta:zo}{tr:wN}{d:D}{R:List D→Gp→Prop}(h:ze ta σ G d)(h':tr σ G fun xs G2=>R (d::xs) G2):zA ta tr σ G R:=h G (.refl G) _ h'
theorem zDt{ta:zo}{tr:wN}{R:List D→Gp→Prop}(h:ta σ G fun d G1=>tr σ G1 fun xs G2=>R (d::xs) G2):zA ta tr σ G R:=h
theorem zPd{sp:Sp2}{t:wN}{R:Q2}(h:t σ G fun ds G1=>sp ds G1 R):zK sp t σ G R:=h
theorem zAL{tl:TL2}{ds:List D}{R:Q2}(h:PuL tl σ G ds)(h':∀ l,G.m l=none→R (.adr l) (zR G l ds)):yA tl σ G R:=h G (.refl G) _ h'
theorem wU{te:zo}{g:TG2}{u:yi}{E:yC}{d:D}(h:ze te σ G d)(h':g d σ G fun σ' G'=>u E σ' G'):zX (zv te g) u E σ G:=h G (.refl G) _ h'
theorem zJ5{tl:TL2}{l s:List Nat}(h:PuL tl σ G (l.map nD))(hl:l.length<64)(hp:s.Perm l)(hs:s.Pairwise (·≤·)):PuL (zA3 tl) σ G (s.map nD):=fun G2 e R q=>h G2 e _ (by
 have e1:l.map nD=(l.map fun(k:Nat)=>(k:Int)).map D.int:=by simp[nD]
 rw[e1,zEk]
 refine⟨by simpa using hl,fun ns' p1 p2=>?_⟩
 have:ns'=s.map fun(k:Nat)=>(k:Int):=by
  refine List.Perm.eq_of_pairwise (fun a b u0 u0 h1 h2=>Int.le_antisymm h1 h2) p2 ?_ (p1.trans (hp.map _).symm)
  exact List.Pairwise.map _ (fun a b h=>by (first|lia|omega)) hs
 subst this
 rw[List.map_map]
 exact q)
theorem _root_.L3.Dr.new{l:Addr}{G G':Gp}{x:List D}(h:Dr l (zR G l x) G')(n:G.m l=none):Ext G G':=by
 obtain⟨s,b,rfl,u0⟩:=h
 rw[zAs]
 exact .new n
end
theorem zFs(l:List Nat):flat 8 (.tup (l.map nD))=true:=by
 simp only[flat,List.all_eq_true]
 intro d hd
 obtain⟨k,u0,rfl⟩:=List.mem_map.mp hd
 rfl
theorem zJ6{σ:S2}{G:Gp}{a:Addr}{ns:List Int}{c:Int}(hc:1≤c∧c≤100)(h:look σ 0=some (.adr a))(ha:Ls G a (ns.map D.int)) :
  ∃ m:Nat,PuI (iR1 (zA (zK yr (zA (xC (.int 1)) (zA (zK ye (zA (zK yR (zA (zB 0) zI)) (zA (xC (.int c)) zI))) zI))) zI)) σ G ((List.range m).map nD):=by
 have h1:ze (zK yR (zA (zB 0) zI)) σ G (.int (ns.length:Int)):=zY (zF (zE h) zM) fun G2 e R q=>⟨ns.map D.int,e.ls ha,by rw[List.length_map];exact q⟩
 have h2:ze (zK ye (zA (zK yR (zA (zB 0) zI)) (zA (xC (.int c)) zI))) σ G (.int (if c<(ns.length:Int) then c else ns.length)):=zY (zF h1 (zF yU zM)) fun u0 u0 u0 q=>q
 have h3:ze (zK yr (zA (xC (.int 1)) (zA (zK ye (zA (zK yR (zA (zB 0) zI)) (zA (xC (.int c)) zI))) zI))) σ G (.int (if (if c<(ns.length:Int) then c else ns.length)>1 then (if c<(ns.length:Int) then c else ns.length) else 1)):=zY (zF yU (zF h2 zM)) fun u0 u0 u0 q=>q
 have hb:(if (if c<(ns.length:Int) then c else ns.length)>1 then (if c<(ns.length:Int) then c else (ns.length:Int)) else 1)≤100∧1≤(if (if c<(ns.length:Int) then c else ns.length)>1 then (if c<(ns.length:Int) then c else (ns.length:Int)) else 1):=by
  split<;>split<;>(first|lia|omega)
 generalize (if (if c<(ns.length:Int) then c else ns.length)>1 then (if c<(ns.length:Int) then c else (ns.length:Int)) else 1)=m at h3 hb
 refine⟨m.toNat,?_⟩
 have:(m.toNat:Int)=m:=by (first|lia|omega)
 have q:=zBX (zF h3 zM) (by (first|lia|omega))
 rw[← this,zAD] at q
 exact q
theorem zJ7{a:Addr}{G:Gp}{σ:S2}{k:Nat}{ns:List Int}{i j:Nat}(hs:look σ i=some (.adr a))(hk:look σ j=some (nD k))(ha:Ls G a (ns.map D.int)){R:Q2}(h:∀ l s b,G.m l=none→OkS s b→R (.adr l) (zR G l [.int s,.bl b])):yA (yw yy (zA (zB i) (zA (zB j) zI))) σ G R:=by
 unfold yA yw zA zI zB
 simp only[hs,hk]
 exact⟨a,ns,k,rfl,ha,fun s b o l hl=>h l s b hl o⟩
theorem zJ8{a:Addr}{G:Gp}{σ:S2}{k x:Nat}{ns:List Int}{i j:Nat}{u:yi}{E:yC}(hs:look σ i=some (.adr a))(hk:look σ j=some (nD k))(ha:Ls G a (ns.map D.int))(h:∀ l s b,G.m l=none→OkS s b→u E (σ.set x (some (.adr l))) (zR G l [.int s,.bl b])) :
  zX (zv (yA (yw yy (zA (zB i) (zA (zB j) zI)))) (gN x)) u E σ G:=by
 have:=zJ7 (σ:=σ) (G:=G) (R:=fun d G1=>gN x d σ G1 (u E)) hs hk ha fun l s b hl ok=>h l s b hl ok
 exact this
end K
namespace K
open PySem PySem.Spec PyProof.Rows L2 L3
noncomputable def wW(q:Nat×Nat→Bool)(ps:List Nat):Nat×Nat→Bool:=fun p=>adj q (ps.getD p.1 0) (ps.getD p.2 0)
noncomputable def zCW:Sp2:=fun ds G R=>∃(n:Nat) (q:Nat×Nat→Bool) (ps:List Nat),ds=[zO n q,.tup (ps.map nD)]∧(∀ x∈ps,x<n)∧ps.length≤100∧R (zO ps.length (wW q ps)) G
noncomputable def zGQ:yi:=(zX (zv (zK yR (zA (zB 1) zI)) (gN 2)) (zX (zAK 3 (zf (iF (yw zAC (zA (zB 2) zI))) wy (xB (zK wT (zA (zB 0) (zA (zP zi (zB 1) (zP zi (zB 4) (xC (.int 0)))) (zA (zP zi (zB 1) (zP zi (zB 4) (xC (.int 1)))) zI))))) (zB 4))) (zu (yG (zA (zB 2) (zA (zK zCR (zA (zB 3) zI)) zI))))))
theorem getD_mem{ps:List Nat}{i:Nat}(h:i<ps.length):ps.getD i 0∈ps:=by
 simp[List.getD,h]
theorem zPe{ps:List Nat}{i:Nat}(h:i<ps.length):atI (ps.map nD) (i:Int)=some (nD (ps.getD i 0)):=zCP (by simp[List.getD,h])
theorem zLp{σ:S2}{G:Gp}{t u:zo}{ps:List Nat}{i:Nat}(h:ze t σ G (.tup (ps.map nD)))(h':ze u σ G (nD i))(hi:i<ps.length):ze (zP zi t u) σ G (nD (ps.getD i 0)):=wp h h' fun u0 u0 u0 q=>by
 simp only[zi,zPe hi];exact q
theorem zII{σ:S2}{G:Gp}{t:zo}{ds:List D}(h:ze t σ G (.tup ds)):ze (zK yR (zA t zI)) σ G (nD ds.length):=zY (zF h zM) fun u0 u0 u0 q=>⟨ds,rfl,q⟩
theorem zOS{σ:S2}{G:Gp}{t:zo}{p:Nat×Nat}(h:ze t σ G (zt p)):ze (zP zi t (xC (.int 0))) σ G (nD p.1):=wp h yU fun u0 u0 u0 q=>by unfold zt;rw[zDI];exact q
theorem zG8{σ:S2}{G:Gp}{t:zo}{p:Nat×Nat}(h:ze t σ G (zt p)):ze (zP zi t (xC (.int 1))) σ G (nD p.2):=wp h yU fun u0 u0 u0 q=>by unfold zt;rw[zDJ];exact q
theorem zPf(ds:List D)(G:Gp)(R:Q2)(h:zCW ds G R):ds.length=2∧zGQ (zd R) (zS ["web","places","many","ties"] ds) G:=by
 obtain⟨n,q,ps,rfl,hp,hl,h⟩:=h
 refine⟨rfl,?_⟩
 unfold zGQ
 refine wU (d:=nD ps.length) (by have:=zII (σ:=zS ["web","places","many","ties"] [zO n q,.tup (ps.map nD)]) (G:=G) (t:=zB 1) (ds:=ps.map nD) (zE rfl);rwa [List.length_map] at this) ?_
 show zX _ _ _ [some (zO n q),some (.tup (ps.map nD)),some (nD ps.length),none] G
 have:=wa (σ:=[some (zO n q),some (.tup (ps.map nD)),some (nD ps.length),none]) (G:=G) (bd:=wy) (tc:=(xB (zK wT (zA (zB 0) (zA (zP zi (zB 1) (zP zi (zB 4) (xC (.int 0)))) (zA (zP zi (zB 1) (zP zi (zB 4) (xC (.int 1)))) zI)))))) (te:=zB 4) (fun d=>wW q ps (zI6 d)) (fun d=>d) (fun d=>[d])
  (zQo (zG1 (sp:=zAC) (zF (zE (i:=2) (d:=nD ps.length) rfl) zM) fun u0 u0 u0 q=>⟨ps.length,rfl,hl,q⟩)) fun x hx=>by
   obtain⟨p,hpp,rfl⟩:=List.mem_map.mp hx
   obtain⟨h1,h2⟩:=yZ.mp hpp
   rw[zJ0]
   have v4:ze (zB 4) ([some (zO n q),some (.tup (ps.map nD)),some (nD ps.length),none]++List.map some [zt p]) G (zt p):=zE rfl
   exact⟨rfl,wK (zY (zF (zE rfl) (zF (zLp (zE rfl) (zOS v4) (by (first|lia|omega))) (zF (zLp (zE rfl) (zG8 v4) h2) zM))) fun u0 u0 u0 hh=>⟨n,q,_,_,rfl,hp _ (getD_mem (by (first|lia|omega))),hp _ (getD_mem h2),hh⟩),fun u0=>v4⟩
 rw[zID (wW q ps)] at this
 refine this G (.refl G) _ fun l hl'=>?_
 ((try dsimp only [zu,zX,zv,xIf,yk,yH,gN,gNN,zP,yG,wS,yA,zA,zI,zK,yw,zb,zn,zB,look,zS,ye,yr,zBo,zDI,zDJ,zEo,zBs,zCJ,ya,wF,yJ,fEq,xC,xB,zB9,zB5,wn,zH7,zAK,List.map,List.cons_append,List.nil_append,List.set_cons_zero,List.set_cons_succ,List.length_cons,List.length_nil,List.replicate_succ,List.replicate_zero,Nat.reduceSub,Nat.reduceAdd,zH9,zIA,zIB,zIC,zAS,zBp,zBq,if_true,if_false,Bool.false_eq_true]) <;> (try simp only [zu,zX,zv,xIf,yk,yH,gN,gNN,zP,yG,wS,yA,zA,zI,zK,yw,zb,zn,zB,look,zS,ye,yr,zBo,zDI,zDJ,zEo,zBs,zCJ,ya,wF,yJ,fEq,xC,xB,zB9,zB5,wn,zH7,zAK,List.map,List.cons_append,List.nil_append,List.set_cons_zero,List.set_cons_succ,List.length_cons,List.length_nil,List.replicate_succ,List.replicate_zero,Nat.reduceSub,Nat.reduceAdd,zH9,zIA,zIB,zIC,zAS,zBp,zBq,if_true,if_false,Bool.false_eq_true]))
 refine⟨((yj ps.length).filter (wW q ps)).map zt,.own,?_⟩
 exact⟨G,.new hl',h⟩
end K
namespace K
open PySem PySem.Spec PyProof.Rows L2 L3
theorem zC4(i j:Nat):wf (nD i) (nD j)=decide (i=j):=by rw[zBr,Bool.eq_iff_iff];simp;(first|lia|omega)
theorem zPg{σ:S2}{G:Gp}{t:zo}{ds:List D}{R:List D→(Gp→Prop)→Gp→Prop}(h:ze t σ G (.tup ds))(h':R ds (fun u0=>True) G):iV t σ G R:=h G (.refl G) _ h'
theorem zQq{σ:S2}{G:Gp}{t:TL2}{R:List D→(Gp→Prop)→Gp→Prop}(h:t σ G fun ds G1=>∀ a,G1.m a=none→R ds (fun G=>Ls G a ds) (zR G1 a ds)):iF t σ G R:=h
theorem zG9{σ:S2}{G:Gp}{t:wN}{R:List D→Gp→Prop}(h:t σ G fun ds G1=>ds.length≤sizeLine∧R ds G1):wS t σ G R:=h
theorem zD5{σ:S2}{G:Gp}{R:List D→Gp→Prop}(h:R [] G):zI σ G R:=h
theorem zJ9{ds:List D}{gd:Gp→Prop}{G1:Gp}{g:TG2}{tb:yi}{E:yC}{σ:S2}(hgd:gd G1)
  (hb:∀ x∈ds,g x σ G1 fun σ2 G2=>tb { E with nx:=fun σ' G'=>zAe σ σ'∧Sub G1 G',ct:=fun σ' G'=>zAe σ σ'∧Sub G1 G',bk:=E.nx } σ2 G2) (h:E.nx σ G1):zJx ds gd G1 g tb E σ:=by
 refine⟨fun i σ' G'=>σ'=σ∧G'=G1,⟨rfl,rfl⟩,?_,?_,?_⟩
 ·rintro i σ' G' u0 ⟨rfl,rfl⟩
  exact hgd
 ·rintro i x σ' G' hi ⟨rfl,rfl⟩
  rw[zI4]
  exact hb x (List.mem_of_getElem? hi)
 ·rintro σ' G' ⟨rfl,rfl⟩
  exact h
theorem zNj{σ:S2}{G:Gp}{t:zo}{n:Nat}(h:ze t σ G (nD n))(hn:n≤1000):ze (zFo (zA t zI)) σ G (.tup ((List.range n).map nD)):=fun G2 e R q=>zF h zM G2 e _ ⟨by (first|lia|omega),by rw[zAD];exact q⟩
end K
namespace K
open PySem PySem.Spec PyProof.Rows L2 L3
noncomputable def zLq:D→Bool
 | .int _=>true
 | _=>false
noncomputable def yf:Sp2:=fun ds G R=>∃ d,ds=[d]∧(((∀ l,d≠.adr l)∧R (.bl (zLq d)) G)∨∃ l es,d=.adr l∧Ls G l es∧R (.bl false) G)
noncomputable def zBL:yi:=(zu (zDn (zCk "int" (zB 0)) (zPM (zCk "bool" (zB 0)))))
theorem zHA(ds:List D)(G:Gp)(R:Q2)(h:yf ds G R):ds.length=1∧zBL (zd R) (zS ["thing"] ds) G:=by
 obtain⟨d,rfl,h⟩:=h
 refine⟨rfl,?_⟩
 unfold zBL zu zDn zPM zCk zB
 rcases h with ⟨hd,h⟩ | ⟨l,es,rfl,hl,h⟩
 ·cases d with
  | adr l=>exact absurd rfl (hd l)
  | _=>exact .of h
 ·refine⟨⟨es,hl⟩,?_⟩
  exact .of h
theorem zDu{σ:S2}{G:Gp}{f g:Int→Int→Bool}{ta tb tc:zo}{i j k:Int}(ha:ze ta σ G (.int i))(hb:ze tb σ G (.int j))(hc:ze tc σ G (.int k)):ze (zBI (ya fun i j=>.bl (f i j)) (ya fun i j=>.bl (g i j)) ta tb tc) σ G (.bl (f i j&&g j k)):=fun G2 e R q=>ha G2 e _ (hb G2 e _ (by
 show if f i j=true then _ else _
 cases hf:f i j with
 | true=>rw[if_pos rfl];rw[hf] at q;exact hc G2 e _ q
 | false=>rw[if_neg (by simp)];rw[hf] at q;exact q))
noncomputable def ltP(a b:Nat×Nat):Prop:=a.1<b.1∨a.1=b.1∧a.2<b.2
theorem zHB(n:Nat):(yj n).Pairwise ltP:=by
 unfold yj
 rw[List.pairwise_flatMap]
 refine⟨fun i u0=>?_,?_⟩
 ·rw[List.pairwise_map]
  exact List.pairwise_lt_range.imp fun {a b} h=>.inr ⟨rfl,by dsimp only;(first|lia|omega)⟩
 ·refine List.pairwise_lt_range.imp fun {a b} h x hx y hy=>?_
  obtain⟨u0,u0,rfl⟩:=List.mem_map.mp hx
  obtain⟨u0,u0,rfl⟩:=List.mem_map.mp hy
  exact .inl h
theorem zIJ{σ:S2}{G:Gp}{tl:TL2}{bs:List Bool}(h:PuL tl σ G (bs.map D.bl)):ze (zb zJz tl) σ G (.bl (bs.all id)):=fun G2 e R q=>h G2 e _ ⟨bs,rfl,q⟩
theorem zGR{σ:S2}{G:Gp}{ta tb:zo}{b:Bool}(ha:ze ta σ G (.bl true))(hb:ze tb σ G (.bl b)):ze (zDn ta tb) σ G (.bl b):=fun G2 e R q=>ha G2 e _ (by
 show if true=true then _ else _
 rw[if_pos rfl]
 exact hb G2 e _ q)
end K
namespace HT
open PySem PySem.Spec PyProof.Rows
end HT
namespace HT
open PySem PySem.Spec PyProof.Rows
section
variable {prog:Program} {w:World} {A:Around} {E:Value→Shared→Prop} {s:Shared}
end
end HT
namespace L3
open PySem PySem.Spec PyProof.Rows L2
section
variable {X:Cx} {a b c e o:Expr} {es:List Expr} {pos p:Pos} {ta tb te:zo}
end
end L3
namespace L3
open PySem PySem.Spec PyProof.Rows L2
section
variable {X:Cx} {a b c e o:Expr} {es:List Expr} {pos p:Pos} {ta tb te:zo} {tl:TL2}
noncomputable def tupI(ns:List Int):D:=.tup (ns.map D.int)
end
end L3
namespace HT
open PySem PyProof.Rows
section
open PySem.SeqAt
open PySem.MeetsSeq PySem.MeetsSeq2 PySem.MeetsSeq3
end
section
variable {prog:Program} {w:World} {A:Around} {E:Value→Shared→Prop} {s:Shared}
end
end HT
namespace L3
open PySem PySem.Spec PyProof.Rows L2
section
variable {X:Cx} {a b c e o:Expr} {es:List Expr} {pos p:Pos} {ta tb te:zo}
end
end L3
namespace L3
open PySem PySem.Spec PyProof.Rows L2
section
variable {X:Cx} {a b c e o:Expr} {es:List Expr} {pos p:Pos} {ta tb te:zo}
noncomputable def zPi(i j:Nat)(t:wN):yi:=fun E σ G=>t σ G fun ds G1=>match ds with | [d,e]=>E.nx ((σ.set i (some d)).set j (some e)) G1 | _=>False
theorem zQr(i j:Nat){x y:Str}{px py pt:Pos}{kt k2 pt2}{t:wN}(hc:X.calm=true)(hN:X.N.Nodup)(ha:A2 X [a,b] t)(hi:X.N[i]?=some x:=by rfl)(hj:X.N[j]?=some y:=by rfl)(hij:i≠j:=by decide)
  (hx:X.env.scope.names.lookup x=some .local:=by rfl) (hy:X.env.scope.names.lookup y=some .local:=by rfl)
  (hw:swappedStores [.Tuple [.Name x px,.Name y py] kt pt] (.Tuple [a,b] k2 pt2) X.env=pure (some [x,y]):=by rfl)
  (hs:swapsWithSole [.Tuple [.Name x px,.Name y py] kt pt] (.Tuple [a,b] k2 pt2) pos.line X.env=pure false:=by rfl) :
  P2 X (.Assign [.Tuple [.Name x px,.Name y py] kt pt] (.Tuple [a,b] k2 pt2) pos) (zPi i j t):=by
 refine PS.mono (L2.zO3 hc hN hi hj hij hx hy ha hw hs) fun E σ1 H h=>?_
 obtain⟨σ,G,D2,r,q,k⟩:=h
 refine⟨σ,G,_,r,q,fun ds G' q' vs H' g' r' d'=>?_⟩
 split at q'
 ·rename_i d e
  obtain⟨v,w,rfl,d1,d2⟩:=zON d'
  exact⟨v,w,rfl,k.nx _ G' q' _ H' g' (((r.to g' r').set i d1).set j d2)⟩
 ·exact q'.elim
end
end L3
namespace L3
open PySem PySem.Spec PyProof.Rows L2
section
variable {X:Cx} {a b c e o:Expr} {es:List Expr} {pos p:Pos} {ta tb te:zo}
noncomputable def zCX(t:zo)(tl th:TO2):TL2:=fun σ G R=>t σ G fun d G1=>tl σ G1 fun lo G2=>th σ G2 fun hi G3=>match d with | .adr l=>∃ ds,Ls G3 l ds∧R (cutD ds lo hi) G3 | _=>False
theorem zI8{lo hi:Option Expr}{tl th:TO2}{p2:Pos}(he:E2 X e te)(hl:O2 X lo tl)(hu:O2 X hi th):F2 X (.Subscript e (.Slice lo hi none p2) pos) (zCX te tl th):=by
 refine PE.mono (zLD zNQ he hl hu) ?_
 rintro σ1 H Q ⟨σ,G,R,r,q,k⟩
 refine⟨σ,G,_,r,q,fun d G1 q1 v H1 g1 r1 d1=>⟨σ,G1,_,r.to g1 r1,q1,fun o1 G2 q2 H2 g2 r2=>⟨σ,G2,_,r.to (g1.trans g2) r2,q2,fun o2 G3 q3 H3 g3 r3=>?_⟩⟩⟩
 cases d with
 | adr l =>
  obtain⟨ds,ls,q3⟩:=q3
  obtain⟨xs,s1,t1⟩:=r3.sq ls
  unfold zU at d1
  subst d1
  have hl:=t1.length
  refine⟨l,xs,rfl,s1,fun p hp=>k _ G3 q3 p _ _ (((g1.trans g2).trans g3).trans (.fresh hp)) (r3.fresh hp) (r3.free hp) zj ?_⟩
  unfold cutD zLE
  rw[hl]
  exact((t1.drop).take).grow (.fresh hp)
 | _=>exact q3.elim
end
end L3
namespace HT
open PySem PySem.Spec PyProof.Rows
theorem zFU(l:Addr)(items:Array Value)(n:Nat)(dd:Option Addr)(sl:Array (Option Value))(x:Int)(u:Tok)(h2:2≤x)(hne:items.isEmpty=false)(hz:items.size*x.toNat≤1000000) :
  Meets (Builtin.«tuple.__mul__» ⟨[.ref l,.int x u],[]⟩) (fun u0 R s=>s.heap.get? l=some { cls:=.type "tuple",dict:=dd,data:=.seq items n,slots:=sl } ∧
   R (.ok (.ret (Value.ref s.heap.objs.size))) { s with heap:=s.heap.push { cls:=Value.type "tuple",data:=Data.seq (List.foldl (fun x1 x2=>x1++x2) #[] (List.replicate x.toNat items)) },toks:=s.toks }) :=
 .of_wp fun prog w A R s h=>by
  obtain⟨hp,g,d,tk,os⟩:=s;obtain⟨hl,h⟩:=h
  have hpos:0<items.size:=by
   cases q:items.size with
   | zero=>rw[Array.isEmpty_iff_size_eq_zero.mpr q] at hne;cases hne
   | succ k=>(first|lia|omega)
  have hx:x.toNat≤1000000:=Nat.le_trans (Nat.le_mul_of_pos_left _ hpos) hz
  have hmz:(items.size:Int)*x=((items.size*x.toNat:Nat):Int):=by rw[Int.natCast_mul,Int.toNat_of_nonneg (by (first|lia|omega))]
  wp_walk using wpAny_loadPart' hl
  rw[if_neg (by simp;(first|lia|omega))]
  wp_walk using wpAny_loadPart' hl
  rw[if_neg (by rw[hne];simp;(first|lia|omega))]
  dsimp only
  rw[if_neg (by rw[hne];simp;(first|lia|omega)),if_neg (by rw[hmz];(first|lia|omega))]
  have htm:Builtin.Tuple.tupleTooMany ((items.size:Int)*x)=false:=by rw[hmz];unfold Builtin.Tuple.tupleTooMany;rw[sizeLine_eq];exact decide_eq_false (by (first|lia|omega))
  rw[htm,if_neg (by simp)]
  unfold Builtin.Tuple.tupleExact
  have hsize:∀(m:Nat) (acc:Array Value),((List.replicate m items).foldl (fun x1 x2=>x1++x2) acc).size=acc.size+m*items.size:=fun m=>by
   induction m with
   | zero=>intro acc;simp
   | succ m ih=>intro acc;rw[List.replicate_succ,List.foldl_cons,ih,Array.size_append,Nat.succ_mul];(first|lia|omega)
  refine wpAny_bind (wpAny_newObj_type ?_ (by show(Array.size _)≤sizeLine;rw[hsize,sizeLine_eq,Nat.mul_comm];simp;(first|lia|omega)))
  exact wpAny_pure ⟨_,rfl,h⟩
section
variable {prog:Program} {w:World} {A:Around} {E:Value→Shared→Prop} {s:Shared}
theorem zAU:fillsNumberSlot (.type "tuple") "mul"=pure false :=
 PySem.fillsNumberSlot_seq (id:="tuple.__mul__") (r:=some (.builtin "tuple.__rmul__")) PySem.F.slot_tuple_mul.lookup (by decide +kernel) PySem.F.slot_tuple_rmul.lookup (by decide +kernel)
theorem zBy:seqRepeat? (.type "tuple")=pure (some (.builtin "tuple.__mul__")):=by
 unfold seqRepeat?
 rw[PySem.seqSlot_of (T:="tuple") (name:="__mul__") (id:="tuple.__mul__") PySem.F.slot_tuple_mul.lookup (by decide +kernel),PySem.seqSlot_of (T:="tuple") (name:="__rmul__") (id:="tuple.__rmul__") PySem.F.slot_tuple_rmul.lookup (by decide +kernel)]
 rfl
theorem zA7(a:Int)(t:Tok)(l:Addr)(items:Array Value)(n:Nat)(dd:Option Addr)(sl:Array (Option Value)) :
  Meets (Builtin.«int.__rmul__» ⟨[.int a t,.ref l],[]⟩) (fun u0 R s=>s.heap.get? l=some { cls:=.type "tuple",dict:=dd,data:=.seq items n,slots:=sl }∧R (.ok (.ret Value.notImplemented)) s) :=
 .of_wp fun prog w A R s h=>by obtain⟨hp,g,d,tk,os⟩:=s;obtain⟨hl,h⟩:=h;wp_walk;exact⟨_,rfl,h⟩
theorem zNk{t:Addr}{vs:List Value}{x:Int}{u:Tok}{Q:Value→Shared→Prop}(ht:IsTup s.heap t vs.toArray)(hv:vs≠[])(h2:2≤x)(hz:vs.length*x.toNat≤1000000)
  (h:Q (.ref s.heap.objs.size) { s with heap:=s.heap.push { cls:=.type "tuple",data:=.seq (List.replicate x.toNat vs).flatten.toArray } }):wpAny (model prog w) A (binaryOp .Mult (.ref t) (.int x u)) Q E s:=by
 obtain⟨⟨cls,dd,data,sl⟩,ho,hc,n,hd⟩:=id ht
 simp only at hc hd
 subst hc hd
 have e:List.foldl (fun x1 x2=>x1++x2) #[] (List.replicate x.toNat vs.toArray)=(List.replicate x.toNat vs).flatten.toArray:=by rw[listMul_foldl];simp
 refine wpAny_binaryOp_repeat_ref (T:="tuple") (U:="int") (by decide) ⟨_,ho,rfl⟩ (fun s'=>typeIs_int s' x u) zAU PySem.F.fills_int_mul PySem.F.slot_int_rmul zBy PySem.F.slot_int_index.lookup
  (call_meets PySem.F.slot_int_rmul (typeIs_int s x u) PySem.F.entry_int_rmul (PySem.F.args_int_rmul_2 _ _) (zA7 x u t vs.toArray n dd sl)
   ⟨ho,rfl,⟨_,ho,rfl⟩,call_meets PySem.F.slot_tuple_mul ⟨_,ho,rfl⟩ PySem.F.entry_tuple_mul (PySem.F.args_tuple_mul_2 _ _)
    (zFU t vs.toArray n dd sl x u h2 (by simpa using hv) (by simpa using hz)) ⟨ho,?_⟩⟩)
 rw[e]
 exact h
end
end HT
namespace L3
open PySem PySem.Spec PyProof.Rows L2
section
variable {X:Cx} {a b c e o:Expr} {es:List Expr} {pos p:Pos} {ta tb te:zo}
noncomputable def zI9(K:PySem.W.Frag):R2:=fun x y H Q=>∃ a xs k,x=.ref a∧y=.int k∧SqT K H a xs∧xs≠[]∧2≤k∧xs.length*k.toNat≤1000000∧∀ p,H p=none→Q (.ref p) (yp H p (.tup (List.replicate k.toNat xs).flatten))
theorem zh.rep{xs:List V}{us:List Value}(r:zh xs us):∀ n:Nat,zh (List.replicate n xs).flatten (List.replicate n us).flatten
 | 0=>.nil
 | n+1=>by
  rw[List.replicate_succ,List.replicate_succ,List.flatten_cons,List.flatten_cons]
  exact r.append (zh.rep r n)
theorem zNl:OpR X (binaryOp .Mult) (zI9 X.K):=by
 intro pins s σ H x y v u Q I rx ry h
 obtain⟨a,xs,k,rfl,rfl,ha,hne,h2,hz,q⟩:=h
 cases rx
 obtain⟨tk,rfl⟩:=ry
 obtain⟨its,r1,p1,u0⟩:=I.tuple ha
 have hl:=r1.length
 refine HT.zNk p1 (fun z=>hne (r1.nil_iff.mp z)) h2 (by rw[← hl];exact hz) ?_
 have hn:H s.heap.objs.size=none:=I.hok.fresh (Nat.le_refl _)
 refine⟨.ref s.heap.objs.size,_,I.laid (t':=s.toks) (o:=.tup (List.replicate k.toNat xs).flatten) (fun b ob q=>Heap.get?_push_of_some _ q) (Nat.le_refl _) ?_,rfl,q _ hn⟩
 refine⟨?_,_,zh.rep r1 _,zC8.new _ _⟩
 have:(List.replicate k.toNat xs).flatten.length=k.toNat*xs.length:=by simp
 rw[this,sizeLine_eq,Nat.mul_comm]
 (first|lia|omega)
noncomputable def zOU:D→D→Gp→Q2→Prop:=fun x y G R=>match x,y with
 | .tup xs,.int k=>xs≠[]∧2≤k∧xs.length*k.toNat≤1000000∧R (.tup (List.replicate k.toNat xs).flatten) G
 | _,_=>False
theorem zLr{K:PySem.W.Frag}:Fit K (zI9 K) zOU:=by
 intro dx dy G R x y H Q h r d1 d2 k
 unfold zOU at h
 split at h
 ·rename_i xs j
  obtain⟨hne,h2,hz,h⟩:=h
  unfold zU at d1 d2
  obtain⟨a,us,rfl,s1,t1⟩:=d1
  subst d2
  have hl:=t1.length
  refine⟨a,us,j,rfl,rfl,s1,fun z=>hne (List.length_eq_zero_iff.mp (by rw[hl,z];rfl)),h2,by rw[← hl];exact hz,fun p hp=>k _ G h _ _ (.fresh hp) (r.fresh hp) ?_⟩
  unfold zU
  exact⟨p,_,rfl,.of zj,(Dens.rep t1 _).grow (.fresh hp)⟩
 ·exact h.elim
end
end L3
namespace HT
open PySem PySem.Spec PyProof.Rows
section
variable {prog:Program} {w:World} {A:Around} {E:Value→Shared→Prop} {s:Shared}
end
end HT
namespace L3
open PySem PySem.Spec PyProof.Rows L2
section
variable {X:Cx} {a b c e o:Expr} {es:List Expr} {pos p:Pos} {ta tb te:zo}
end
end L3
namespace HZ
open PySem PySem.Spec PyProof.Rows
set_option genInjectivity false in
structure Zs (prog:Program) (w:World) (i l:Addr) (xs:Array Value) where
 It:Nat→Heap→Prop
 Sq:Heap→Prop
 item:∀(A:Around) (E:Value→Shared→Prop) (s:Shared) (k:Nat) (x:Value) (Q:Value→Shared→Prop),It k s.heap→Sq s.heap→xs[k]?=some x→(∀ h',It (k+1) h'→Heap.SameBut i s.heap h'→Q x { s with heap:=h' })→wpAny (model prog w) A (Builtin.SmallTypes.nextOf (.ref i)) Q E s
 fin:∀(A:Around) (E:Value→Shared→Prop) (s:Shared) (k:Nat) (Q:Value→Shared→Prop),A.handled=none→It k s.heap→Sq s.heap→xs[k]?=none→(∀ h' e,Heap.ExtBut i s.heap h'→(∃ o,h'.get? e=some o∧o.cls=.type "StopIteration")→E (.ref e) { s with heap:=h' })→wpAny (model prog w) A (Builtin.SmallTypes.nextOf (.ref i)) Q E s
 itAt:∀ {k:Nat} {h h':Heap},It k h→(∀ o,h.get? i=some o→h'.get? i=some o)→It k h'
 sqAt:∀ {h h':Heap},Sq h→(∀ o,h.get? l=some o→h'.get? l=some o)→Sq h'
 itHas:∀ {k:Nat} {h:Heap},It k h→∃ o,h.get? i=some o∧∀ v,o.data≠.cell v
section
variable {prog:Program} {w:World} {A:Around} {E:Value→Shared→Prop} {s:Shared}
theorem zDP{nt tp:Addr}{i:Nat}{its:Array Value}{x:Value}{Q:Value→Shared→Prop}(hit:s.heap.IsTupleIter nt tp i)(ht:s.heap.IsTuple tp its)(hx:its[i]?=some x)
  (hQ:∀ h',h'.IsTupleIter nt tp (i+1)→Heap.SameBut nt s.heap h'→Q x { s with heap:=h' }):wpAny (model prog w) A (Builtin.SmallTypes.nextOf (.ref nt)) Q E s:=by
 obtain⟨o,ho,hc,hd⟩:=id hit
 obtain⟨ol,hol,u0,nl,hdl⟩:=ht
 unfold Builtin.SmallTypes.nextOf
 refine wpAny_bind (wpAny_callSpecial?_slot (name:=Str.ofString "__next__") hit.typeIs F.slot_tuple_iterator_next (wpAny_call_entry F.slot_tuple_iterator_next hit.typeIs F.entry_tuple_iterator_next ?_ (F.args_tuple_iterator_next_1 _)))
 show wpAny _ _ (field (.ref nt) 0>>=_) _ _ s
 refine wpAny_bind (wpAny_field ho hd (x:=.ref tp) rfl ?_)
 show wpAny _ _ (if (Value.ref tp==Value.none)=true then _ else _) _ _ s
 rw[if_neg (show ¬ ((Value.ref tp==Value.none)=true) from Bool.false_ne_true)]
 show wpAny _ _ (field (.ref nt) 1>>=_) _ _ s
 refine wpAny_bind (wpAny_field ho hd (x:=.int i 0) rfl (show wpAny _ _ (seqItems? (.ref tp)>>=_) _ _ s from wpAny_bind (wpAny_seqItems hol hdl ?_)))
 simp only[Int.toNat_natCast,hx]
 refine wpAny_bind (wpAny_setField ho hd (by simp) (wpAny_pure ⟨x,rfl,wpAny_pure (hQ _ ⟨_,Heap.get?_update_self _ ho (Obj.isFreed_of_fields (Obj.data_mapFields hd _)),(Obj.cls_mapFields ..).trans hc,?_⟩ (Heap.SameBut.update ..))⟩))
 rw[Obj.data_mapFields hd];simp[rawInt]
theorem zDv{nt tp:Addr}{i:Nat}{its:Array Value}{Q:Value→Shared→Prop}(hh:A.handled=none)(hit:s.heap.IsTupleIter nt tp i)(ht:s.heap.IsTuple tp its)(hx:its[i]?=none)
  (hE:∀ h' e,Heap.ExtBut nt s.heap h'→(∃ o,h'.get? e=some o∧o.cls=.type "StopIteration")→E (.ref e) { s with heap:=h' }):wpAny (model prog w) A (Builtin.SmallTypes.nextOf (.ref nt)) Q E s:=by
 obtain⟨o,ho,hc,hd⟩:=id hit
 obtain⟨ol,hol,u0,nl,hdl⟩:=ht
 unfold Builtin.SmallTypes.nextOf
 refine wpAny_bind (wpAny_callSpecial?_slot (name:=Str.ofString "__next__") hit.typeIs F.slot_tuple_iterator_next (wpAny_call_entry F.slot_tuple_iterator_next hit.typeIs F.entry_tuple_iterator_next ?_ (F.args_tuple_iterator_next_1 _)))
 show wpAny _ _ (field (.ref nt) 0>>=_) _ _ s
 refine wpAny_bind (wpAny_field ho hd (x:=.ref tp) rfl ?_)
 show wpAny _ _ (if (Value.ref tp==Value.none)=true then _ else _) _ _ s
 rw[if_neg (show ¬ ((Value.ref tp==Value.none)=true) from Bool.false_ne_true)]
 show wpAny _ _ (field (.ref nt) 1>>=_) _ _ s
 refine wpAny_bind (wpAny_field ho hd (x:=.int i 0) rfl (show wpAny _ _ (seqItems? (.ref tp)>>=_) _ _ s from wpAny_bind (wpAny_seqItems hol hdl ?_)))
 simp only[Int.toNat_natCast,hx]
 refine wpAny_bind (wpAny_rule (wpAny_bind (wpAny_setField ho hd (by simp) (show wpAny _ _ (newExc (.type "StopIteration") []>>=_) _ _ _ from wpAny_bind ?_))))
 simp only[newExc,newTuple]
 refine wpAny_bind (wpAny_newObj_type (wpAny_bind (m:=firstArgMember _ _) (wpAny_of_eq (a:=Value.none) (by first | rfl | (simp only[firstArgMember];rfl)) (wpAny_newObj_type ?_ (by size_fits)))) (by size_fits))
 simp only[raiseNew]
 refine wpAny_bind (wpAny_handled ?_)
 first | rw[show A.in1.handled=none from hh] | rw[hh]
 exact wpAny_bind (wpAny_pure (wpAny_throw (hE _ _ (((Heap.SameBut.update ..).extBut.push _).push _) ⟨_,Heap.get?_push_size _ rfl,rfl⟩)))
end
theorem IsTupleIter.at'{h h':Heap}{a t:Addr}{i:Nat}(x:h.IsTupleIter a t i)(k:∀ o,h.get? a=some o→h'.get? a=some o):h'.IsTupleIter a t i:=let ⟨o,e,r⟩:=x;⟨o,k o e,r⟩
theorem IsTuple.at'{h h':Heap}{a:Addr}{its:Array Value}(x:h.IsTuple a its)(k:∀ o,h.get? a=some o→h'.get? a=some o):h'.IsTuple a its:=let ⟨o,e,r⟩:=x;⟨o,k o e,r⟩
noncomputable def zFt(prog:Program)(w:World)(i l:Addr)(xs:Array Value):Zs prog w i l xs where
 It:=fun k h=>h.IsTupleIter i l k
 Sq:=fun h=>h.IsTuple l xs
 item:=fun A E s k x Q a b c d=>zDP a b c d
 fin:=fun A E s k Q hh a b c d=>zDv hh a b c d
 itAt:=fun x k=>IsTupleIter.at' x k
 sqAt:=fun x k=>IsTuple.at' x k
 itHas:=fun⟨o,e,c,d⟩=>⟨o,e,fun v z=>by rw[d] at z;cases z⟩
set_option genInjectivity false in
structure Ap (z a b i j l m:Addr):Prop where
 az:a≠z
 bz:b≠z
 iz:i≠z
 jz:j≠z
 ab:a≠b
 ai:a≠i
 aj:a≠j
 bi:b≠i
 bj:b≠j
 ij:i≠j
 lz:l≠z
 lb:l≠b
 li:l≠i
 lj:l≠j
 mz:m≠z
 mb:m≠b
 mi:m≠i
 mj:m≠j
section
variable {prog:Program} {w:World} {A:Around} {E:Value→Shared→Prop} {s:Shared} {z a b i j l m:Addr} {xs ys:Array Value} (Z1:Zs prog w i l xs) (Z2:Zs prog w j m ys)
theorem zNm{k1 k2:Nat}{x y u v:Value}{Q:Value→Shared→Prop}(D:Ap z a b i j l m)(hz:IsZip s.heap z a b .none)(hTI:IsPair s.heap a (.ref i) (.ref j))(hTO:IsPair s.heap b u v)
  (h1:Z1.It k1 s.heap) (h2:Z2.It k2 s.heap) (hl1:Z1.Sq s.heap) (hl2:Z2.Sq s.heap) (hx:xs[k1]?=some x) (hy:ys[k2]?=some y)
  (hQ:∀ h',IsZip h' z a b (rawInt s.heap.objs.size)→IsPair h' b x y→Z1.It (k1+1) h'→Z2.It (k2+1) h'→IsPair h' s.heap.objs.size x y→h'.objs.size=s.heap.objs.size+1 →
   (∀ c o,c≠z→c≠b→c≠i→c≠j→s.heap.get? c=some o→h'.get? c=some o)→Q (.ref s.heap.objs.size) { s with heap:=h' }) :
  wpAny (model prog w) A (Builtin.«zip.__next__» ⟨[.ref z],[]⟩) (fun fin s'=>∃ v,fin=.done (.ret v)∧Q v s') E s:=by
 show wpAny _ _ (field (.ref z) 2>>=_) _ _ s
 refine wpAny_bind (wpAny_field hz rfl (x:=.bool false) rfl (show wpAny _ _ (field (.ref z) 3>>=_) _ _ s from wpAny_bind (wpAny_field hz rfl (x:=.ref a) rfl (wpAny_bind (wpAny_seqItems hTI rfl ?_)))))
 show wpAny _ _ (Builtin.SmallTypes.ownedTupleIsFree (.ref z)>>=_) _ _ s
 refine wpAny_bind ?_
 unfold Builtin.SmallTypes.ownedTupleIsFree
 refine wpAny_bind (wpAny_field hz rfl (x:=.none) rfl (wpAny_pure ?_))
 simp only[if_true]
 refine wpAny_bind (wpAny_rule (wpAny_bind (wpAny_field hz rfl (x:=.ref b) rfl (wpAny_bind (wpAny_setField_rec hz (by simp) fun g1 hz1 s1=>?_)))))
 replace hz1:IsZip g1 z a b .ellipsis:=hz1
 refine wpAny_bind ?_
 simp only[List.zipIdx_cons,List.zipIdx_nil,List.forIn_cons,List.forIn_nil]
 refine wpAny_bind (wpAny_bind (wpAny_onRaise (show wpAny _ _ (Builtin.SmallTypes.nextOf (.ref i)>>=_) _ _ _ from wpAny_bind (Z1.item _ _ _ _ _ _ (Z1.itAt h1 fun o e=>s1.extBut _ _ D.iz e) (Z1.sqAt hl1 fun o e=>s1.extBut _ _ D.lz e) hx fun g2 i2 s2=>wpAny_pure ?_))))
 have t2:IsPair g2 b u v:=s2.extBut _ _ D.bi (s1.extBut _ _ D.bz hTO)
 refine wpAny_bind (wpAny_seqItems t2 rfl (wpAny_bind (wpAny_updateSeq_pair t2 fun g3 t3 s3=>?_)))
 replace t3:IsPair g3 b x v:=t3
 refine wpAny_bind (wpAny_letGo (wpAny_pure (wpAny_bind (wpAny_bind (wpAny_onRaise (show wpAny _ _ (Builtin.SmallTypes.nextOf (.ref j)>>=_) _ _ _ from wpAny_bind (Z2.item _ _ _ _ _ _ (Z2.itAt h2 fun o e=>s3.extBut _ _ D.bj.symm (s2.extBut _ _ D.ij.symm (s1.extBut _ _ D.jz e))) (Z2.sqAt hl2 fun o e=>s3.extBut _ _ D.mb (s2.extBut _ _ D.mi (s1.extBut _ _ D.mz e))) hy fun g4 j4 s4=>wpAny_pure ?_)))))))
 have t4:IsPair g4 b x v:=s4.extBut _ _ D.bj t3
 refine wpAny_bind (wpAny_seqItems t4 rfl (wpAny_bind (wpAny_updateSeq_pair t4 fun g5 t5 s5=>?_)))
 replace t5:IsPair g5 b x y:=t5
 refine wpAny_bind (wpAny_letGo (wpAny_pure (wpAny_pure (wpAny_bind (wpAny_seqItems t5 rfl (wpAny_bind (wpAny_newTuple ?_)))))))
 have hsz:g5.objs.size=s.heap.objs.size:=by rw[s5.1,s4.1,s3.1,s2.1,s1.1]
 have z5:IsZip g5 z a b .ellipsis:=s5.extBut _ _ D.bz.symm (s4.extBut _ _ D.jz.symm (s3.extBut _ _ D.bz.symm (s2.extBut _ _ D.iz.symm hz1)))
 have k5:∀ c o,c≠z→c≠b→c≠i→c≠j→s.heap.get? c=some o→g5.get? c=some o:=fun c o c1 c2 c3 c4 e=>s5.extBut _ _ c2 (s4.extBut _ _ c4 (s3.extBut _ _ c2 (s2.extBut _ _ c3 (s1.extBut _ _ c1 e))))
 have i5:Z1.It (k1+1) g5:=Z1.itAt i2 fun o e=>s5.extBut _ _ D.bi.symm (s4.extBut _ _ D.ij (s3.extBut _ _ D.bi.symm e))
 have j5:Z2.It (k2+1) g5:=Z2.itAt j4 fun o e=>s5.extBut _ _ D.bj.symm e
 have zl:z<g5.objs.size:=Heap.lt_size z5
 show wpAny _ _ (Builtin.SmallTypes.ownedTupleHandOut (.ref z) (.ref g5.objs.size)>>=_) _ _ _
 refine wpAny_bind ?_
 unfold Builtin.SmallTypes.ownedTupleHandOut
 have z6:IsZip (g5.push { cls:=.type "tuple",data:=.seq #[x,y] }) z a b .ellipsis:=Heap.get?_push_of_some _ z5
 refine wpAny_bind (wpAny_setField_rec z6 (by simp) fun g7 z7 s7=>?_)
 replace z7:IsZip g7 z a b (rawInt g5.objs.size):=z7
 refine wpAny_setField_rec z7 (by simp) fun g8 z8 s8=>?_
 replace z8:IsZip g8 z a b (rawInt g5.objs.size):=z8
 have up:∀ c o,c≠z→g5.get? c=some o→g8.get? c=some o:=fun c o c1 e=>s8.extBut _ _ c1 (s7.extBut _ _ c1 (Heap.get?_push_of_some _ e))
 have p8:IsPair g8 g5.objs.size x y:=s8.extBut _ _ (Nat.ne_of_gt zl) (s7.extBut _ _ (Nat.ne_of_gt zl) (Heap.get?_push_size _ rfl))
 have n8:g8.objs.size=g5.objs.size+1:=by rw[s8.1,s7.1,Heap.size_push]
 rw[hsz] at z8 p8 n8
 refine wpAny_pure ⟨_,rfl,?_⟩
 show Q (.ref g5.objs.size) _
 rw[hsz]
 exact hQ g8 z8 (up _ _ D.bz t5) (Z1.itAt i5 fun o e=>up _ o D.iz e) (Z2.itAt j5 fun o e=>up _ o D.jz e) p8 n8 fun c o c1 c2 c3 c4 e=>up c o c1 (k5 c o c1 c2 c3 c4 e)
theorem zPj{k1 k2:Nat}{u v:Value}{Q:Fin→Shared→Prop}(hh:A.handled=none)(D:Ap z a b i j l m)(hz:IsZip s.heap z a b .none)(hTI:IsPair s.heap a (.ref i) (.ref j))(hTO:IsPair s.heap b u v)
  (h1:Z1.It k1 s.heap) (h2:Z2.It k2 s.heap) (hl1:Z1.Sq s.heap) (hl2:Z2.Sq s.heap) (hend:xs[k1]?=none∨ys[k2]?=none)
  (hE:∀ h' e,(∀ c o,c≠z→c≠b→c≠i→c≠j→s.heap.get? c=some o→h'.get? c=some o)→(∃ o,h'.get? e=some o∧o.cls=.type "StopIteration")→E (.ref e) { s with heap:=h' }) :
  wpAny (model prog w) A (Builtin.«zip.__next__» ⟨[.ref z],[]⟩) Q E s:=by
 show wpAny _ _ (field (.ref z) 2>>=_) _ _ s
 refine wpAny_bind (wpAny_field hz rfl (x:=.bool false) rfl (show wpAny _ _ (field (.ref z) 3>>=_) _ _ s from wpAny_bind (wpAny_field hz rfl (x:=.ref a) rfl (wpAny_bind (wpAny_seqItems hTI rfl ?_)))))
 show wpAny _ _ (Builtin.SmallTypes.ownedTupleIsFree (.ref z)>>=_) _ _ s
 refine wpAny_bind ?_
 unfold Builtin.SmallTypes.ownedTupleIsFree
 refine wpAny_bind (wpAny_field hz rfl (x:=.none) rfl (wpAny_pure ?_))
 simp only[if_true]
 refine wpAny_bind (wpAny_rule (wpAny_bind (wpAny_field hz rfl (x:=.ref b) rfl (wpAny_bind (wpAny_setField_rec hz (by simp) fun g1 hz1 s1=>?_)))))
 replace hz1:IsZip g1 z a b .ellipsis:=hz1
 refine wpAny_bind ?_
 simp only[List.zipIdx_cons,List.zipIdx_nil,List.forIn_cons,List.forIn_nil]
 refine wpAny_bind (wpAny_bind (wpAny_onRaise ?_))
 show wpAny _ _ (Builtin.SmallTypes.nextOf (.ref i)>>=_) _ _ _
 have w1:Z1.It k1 g1:=Z1.itAt h1 fun o e=>s1.extBut _ _ D.iz e
 have w2:Z1.Sq g1:=Z1.sqAt hl1 fun o e=>s1.extBut _ _ D.lz e
 cases hx:xs[k1]? with
 | none =>
  refine wpAny_bind (Z1.fin _ _ _ _ _ hh w1 w2 hx fun g2 e s2 he=>?_)
  obtain⟨oe,hoe,hce⟩:=he
  have z2:IsZip g2 z a b .ellipsis:=s2 _ _ D.iz.symm hz1
  have hez:e≠z:=fun q=>by subst q;rw[z2] at hoe;cases hoe;simp at hce
  refine wpAny_setField_rec z2 (by simp) fun g3 u0 s3=>hE g3 e (fun c o c1 u0 c3 u0 q=>s3.extBut _ _ c1 (s2 _ _ c3 (s1.extBut _ _ c1 q))) ⟨oe,s3.extBut _ _ hez hoe,hce⟩
 | some x =>
  have hy:ys[k2]?=none:=by rcases hend with h | h;rw[hx] at h;cases h;exact h
  refine wpAny_bind (Z1.item _ _ _ _ _ _ w1 w2 hx fun g2 i2 s2=>wpAny_pure ?_)
  have t2:IsPair g2 b u v:=s2.extBut _ _ D.bi (s1.extBut _ _ D.bz hTO)
  refine wpAny_bind (wpAny_seqItems t2 rfl (wpAny_bind (wpAny_updateSeq_pair t2 fun g3 t3 s3=>wpAny_bind (wpAny_letGo (wpAny_pure (wpAny_bind (wpAny_bind (wpAny_onRaise ?_))))))))
  show wpAny _ _ (Builtin.SmallTypes.nextOf (.ref j)>>=_) _ _ _
  refine wpAny_bind (Z2.fin _ _ _ _ _ hh (Z2.itAt h2 fun o e=>s3.extBut _ _ D.bj.symm (s2.extBut _ _ D.ij.symm (s1.extBut _ _ D.jz e))) (Z2.sqAt hl2 fun o e=>s3.extBut _ _ D.mb (s2.extBut _ _ D.mi (s1.extBut _ _ D.mz e))) hy fun g4 e s4 he=>?_)
  obtain⟨oe,hoe,hce⟩:=he
  have z4:IsZip g4 z a b .ellipsis:=s4 _ _ D.jz.symm (s3.extBut _ _ D.bz.symm (s2.extBut _ _ D.iz.symm hz1))
  have hez:e≠z:=fun q=>by subst q;rw[z4] at hoe;cases hoe;simp at hce
  refine wpAny_setField_rec z4 (by simp) fun g5 u0 s5=>hE g5 e (fun c o c1 c2 c3 c4 q=>s5.extBut _ _ c1 (s4 _ _ c4 (s3.extBut _ _ c2 (s2.extBut _ _ c3 (s1.extBut _ _ c1 q))))) ⟨oe,s5.extBut _ _ hez hoe,hce⟩
theorem zNn{k1 k2:Nat}{x y u v:Value}{Q:Option Value→Shared→Prop}(D:Ap z a b i j l m)(hz:IsZip s.heap z a b .none)(hTI:IsPair s.heap a (.ref i) (.ref j))(hTO:IsPair s.heap b u v)
  (h1:Z1.It k1 s.heap) (h2:Z2.It k2 s.heap) (hl1:Z1.Sq s.heap) (hl2:Z2.Sq s.heap) (hx:xs[k1]?=some x) (hy:ys[k2]?=some y)
  (hQ:∀ h',IsZip h' z a b (rawInt s.heap.objs.size)→IsPair h' b x y→Z1.It (k1+1) h'→Z2.It (k2+1) h'→IsPair h' s.heap.objs.size x y→h'.objs.size=s.heap.objs.size+1 →
   (∀ c o,c≠z→c≠b→c≠i→c≠j→s.heap.get? c=some o→h'.get? c=some o)→Q (some (.ref s.heap.objs.size)) { s with heap:=h' }) :
  wpAny (model prog w) A (pyNext (.ref z)) Q E s:=by
 have hT:s.TypeIs (.ref z) "zip":=⟨_,hz,rfl⟩
 unfold pyNext
 exact wpAny_bind (wpAny_attempt (wpAny_callSpecial?_slot (name:=Str.ofString "__next__") hT F.slot_zip_next (wpAny_call_entry F.slot_zip_next hT F.entry_zip_next (zNm Z1 Z2 D hz hTI hTO h1 h2 hl1 hl2 hx hy fun h' a1 a2 a3 a4 a5 a6 a7=>wpAny_pure (hQ h' a1 a2 a3 a4 a5 a6 a7)) (F.args_zip_next_1 _))))
theorem zPk{k1 k2:Nat}{u v:Value}{Q:Option Value→Shared→Prop}(hh:A.handled=none)(D:Ap z a b i j l m)(hz:IsZip s.heap z a b .none)(hTI:IsPair s.heap a (.ref i) (.ref j))(hTO:IsPair s.heap b u v)
  (h1:Z1.It k1 s.heap) (h2:Z2.It k2 s.heap) (hl1:Z1.Sq s.heap) (hl2:Z2.Sq s.heap) (hend:xs[k1]?=none∨ys[k2]?=none)
  (hQ:∀ h',(∀ c o,c≠z→c≠b→c≠i→c≠j→s.heap.get? c=some o→h'.get? c=some o)→Q none { s with heap:=h' }):wpAny (model prog w) A (pyNext (.ref z)) Q E s:=by
 have hT:s.TypeIs (.ref z) "zip":=⟨_,hz,rfl⟩
 unfold pyNext
 refine wpAny_bind (wpAny_attempt (wpAny_callSpecial?_slot (name:=Str.ofString "__next__") hT F.slot_zip_next (wpAny_call_entry F.slot_zip_next hT F.entry_zip_next (zPj Z1 Z2 hh D hz hTI hTO h1 h2 hl1 hl2 hend fun h' e hk he=>?_) (F.args_zip_next_1 _))))
 obtain⟨o,ho,hc⟩:=he
 exact wpAny_bind (wpAny_isInstance (T:="StopIteration") (b:=true) ⟨o,ho,hc⟩ isSubtype_stop (wpAny_pure (hQ _ hk)))
end
end HZ
namespace HZ
open PySem PySem.Spec PyProof.Rows
theorem yz{a b:Nat}(h:a<b∨b<a):@Ne Addr a b:=fun z=>by
 have z':(a:Nat)=b:=z
 (first|lia|omega)
theorem zPl{n a b:Nat}(h1:a<n)(h2:b<n):Ap (n+4) (n+2) (n+3) n (n+1) a b :=
 ⟨yz (by (first|lia|omega)),yz (by (first|lia|omega)),yz (by (first|lia|omega)),yz (by (first|lia|omega)),yz (by (first|lia|omega)),yz (by (first|lia|omega)),yz (by (first|lia|omega)),yz (by (first|lia|omega)),yz (by (first|lia|omega)),yz (by (first|lia|omega)),yz (by (first|lia|omega)),yz (by (first|lia|omega)),yz (by (first|lia|omega)),yz (by (first|lia|omega)),yz (by (first|lia|omega)),yz (by (first|lia|omega)),yz (by (first|lia|omega)),yz (by (first|lia|omega))⟩
noncomputable abbrev zt1(h:Heap)(p:Addr):Heap:=h.push { cls:=.type "tuple_iterator",data:=.fields #[.ref p,.int 0 0] }
noncomputable abbrev zt2(h:Heap)(p q:Addr):Heap:=(zt1 h p).push { cls:=.type "tuple_iterator",data:=.fields #[.ref q,.int 0 0] }
noncomputable abbrev zt3(h:Heap)(p q:Addr):Heap:=(zt2 h p q).push { cls:=.type "tuple",data:=.seq #[.ref h.objs.size,.ref (zt1 h p).objs.size] }
noncomputable abbrev zt4(h:Heap)(p q:Addr):Heap:=(zt3 h p q).push { cls:=.type "tuple",data:=.seq #[.none,.none] }
noncomputable abbrev zt5(h:Heap)(p q:Addr):Heap:=(zt4 h p q).push { cls:=.type "zip",data:=.fields #[.none,.bool false,.bool false,.ref (zt2 h p q).objs.size,.ref (zt3 h p q).objs.size] }
theorem zIK(p q:Addr)(xs ys:Array Value) :
  Meets (Builtin.«zip.__new__» ⟨[.type "zip",.ref p,.ref q],[]⟩) (fun u0 R s=>s.heap.IsTuple p xs∧s.heap.IsTuple q ys∧R (.ok (.ret (.ref (zt4 s.heap p q).objs.size))) { s with heap:=zt5 s.heap p q }) :=
 .of_wp fun prog w A R s h=>by
  obtain⟨hp,g,d,tk,os⟩:=s;obtain⟨hl1,hl2,h⟩:=h
  have hsub:=sub_zip
  have w1:Heap.IsTuple (Shared.heap ⟨hp,g,d,tk,os⟩) p xs:=hl1
  have w2:Heap.IsTuple (Shared.heap ⟨hp.push { cls:=.type "tuple_iterator",data:=.fields #[.ref p,.int 0 0] },g,d,tk,os⟩) q ys:=Heap.IsTuple.push hl2 _
  wp_walk using wpAny_pyIter_tuple w1,wpAny_pyIter_tuple w2
  exact⟨_,rfl,h⟩
theorem zKA{prog:Program}{w:World}{A:Around}{E:Value→Shared→Prop}{s:Shared}{p q:Addr}{xs ys:Array Value}{Q:Value→Shared→Prop}(hl1:s.heap.IsTuple p xs)(hl2:s.heap.IsTuple q ys)
  (h:∀ h',IsZip h' (s.heap.objs.size+4) (s.heap.objs.size+2) (s.heap.objs.size+3) .none→IsPair h' (s.heap.objs.size+2) (.ref s.heap.objs.size) (.ref (s.heap.objs.size+1)) →
   IsPair h' (s.heap.objs.size+3) .none .none→h'.IsTupleIter s.heap.objs.size p 0→h'.IsTupleIter (s.heap.objs.size+1) q 0→h'.objs.size=s.heap.objs.size+5 →
   (∀ c o,s.heap.get? c=some o→h'.get? c=some o)→Q (.ref (s.heap.objs.size+4)) { s with heap:=h' }) :
  wpAny (model prog w) A (call (.type "zip") [.ref p,.ref q]) Q E s:=by
 refine callType_new F.called_zip (by decide) (F.typeCall_zip_2 _ _) (F.newCall_zip_2 _ _) (fun obj=>F.args_object_init_3 obj _ _) F.entry_zip_new (zIK p q xs ys) ⟨hl1,hl2,?_⟩
 have z1:(zt1 s.heap p).objs.size=s.heap.objs.size+1:=Heap.size_push ..
 have z2:(zt2 s.heap p q).objs.size=s.heap.objs.size+2:=by rw[Heap.size_push,z1]
 have z3:(zt3 s.heap p q).objs.size=s.heap.objs.size+3:=by rw[Heap.size_push,z2]
 have z4:(zt4 s.heap p q).objs.size=s.heap.objs.size+4:=by rw[Heap.size_push,z3]
 have z5:(zt5 s.heap p q).objs.size=s.heap.objs.size+5:=by rw[Heap.size_push,z4]
 have g5:(zt5 s.heap p q).get? (zt4 s.heap p q).objs.size=some _:=Heap.get?_push_size _ rfl
 have g4:(zt5 s.heap p q).get? (zt3 s.heap p q).objs.size=some _:=Heap.get?_push_of_some _ (Heap.get?_push_size _ rfl)
 have g3:(zt5 s.heap p q).get? (zt2 s.heap p q).objs.size=some _:=Heap.get?_push_of_some _ (Heap.get?_push_of_some _ (Heap.get?_push_size _ rfl))
 have g2:(zt5 s.heap p q).get? (zt1 s.heap p).objs.size=some _:=Heap.get?_push_of_some _ (Heap.get?_push_of_some _ (Heap.get?_push_of_some _ (Heap.get?_push_size _ rfl)))
 have g1:(zt5 s.heap p q).get? s.heap.objs.size=some _:=Heap.get?_push_of_some _ (Heap.get?_push_of_some _ (Heap.get?_push_of_some _ (Heap.get?_push_of_some _ (Heap.get?_push_size _ rfl))))
 show _∧_
 rw[z2,z3,z4] at g5
 rw[z1,z2] at g3
 rw[z3] at g4
 rw[z1] at g2
 rw[z4]
 exact⟨⟨_,g5,rfl⟩,h _ g5 g3 g4 ⟨_,g1,rfl,rfl⟩ ⟨_,g2,rfl,rfl⟩ z5 fun c o x=>Heap.get?_push_of_some _ (Heap.get?_push_of_some _ (Heap.get?_push_of_some _ (Heap.get?_push_of_some _ (Heap.get?_push_of_some _ x))))⟩
end HZ
namespace L2
open PySem PySem.Spec PyProof.Rows HZ
theorem zV.turnedL{X:Cx}{pins:List (Addr×Obj)}{σ:List (Option V)}{H:Hp}{s:Shared}{h':Heap}{t':Nat}{fp:List Addr}(I:zV X pins σ H s)(k:∀ b o,b∉fp→s.heap.get? b=some o→h'.get? b=some o)(hf:∀ b∈fp,zB8 X pins H b):zV X pins σ H { s with heap:=h',toks:=t' }:=by
 have nit:∀ b u,H b=some u→b∉fp:=fun b u e z=>by rw[(hf b z).1] at e;cases e
 refine I.step (g':=s.gens) (d':=s.drawn) (ch:=fp) (fun b hb=>?_) (fun b o u0 u0 hc e u0=>k b o hc e) (fun b o u0 u0 hc e u0=>⟨o.slots,k b o hc e⟩) (fun u0 u0 u0 u0 n=>n)
  (fun b o hc e=>⟨o,k b o hc e⟩) (fun u0 u0 e=>e) (fun u0 u0 u0 e=>e) (fun u0 u0 e=>e) (fun m hm=>?_) (fun b u e=>?_) I.bare
 ·obtain⟨f0,f1,f2,f3,f4,f5⟩:=hf b hb
  exact⟨f3,f1,f4,f5⟩
 ·obtain⟨o,es,ep,ho,r⟩:=hm
  exact⟨o,es,ep,k _ o (fun z=>(hf _ z).2.1 rfl) ho,r⟩
 ·refine(I.hok b u e).stay (fun c v hc q=>k c v ?_ q) (fun u0 q=>q) (fun u0 u0 q=>q) fun u0 u0 u0 q=>q
  rcases hc with z | z
  ·rw[z];exact nit b u e
  ·exact nit c _ z
noncomputable def Itz(K:PySem.W.Frag)(a b:Addr):It :=
  ⟨fun i H=>∃ xs ys x y,SqT K H a xs∧SqT K H b ys∧xs[i]?=some x∧ys[i]?=some y,
   fun i H v H'=>∃ t,v=.ref t∧H t=none∧∃ x y,(∀ xs,SqT K H a xs→xs[i]?=some x)∧(∀ ys,SqT K H b ys→ys[i]?=some y)∧H'=yp H t (.tup [x,y]),
   fun i H=>∃ xs ys,SqT K H a xs∧SqT K H b ys∧(xs.length≤i∨ys.length≤i)⟩
theorem zKB{P:Program}{w:World}{K:PySem.W.Frag}{es:List Expr}{kk:Nat}{pt:Pos}{z a b i1 i2 l m:Addr}(D:Ap z a b i1 i2 l m) :
  Turn P w K (.Tuple es kk pt) (Itz K l m) [z,a,b,i1,i2] z (fun i h=>IsZip h z a b .none∧IsPair h a (.ref i1) (.ref i2)∧(∃ u v,IsPair h b u v)∧h.IsTupleIter i1 l i∧h.IsTupleIter i2 m i) where
 mem:=by simp
 obj:=fun i h st c hc=>by
  obtain⟨h1,h2,⟨u,v,h3⟩,h4,h5⟩:=st
  simp only[List.mem_cons,List.not_mem_nil,or_false] at hc
  rcases hc with rfl | rfl | rfl | rfl | rfl
  ·exact⟨_,h1,fun v q=>by cases q⟩
  ·exact⟨_,h2,fun v q=>by cases q⟩
  ·exact⟨_,h3,fun v q=>by cases q⟩
  ·obtain⟨o,e,c,d⟩:=h4;exact⟨o,e,fun v q=>by rw[d] at q;cases q⟩
  ·obtain⟨o,e,c,d⟩:=h5;exact⟨o,e,fun v q=>by rw[d] at q;cases q⟩
 keep:=fun i h h' st k=>by
  obtain⟨h1,h2,⟨u,v,h3⟩,h4,h5⟩:=st
  exact⟨k z (by simp) _ h1,k a (by simp) _ h2,⟨u,v,k b (by simp) _ h3⟩,IsTupleIter.at' h4 fun o e=>k i1 (by simp) o e,IsTupleIter.at' h5 fun o e=>k i2 (by simp) o e⟩
 item:=by
  intro X hP hw hK hc i pins s σ H E I hf st hg
  subst hP hw hK
  obtain⟨xs,ys,x,y,q1,q2,hx,hy⟩:=hg
  obtain⟨its1,rv1,p1,hz1⟩:=I.tuple q1
  obtain⟨its2,rv2,p2,hz2⟩:=I.tuple q2
  obtain⟨u1,hu1,ru1⟩:=rv1.get hx
  obtain⟨u2,hu2,ru2⟩:=rv2.get hy
  obtain⟨h1,h2,⟨u,v,h3⟩,h4,h5⟩:=st
  have fl:∀ c∈[z,a,b,i1,i2],c<s.heap.objs.size:=fun c hc=>by
   simp only[List.mem_cons,List.not_mem_nil,or_false] at hc
   rcases hc with rfl | rfl | rfl | rfl | rfl
   ·exact Heap.lt_size h1
   ·exact Heap.lt_size h2
   ·exact Heap.lt_size h3
   ·obtain⟨o,e,u0⟩:=h4;exact Heap.lt_size e
   ·obtain⟨o,e,u0⟩:=h5;exact Heap.lt_size e
  have hfr:H s.heap.objs.size=none:=I.hok.fresh (Nat.le_refl _)
  refine zNn (zFt X.prog X.w i1 l its1.toArray) (zFt X.prog X.w i2 m its2.toArray) D h1 h2 h3 h4 h5 (show s.heap.IsTuple l its1.toArray from p1) (show s.heap.IsTuple m its2.toArray from p2) (x:=u1) (y:=u2) (by simpa using hu1) (by simpa using hu2) fun h' a1 a2 a3 a4 a5 a6 a7=>?_
  refine⟨_,rfl,wpAny_letOwnedTupleGo_zip (s:={ s with heap:=h' }) a1 fun h'' z1 sb=>?_⟩
  have nT:∀ c∈[z,a,b,i1,i2],c≠s.heap.objs.size:=fun c hc e=>absurd (fl c hc) (by rw[e];exact Nat.lt_irrefl _)
  have I1:zV X pins σ (yp H s.heap.objs.size (.tup [x,y])) { s with heap:=s.heap.push { cls:=.type "tuple",data:=.seq #[u1,u2] },toks:=s.toks } :=
   I.laid (t':=s.toks) (fun b u e=>Heap.get?_push_of_some _ e) (Nat.le_refl _) ⟨by show 2≤sizeLine;decide,[u1,u2],.cons ru1 (.cons ru2 .nil),zC8.new _ _⟩
  have hf':∀ c∈[z,a,b,i1,i2],zB8 X pins (yp H s.heap.objs.size (.tup [x,y])) c:=fun c hc=>by
   obtain⟨f0,f1⟩:=hf c hc
   exact⟨by rw[yF (nT c hc)];exact f0,f1⟩
  have I2:zV X pins σ (yp H s.heap.objs.size (.tup [x,y])) { s with heap:=h'' }:=by
   refine I1.turnedL (t':=s.toks) (h':=h'') (fun c o hc e=>?_) hf'
   have cz:c≠z:=fun q=>hc (by simp[q])
   refine sb.extBut _ _ cz ?_
   by_cases hT:c=s.heap.objs.size
   ·subst hT
    have e':(s.heap.push { cls:=.type "tuple",data:=.seq #[u1,u2] }).get? s.heap.objs.size=some o:=e
    rw[Heap.get?_push_size _ rfl] at e'
    cases e'
    exact a5
   ·have e':(s.heap.push { cls:=.type "tuple",data:=.seq #[u1,u2] }).get? c=some o:=e
    have:s.heap.get? c=some o:=by rw[Heap.get?_push_ne _ _ _ hT] at e';exact e'
    exact a7 c o cz (fun q=>hc (by simp[q])) (fun q=>hc (by simp[q])) (fun q=>hc (by simp[q])) this
  refine⟨.ref s.heap.objs.size,_,I2,rfl,⟨s.heap.objs.size,rfl,hfr,x,y,fun zs hzs=>by rw[I.tuple_inj hzs q1];exact hx,fun zs hzs=>by rw[I.tuple_inj hzs q2];exact hy,rfl⟩,?_,fun c hc=>(hf' c hc).1⟩
  refine⟨z1,sb.extBut _ _ D.az (a7 _ _ D.az D.ab D.ai D.aj h2),⟨_,_,sb.extBut _ _ D.bz a2⟩,IsTupleIter.at' a3 fun o e=>sb.extBut _ _ D.iz e,IsTupleIter.at' a4 fun o e=>sb.extBut _ _ D.jz e⟩
 done:=by
  intro X hP hw hK hc i pins s σ H E I hf st hg
  subst hP hw hK
  obtain⟨xs,ys,q1,q2,hx⟩:=hg
  obtain⟨its1,rv1,p1,hz1⟩:=I.tuple q1
  obtain⟨its2,rv2,p2,hz2⟩:=I.tuple q2
  obtain⟨h1,h2,⟨u,v,h3⟩,h4,h5⟩:=st
  have l1:=rv1.length
  have l2:=rv2.length
  refine zPk (zFt X.prog X.w i1 l its1.toArray) (zFt X.prog X.w i2 m its2.toArray) (I.ok.hd hc) D h1 h2 h3 h4 h5 (show s.heap.IsTuple l its1.toArray from p1) (show s.heap.IsTuple m its2.toArray from p2) (by
   rcases hx with h | h
   ·left;simp;(first|lia|omega)
   ·right;simp;(first|lia|omega)) fun h' hk=>⟨rfl,I.turnedL (t':=s.toks) (fun c o hc e=>hk c o (fun q=>hc (by simp[q])) (fun q=>hc (by simp[q])) (fun q=>hc (by simp[q])) (fun q=>hc (by simp[q])) e) hf⟩
 self:=fun u0 u0 u0 u0 u0 st h=>wpAny_pyIter_zip st.1 h
noncomputable def iZp(K:PySem.W.Frag)(ta:TA):TI:=fun σ H R=>ta σ H fun vs H1=>∃ a b xs ys,vs=[.ref a,.ref b]∧SqT K H1 a xs∧SqT K H1 b ys∧(xs.length≤sizeLine→R (Itz K a b) H1)
theorem zNo{X:Cx}{a b:Expr}{ta:TA}{p pos pt:Pos}{es:List Expr}{kk:Nat}(hg:Gl X "zip")(hm:X.mg "zip"=none)(ha:PA X [a,b] ta)(hs:starEach [a,b] X.env=[(false,eval a X.env),(false,eval b X.env)]:=by rfl)(hs2:starEach [b] X.env=[(false,eval b X.env)]:=by rfl) :
  PI X (.Tuple es kk pt) (.Call (.Name "zip" p) [a,b] [] pos) (iZp X.K ta):=by
 intro pins s σ H R I h
 refine Call_ (zCB I hg hm boot_zip (PyProof.Rows.callWith_type1 (yq (ha pos pins s σ H _ I h) fun us s1 ⟨vs,H1,I1,r1,q1⟩=>?_) (by rw[hs,hs2]) (by rw[hs2];rfl)))
 obtain⟨a1,b1,xs,ys,e,q1,q2,q⟩:=q1
 subst e
 cases r1 with
 | cons r rr =>
  cases rr with
  | cons r' rr =>
   cases rr
   cases r
   cases r'
   obtain⟨its1,rv1,p1,hz1⟩:=I1.tuple q1
   obtain⟨its2,rv2,p2,hz2⟩:=I1.tuple q2
   have lt1:=p1.lt
   have lt2:=p2.lt
   refine zKA (show s1.heap.IsTuple a1 its1.toArray from p1) (show s1.heap.IsTuple b1 its2.toArray from p2) fun h' z1 z2 z3 z4 z5 z6 z7=>?_
   refine wpAny_pyIter_zip z1 ⟨_,[s1.heap.objs.size+4,s1.heap.objs.size+2,s1.heap.objs.size+3,s1.heap.objs.size,s1.heap.objs.size+1],_,_,H1,rfl,I1.kept (t':=s1.toks) z7,zKB (z:=s1.heap.objs.size+4) (a:=s1.heap.objs.size+2) (b:=s1.heap.objs.size+3) (i1:=s1.heap.objs.size) (i2:=s1.heap.objs.size+1) (l:=a1) (m:=b1) ?_,⟨z1,z2,⟨_,_,z3⟩,z4,z5⟩,fun c hc=>?_,q hz1⟩
   ·exact zPl lt1 lt2
   ·have:s1.heap.objs.size≤c:=by
     simp only[List.mem_cons,List.not_mem_nil,or_false] at hc
     rcases hc with e | e | e | e | e<;>(rw[e];first | exact Nat.le_add_right _ _ | exact Nat.le_refl _)
    exact I1.fpOk this (I1.hok.fresh this)
end L2
namespace L3
open PySem PySem.Spec PyProof.Rows L2
theorem zLs{K:PySem.W.Frag}{H0:Hp}{a b:Addr}{xs ys:List V}{ds es:List D}(h:SqT K H0 a xs)(hd:Dens K H0 ds xs)(h':SqT K H0 b ys)(hd':Dens K H0 es ys) :
  Walk K H0 ((ds.zip es).map fun p=>D.tup [p.1,p.2]) (fun u0=>True) (Itz K a b) where
 go:=fun i G H u0 r g hi=>by
  have hl:i<xs.length∧i<ys.length:=by rw[List.length_map,List.length_zip] at hi;rw[← hd.length,← hd'.length];(first|lia|omega)
  exact⟨xs,ys,xs[i]'hl.1,ys[i]'hl.2,g.sqT h,g.sqT h',by simp,by simp⟩
 stop:=fun G H u0 r g=>⟨xs,ys,g.sqT h,g.sqT h',by rw[← hd.length,← hd'.length,List.length_map,List.length_zip];(first|lia|omega)⟩
 yld:=fun i G H x H' u0 r g hi y=>by
  obtain⟨t,rfl,hn,u,v,y1,y2,rfl⟩:=y
  obtain⟨d1,e1,e2⟩:=(hd.grow g).got (y1 xs (g.sqT h))
  obtain⟨d2,e3,e4⟩:=(hd'.grow g).got (y2 ys (g.sqT h'))
  have gr:yB H (yp H t (.tup [u,v])):=.fresh hn
  refine⟨gr,r.fresh hn,D.tup [d1,d2],by simp[List.getElem?_zip_eq_some,e1,e3],?_⟩
  unfold zU
  exact⟨t,[u,v],rfl,.inl (.of zj),.cons (e2.grow gr) (.cons (e4.grow gr) .nil)⟩
noncomputable def iZ(t:wN):TI2:=fun σ G R=>t σ G fun ds G1=>match ds with | [.tup xs,.tup ys]=>R ((xs.zip ys).map fun p=>D.tup [p.1,p.2]) (fun u0=>True) G1 | _=>False
theorem zOV{X:Cx}{a b:Expr}{t:wN}{p pos pt:Pos}{es:List Expr}{kk:Nat}(hg:Gl X "zip")(hm:X.mg "zip"=none)(ha:A2 X [a,b] t)(hs:starEach [a,b] X.env=[(false,eval a X.env),(false,eval b X.env)]:=by rfl)(hs2:starEach [b] X.env=[(false,eval b X.env)]:=by rfl) :
  I2 X (.Tuple es kk pt) (.Call (.Name "zip" p) [a,b] [] pos) (iZ t):=by
 refine PI.mono (zNo hg hm ha hs hs2) ?_
 rintro σ1 H R ⟨σ,G,R2,r,q,k⟩
 refine⟨σ,G,_,r,q,fun ds G1 q1 vs H1 g1 r1 d1=>?_⟩
 split at q1
 ·rename_i xs ys
  unfold Dens at d1
  obtain⟨x,r',rfl,d1,d2⟩:=d1
  unfold Dens at d2
  obtain⟨y,r',rfl,d2,d3⟩:=d2
  unfold zU at d1 d2
  unfold Dens at d3
  subst d3
  obtain⟨a1,us,rfl,h1,h2⟩:=d1
  obtain⟨b1,vs,rfl,h3,h4⟩:=d2
  refine⟨a1,b1,us,vs,rfl,h1,h3,fun hz=>k _ _ G1 q1 _ H1 g1 r1 (zLs h1 h2 h3 h4) ?_⟩
  rw[List.length_map,List.length_zip,h2.length];(first|lia|omega)
 ·exact q1.elim
theorem zLt{σ:S2}{G:Gp}{t:wN}{xs ys:List D}(h:PuA t σ G [.tup xs,.tup ys]):PuI (iZ t) σ G ((xs.zip ys).map fun p=>D.tup [p.1,p.2]):=fun G2 e R q=>h G2 e _ (q _ G2 (.refl _) fun u0 u0=>trivial)
end L3
namespace HZ
open PySem PySem.Spec PyProof.Rows
section
variable {prog:Program} {w:World} {A:Around} {E:Value→Shared→Prop}
end
end HZ
namespace L2
open PySem PySem.Spec PyProof.Rows HZ
variable {X:Cx} {pos:Pos}
end L2
namespace L3
open PySem PySem.Spec PyProof.Rows L2
section
variable {X:Cx} {e:Expr} {te:zo} {pos p p2 p3 p4:Pos}
theorem zQs{body:List Stmt}:Ps2 X body (fun u0 u0 u0=>False):=by
 rintro pins s σ H E I ⟨σ',G,D2,r,q,k⟩
 exact q.elim
theorem zKC:wE X (.builtin "isinstance") (fun xs H Q=>∃ x d p,xs=[x,.ref p]∧SqT X.K H p [.ty "tuple",.ty "list"]∧zU X.K H d x∧((∀ l,d≠.adr l)∧Q (.bl (zCH d "tuple")) H∨∃ l ys,d=.adr l∧SqL X.K H l ys∧Q (.bl true) H)):=by
 intro pins s σ H xs us Q I r h
 obtain⟨x,d,pp,rfl,hsp,hd,q⟩:=h
 obtain⟨u,u',rfl,rx,ry⟩:=vals2 r
 obtain rfl:u'=Value.ref pp:=ry
 obtain⟨its,rv,⟨o,h1,h2,n,h3⟩,u0⟩:=I.tuple hsp
 obtain⟨v1,v2,rfl,rv1,rv2⟩:=vals2 rv
 obtain rfl:v1=Value.type "tuple":=rv1
 obtain rfl:v2=Value.type "list":=rv2
 obtain⟨oc,od,oda,osl⟩:=o
 simp only at h2 h3
 subst h2 h3
 rcases q with ⟨hna,q⟩ | ⟨l,ys,rfl,hs,q⟩
 ·cases d with
  | tup _ =>
   unfold zU at hd
   obtain⟨a,ys,rfl,hs,u0⟩:=hd
   cases (show u=Value.ref a from rx)
   obtain⟨u0,u0,⟨o',h4,h5,u0⟩,u0⟩:=I.tuple hs
   exact PySem.W.kia_tup PySem.W.kitx_tuple I.kIn ⟨o',h4,h5⟩ h1 (by rfl) (fun z=>nomatch z) fun tk=>⟨.bl _,H,I.tok _,rfl,q⟩
  | bl y =>
   unfold zU at hd
   subst hd
   cases (show u=Value.bool y from rx)
   exact PySem.W.kia_tup PySem.W.kitx_bool I.kIn True.intro h1 (by rfl) (fun z=>nomatch z) fun tk=>⟨.bl _,H,I.tok _,rfl,q⟩
  | int i =>
   unfold zU at hd
   subst hd
   obtain⟨t,e⟩:=(show ∃ t,u=Value.int i t from rx)
   cases e
   exact PySem.W.kia_tup PySem.W.kitx_int I.kIn True.intro h1 (by rfl) (fun z=>nomatch z) fun tk=>⟨.bl _,H,I.tok _,rfl,q⟩
  | str y =>
   unfold zU at hd
   subst hd
   obtain⟨t,e⟩:=(show ∃ t,u=Value.str y t from rx)
   cases e
   exact PySem.W.kia_tup PySem.W.kitx_str I.kIn True.intro h1 (by rfl) (fun z=>nomatch z) fun tk=>⟨.bl _,H,I.tok _,rfl,q⟩
  | non =>
   unfold zU at hd
   subst hd
   cases (show u=Value.none from rx)
   exact PySem.W.kia_tup PySem.W.kitx_none I.kIn True.intro h1 (by rfl) (fun z=>nomatch z) fun tk=>⟨.bl _,H,I.tok _,rfl,q⟩
  | dic a =>
   unfold zU at hd
   obtain⟨rfl,o',y,hs,hc⟩:=hd
   cases (show u=Value.ref a from rx)
   have h4:=(I.hok a _ hs).1
   exact PySem.W.kia_tup PySem.W.kitx_dict I.kIn ⟨o',h4,hc⟩ h1 (by rfl) (fun z=>nomatch z) fun tk=>⟨.bl _,H,I.tok _,rfl,q⟩
  | adr l=>exact absurd rfl (hna l)
 ·unfold zU at hd
  subst hd
  cases (show u=Value.ref l from rx)
  obtain⟨u0,u0,pl,u0⟩:=I.list hs
  obtain⟨o',h4,h5,u0⟩:=pl.isList
  exact PySem.W.kia_tup PySem.W.kitx_list I.kIn ⟨o',h4,h5⟩ h1 (by rfl) (fun z=>nomatch z) fun tk=>⟨.bl _,H,I.tok _,rfl,q⟩
noncomputable def zLu(te:zo):zo:=fun σ G R=>te σ G fun d G1=>match d with
 | .adr l=>(∃ ds,Ls G1 l ds)∧R (.bl true) G1
 | d=>R (.bl (zCH d "tuple")) G1
theorem zPm{kk:Nat}(hg:Gl X "isinstance")(hm:X.mg "isinstance"=none)(hg2:Gl X "tuple")(hm2:X.mg "tuple"=none)(hg3:Gl X "list")(hm3:X.mg "list"=none)(ha:E2 X e te)
  (he:starEach [e,.Tuple [.Name "tuple" p2,.Name "list" p3] kk p4] X.env=(false,eval e X.env)::starEach [.Tuple [.Name "tuple" p2,.Name "list" p3] kk p4] X.env:=by rfl) (he2:starEach [.Tuple [.Name "tuple" p2,.Name "list" p3] kk p4] X.env=(false,eval (.Tuple [.Name "tuple" p2,.Name "list" p3] kk p4) X.env)::starEach [] X.env:=by rfl)
  (he3:starEach [.Name "tuple" p2,.Name "list" p3] X.env=(false,eval (.Name "tuple" p2) X.env)::starEach [.Name "list" p3] X.env:=by rfl) (he4:starEach [.Name "list" p3] X.env=(false,eval (.Name "list" p3) X.env)::starEach [] X.env:=by rfl)
  (hpl:(backTo pos (starEach [.Tuple [.Name "tuple" p2,.Name "list" p3] kk p4] X.env)).any (·.1)=false:=by rfl) :
  E2 X (.Call (.Name "isinstance" p) [e,.Tuple [.Name "tuple" p2,.Name "list" p3] kk p4] [] pos) (zLu te):=by
 refine PE.mono (zAA zKC hg hm (by decide +kernel) (yS ha (yS (zLC (yS (zEK (v:=.ty "tuple") hg2 hm2 (by decide +kernel) rfl) (yS (zEK (v:=.ty "list") hg3 hm3 (by decide +kernel) rfl) wz he4) he3)) wz he2) he) (by decide) (by decide) he hpl) ?_
 rintro σ1 H Q ⟨σ,G,R,rl,q,k⟩
 refine⟨σ,G,_,rl,q,fun d G1 q1 v H1 g1 r1 d1=>⟨by show 2≤sizeLine;decide,fun pp hp=>?_⟩⟩
 have gr:yB H1 (yp H1 pp (.tup [.ty "tuple",.ty "list"])):=.fresh hp
 refine⟨v,d,pp,rfl,.inl (.of zj),d1.grow gr,?_⟩
 cases d with
 | adr l =>
  obtain⟨⟨ds,hl⟩,q1⟩:=q1
  obtain⟨xs,hs,u0⟩:=(r1.fresh (o:=.tup [.ty "tuple",.ty "list"]) hp).sq hl
  exact .inr ⟨l,xs,rfl,hs,k _ G1 q1 _ _ (g1.trans gr) (r1.fresh hp) (by unfold zU;rfl)⟩
 | _=>exact .inl ⟨fun l z=>(by cases z),k _ G1 q1 _ _ (g1.trans gr) (r1.fresh hp) (by unfold zU;rfl)⟩
end
end L3
namespace HS
open PySem PySem.Spec PyProof.Rows
set_option genInjectivity false in
structure SB (a0:Array Keyed) (kd:SortKind) (z:SortSt):Prop where
 pm:(arrOf z).Perm a0
 kd:kindOf z=kd
 fl:failedOf z=none
 pe:pendingOf z=#[]
theorem SB.sz{a0:Array Keyed}{kd:SortKind}{z:SortSt}(b:SB a0 kd z):(arrOf z).size=a0.size:=b.pm.size_eq
theorem SB.put{a0:Array Keyed}{kd:SortKind}{z:SortSt}(b:SB a0 kd z){ys:Array Keyed}(p:ys.Perm (arrOf z)):SB a0 kd (setArr z ys):=⟨p.trans b.pm,b.kd,b.fl,b.pe⟩
section
variable {prog:Program} {w:World} {A:Around} {E:Value→Shared→Prop} {s:Shared} {a0:Array Keyed} {kd:SortKind} {κ:KeyKind}
noncomputable abbrev Ky(κ:KeyKind)(z:SortSt)(i:Nat):κ.α:=KK κ (arrOf z) i
noncomputable abbrev Up(κ:KeyKind)(z:SortSt)(m:Nat):Prop:=SortedToK κ (arrOf z) m
noncomputable abbrev Dn(κ:KeyKind)(z:SortSt)(m:Nat):Prop:=NonIncK κ (arrOf z) m
theorem Up.more{z:SortSt}{m:Nat}(u:Up κ z m)(h:1≤m→κ.kle (Ky κ z (m-1)) (Ky κ z m)):Up κ z (m+1):=fun i j ij jm=>by
 rcases Nat.lt_or_ge j m with q | q
 ·exact u i j ij q
 obtain rfl:j=m:=by (first|lia|omega)
 rcases Nat.lt_or_ge i j with p | p
 ·exact KeyOrd.kle_trans (u i (j-1) (by (first|lia|omega)) (by (first|lia|omega))) (h (by (first|lia|omega)))
 ·obtain rfl:i=j:=by (first|lia|omega)
  exact KeyOrd.kle_refl _
theorem zET{xs:Array Keyed}{m:Nat}(u:NonIncK κ xs m)(h:1≤m→κ.kle (KK κ xs m) (KK κ xs (m-1))):NonIncK κ xs (m+1):=fun i j ij jm=>by
 rcases Nat.lt_or_ge j m with q | q
 ·exact u i j ij q
 obtain rfl:j=m:=by (first|lia|omega)
 rcases Nat.lt_or_ge i j with p | p
 ·exact KeyOrd.kle_trans (h (by (first|lia|omega))) (u i (j-1) (by (first|lia|omega)) (by (first|lia|omega)))
 ·obtain rfl:i=j:=by (first|lia|omega)
  exact KeyOrd.kle_refl _
theorem zEv{xs ys:Array Keyed}{m:Nat}(e:∀ i,KK κ ys i=KK κ xs i)(u:NonIncK κ xs m):NonIncK κ ys m:=fun i j ij jm=>by rw[e,e];exact u i j ij jm
set_option genInjectivity false in
structure zNp (κ:KeyKind) (xs:Array Keyed) (m c:Nat):Prop where
 dn:NonIncK κ xs m
 le:c+1≤m
 eq:∀ i,m-(c+1)≤i→i<m→KK κ xs i=KK κ xs (m-1)
theorem zNp.one{xs:Array Keyed}{m:Nat}(d:NonIncK κ xs m)(h:1≤m):zNp κ xs m 0:=⟨d,h,fun i h1 h2=>by rw[show i=m-1 by (first|lia|omega)]⟩
variable (L:∀(z:SortSt) (i j:Nat) (Q:Option Bool→SortSt→Prop),SB a0 kd z→i<a0.size→j<a0.size→Q (some (κ.blt (Ky κ z i) (Ky κ z j))) z→wpS (model prog w) A E s (ltAt' i j) Q z)
include L
theorem zJA{z:SortSt}{a m:Nat}{Q:AscSt→SortSt→Prop}(hm:m≤a0.size)(ha:1≤a)(ham:a≤m)(b:SB a0 kd z)(u:Up κ z a)
  (h:∀ n,a≤n→n≤m→Up κ z n→n=m∨κ.klt (Ky κ z n) (Ky κ z (n-1))→Q (none,n) z):wpS (model prog w) A E s (ascLoop a m) Q z:=by
 unfold ascLoop
 refine wpS_forRange (fun n c z'=>z'=z∧c=(none,n)∧Up κ z n) (fun n c z' h1 h2 ⟨e1,e2,u'⟩=>?_) (fun c z' ⟨e1,e2,u'⟩=>?_) ⟨rfl,rfl,u⟩
 ·subst e1 e2
  refine wpS_bind (L _ _ _ _ b (by dsimp only;(first|lia|omega)) (by dsimp only;(first|lia|omega)) ?_)
  dsimp only
  cases q:κ.blt (Ky κ z' n) (Ky κ z' (n-1)) with
  | true=>exact wpS_pure (h n h1 (by (first|lia|omega)) u' (.inr q))
  | false=>exact wpS_pure ⟨rfl,rfl,u'.more fun u0=>q⟩
 ·subst e1 e2
  have e:max a m=m:=by (first|lia|omega)
  rw[e] at u' ⊢
  exact h m ham (Nat.le_refl _) u' (.inl rfl)
theorem zJB{z:SortSt}{n m:Nat}{Q:Option Nat→SortSt→Prop}(hm:m≤a0.size)(hn:1≤n)(hnm:n≤m)(b:SB a0 kd z)(d:Dn κ z n)
  (h:∀ k z',SB a0 kd z'→1≤k→k≤m→Up κ z' k→Q (some k) z'):wpS (model prog w) A E s (tail3 n m) Q z:=by
 have sz:n≤(arrOf z).size:=by have:=b.sz;(first|lia|omega)
 have b':SB a0 kd (setArr z (mirror (arrOf z) 0 n ((n-0) / 2))):=b.put (mirror_perm _ _ _ _)
 unfold tail3
 refine wpS_bind (wpS_reverse (wpS_bind (zJA L hm hn hnm b' (fun i j ij jn=>?_) fun k k1 k2 u u0=>wpS_pure (h k _ b' (by (first|lia|omega)) k2 u))))
 show κ.kle (KK κ (mirror (arrOf z) 0 n ((n-0) / 2)) i) (KK κ (mirror (arrOf z) 0 n ((n-0) / 2)) j)
 rw[KK_mirror sz,KK_mirror sz,if_pos ⟨Nat.zero_le _,by (first|lia|omega)⟩,if_pos ⟨Nat.zero_le _,jn⟩]
 exact d (0+n-1-j) (0+n-1-i) (by (first|lia|omega)) (by (first|lia|omega))
theorem zNq{z:SortSt}{n m:Nat}{Q:DescSt→SortSt→Prop}(hm:m≤a0.size)(hn:1≤n)(hnm:n≤m)(b:SB a0 kd z)(d:Dn κ z n)
  (h:∀ k c z',SB a0 kd z'→n≤k→k≤m→zNp κ (arrOf z') k c→Q (none,k,c) z'):wpS (model prog w) A E s (descLoop n m) Q z:=by
 unfold descLoop
 refine wpS_forRange (fun k e z'=>∃ c,e=(none,k,c)∧SB a0 kd z'∧zNp κ (arrOf z') k c) (fun k e z' h1 h2 ⟨c,e1,b',f⟩=>?_) (fun e z' ⟨c,e1,b',f⟩=>?_) ⟨0,rfl,b,.one d hn⟩
 ·subst e1
  have sz:k≤(arrOf z').size:=by have:=b'.sz;(first|lia|omega)
  refine wpS_bind (L _ _ _ _ b' (by dsimp only;(first|lia|omega)) (by dsimp only;(first|lia|omega)) ?_)
  dsimp only
  cases q:κ.blt (Ky κ z' k) (Ky κ z' (k-1)) with
  | true =>
   have d':NonIncK κ (arrOf z') (k+1):=zET f.dn fun u0=>KeyOrd.kle_of_klt q
   simp only[if_true]
   by_cases hc:c>0
   ·rw[if_pos hc]
    exact wpS_bind (wpS_reverse (wpS_pure ⟨0,rfl,b'.put (mirror_perm _ _ _ _),.one (zEv (KK_mirror_equal sz f.eq) d') (by (first|lia|omega))⟩))
   ·rw[if_neg hc]
    exact wpS_pure ⟨0,rfl,b',.one d' (by (first|lia|omega))⟩
  | false =>
   simp only[Bool.false_eq_true,if_false]
   refine wpS_bind (L _ _ _ _ b' (by (first|lia|omega)) (by (first|lia|omega)) ?_)
   dsimp only
   cases q':κ.blt (Ky κ z' (k-1)) (Ky κ z' k) with
   | true=>exact wpS_pure (h k c z' b' h1 (by (first|lia|omega)) f)
   | false =>
    have ek:KK κ (arrOf z') k=KK κ (arrOf z') (k-1):=KeyOrd.kle_antisymm q' q
    simp only[Bool.false_eq_true,if_false]
    refine wpS_pure ⟨c+1,rfl,b',zET f.dn fun u0=>q',by have:=f.le;(first|lia|omega),fun i i1 i2=>?_⟩
    rw[Nat.add_sub_cancel]
    rcases Nat.lt_or_ge i k with p | p
    ·rw[ek];exact f.eq i (by (first|lia|omega)) p
    ·rw[show i=k by (first|lia|omega)]
 ·subst e1
  have e:max n m=m:=by (first|lia|omega)
  rw[e] at f ⊢
  exact h m c z' b' hnm (Nat.le_refl _) f
theorem zJC{z:SortSt}{n m:Nat}{Q:Option Nat→SortSt→Prop}(hm:m≤a0.size)(hnm:n+1≤m)(b:SB a0 kd z)(d:Dn κ z (n+1))
  (h:∀ k z',SB a0 kd z'→1≤k→k≤m→Up κ z' k→Q (some k) z'):wpS (model prog w) A E s (descPart n m) Q z:=by
 unfold descPart
 refine wpS_bind (wpS_lift (wpAny_rule ⟨rfl,wpS_bind (zNq L hm (by (first|lia|omega)) hnm b d fun k c z' b' k1 k2 f=>?_)⟩))
 have sz:k≤(arrOf z').size:=by have:=b'.sz;(first|lia|omega)
 dsimp only
 by_cases hc:c>0
 ·rw[if_pos hc]
  exact wpS_bind (wpS_reverse (zJB L hm (by (first|lia|omega)) k2 (b'.put (mirror_perm _ _ _ _)) (zEv (KK_mirror_equal sz f.eq) f.dn) h))
 ·rw[if_neg hc]
  exact zJB L hm (by (first|lia|omega)) k2 b' f.dn h
theorem zKD{z:SortSt}{m:Nat}{Q:Option Nat→SortSt→Prop}(hm:m≤a0.size)(h1:1≤m)(b:SB a0 kd z)
  (h:∀ k z',SB a0 kd z'→1≤k→k≤m→Up κ z' k→Q (some k) z'):wpS (model prog w) A E s (countRun' 0 m) Q z:=by
 rw[countRun0_eq]
 refine wpS_bind (zJA L hm (Nat.le_refl 1) h1 b (fun i j ij j1=>by obtain rfl:i=j:=(by (first|lia|omega));exact KeyOrd.kle_refl _) fun n n1 n2 u o=>?_)
 dsimp only
 by_cases e:n=m
 ·rw[if_pos (by simpa using e)]
  exact wpS_pure (h n z b n1 n2 u)
 rw[if_neg (by simpa using e)]
 have lt:κ.klt (Ky κ z n) (Ky κ z (n-1)):=o.resolve_left e
 by_cases g:n>1
 ·rw[if_pos g]
  refine wpS_bind (L _ _ _ _ b (by (first|lia|omega)) (by (first|lia|omega)) ?_)
  dsimp only
  cases q:κ.blt (Ky κ z 0) (Ky κ z (n-1)) with
  | true=>exact wpS_pure (h n z b n1 n2 u)
  | false =>
   have sz:n≤(arrOf z).size:=by have:=b.sz;(first|lia|omega)
   have al:∀ k,0≤k→k<n→KK κ (arrOf z) k=KK κ (arrOf z) (n-1):=fun k u0 k2=>KeyOrd.kle_antisymm (u k (n-1) (by (first|lia|omega)) (by (first|lia|omega))) (KeyOrd.kle_trans q (u 0 k (Nat.zero_le _) k2))
   simp only[Bool.false_eq_true,if_false]
   refine wpS_bind (wpS_reverse (zJC L hm (by (first|lia|omega)) (b.put (mirror_perm _ _ _ _)) (zEv (KK_mirror_equal sz al) (zET (fun i j ij jn=>?_) fun u0=>KeyOrd.kle_of_klt lt)) h))
   rw[al i (Nat.zero_le _) (by (first|lia|omega)),al j (Nat.zero_le _) jn]
   exact KeyOrd.kle_refl _
 ·rw[if_neg g]
  obtain rfl:n=1:=by (first|lia|omega)
  exact zJC L hm (by (first|lia|omega)) b (zET (fun i j ij j1=>by obtain rfl:i=j:=(by (first|lia|omega));exact KeyOrd.kle_refl _) fun u0=>KeyOrd.kle_of_klt lt) h
omit L in
theorem bub_up {z : SortSt} {k l i j : Nat} (sz : k < (arrOf z).size) (lk : l ≤ k) (u : ∀ i j, i ≤ j → j < k → κ.kle (Ky κ z i) (Ky κ z j)) (lo : ∀ i, i < l → κ.kle (Ky κ z i) (Ky κ z k)) (hi : ∀ i, l ≤ i → i < k → κ.klt (Ky κ z k) (Ky κ z i)) (ij : i ≤ j) (jk : j < k + 1) :
    κ.kle (KK κ (bubble (arrOf z) k (k - l)) i) (KK κ (bubble (arrOf z) k (k - l)) j) := by
  rw [KK_bubble sz (by (first|lia|omega)), KK_bubble sz (by (first|lia|omega)), Nat.sub_sub_self lk]
  by_cases i1 : i = l
  · rw [if_pos i1]
    by_cases j1 : j = l
    · rw [if_pos j1]; exact KeyOrd.kle_refl _
    · rw [if_neg j1, if_pos ⟨by (first|lia|omega), by (first|lia|omega)⟩]
      exact KeyOrd.kle_of_klt (hi (j - 1) (by (first|lia|omega)) (by (first|lia|omega)))
  · rw [if_neg i1]
    by_cases i2 : l < i ∧ i ≤ k
    · rw [if_pos i2, if_neg (by (first|lia|omega)), if_pos ⟨by (first|lia|omega), by (first|lia|omega)⟩]
      exact u (i - 1) (j - 1) (by (first|lia|omega)) (by (first|lia|omega))
    · rw [if_neg i2]
      by_cases j1 : j = l
      · rw [if_pos j1]; exact lo i (by (first|lia|omega))
      · rw [if_neg j1]
        by_cases j2 : l < j ∧ j ≤ k
        · rw [if_pos j2]; exact u i (j - 1) (by (first|lia|omega)) (by (first|lia|omega))
        · rw [if_neg j2]; exact u i j ij (by (first|lia|omega))
theorem zPn {z : SortSt} {m ok : Nat} {Q : Bool → SortSt → Prop} (hm : m ≤ a0.size) (hok : ok ≤ m) (h1 : 1 ≤ ok) (b : SB a0 kd z) (u : Up κ z ok)
    (h : ∀ z', SB a0 kd z' → Up κ z' m → Q true z') : wpS (model prog w) A E s (binarySort' 0 m ok) Q z := by
  rw [binarySort'_eq]
  simp only [Nat.zero_add]
  refine wpS_bind (wpS_mono (wpS_forRange (I := fun k c z' => c = (none, ()) ∧ k ≤ m ∧ SB a0 kd z' ∧ Up κ z' k) (Q := fun c z' => c = (none, ()) ∧ SB a0 kd z' ∧ Up κ z' m) (fun k c z' k1 k2 ⟨e, km, b', u'⟩ => ?stp) (fun c z' ⟨e, km, b', u'⟩ => ⟨e, b', ?fin⟩) ⟨rfl, by (first|lia|omega), b, ?ini⟩) fun c z' ⟨e, b', u'⟩ => ?pst)
  case stp =>
    subst e
    have hk : k < a0.size := by (first|lia|omega)
    refine wpS_bind (wpS_mono (wpS_forRange (I := fun x c z'' => z'' = z' ∧ ∃ l r, c = (none, l, r) ∧ (l ≤ r ∧ r ≤ k ∧ r - l ≤ k - x) ∧ (∀ i, i < l → κ.kle (Ky κ z' i) (Ky κ z' k)) ∧ ∀ i, r ≤ i → i < k → κ.klt (Ky κ z' k) (Ky κ z' i))
      (Q := fun c z'' => z'' = z' ∧ ∃ l, (∃ r, c = (none, l, r)) ∧ l ≤ k ∧ (∀ i, i < l → κ.kle (Ky κ z' i) (Ky κ z' k)) ∧ ∀ i, l ≤ i → i < k → κ.klt (Ky κ z' k) (Ky κ z' i)) (fun x c z'' x1 x2 ⟨e1, l, r, e2, ⟨lr, rk, dx⟩, lo, hi⟩ => ?is) (fun c z'' ⟨e1, l, r, e2, ⟨lr, rk, dx⟩, lo, hi⟩ => ?if_) ⟨rfl, 0, k, rfl, ⟨by (first|lia|omega), by (first|lia|omega), by (first|lia|omega)⟩, fun i q => by (first|lia|omega), fun i q1 q2 => by (first|lia|omega)⟩) fun c z'' ⟨e1, l, ⟨r, e2⟩, lk, lo, hi⟩ => ?ip)
    case is =>
      subst e1 e2
      dsimp only
      by_cases g : l ≥ r
      · rw [if_pos g]
        obtain rfl : l = r := by (first|lia|omega)
        exact wpS_pure ⟨rfl, l, ⟨_, rfl⟩, rk, lo, hi⟩
      · rw [if_neg g]
        refine wpS_bind (L _ _ _ _ b' hk (by (first|lia|omega)) ?_)
        dsimp only
        cases q : κ.blt (Ky κ z'' k) (Ky κ z'' ((l + r) / 2)) with
        | true => exact wpS_pure ⟨rfl, l, (l + r) / 2, rfl, ⟨by (first|lia|omega), by (first|lia|omega), by (first|lia|omega)⟩, lo, fun i i1 i2 => KeyOrd.klt_of_klt_of_kle q (u' _ _ i1 i2)⟩
        | false => exact wpS_pure ⟨rfl, (l + r) / 2 + 1, r, rfl, ⟨by (first|lia|omega), by (first|lia|omega), by (first|lia|omega)⟩, fun i i1 => KeyOrd.kle_trans (u' i ((l + r) / 2) (by (first|lia|omega)) (by (first|lia|omega))) (show κ.kle _ _ from q), hi⟩
    case if_ =>
      subst e1 e2
      obtain rfl : l = r := by (first|lia|omega)
      exact ⟨rfl, l, ⟨_, rfl⟩, rk, lo, hi⟩
    case ip =>
      subst e1 e2
      show wpS _ _ _ _ (do moveDown' k l; pure (ForInStep.yield (none, ()))) _ _
      rw [moveDown'_eq]
      refine wpS_bind (wpS_modify (wpS_pure ⟨rfl, by (first|lia|omega), b'.put (bubble_perm _ _ _), fun i j ij jk => ?_⟩))
      have sz : k < (arrOf z'').size := by have := b'.sz; (first|lia|omega)
      exact bub_up sz lk u' lo hi ij jk
  case fin => rwa [show max (max ok 1) m = m by (first|lia|omega)] at u'
  case ini => rwa [show max ok 1 = ok by (first|lia|omega)]
  case pst =>
    subst e
    exact wpS_pure (h z' b' u')
theorem zKE{z:SortSt}{Q:Unit→SortSt→Prop}(b:SB a0 kd z)(h2:2≤a0.size)(h64:a0.size<64)
  (h:∀ z',(arrOf z').Perm a0→failedOf z'=none→Up κ z' a0.size→Q () z'):wpS (model prog w) A E s sortRuns' Q z:=by
 rw[sortRuns'_eq]
 refine wpS_bind (wpS_get ?_)
 dsimp only
 have mr:minRun' a0.size a0.size 0=a0.size:=by
  obtain⟨f,hf⟩:∃ f,a0.size=f+1:=⟨a0.size-1,by (first|lia|omega)⟩
  have q:minRun' (f+1) a0.size 0=a0.size:=by rw[minRun'_succ,if_pos h64];rfl
  rwa [← hf] at q
 simp only[b.sz,mr]
 let Dne:SortSt→Prop:=fun z'=>(arrOf z').Perm a0∧failedOf z'=none∧pendingOf z'=#[(0,a0.size,0)]∧Up κ z' a0.size
 have dne:∀ z',SB a0 kd z'→Up κ z' a0.size→Dne (setPending z' ((pendingOf z').push (0,a0.size,0))):=fun z' b' u'=>⟨b'.pm,b'.fl,by show(pendingOf z').push _=_;rw[b'.pe];rfl,u'⟩
 refine wpS_bind (wpS_mono (wpS_forRange (I:=fun x c z'=>(x=0∧c=(none,0)∧SB a0 kd z')∨(1≤x∧c=(none,a0.size)∧Dne z')) (Q:=fun c z'=>c=(none,a0.size)∧Dne z') (fun x c z' u0 hx o=>?stp) (fun c z' o=>?fin) (.inl ⟨rfl,rfl,b⟩)) fun c z' ⟨e,d⟩=>?pst)
 case stp =>
  rcases o with ⟨e1,e2,b'⟩ | ⟨u0,e2,d⟩
  ·subst e1 e2
   dsimp only
   rw[if_neg (by (first|lia|omega))]
   simp only[Nat.sub_zero,Nat.min_self,Nat.zero_add]
   refine wpS_bind (zKD L (Nat.le_refl _) (by (first|lia|omega)) b' fun k z2 b2 k1 k2 u2=>?_)
   dsimp only
   have none_back:∀ z3,SB a0 kd z3→(pendingOf z3).back?=none:=fun z3 b3=>by rw[b3.pe];rfl
   by_cases g:k<a0.size
   ·rw[if_pos g]
    refine wpS_bind (wpS_lift (wpAny_rule ⟨rfl,wpS_bind (zPn L (Nat.le_refl _) k2 k1 b2 u2 fun z3 b3 u3=>?_)⟩))
    simp only[Bool.not_true,Bool.false_eq_true,if_false]
    refine wpS_bind (wpS_get ?_)
    rw[none_back z3 b3]
    exact wpS_bind (wpS_modify (wpS_pure (.inr ⟨by (first|lia|omega),rfl,dne z3 b3 u3⟩)))
   ·rw[if_neg g]
    obtain rfl:k=a0.size:=by (first|lia|omega)
    refine wpS_bind (wpS_get ?_)
    rw[none_back z2 b2]
    exact wpS_bind (wpS_modify (wpS_pure (.inr ⟨by (first|lia|omega),rfl,dne z2 b2 u2⟩)))
  ·subst e2
   dsimp only
   rw[if_pos (Nat.le_refl _)]
   exact wpS_pure ⟨rfl,d⟩
 case fin =>
  rcases o with ⟨e1,u0,u0⟩ | ⟨u0,e2,d⟩
  ·(first|lia|omega)
  ·exact⟨e2,d⟩
 case pst =>
  subst e
  dsimp only
  refine wpS_bind (wpS_mono (wpS_forRange (I:=fun u0 c z''=>z''=z'∧c=(none,())) (Q:=fun c z''=>z''=z'∧c=(none,())) (fun x c z'' _ _ ⟨e1,e2⟩=>?ls) (fun u0 u0 q=>q) ⟨rfl,rfl⟩) fun c z'' ⟨e1,e2⟩=>?lp)
  case ls =>
   subst e1 e2
   refine wpS_bind (wpS_get ?_)
   rw[if_pos (by rw[d.2.2.1];exact Nat.le_refl 1)]
   exact wpS_pure ⟨rfl,rfl⟩
  case lp =>
   subst e1 e2
   exact wpS_pure (h _ d.1 d.2.1 d.2.2.2)
end
end HS
namespace HS
open PySem PySem.Spec PyProof.Rows
noncomputable def ltI:List Int→List Int→Bool
 | [],[]=>false
 | [],_::_=>true
 | _::_,[]=>false
 | a::r,b::t=>if a=b then ltI r t else decide (a<b)
theorem zJD:∀ a,ltI a a=false
 | []=>rfl
 | x::r=>by show(if x=x then ltI r r else _)=false;rw[if_pos rfl];exact zJD r
theorem zFu:∀ a b c,ltI a b=true→ltI b c=true→ltI a c=true
 | [],[],_,h,_=>by cases h
 | [],_::_,[],_,h=>by cases h
 | [],_::_,_::_,_,_=>rfl
 | _::_,[],_,h,_=>by cases h
 | _::_,_::_,[],_,h=>by cases h
 | x::a,y::b,z::c,h,h'=>by
  simp only[ltI] at h h' ⊢
  split at h<;>split at h'
  ·rename_i e1 e2;rw[if_pos (e1.trans e2)];exact zFu a b c h h'
  ·rename_i e1 e2;subst e1;rw[if_neg e2];exact h'
  ·rename_i e1 e2;subst e2;rw[if_neg e1];exact h
  ·simp only[decide_eq_true_eq] at h h'
   rw[if_neg (by (first|lia|omega))];simp;(first|lia|omega)
theorem zJE:∀ a b c,ltI a c=true→ltI a b=true∨ltI b c=true
 | [],[],_,h=>.inr h
 | [],_::_,_,_=>.inl rfl
 | _::_,_,[],h=>by cases h
 | _::_,[],_::_,_=>.inr rfl
 | x::a,y::b,z::c,h=>by
  simp only[ltI] at h ⊢
  split at h
  ·rename_i e1;subst e1
   by_cases e2:x=y
   ·subst e2;rw[if_pos rfl,if_pos rfl];exact zJE a b c h
   ·rw[if_neg e2,if_neg (Ne.symm e2)];simp;(first|lia|omega)
  ·rename_i e1
   simp only[decide_eq_true_eq] at h
   by_cases e2:x=y
   ·subst e2;right;rw[if_neg e1];simp;(first|lia|omega)
   ·by_cases e3:y=z
    ·subst e3;left;rw[if_neg e2];simp;(first|lia|omega)
    ·rw[if_neg e2,if_neg e3];simp;(first|lia|omega)
theorem zGS:∀ a b,ltI a b=false→ltI b a=false→a=b
 | [],[],_,_=>rfl
 | [],_::_,h,_=>by cases h
 | _::_,[],_,h=>by cases h
 | x::a,y::b,h,h'=>by
  simp only[ltI] at h h'
  by_cases e:x=y
  ·subst e;rw[if_pos rfl] at h h';rw[zGS a b h h']
  ·rw[if_neg e] at h;rw[if_neg (Ne.symm e)] at h'
   simp only[decide_eq_false_iff_not] at h h';(first|lia|omega)
noncomputable def tAt(h:Heap):Value→Option (List Int)
 | .ref a=>match h.get? a with
  | some o=>match o.data with
   | .seq its _=>some (its.toList.map numOf)
   | _=>none
  | none=>none
 | _=>none
noncomputable abbrev zBM(h:Heap):KeyKind where
 α:=List Int
 blt:=ltI
 irrefl:=zJD
 trans:=zFu
 negTrans:=zJE
 total:=zGS
 keyOf:=tAt h
 dflt:=[]
set_option genInjectivity false in
structure TI (h:Heap) (v:Value) (ns:List Int):Prop where
 ex:∃ a o its n,v=.ref a∧h.get? a=some o∧o.cls=.type "tuple"∧o.data=.seq its n∧IntsAre its.toList ns
 ne:ns≠[]
theorem TI.items{h:Heap}{v:Value}{ns:List Int}(t:TI h v ns):tAt h v=some ns:=by
 obtain⟨a,o,its,n,rfl,e,u0,d,i⟩:=t.ex
 unfold tAt
 simp only[e,d]
 rw[i.nums]
theorem zGT(b:Bool)(x y:Value):keyLt' (tuples' b) x y=(do
  let xs ← Builtin.List.listItems x;let ys ← Builtin.List.listItems y
  for ((p,q),i) in (xs.toList.zip ys.toList).zipIdx do
   if !(← eqBool p q) then return ← oneLt' (b&&i==0) p q
  return decide (xs.size<ys.size)):=rfl
section
variable {prog:Program} {w:World} {A:Around} {E:Value→Shared→Prop} {s:Shared}
theorem zIL{b:Bool}{i j:Int}{t u:Tok}{Q:Bool→Shared→Prop}(h:Q (decide (i<j)) s):wpAny (model prog w) A (oneLt' b (.int i t) (.int j u)) Q E s:=by
 cases b with
 | true=>exact oneLt_int h
 | false =>
  rw[oneLt'_eq]
  simp only[Bool.false_eq_true,if_false]
  refine wpAny_bind (m:=richCompare .Lt (.int i t) (.int j u)) (wpAny_lt_int ?_)
  exact wpAny_truthy_bool h
noncomputable def zD6:List Int→List Int→Option Bool
 | a::r,b::t=>if a=b then zD6 r t else some (decide (a<b))
 | _,_=>none
theorem zHC:∀ ns ms,ltI ns ms=(zD6 ns ms).getD (decide (ns.length<ms.length))
 | [],[]=>rfl
 | [],_::_=>by simp[ltI,zD6]
 | _::_,[]=>by simp[ltI,zD6]
 | a::r,b::t=>by
  simp only[ltI,zD6]
  split
  ·rw[zHC r t];simp
  ·rfl
theorem zJF{b:Bool}{Q:Option Bool×Unit→Shared→Prop}:∀(ps qs:List Value) (ns ms:List Int) (k:Nat),IntsAre ps ns→IntsAre qs ms→Q (zD6 ns ms,()) s →
  wpAny (model prog w) A (forIn ((ps.zip qs).zipIdx k) ((none,()):Option Bool×Unit) fun x r=>do
   let e ← eqBool x.1.1 x.1.2
   if (!e)=true then do
    let c ← oneLt' (b&&x.2==0) x.1.1 x.1.2
    pure (ForInStep.done (some c,()))
   else pure (ForInStep.yield (none,()))) Q E s
 | _,_,_,_,k,.nil,_,h=>by
  simp only[List.zip_nil_left,List.zipIdx_nil,List.forIn_nil]
  exact wpAny_pure h
 | _,_,_,_,k,.cons a t i,.nil,h=>by
  simp only[List.zip_nil_right,List.zipIdx_nil,List.forIn_nil]
  exact wpAny_pure h
 | _,_,_,_,k,.cons a t i,.cons c u j,h=>by
  simp only[List.zip_cons_cons,List.zipIdx_cons,List.forIn_cons]
  refine wpAny_bind (wpAny_bind (wpAny_eqBool_int ?_))
  simp only[zD6] at h
  by_cases e:a=c
  ·subst e
   rw[if_pos rfl] at h
   rw[if_neg (by simp)]
   refine wpAny_pure ?_
   exact zJF _ _ _ _ (k+1) i j h
  ·rw[if_neg e] at h
   rw[if_pos (by simpa using e)]
   exact wpAny_bind (zIL (wpAny_pure (wpAny_pure h)))
theorem zKF{b:Bool}{x y:Value}{ns ms:List Int}{Q:Bool→Shared→Prop}(hx:TI s.heap x ns)(hy:TI s.heap y ms)(h:Q (ltI ns ms) s):wpAny (model prog w) A (keyLt' (tuples' b) x y) Q E s:=by
 obtain⟨a,o,its,n,rfl,e,u0,d,i⟩:=hx.ex
 obtain⟨a',o',its',n',rfl,e',u0,d',i'⟩:=hy.ex
 rw[zGT]
 refine wpAny_bind (listItems_at e d (wpAny_bind (listItems_at e' d' (wpAny_bind ?_))))
 refine zJF (Q:=_) its.toList its'.toList ns ms 0 i i' ?_
 rw[zHC] at h
 cases q:zD6 ns ms with
 | some c =>
  rw[q] at h
  exact wpAny_pure h
 | none =>
  rw[q] at h
  refine wpAny_pure ?_
  have l1:=i.length
  have l2:=i'.length
  simp only[Array.length_toList] at l1 l2
  rw[l1,l2]
  exact h
theorem zKG{v:Value}{ns:List Int}{Q:Option Value→Shared→Prop}(hv:TI s.heap v ns)(h:∀ i t,Q (some (.int i t)) s):wpAny (model prog w) A (firstOfTuple' v) Q E s:=by
 obtain⟨a,o,its,n,rfl,e,c,d,i⟩:=hv.ex
 show wpAny _ _ (do
  if (← typeOf (.ref a)) != .type "tuple" then return none
  return (← Builtin.List.listItems (.ref a))[0]?) _ _ _
 refine wpAny_bind (wpAny_typeOf (T:="tuple") ⟨o,e,c⟩ ?_)
 rw[if_neg (by decide)]
 refine wpAny_bind (listItems_at e d (wpAny_pure ?_))
 obtain⟨l⟩:=its
 cases i with
 | nil=>exact absurd rfl hv.ne
 | cons k t r=>exact h k t
theorem zEw{Q:List (Option Value)→Shared→Prop}:∀(vs:List Value),(∀ v∈vs,∃ ns,TI s.heap v ns)→(∀ fs:List (Option Value),fs.length=vs.length→(∀ f∈fs,∃ i t,f=some (.int i t))→Q fs s)→wpAny (model prog w) A (vs.mapM firstOfTuple') Q E s
 | [],_,h=>by
  simp only[List.mapM_nil]
  exact wpAny_pure (h [] rfl (by simp))
 | v::r,hv,h=>by
  simp only[List.mapM_cons]
  obtain⟨ns,t⟩:=hv v (by simp)
  refine wpAny_bind (zKG t fun i t'=>wpAny_bind (zEw r (fun u hu=>hv u (by simp[hu])) fun fs hl hf=>wpAny_pure (h _ (by simp[hl]) fun f hm=>?_)))
  rcases List.mem_cons.mp hm with e | e
  ·exact⟨i,t',e⟩
  ·exact hf f e
theorem zB7:∀ {vs:List Value},(∀ v∈vs,∃ i t,v=.int i t)→vs.mapM typeOf=pure (vs.map fun u0=>Value.type "int")
 | [],_=>by simp
 | v::r,h=>by
  obtain⟨i,t,rfl⟩:=h v (by simp)
  rw[List.mapM_cons,zB7 fun u hu=>h u (by simp[hu])]
  show(pure (Value.type "int")>>=fun b=>pure _>>=fun bs=>pure (b::bs))=_
  simp
theorem zBN:∀(fs:List (Option Value)),(∀ f∈fs,∃ i t,f=some (.int i t))→(∀ v∈fs.filterMap id,∃ i t,v=Value.int i t)∧(fs.filterMap id).length=fs.length
 | [],_=>⟨by simp,rfl⟩
 | f::r,h=>by
  obtain⟨i,t,rfl⟩:=h f (by simp)
  obtain⟨h1,h2⟩:=zBN r fun g hg=>h g (by simp[hg])
  simp only[List.filterMap_cons,id]
  exact⟨fun v hv=>by
   rcases List.mem_cons.mp hv with e | e
   ·exact⟨i,t,e⟩
   ·exact h1 v e,by simp[h2]⟩
theorem zHD{vs:List Value}{Q:SortKind→Shared→Prop}(h2:1≤vs.length)(hv:∀ v∈vs,∃ ns,TI s.heap v ns)(h:Q (tuples' true) s):wpAny (model prog w) A (keyKind' vs.toArray) Q E s:=by
 rw[keyKind'_eq]
 rw[List.mapM_toArray]
 refine wpAny_bind ?_
 rw[map_eq_pure_bind]
 refine wpAny_bind (zEw vs hv fun fs hl hf=>wpAny_pure ?_)
 rw[if_pos (by
  simp only[List.all_toArray,List.all_eq_true]
  intro f hm
  obtain⟨i,t,rfl⟩:=hf f hm
  rfl)]
 refine wpAny_bind (wpAny_rule (wpAny_bind ?_))
 obtain⟨q1,q2⟩:=zBN fs hf
 rw[oneTypeOnly'_eq]
 have e0:fs.toArray.filterMap id=(fs.filterMap id).toArray:=by simp
 rw[e0,List.mapM_toArray,zB7 q1]
 simp only[map_pure,pure_bind]
 cases q:fs.filterMap id with
 | nil=>rw[q] at q2;simp at q2;(first|lia|omega)
 | cons u r =>
  have hall:((List.map (fun u0=>Value.type "int") (u::r)).toArray.all fun x=>x==Value.type "int")=true:=by
   simp only[List.all_toArray,List.all_map,List.all_eq_true]
   intro u0 u0;rfl
  have h0:(List.map (fun u0=>Value.type "int") (u::r)).toArray[0]?=some (Value.type "int"):=by simp
  rw[h0]
  simp only[hall,if_true]
  refine wpAny_pure (wpAny_pure ?_)
  exact h
theorem zFv{a:Addr}{vs:List Value}{n:Nat}{P:Fin→Shared→Prop}(ho:s.heap.get? a=some (seqObj "list" vs.toArray n))(hv:∀ v∈vs,(∃ ns,TI s.heap v ns)∧v≠.ref a)(h64:vs.length<64)
  (h:∀ out:Array Value,out.toList.Perm vs→(∀ i j,i≤j→j<out.size→ltI ((tAt s.heap (out.getD j .none)).getD []) ((tAt s.heap (out.getD i .none)).getD [])=false)→P (.done (.ret .none)) { s with heap:=sortedHeap s.heap a vs out }) :
  wpAny (model prog w) A (Builtin.«list.sort» ⟨[.ref a],[]⟩) P E s:=by
 rw[list_sort_plain]
 have ha:a<s.heap.objs.size:=Heap.lt_size ho
 refine wpAny_bind (listItems_at ho rfl (wpAny_bind (listUpdate_at ho rfl ?_)))
 obtain⟨e1,ho1⟩:∃ e1,(s.heap.update a (Obj.mapSeq fun u0=>#[])).get? a=some (seqObj "list" #[] e1):=⟨_,get?_update_seq ho (fun u0=>#[])⟩
 refine wpAny_bind (seqEpoch_at ho1 rfl (wpAny_bind (wpAny_newTuple (wpAny_bind (wpAny_newList (wpAny_holding ?_))))))
 have up:∀ c o,c≠a→s.heap.get? c=some o→(((s.heap.update a (Obj.mapSeq fun u0=>#[])).push (seqObj "tuple" vs.toArray 0)).push (seqObj "list" #[] 0)).get? c=some o:=fun c o hc e=>Heap.get?_push_of_some _ (Heap.get?_push_of_some _ (by rw[Heap.get?_update_ne _ _ _ _ hc];exact e))
 have ho6:(((s.heap.update a (Obj.mapSeq fun u0=>#[])).push (seqObj "tuple" vs.toArray 0)).push (seqObj "list" #[] 0)).get? a=some (seqObj "list" #[] e1):=Heap.get?_push_of_some _ (Heap.get?_push_of_some _ ho1)
 show wpAny (model prog w) A _ P E { s with heap:=(((s.heap.update a (Obj.mapSeq fun u0=>#[])).push (seqObj "tuple" vs.toArray 0)).push (seqObj "list" #[] 0)) }
 generalize hg:((s.heap.update a (Obj.mapSeq fun u0=>#[])).push (seqObj "tuple" vs.toArray 0)).push (seqObj "list" #[] 0)=g at up ho6 ⊢
 have hv':∀ v∈vs,∃ ns,TI g v ns∧tAt s.heap v=some ns:=fun v hm=>by
  obtain⟨⟨ns,t⟩,na⟩:=hv v hm
  have t':=t
  obtain⟨⟨b,o,its,k,rfl,q1,q2,q3,q4⟩,ne⟩:=t
  exact⟨ns,⟨⟨b,o,its,k,rfl,up b o (fun z=>na (by rw[z])) q1,q2,q3,q4⟩,ne⟩,t'.items⟩
 dsimp only
 have fin:∀ z:SortSt,(arrOf z).Perm (pairsOf vs)→SortedToK (zBM g) (arrOf z) (pairsOf vs).size→P (.done (.ret .none)) { s with heap:=g.update a (Obj.mapSeq fun u0=>(arrOf z).map (·.2)) }:=by
  intro z pm st
  have pl:(arrOf z).toList.Perm (vs.zip vs):=by rw[← pairsOf_toList];exact Array.perm_iff_toList_perm.mp pm
  have mem:∀ p∈(arrOf z).toList,p.1=p.2∧p.1∈vs:=fun p hp=>mem_zip_self (pl.mem_iff.mp hp)
  have:=h ((arrOf z).map (·.2)) (by
   have q:=pl.map (·.2)
   rw[Array.toList_map]
   refine q.trans (.of_eq ?_)
   rw[List.map_snd_zip (Nat.le_refl _)]) fun i j ij hj=>by
    have hj':j<(arrOf z).size:=by simpa using hj
    have hi':i<(arrOf z).size:=by (first|lia|omega)
    have q:=st i j ij (by rw[← pm.size_eq];exact hj')
    have gk:∀ k,(hk:k<(arrOf z).size)→KK (zBM g) (arrOf z) k=(tAt s.heap (((arrOf z).map (·.2)).getD k .none)).getD []:=fun k hk=>by
     obtain⟨m1,m2⟩:=mem _ (show(arrOf z)[k]∈(arrOf z).toList by simp)
     obtain⟨ns,t1,t2⟩:=hv' _ m2
     have e1:KK (zBM g) (arrOf z) k=ns:=by
      unfold KK
      rw[getElem?_pos _ k hk]
      show(tAt g (arrOf z)[k].1).getD []=ns
      rw[t1.items];rfl
     have e2:((arrOf z).map (·.2)).getD k .none=(arrOf z)[k].1:=by
      rw[m1];simp[Array.getD,hk]
     rw[e1,e2,t2];rfl
    rw[← gk i hi',← gk j hj']
    exact q
  unfold sortedHeap at this
  rw[hg] at this
  exact this
 have hsz:vs.toArray.size=vs.length:=by simp
 by_cases h2:vs.toArray.size<2
 ·rw[if_pos h2,if_pos h2]
  refine wpAny_bind (wpAny_pure ?_)
  rw[StateT.run_pure]
  refine wpAny_bind (wpAny_pure (wpAny_bind (seqEpoch_at ho6 rfl (wpAny_bind (listUpdate_at ho6 rfl ?_ (hsz2:=by rw[Array.size_map];show(pairsOf vs).size≤_;rw[pairsOf_size,sizeLine_eq];(first|lia|omega)))))))
  simp only[bne_self_eq_false,Bool.false_eq_true,if_false]
  refine wpAny_pure (fin (SortSt.mk' general' (vs.toArray.zip vs.toArray) #[] 7 none) (Array.Perm.refl _) fun i j hij hj=>?_)
  obtain rfl:i=j:=by rw[pairsOf_size] at hj;(first|lia|omega)
  exact KeyOrd.kle_refl _
 ·rw[if_neg h2,if_neg h2]
  refine wpAny_bind (zHD (s:={ s with heap:=g }) (by (first|lia|omega)) (fun v hm=>by obtain⟨ns,t,u0⟩:=hv' v hm;exact⟨ns,t⟩) ?_)
  have L:∀(z:SortSt) (i j:Nat) (Q:Option Bool→SortSt→Prop),SB (pairsOf vs) (tuples' true) z→i<(pairsOf vs).size→j<(pairsOf vs).size→Q (some ((zBM g).blt (Ky (zBM g) z i) (Ky (zBM g) z j))) z→wpS (model prog w) A E { s with heap:=g } (ltAt' i j) Q z:=by
   intro z i j Q b hi hj q
   have key:∀ k,k<(pairsOf vs).size→∃ x p ns,(arrOf z)[k]?=some (x,p)∧TI g x ns∧Ky (zBM g) z k=ns:=fun k hk=>by
    have hk':k<(arrOf z).size:=by rw[b.sz];exact hk
    have hm:(arrOf z)[k]∈vs.zip vs:=by
     have pl:(arrOf z).toList.Perm (vs.zip vs):=by rw[← pairsOf_toList];exact Array.perm_iff_toList_perm.mp b.pm
     exact pl.mem_iff.mp (by simp)
    obtain⟨m1,m2⟩:=mem_zip_self hm
    obtain⟨ns,t,u0⟩:=hv' _ m2
    refine⟨(arrOf z)[k].1,(arrOf z)[k].2,ns,getElem?_pos _ k hk',t,?_⟩
    unfold Ky KK
    rw[getElem?_pos _ k hk']
    show(tAt g (arrOf z)[k].1).getD []=ns
    rw[t.items];rfl
   obtain⟨x,p,ns,x1,x2,x3⟩:=key i hi
   obtain⟨y,r,ms,y1,y2,y3⟩:=key j hj
   rw[x3,y3] at q
   rw[ltAt'_eq]
   refine wpS_bind (wpS_get ?_)
   show wpS _ _ _ _ (do let x ← elem' (arrOf z) i;let y ← elem' (arrOf z) j;lt' x y) Q z
   rw[elem'_eq,elem'_eq,x1,y1]
   refine wpS_bind (wpS_pure (wpS_bind (wpS_pure ?_)))
   rw[lt'_eq]
   refine wpS_bind (wpS_get ?_)
   rw[b.kd]
   exact wpS_bind (wpS_lift (wpAny_attempt (zKF (s:={ s with heap:=g }) x2 y2 ⟨rfl,wpS_pure q⟩)))
  refine wpAny_bind (wpAny_mono (zKE L (z:=SortSt.mk' (tuples' true) (vs.toArray.zip vs.toArray) #[] 7 none) (Q:=fun u0 z'=>(arrOf z').Perm (pairsOf vs)∧failedOf z'=none∧SortedToK (zBM g) (arrOf z') (pairsOf vs).size)
   ⟨Array.Perm.refl _,rfl,rfl,rfl⟩ (by rw[pairsOf_size];(first|lia|omega)) (by rw[pairsOf_size];exact h64) fun z' a1 a2 a3=>⟨a1,a2,a3⟩) ?_ fun u0 u0 e=>e)
  rintro⟨⟨⟩,z'⟩ s' ⟨e',pm,hf,st⟩
  subst e'
  dsimp only
  refine wpAny_bind (seqEpoch_at ho6 rfl (wpAny_bind (listUpdate_at ho6 rfl ?_ (hsz2:=by refine Nat.le_trans (Nat.le_of_eq ((Array.size_map ..).trans (pm.size_eq.trans (pairsOf_size _)))) ?_;rw[sizeLine_eq];(first|lia|omega)))))
  rw[hf]
  simp only[bne_self_eq_false,Bool.false_eq_true,if_false]
  exact wpAny_pure (fin z' pm st)
end
end HS
namespace HS
open PySem PySem.Spec PyProof.Rows
section
variable {prog:Program} {w:World} {A:Around} {E:Value→Shared→Prop} {s:Shared}
theorem zEx{v:Value}{vs:List Value}{Q:Value→Shared→Prop}(hv:∀ u∈vs,∃ ns,TI s.heap u ns)(h64:vs.length<64)
  (hc:∀(Q':List Value→Shared→Prop),Q' vs { s with heap:=(s.heap.push (seqObj "list" #[] 0)).update s.heap.objs.size (Obj.mapSeq (·++vs.toArray)) }→wpAny (model prog w) A.in1 (collect v) Q' E s)
  (h:∀ out:Array Value,out.toList.Perm vs→(out.toList.map fun u=>(tAt s.heap u).getD []).Pairwise (fun a b=>ltI b a=false)→Q (.ref (s.heap.objs.size+1)) { s with heap:=sortedAll s.heap vs out }) :
  wpAny (model prog w) A (call (.builtin "sorted") [v]) Q E s:=by
 refine Calls.call_function_entry kind_sorted plain_sorted entry_sorted (args_sorted1 _) ?_
 unfold Builtin.«sorted»
 refine wpAny_bind (m:=checkCount "sorted" 1 1 _) (wpAny_pure (wpAny_bind (hc _ (wpAny_bind (wpAny_newList ?_)))))
 have hsz:((s.heap.push (seqObj "list" #[] 0)).update s.heap.objs.size (Obj.mapSeq (·++vs.toArray))).objs.size=s.heap.objs.size+1:=by rw[Heap.size_update,size_push']
 have hoL:(((s.heap.push (seqObj "list" #[] 0)).update s.heap.objs.size (Obj.mapSeq (·++vs.toArray))).push (seqObj "list" vs.toArray 0)).get? (s.heap.objs.size+1)=some (seqObj "list" vs.toArray 0):=by rw[← hsz];exact Heap.get?_push_size _ rfl
 have old:∀ c o,s.heap.get? c=some o→(((s.heap.push (seqObj "list" #[] 0)).update s.heap.objs.size (Obj.mapSeq (·++vs.toArray))).push (seqObj "list" vs.toArray 0)).get? c=some o:=fun c o e=>Heap.get?_push_of_some _ (by
  rw[Heap.get?_update_ne _ _ _ _ (Nat.ne_of_lt (Heap.lt_size e))];exact Heap.get?_push_of_some _ e)
 show wpAny _ _ _ _ _ { s with heap:=((s.heap.push (seqObj "list" #[] 0)).update s.heap.objs.size (Obj.mapSeq (·++vs.toArray))).push (seqObj "list" vs.toArray 0) }
 rw[hsz]
 have eqi:∀ u∈vs,tAt (((s.heap.push (seqObj "list" #[] 0)).update s.heap.objs.size (Obj.mapSeq (·++vs.toArray))).push (seqObj "list" vs.toArray 0)) u=tAt s.heap u∧(∃ ns,TI (((s.heap.push (seqObj "list" #[] 0)).update s.heap.objs.size (Obj.mapSeq (·++vs.toArray))).push (seqObj "list" vs.toArray 0)) u ns)∧u≠.ref (s.heap.objs.size+1):=fun u hu=>by
  obtain⟨ns,t⟩:=hv u hu
  have t0:=t
  obtain⟨⟨a,o,its,n,rfl,e1,e2,e3,e4⟩,ne⟩:=t
  have t':TI (((s.heap.push (seqObj "list" #[] 0)).update s.heap.objs.size (Obj.mapSeq (·++vs.toArray))).push (seqObj "list" vs.toArray 0)) (.ref a) ns:=⟨⟨a,o,its,n,rfl,old a o e1,e2,e3,e4⟩,ne⟩
  refine⟨by rw[t'.items,t0.items],⟨ns,t'⟩,fun z=>?_⟩
  cases z
  exact absurd (Heap.lt_size e1) (Nat.not_lt.mpr (Nat.le_succ _))
 refine wpAny_bind (wpAny_holding (wpAny_call_entry slot_list_sort ⟨_,hoL,rfl⟩ entry_list_sort (zFv (s:={ s with heap:=((s.heap.push (seqObj "list" #[] 0)).update s.heap.objs.size (Obj.mapSeq (·++vs.toArray))).push (seqObj "list" vs.toArray 0) }) hoL (fun u hu=>(eqi u hu).2) h64 fun out pm so=>⟨_,rfl,wpAny_pure ⟨_,rfl,h out pm ?_⟩⟩) (args_list_sort _)))
 rw[List.pairwise_iff_getElem]
 intro i j hi hj ij
 have hj':j<out.size:=by simpa using hj
 have hi':i<out.size:=by (first|lia|omega)
 have q:=so i j (Nat.le_of_lt ij) hj'
 have g:∀ k,(hk:k<out.size)→tAt (((s.heap.push (seqObj "list" #[] 0)).update s.heap.objs.size (Obj.mapSeq (·++vs.toArray))).push (seqObj "list" vs.toArray 0)) (out.getD k .none)=tAt s.heap out[k]:=fun k hk=>by
  have e:out.getD k .none=out[k]:=by simp[Array.getD,hk]
  rw[e]
  exact(eqi _ (pm.mem_iff.mp (by simp))).1
 rw[g i hi',g j hj'] at q
 simpa using q
end
end HS
namespace L3
open PySem PySem.Spec PyProof.Rows L2 HS
section
variable {X:Cx} {e:Expr} {pos p:Pos} {tl:TL2}
noncomputable def tI(ns:List Int):D:=.tup (ns.map D.int)
theorem zEU{pins:List (Addr×Obj)}{σ:L2.St}{H:Hp}{s:Shared}(I:zV X pins σ H s):∀ {nss:List (List Int)} {ys:List V} {us:List Value},Dens X.K H (nss.map tI) ys→zh ys us→(∀ ns∈nss,ns≠[]) →
  us.map (fun u=>(tAt s.heap u).getD [])=nss∧∀ u∈us,∃ a ns,u=.ref a∧TI s.heap u ns∧zU X.K H (tI ns) (.ref a)
 | [],ys,us,d,r,_=>by
  simp only[List.map_nil] at d
  unfold Dens at d
  subst d
  cases r
  exact⟨rfl,by simp⟩
 | ns::nss,ys,us,d,r,hne=>by
  simp only[List.map_cons] at d
  unfold Dens at d
  obtain⟨x,xs,rfl,d1,d2⟩:=d
  cases r with
  | cons r1 r2 =>
   rename_i u us'
   obtain⟨q1,q2⟩:=zEU I d2 r2 fun n hn=>hne n (by simp[hn])
   have d0:=d1
   unfold tI zU at d1
   obtain⟨a,zs,rfl,hs,hd⟩:=d1
   have hz:=hd.ints_inv
   subst hz
   obtain⟨its,rv,⟨o,h1,h2,n,h3⟩,u0⟩:=I.tuple hs
   cases (show u=Value.ref a from r1)
   have t:TI s.heap (.ref a) ns:=⟨⟨a,o,its.toArray,n,rfl,h1,h2,h3,by simpa using intsAre_of rv⟩,hne ns (by simp)⟩
   refine⟨by rw[List.map_cons,q1,t.items];rfl,fun v hv=>?_⟩
   rcases List.mem_cons.mp hv with e | e
   ·subst e;exact⟨a,ns,rfl,t,d0⟩
   ·exact q2 v e
theorem zFw{pins:List (Addr×Obj)}{σ:L2.St}{H:Hp}{s:Shared}(I:zV X pins σ H s):∀ {us:List Value},(∀ u∈us,∃ a ns,u=.ref a∧TI s.heap u ns∧zU X.K H (tI ns) (.ref a)) →
  ∃ ys:List V,zh ys us∧Dens X.K H ((us.map fun u=>(tAt s.heap u).getD []).map tI) ys
 | [],_=>⟨[],.nil,.nil⟩
 | u::us,h=>by
  obtain⟨ys,v,d⟩:=zFw I (us:=us) fun w hw=>h w (List.mem_cons_of_mem _ hw)
  obtain⟨a,ns,rfl,t,d1⟩:=h u (by simp)
  refine⟨.ref a::ys,.cons rfl v,?_⟩
  simp only[List.map_cons]
  rw[t.items]
  exact .cons d1 d
theorem zDQ:wE X (.builtin "sorted") (fun xs H Q=>∃(p:Addr) (ys:List V) (nss:List (List Int)),xs=[.ref p]∧(SqL X.K H p ys∨SqT X.K H p ys)∧Dens X.K H (nss.map tI) ys∧nss.length<64∧(∀ ns∈nss,ns≠[]) ∧
  ∀(l:Addr) (ys':List V) (nss':List (List Int)),H l=none→nss'.Perm nss→Dens X.K H (nss'.map tI) ys'→nss'.Pairwise (fun a b=>ltI b a=false)→Q (.ref l) (yp H l (.lst ys'))):=by
 intro pins s σ H xs us Q I r h
 obtain⟨p,ys,nss,rfl,hq,hd,hz,hne,q⟩:=h
 obtain⟨u,rfl,rx⟩:=vals1 r
 cases rx
 have fin:∀(its:List Value) (out:Array Value),zh ys its→out.toList.Perm its→(out.toList.map fun u=>(tAt s.heap u).getD []).Pairwise (fun a b=>ltI b a=false)→EP X pins σ Q (.ref (s.heap.objs.size+1)) { s with heap:=sortedAll s.heap its out }:=by
  intro its out rv pm so
  obtain⟨q1,q2⟩:=zEU I hd rv hne
  obtain⟨ys',rv',d'⟩:=zFw I (us:=out.toList) fun w hw=>q2 w (pm.mem_iff.mp hw)
  obtain⟨e,he⟩:=sortedAll_at s.heap its out
  have hn:H (s.heap.objs.size+1)=none:=I.hok.fresh (Nat.le_succ _)
  refine⟨.ref (s.heap.objs.size+1),_,I.laid (t':=s.toks) (o:=.lst ys') (fun b u q=>sortedAll_old q) (Nat.le_succ _) ?_,rfl,q _ ys' _ hn (by rw[← q1];exact pm.map _) d' so⟩
  have hp:=pm.length_eq
  have l1:=rv'.length
  have l2:=rv.length
  have l3:=hd.length
  rw[List.length_map] at l3
  refine⟨?_,out.toList,e,rv',?_⟩
  ·rw[sizeLine_eq];(first|lia|omega)
  ·rw[he]<;>rfl
 rcases hq with hq | hq
 ·obtain⟨its,rv,pl,u0⟩:=I.list hq
  obtain⟨q1,q2⟩:=zEU I hd rv hne
  have l2:=rv.length
  have l3:=hd.length
  rw[List.length_map] at l3
  exact zEx (vs:=its) (fun w hw=>by obtain⟨u0,ns,u0,t,u0⟩:=q2 w hw;exact⟨ns,t⟩) (by (first|lia|omega)) (fun Q' hQ'=>collect_list pl.isList hQ' (by rw[sizeLine_eq];(first|lia|omega))) fun out pm so=>fin its out rv pm so
 ·obtain⟨its,rv,pl,u0⟩:=I.tuple hq
  obtain⟨q1,q2⟩:=zEU I hd rv hne
  have l2:=rv.length
  have l3:=hd.length
  rw[List.length_map] at l3
  exact zEx (vs:=its) (fun w hw=>by obtain⟨u0,ns,u0,t,u0⟩:=q2 w hw;exact⟨ns,t⟩) (by (first|lia|omega)) (fun Q' hQ'=>HT.zG2 pl hQ') fun out pm so=>fin its out rv pm so
noncomputable def zBa(t:wN):TL2:=fun σ G R=>t σ G fun ds G1=>match ds with
 | [d]=>∃ nss:List (List Int),zGw G1 d (nss.map tI)∧nss.length<64∧(∀ ns∈nss,ns≠[])∧∀ nss':List (List Int),nss'.Perm nss→nss'.Pairwise (fun a b=>ltI b a=false)→R (nss'.map tI) G1
 | _=>False
theorem zCY{t:wN}(hg:Gl X "sorted")(hm:X.mg "sorted"=none)(ha:A2 X [e] t)(he:starEach [e] X.env=(false,eval e X.env)::starEach [] X.env:=by rfl)(hpl:(backTo pos (starEach [] X.env)).any (·.1)=false:=by rfl) :
  F2 X (.Call (.Name "sorted" p) [e] [] pos) (zBa t):=by
 refine PE.mono (zAA zDQ hg hm boot_sorted ha (by decide) (by decide) he hpl) ?_
 rintro σ1 H Q ⟨σ,G,R,rl,q,k⟩
 refine⟨σ,G,_,rl,q,fun ds G1 q1 vs H1 g1 r1 d1=>?_⟩
 split at q1
 ·rename_i d
  obtain⟨nss,e1,hl,hne,q1⟩:=q1
  obtain⟨v,rfl,d2⟩:=zCF d1
  obtain⟨a,xs,rfl,s1,t1⟩:=zEN r1 d2 e1
  refine⟨a,xs,nss,rfl,s1,t1,hl,hne,fun l' ys' nss' n' h1 h2 h3=>?_⟩
  exact k _ G1 (q1 nss' h1 h3) l' _ _ (g1.trans (.fresh n')) (r1.fresh n') (r1.free n') zj (h2.grow (.fresh n'))
 ·exact q1.elim
noncomputable def zBb(t:TL2):TL2:=fun σ G R=>t σ G fun ds G1=>∃ nss:List (List Int),ds=nss.map tI∧nss.length<64∧(∀ ns∈nss,ns≠[])∧∀ nss':List (List Int),nss'.Perm nss→nss'.Pairwise (fun a b=>ltI b a=false)→R (nss'.map tI) G1
theorem zIM(hg:Gl X "sorted")(hm:X.mg "sorted"=none)(ha:F2 X e tl)(he:starEach [e] X.env=(false,eval e X.env)::starEach [] X.env:=by rfl)(hpl:(backTo pos (starEach [] X.env)).any (·.1)=false:=by rfl) :
  F2 X (.Call (.Name "sorted" p) [e] [] pos) (zBb tl):=by
 refine PE.mono (zAA zDQ hg hm boot_sorted (yS ha wz he) (by decide) (by decide) he hpl) ?_
 rintro σ1 H Q ⟨σ,G,R,rl,q,k⟩
 refine⟨σ,G,_,rl,q,fun ds G1 q1 l xs H1 g1 r1 n e1 d1=>?_⟩
 obtain⟨nss,rfl,hl,hne,q1⟩:=q1
 refine⟨l,xs,nss,rfl,.inl (.of e1),d1,hl,hne,fun l' ys' nss' n' h1 h2 h3=>?_⟩
 exact k _ G1 (q1 nss' h1 h3) l' _ _ (g1.trans (.fresh n')) (r1.fresh n') (r1.free n') zj (h2.grow (.fresh n'))
end
end L3
namespace HT
open PySem PySem.Spec PyProof.Rows
theorem zEy(l:Addr)(items:Array Value)(n:Nat)(dd:Option Addr)(sl:Array (Option Value))(u:Tok)(hne:items.isEmpty=false) :
  Meets (Builtin.«tuple.__mul__» ⟨[.ref l,.int 0 u],[]⟩) (fun u0 R s=>s.heap.get? l=some { cls:=.type "tuple",dict:=dd,data:=.seq items n,slots:=sl } ∧
   R (.ok (.ret (Value.ref s.heap.objs.size))) { s with heap:=s.heap.push { cls:=Value.type "tuple",data:=Data.seq #[] },toks:=s.toks }) :=
 .of_wp fun prog w A R s h=>by
  obtain⟨hp,g,d,tk,os⟩:=s;obtain⟨hl,h⟩:=h
  wp_walk using wpAny_loadPart' hl
  exact⟨_,rfl,h⟩
theorem zEz(l:Addr)(items:Array Value)(n:Nat)(dd:Option Addr)(sl:Array (Option Value))(x:Int)(u:Tok)(h01:x=0∨x=1)(hx:(items.isEmpty||x==1)=true) :
  Meets (Builtin.«tuple.__mul__» ⟨[.ref l,.int x u],[]⟩) (fun u0 R s=>s.heap.get? l=some { cls:=.type "tuple",dict:=dd,data:=.seq items n,slots:=sl }∧R (.ok (.ret (Value.ref l))) s) :=
 .of_wp fun prog w A R s h=>by
  obtain⟨hp,g,d,tk,os⟩:=s;obtain⟨hl,h⟩:=h
  wp_walk using wpAny_loadPart' hl
  rw[if_neg (by simp;(first|lia|omega))]
  wp_walk using wpAny_loadPart' hl
  exact⟨_,rfl,h⟩
section
variable {prog:Program} {w:World} {A:Around} {E:Value→Shared→Prop} {s:Shared}
theorem zKH{t:Addr}{vs:List Value}{x:Int}{u:Tok}{Q:Value→Shared→Prop}(ht:IsTup s.heap t vs.toArray)(h01:x=0∨x=1)
  (h1:vs=[]∨x=1→Q (.ref t) s) (h0:vs≠[]∧x=0→Q (.ref s.heap.objs.size) { s with heap:=s.heap.push { cls:=.type "tuple",data:=.seq #[] } }):wpAny (model prog w) A (binaryOp .Mult (.ref t) (.int x u)) Q E s:=by
 obtain⟨⟨cls,dd,data,sl⟩,ho,hc,n,hd⟩:=id ht
 simp only at hc hd
 subst hc hd
 by_cases hx:(vs.toArray.isEmpty||x==1)=true
 ·refine wpAny_binaryOp_repeat_ref (T:="tuple") (U:="int") (by decide) ⟨_,ho,rfl⟩ (fun s'=>typeIs_int s' x u) zAU PySem.F.fills_int_mul PySem.F.slot_int_rmul zBy PySem.F.slot_int_index.lookup
   (call_meets PySem.F.slot_int_rmul (typeIs_int s x u) PySem.F.entry_int_rmul (PySem.F.args_int_rmul_2 _ _) (zA7 x u t vs.toArray n dd sl)
    ⟨ho,rfl,⟨_,ho,rfl⟩,call_meets PySem.F.slot_tuple_mul ⟨_,ho,rfl⟩ PySem.F.entry_tuple_mul (PySem.F.args_tuple_mul_2 _ _)
     (zEz t vs.toArray n dd sl x u h01 hx) ⟨ho,h1 ?_⟩⟩)
  simpa using hx
 ·have e:vs≠[]∧x=0:=by
   simp only[Bool.or_eq_true,not_or] at hx
   refine⟨fun z=>hx.1 (by rw[z];rfl),?_⟩
   rcases h01 with e | e
   ·exact e
   ·exact absurd (by rw[e];rfl) hx.2
  obtain⟨hv,rfl⟩:=e
  exact wpAny_binaryOp_repeat_ref (T:="tuple") (U:="int") (by decide) ⟨_,ho,rfl⟩ (fun s'=>typeIs_int s' 0 u) zAU PySem.F.fills_int_mul PySem.F.slot_int_rmul zBy PySem.F.slot_int_index.lookup
   (call_meets PySem.F.slot_int_rmul (typeIs_int s 0 u) PySem.F.entry_int_rmul (PySem.F.args_int_rmul_2 _ _) (zA7 0 u t vs.toArray n dd sl)
    ⟨ho,rfl,⟨_,ho,rfl⟩,call_meets PySem.F.slot_tuple_mul ⟨_,ho,rfl⟩ PySem.F.entry_tuple_mul (PySem.F.args_tuple_mul_2 _ _)
     (zEy t vs.toArray n dd sl u (by simpa using hv)) ⟨ho,h0 ⟨hv,rfl⟩⟩⟩)
end
end HT
namespace L3
open PySem PySem.Spec PyProof.Rows L2
section
variable {X:Cx} {a b c e o:Expr} {es:List Expr} {pos p:Pos} {ta tb te:zo}
noncomputable def zGU(K:PySem.W.Frag):R2:=fun x y H Q=>∃ a xs k,x=.ref a∧y=.int k∧SqT K H a xs∧(k=0∨k=1)∧(xs=[]∨k=1→Q (.ref a) H)∧(xs≠[]∧k=0→∀ p,H p=none→Q (.ref p) (yp H p (.tup [])))
theorem zLv:OpR X (binaryOp .Mult) (zGU X.K):=by
 intro pins s σ H x y v u Q I rx ry h
 obtain⟨a,xs,k,rfl,rfl,ha,h01,q1,q2⟩:=h
 cases rx
 obtain⟨tk,rfl⟩:=ry
 obtain⟨its,r1,p1,u0⟩:=I.tuple ha
 refine HT.zKH p1 h01 (fun h=>⟨.ref a,H,I,rfl,q1 (h.imp (fun z=>r1.nil_iff.mp z) id)⟩) fun h=>?_
 have hn:H s.heap.objs.size=none:=I.hok.fresh (Nat.le_refl _)
 refine⟨.ref s.heap.objs.size,_,I.laid (t':=s.toks) (o:=.tup []) (fun b ob q=>Heap.get?_push_of_some _ q) (Nat.le_refl _) ?_,rfl,q2 ⟨fun z=>h.1 (r1.nil_iff.mpr z),h.2⟩ _ hn⟩
 exact⟨by simp,[],.nil,zC8.new _ _⟩
noncomputable def zLw:D→D→Gp→Q2→Prop:=fun x y G R=>match x,y with
 | .tup xs,.int k=>(k=0∨k=1)∧R (.tup (if k=1 then xs else [])) G
 | _,_=>False
theorem zKI{K:PySem.W.Frag}:Fit K (zGU K) zLw:=by
 intro dx dy G R x y H Q h r d1 d2 k
 unfold zLw at h
 split at h
 ·rename_i xs j
  obtain⟨h01,h⟩:=h
  have d1':=d1
  unfold zU at d1 d2
  obtain⟨a,us,rfl,s1,t1⟩:=d1
  subst d2
  have hl:=t1.length
  refine⟨a,us,j,rfl,rfl,s1,h01,fun hh=>?_,fun hh p hp=>?_⟩
  ·refine k _ G h _ _ (.refl _) r ?_
   rcases hh with e | e
   ·subst e
    have:xs=[]:=List.length_eq_zero_iff.mp hl
    subst this
    have e2:(if j=1 then ([]:List D) else [])=[]:=by split<;>rfl
    rw[e2];exact d1'
   ·rw[if_pos e];exact d1'
  ·refine k _ G h _ _ (.fresh hp) (r.fresh hp) ?_
   rw[if_neg (by (first|lia|omega))]
   unfold zU
   exact⟨p,[],rfl,.of zj,.nil⟩
 ·exact h.elim
theorem zKJ:wE X (.type "int") (fun xs H Q=>∃ b,xs=[.bl b]∧Q (.int (if b then 1 else 0)) H):=by
 intro pins s σ H xs us Q I r h
 obtain⟨b,rfl,q⟩:=h
 obtain⟨u,rfl,rx⟩:=vals1 r
 obtain rfl:u=Value.bool b:=rx
 exact call_int_bool ⟨.int _,H,I.tok _,⟨_,rfl⟩,q⟩
noncomputable def zDw:Sp2:=fun ds G R=>match ds with | [.bl b]=>R (.int (if b then 1 else 0)) G | _=>False
theorem zLx{K:PySem.W.Frag}:zH4 K (fun xs H Q=>∃ b,xs=[.bl b]∧Q (.int (if b then 1 else 0)) H) zDw:=by
 intro ds G R vs H Q h r d k
 unfold zDw at h
 split at h
 ·rename_i b
  obtain⟨v,rfl,d2⟩:=zCF d
  unfold zU at d2
  subst d2
  exact⟨b,rfl,k _ G h _ H (.refl H) r (by unfold zU;rfl)⟩
 ·exact h.elim
theorem zPo{t:wN}(hg:Gl X "int")(hm:X.mg "int"=none)(ha:A2 X [e] t)(he:starEach [e] X.env=(false,eval e X.env)::starEach [] X.env:=by rfl)(hpl:(backTo pos (starEach [] X.env)).any (·.1)=false:=by rfl) :
  E2 X (.Call (.Name "int" p) [e] [] pos) (zK zDw t):=zGv zKJ zLx hg hm (by decide +kernel) ha (by decide) (by decide) he hpl
end
end L3
namespace L3
open PySem PySem.Spec PyProof.Rows L2
section
variable {X:Cx} {a b c e o we:Expr} {es:List Expr} {pos p:Pos} {ta tb te tw:zo}
end
end L3
namespace HI
open PySem PySem.Spec PyProof.Rows
end HI
namespace HI
open PySem PySem.Spec PyProof.Rows
section
variable {prog:Program} {w:World} {A:Around} {E:Value→Shared→Prop} {s:Shared}
end
section
variable {prog:Program} {w:World} {A:Around} {R:Result→Shared→Prop} {I:Addr} {fp wr:List Addr} {G:Array GenState→Array GenState→Prop} {n:Nat} {P:Nat→Value→Prop} {St:Nat→Shared→Prop}
end
end HI
namespace HI
open PySem PySem.Spec PyProof.Rows
section
variable {prog:Program} {w:World} {A:Around} {E:Value→Shared→Prop} {s:Shared}
end
end HI
namespace HI
open PySem PySem.Spec PyProof.Rows
section
variable {prog:Program} {w:World} {A:Around} {E:Value→Shared→Prop} {s:Shared}
end
end HI
namespace HI
open PySem PySem.Spec PyProof.Rows
section
variable {prog:Program} {w:World} {A:Around} {E:Value→Shared→Prop} {s:Shared}
end
end HI
namespace HI
open PySem PySem.Spec PyProof.Rows
section
variable {prog:Program} {w:World} {A:Around} {E:Value→Shared→Prop} {s:Shared}
end
end HI
namespace HI
open PySem PySem.Spec PyProof.Rows
section
variable {prog:Program} {w:World} {A:Around} {E:Value→Shared→Prop} {s:Shared}
end
end HI
namespace L2
open PySem PySem.Spec PyProof.Rows
variable {X:Cx} {e:Expr} {t:TA} {p p2 pos pos2:Pos}
end L2
namespace L3
open PySem PySem.Spec PyProof.Rows L2
section
variable {X:Cx} {e:Expr} {p p2 pos pos2:Pos}
end
end L3
namespace HT2
open PySem
section
variable {mask:Nat} {h:Int}
end
end HT2
namespace HT2
open PySem
end HT2
namespace HT2
open PySem PySem.Spec
section
variable {prog:Program} {w:World} {P:Addr→Prop} {A:Around} {E:Value→Shared→Prop} {s:Shared}
end
end HT2
namespace HT2
open PySem PySem.Spec
section
variable {t:SetTable} {es:Array (Int×Value)} {j:Nat} {h:Int} {x:Value}
end
section
variable {t:SetTable} {es:Array (Int×Value)} {i j:Nat}
end
end HT2
namespace HT2
open PySem PySem.Spec
section
variable {mask:Nat} {h:Int}
end
end HT2
namespace HT2
open PySem PySem.Spec
section
variable {prog:Program} {w:World} {P:Addr→Prop} {A:Around} {E:Value→Shared→Prop} {s:Shared}
end
end HT2
namespace HT2
open PySem PySem.Spec
section
variable {prog:Program} {w:World} {P:Addr→Prop} {A:Around} {E:Value→Shared→Prop} {s:Shared}
end
end HT2
namespace HT2
open PySem PySem.Spec PyProof.Rows
section
variable {prog:Program} {w:World} {P:Addr→Prop} {A:Around} {R:Result→Shared→Prop} {h0:Heap} {S I:Addr} {fp wr:List Addr} {n:Nat} {its:Array Value} {val:Nat→List Int} {St:Nat→Heap→Prop} {g:Array GenState} {d:Drawn} {os:OsState}
end
end HT2
namespace HT2
open PySem PySem.Spec
section
variable {prog:Program} {w:World} {P:Addr→Prop} {A:Around} {E:Value→Shared→Prop} {s:Shared}
end
end HT2
namespace HT2
open PySem PySem.Spec
section
variable {prog:Program} {w:World} {P:Addr→Prop} {A:Around} {E:Value→Shared→Prop} {s:Shared}
end
end HT2
namespace HT2
open PySem PySem.Spec PyProof.Rows
section
variable {prog:Program} {w:World} {P:Addr→Prop} {A:Around} {E:Value→Shared→Prop} {s:Shared}
end
end HT2
namespace HT2
open PySem PySem.Spec PyProof.Rows
section
variable {prog:Program} {w:World} {P:Addr→Prop} {A:Around} {E:Value→Shared→Prop} {s:Shared}
end
end HT2
namespace HT2
open PySem PySem.Spec PyProof.Rows
section
variable {prog:Program} {w:World} {P:Addr→Prop} {A:Around} {E:Value→Shared→Prop} {s:Shared}
end
end HT2
namespace HT2
open PySem PySem.Spec PyProof.Rows
open HS (TI tAt ltI zFv)
section
variable {prog:Program} {w:World} {P:Addr→Prop} {A:Around} {E:Value→Shared→Prop} {s:Shared}
end
end HT2
namespace HT2
open PySem PySem.Spec PyProof.Rows
section
variable {prog:Program} {w:World} {P:Addr→Prop} {A:Around} {E:Value→Shared→Prop} {s:Shared}
end
end HT2
namespace L2
open PySem PySem.Spec PyProof.Rows
end L2
namespace L3
open PySem PySem.Spec PyProof.Rows L2 HS
section
variable {X:Cx} {pins:List (Addr×Obj)} {σ:L2.St} {H:Hp} {s:Shared}
end
end L3
namespace L3
open PySem PySem.Spec PyProof.Rows L2 HS
end L3
namespace L3
open PySem PySem.Spec PyProof.Rows L2
section
variable {X:Cx} {elt iter:Expr} {pos:Pos} {te:zo} {ifs:List Expr} {sc:Scope} {N0:List Str} {wi:TI2} {tc:TT2}
end
end L3
namespace HZ
open PySem PySem.Spec PyProof.Rows
section
variable {prog:Program} {w:World} {A:Around} {E:Value→Shared→Prop} {s:Shared} {e it l:Addr} {xs:Array Value} (Z:Zs prog w it l xs)
theorem zNu{i:Nat}{x old:Value}{Q:Value→Shared→Prop}(he:IsEnum s.heap e it i old)(hit:Z.It i s.heap)(hl:Z.Sq s.heap)(hx:xs[i]?=some x)(hne:e≠it)
  (hQ:∀ h',IsEnumOut h' e it ((i:Int)+1) x s.heap.objs.size→Z.It (i+1) h'→h'.get? s.heap.objs.size=some { cls:=.type "tuple",data:=.seq #[.int i s.toks,x] }→h'.objs.size=s.heap.objs.size+1 →
   (∀ b o,b≠e→b≠it→s.heap.get? b=some o→h'.get? b=some o)→Q (.ref s.heap.objs.size) { s with heap:=h',toks:=s.toks+1 }) :
  wpAny (model prog w) A (Builtin.«enumerate.__next__» ⟨[.ref e],[]⟩) (fun fin s'=>∃ v,fin=.done (.ret v)∧Q v s') E s:=by
 obtain⟨hp,g,d,tk,os⟩:=s
 show wpAny _ _ (field (.ref e) 2>>=_) _ _ _
 refine wpAny_bind (wpAny_field he rfl (x:=.ref it) rfl ?_)
 refine wpAny_bind (Z.item _ _ _ _ _ _ hit hl hx fun h₁ hit₁ hs₁=>?_)
 replace hs₁:Heap.SameBut it hp h₁:=hs₁
 have he₁:IsEnum h₁ e it i old:=(hs₁.2 e hne).trans he
 show wpAny _ _ (field (.ref e) 3>>=_) _ _ ⟨h₁,g,d,tk,os⟩
 refine wpAny_bind (wpAny_field he₁ rfl (x:=rawInt i) rfl ?_)
 show wpAny _ _ (field (.ref e) 4>>=_) _ _ ⟨h₁,g,d,tk,os⟩
 refine wpAny_bind (wpAny_field he₁ rfl (x:=.none) rfl ?_)
 show wpAny _ _ (mkInt i>>=_) _ _ ⟨h₁,g,d,tk,os⟩
 refine wpAny_bind (wpAny_mkInt ?_)
 show wpAny _ _ (setField (.ref e) 3 (rawInt ((i:Int)+1))>>=_) _ _ ⟨h₁,g,d,tk+1,os⟩
 refine wpAny_bind (wpAny_setField_rec he₁ (by simp) fun h₂ he₂ hs₂=>?_)
 replace hs₂:Heap.SameBut e h₁ h₂:=hs₂
 replace he₂:IsEnum h₂ e it ((i:Int)+1) old:=he₂
 show wpAny _ _ (setField (.ref e) 4 .none>>=_) _ _ ⟨h₂,g,d,tk+1,os⟩
 refine wpAny_bind (wpAny_setField_rec he₂ (by simp) fun h₃ he₃ hs₃=>?_)
 replace hs₃:Heap.SameBut e h₂ h₃:=hs₃
 replace he₃:IsEnum h₃ e it ((i:Int)+1) old:=he₃
 show wpAny _ _ (newTuple [.int i tk,x]>>=_) _ _ ⟨h₃,g,d,tk+1,os⟩
 refine wpAny_bind (wpAny_newTuple ?_)
 have he₄:IsEnum (h₃.push { cls:=.type "tuple",data:=.seq #[.int i tk,x] }) e it ((i:Int)+1) old:=Heap.get?_push_of_some _ he₃
 generalize hh₄:h₃.push { cls:=.type "tuple",data:=.seq #[.int i tk,x] }=h₄ at he₄
 have hsz:h₃.objs.size=hp.objs.size:=by rw[hs₃.1,hs₂.1,hs₁.1]
 have hel:e<hp.objs.size:=Heap.lt_size he
 have ht₄:h₄.get? hp.objs.size=some { cls:=.type "tuple",data:=.seq #[.int i tk,x] }:=by rw[← hh₄,← hsz];exact Heap.get?_push_size _ rfl
 have hz₄:h₄.objs.size=hp.objs.size+1:=by rw[← hh₄,Heap.size_push,hsz]
 have hk₄:∀ b o,b≠e→b≠it→hp.get? b=some o→h₄.get? b=some o:=fun b o hbe hbi hb=>by
  rw[← hh₄];exact Heap.get?_push_of_some _ (hs₃.extBut b o hbe (hs₂.extBut b o hbe (hs₁.extBut b o hbi hb)))
 have hit₄:Z.It (i+1) h₄:=Z.itAt hit₁ fun o q=>by
  rw[← hh₄];exact Heap.get?_push_of_some _ (hs₃.extBut _ _ (Ne.symm hne) (hs₂.extBut _ _ (Ne.symm hne) q))
 show wpAny _ _ (Builtin.SmallTypes.ownedTupleIsFree (.ref e)>>=_) _ _ ⟨h₄,g,d,tk+1,os⟩
 rw[hsz]
 clear hh₄ he₃ hs₃ he₂ hs₂ he₁ hs₁ hit₁ hsz h₃ h₂ h₁
 refine wpAny_bind ?_
 unfold Builtin.SmallTypes.ownedTupleIsFree
 refine wpAny_bind (wpAny_field he₄ rfl (x:=.none) rfl (wpAny_pure ?_))
 simp only[if_true]
 refine wpAny_bind (wpAny_rule ?_)
 refine wpAny_bind (wpAny_field he₄ rfl (x:=old) rfl ?_)
 refine wpAny_bind (wpAny_setField_rec he₄ (by simp) fun h₅ he₅ hs₅=>?_)
 replace hs₅:Heap.SameBut e h₄ h₅:=hs₅
 replace he₅:IsEnum h₅ e it ((i:Int)+1) x:=he₅
 show wpAny _ _ (Builtin.SmallTypes.ownedTupleHandOut (.ref e) (.ref hp.objs.size)>>=_) _ _ ⟨h₅,g,d,tk+1,os⟩
 refine wpAny_bind ?_
 unfold Builtin.SmallTypes.ownedTupleHandOut
 refine wpAny_bind (wpAny_setField_rec he₅ (by simp) fun h₆ he₆ hs₆=>?_)
 replace hs₆:Heap.SameBut e h₅ h₆:=hs₆
 replace he₆:IsEnumOut h₆ e it ((i:Int)+1) x hp.objs.size:=he₆
 refine wpAny_setField_rec he₆ (by simp) fun h₇ he₇ hs₇=>?_
 replace hs₇:Heap.SameBut e h₆ h₇:=hs₇
 replace he₇:IsEnumOut h₇ e it ((i:Int)+1) x hp.objs.size:=he₇
 have up:∀ b o,b≠e→h₄.get? b=some o→h₇.get? b=some o:=fun b o hb q=>hs₇.extBut _ _ hb (hs₆.extBut _ _ hb (hs₅.extBut _ _ hb q))
 refine wpAny_bind (wpAny_letGo (wpAny_pure ⟨_,rfl,hQ h₇ he₇ ?_ ?_ ?_ ?_⟩))
 ·exact Z.itAt hit₄ fun o q=>up _ _ (Ne.symm hne) q
 ·exact up _ _ (Nat.ne_of_gt hel) ht₄
 ·rw[hs₇.1,hs₆.1,hs₅.1,hz₄]
 ·exact fun b o hbe hbi hb=>up b o hbe (hk₄ b o hbe hbi hb)
theorem zNv{i:Nat}{x old:Value}{Q:Option Value→Shared→Prop}(he:IsEnum s.heap e it i old)(hit:Z.It i s.heap)(hl:Z.Sq s.heap)(hx:xs[i]?=some x)(hne:e≠it)
  (hQ:∀ h',IsEnumOut h' e it ((i:Int)+1) x s.heap.objs.size→Z.It (i+1) h'→h'.get? s.heap.objs.size=some { cls:=.type "tuple",data:=.seq #[.int i s.toks,x] }→h'.objs.size=s.heap.objs.size+1 →
   (∀ b o,b≠e→b≠it→s.heap.get? b=some o→h'.get? b=some o)→Q (some (.ref s.heap.objs.size)) { s with heap:=h',toks:=s.toks+1 }) :
  wpAny (model prog w) A (pyNext (.ref e)) Q E s:=by
 have hT:s.TypeIs (.ref e) "enumerate":=⟨_,he,rfl⟩
 unfold pyNext
 exact wpAny_bind (wpAny_attempt (wpAny_callSpecial?_slot (name:=Str.ofString "__next__") hT F.slot_enumerate_next
  (wpAny_call_entry F.slot_enumerate_next hT F.entry_enumerate_next
   (zNu Z he hit hl hx hne fun h' a b c d k=>wpAny_pure (hQ h' a b c d k)) (F.args_enumerate_next_1 _))))
theorem zPu{i:Nat}{old:Value}{Q:Option Value→Shared→Prop}(hh:A.handled=none)(he:IsEnum s.heap e it i old)(hit:Z.It i s.heap)(hl:Z.Sq s.heap)(hx:xs[i]?=none)
  (hQ:∀ h',Heap.ExtBut it s.heap h'→Q none { s with heap:=h' }):wpAny (model prog w) A (pyNext (.ref e)) Q E s:=by
 have hT:s.TypeIs (.ref e) "enumerate":=⟨_,he,rfl⟩
 unfold pyNext
 refine wpAny_bind (wpAny_attempt (wpAny_callSpecial?_slot (name:=Str.ofString "__next__") hT F.slot_enumerate_next
  (wpAny_call_entry F.slot_enumerate_next hT F.entry_enumerate_next ?_ (F.args_enumerate_next_1 _))))
 show wpAny _ _ (field (.ref e) 2>>=_) _ _ _
 refine wpAny_bind (wpAny_field he rfl (x:=.ref it) rfl ?_)
 refine wpAny_bind (Z.fin _ _ _ _ _ hh hit hl hx fun h' x he' hx'=>?_)
 obtain⟨o,ho,hc⟩:=hx'
 exact wpAny_bind (wpAny_isInstance (T:="StopIteration") (b:=true) ⟨o,ho,hc⟩ isSubtype_stop (wpAny_pure (hQ _ he')))
end
theorem zHN(l:Addr)(items:Array Value) :
  Meets (Builtin.«enumerate.__new__» ⟨[.type "enumerate",.ref l],[]⟩) (fun u0 R s=>s.heap.IsTuple l items ∧
   R (.ok (.ret (.ref (zt1 s.heap l).objs.size))) { s with heap:=(zt1 s.heap l).push { cls:=.type "enumerate",data:=.fields #[.none,.bool false,.ref s.heap.objs.size,rawInt 0,.none,.none] } }) :=
 .of_wp fun prog w A R s h=>by
  obtain⟨hp,g,d,tk,os⟩:=s;obtain⟨hl,h⟩:=h
  have hsub:=sub_enumerate
  have hL:Heap.IsTuple (Shared.heap ⟨hp,g,d,tk,os⟩) l items:=hl
  obtain⟨ol,hol,hcl,nl,hdl⟩:=hl
  wp_walk using AutoSeq1.wpAny_loadPart' hol
  refine wpAny_stack_any fun st=>wpAny_pure ?_
  split
  ·rename_i c _ _ _ _ _
   cases (c==Value.type "enumerate")
   ·wp_walk using AutoSeq1.wpAny_loadPart' hol,wpAny_pyIter_tuple hL
    exact⟨_,rfl,h⟩
   ·wp_walk using AutoSeq1.wpAny_loadPart' hol,wpAny_pyIter_tuple hL
    exact⟨_,rfl,h⟩
  ·wp_walk using AutoSeq1.wpAny_loadPart' hol,wpAny_pyIter_tuple hL
   exact⟨_,rfl,h⟩
theorem zIR{prog:Program}{w:World}{A:Around}{E:Value→Shared→Prop}{s:Shared}{l:Addr}{xs:Array Value}{Q:Value→Shared→Prop}(hl:s.heap.IsTuple l xs)
  (h:∀ h',IsEnum h' (s.heap.objs.size+1) s.heap.objs.size 0 .none→h'.IsTupleIter s.heap.objs.size l 0→h'.objs.size=s.heap.objs.size+2 →
   (∀ b o,s.heap.get? b=some o→h'.get? b=some o)→Q (.ref (s.heap.objs.size+1)) { s with heap:=h' }) :
  wpAny (model prog w) A (call (.type "enumerate") [.ref l]) Q E s:=by
 refine callType_new F.called_enumerate (by decide) (F.typeCall_enumerate_1 _) (F.newCall_enumerate_1 _) (fun obj=>F.args_object_init_2 obj _) F.entry_enumerate_new (zHN l xs) ⟨hl,?_⟩
 have z1:(zt1 s.heap l).objs.size=s.heap.objs.size+1:=Heap.size_push ..
 show _∧_
 rw[z1]
 have he:IsEnum ((zt1 s.heap l).push { cls:=.type "enumerate",data:=.fields #[.none,.bool false,.ref s.heap.objs.size,rawInt 0,.none,.none] }) (s.heap.objs.size+1) s.heap.objs.size 0 .none:=by
  have:=Heap.get?_push_size (zt1 s.heap l) (o:={ cls:=.type "enumerate",data:=.fields #[.none,.bool false,.ref s.heap.objs.size,rawInt 0,.none,.none] }) rfl
  rw[z1] at this;exact this
 exact⟨⟨_,he,rfl⟩,h _ he ⟨_,Heap.get?_push_of_some _ (Heap.get?_push_size _ rfl),rfl,rfl⟩ (by rw[Heap.size_push,z1]) fun b o x=>Heap.get?_push_of_some _ (Heap.get?_push_of_some _ x)⟩
end HZ
namespace L2
open PySem PySem.Spec PyProof.Rows HZ
noncomputable def Ite(K:PySem.W.Frag)(a:Addr):It :=
  ⟨fun i H=>∃ xs x,SqT K H a xs∧xs[i]?=some x,
   fun i H v H'=>∃ t,v=.ref t∧H t=none∧∃ x,(∀ xs,SqT K H a xs→xs[i]?=some x)∧H'=yp H t (.tup [.int i,x]),
   fun i H=>∃ xs,SqT K H a xs∧xs.length≤i⟩
theorem zIS{P:Program}{w:World}{K:PySem.W.Frag}{es:List Expr}{kk:Nat}{pt:Pos}{e it l:Addr}(hne:e≠it) :
  Turn P w K (.Tuple es kk pt) (Ite K l) [e,it] e (fun i h=>(∃ old,IsEnum h e it i old)∧h.IsTupleIter it l i) where
 mem:=by simp
 obj:=fun i h st c hc=>by
  obtain⟨⟨old,h1⟩,h4⟩:=st
  simp only[List.mem_cons,List.not_mem_nil,or_false] at hc
  rcases hc with rfl | rfl
  ·exact⟨_,h1,fun v q=>by cases q⟩
  ·obtain⟨o,e,c,d⟩:=h4;exact⟨o,e,fun v q=>by rw[d] at q;cases q⟩
 keep:=fun i h h' st k=>by
  obtain⟨⟨old,h1⟩,h4⟩:=st
  exact⟨⟨old,k e (by simp) _ h1⟩,IsTupleIter.at' h4 fun o q=>k it (by simp) o q⟩
 item:=by
  intro X hP hw hK hc i pins s σ H E I hf st hg
  subst hP hw hK
  obtain⟨xs,x,q1,hx⟩:=hg
  obtain⟨its1,rv1,p1,hz1⟩:=I.tuple q1
  obtain⟨u1,hu1,ru1⟩:=rv1.get hx
  obtain⟨⟨old,h1⟩,h4⟩:=st
  have fl:∀ c∈[e,it],c<s.heap.objs.size:=fun c hc=>by
   simp only[List.mem_cons,List.not_mem_nil,or_false] at hc
   rcases hc with rfl | rfl
   ·exact Heap.lt_size h1
   ·obtain⟨o,e,u0⟩:=h4;exact Heap.lt_size e
  have hfr:H s.heap.objs.size=none:=I.hok.fresh (Nat.le_refl _)
  refine zNv (zFt X.prog X.w it l its1.toArray) h1 h4 (show s.heap.IsTuple l its1.toArray from p1) (x:=u1) (by simpa using hu1) hne fun h' a1 a2 a3 a4 a5=>?_
  refine⟨_,rfl,wpAny_letOwnedTupleGo_enum (s:={ s with heap:=h',toks:=s.toks+1 }) a1 fun h'' z1 sb=>?_⟩
  have nT:∀ c∈[e,it],c≠s.heap.objs.size:=fun c hc q=>absurd (fl c hc) (by rw[q];exact Nat.lt_irrefl _)
  have I1:zV X pins σ (yp H s.heap.objs.size (.tup [.int i,x])) { s with heap:=s.heap.push { cls:=.type "tuple",data:=.seq #[.int i s.toks,u1] },toks:=s.toks+1 } :=
   I.laid (t':=s.toks+1) (fun b u q=>Heap.get?_push_of_some _ q) (Nat.le_refl _) ⟨by show 2≤sizeLine;decide,[.int i s.toks,u1],.cons ⟨_,rfl⟩ (.cons ru1 .nil),zC8.new _ _⟩
  have hf':∀ c∈[e,it],zB8 X pins (yp H s.heap.objs.size (.tup [.int i,x])) c:=fun c hc=>by
   obtain⟨f0,f1⟩:=hf c hc
   exact⟨by rw[yF (nT c hc)];exact f0,f1⟩
  have I2:zV X pins σ (yp H s.heap.objs.size (.tup [.int i,x])) { s with heap:=h'',toks:=s.toks+1 }:=by
   refine I1.turnedL (t':=s.toks+1) (h':=h'') (fun c o hc q=>?_) hf'
   have cz:c≠e:=fun q=>hc (by simp[q])
   refine sb.extBut _ _ cz ?_
   by_cases hT:c=s.heap.objs.size
   ·subst hT
    have e':(s.heap.push { cls:=.type "tuple",data:=.seq #[.int i s.toks,u1] }).get? s.heap.objs.size=some o:=q
    rw[Heap.get?_push_size _ rfl] at e'
    cases e'
    exact a3
   ·have e':(s.heap.push { cls:=.type "tuple",data:=.seq #[.int i s.toks,u1] }).get? c=some o:=q
    have:s.heap.get? c=some o:=by rw[Heap.get?_push_ne _ _ _ hT] at e';exact e'
    exact a5 c o cz (fun q=>hc (by simp[q])) this
  refine⟨.ref s.heap.objs.size,_,I2,rfl,⟨s.heap.objs.size,rfl,hfr,x,fun zs hzs=>by rw[I.tuple_inj hzs q1];exact hx,rfl⟩,?_,fun c hc=>(hf' c hc).1⟩
  refine⟨⟨u1,by rw[show((i+1:Nat):Int)=(i:Int)+1 by (first|lia|omega)];exact z1⟩,IsTupleIter.at' a2 fun o q=>sb.extBut _ _ (Ne.symm hne) q⟩
 done:=by
  intro X hP hw hK hc i pins s σ H E I hf st hg
  subst hP hw hK
  obtain⟨xs,q1,hx⟩:=hg
  obtain⟨its1,rv1,p1,hz1⟩:=I.tuple q1
  obtain⟨⟨old,h1⟩,h4⟩:=st
  have l1:=rv1.length
  exact zPu (zFt X.prog X.w it l its1.toArray) (I.ok.hd hc) h1 h4 (show s.heap.IsTuple l its1.toArray from p1) (by simp;(first|lia|omega)) fun h' hk=>⟨rfl,I.turnedL (t':=s.toks) (fun c o hc q=>hk c o (fun z=>hc (by simp[z])) q) hf⟩
 self:=fun u0 u0 u0 u0 u0 st h=>let ⟨⟨_,h1⟩,_⟩:=st;wpAny_pyIter_enum h1 h
noncomputable def iEn(K:PySem.W.Frag)(ta:TA):TI:=fun σ H R=>ta σ H fun vs H1=>∃ a xs,vs=[.ref a]∧SqT K H1 a xs∧(xs.length≤sizeLine→R (Ite K a) H1)
theorem zMD{X:Cx}{a:Expr}{ta:TA}{p pos pt:Pos}{es:List Expr}{kk:Nat}(hg:Gl X "enumerate")(hm:X.mg "enumerate"=none)(ha:PA X [a] ta)(hs:starEach [a] X.env=[(false,eval a X.env)]:=by rfl) :
  PI X (.Tuple es kk pt) (.Call (.Name "enumerate" p) [a] [] pos) (iEn X.K ta):=by
 intro pins s σ H R I h
 refine Call_ (zCB I hg hm boot_enumerate (PyProof.Rows.callWith_type1 (yq (ha pos pins s σ H _ I h) fun us s1 ⟨vs,H1,I1,r1,q1⟩=>?_) (by rw[hs];rfl) (by rfl)))
 obtain⟨a1,xs,e,q1,q⟩:=q1
 subst e
 obtain⟨u,rfl,rx⟩:=vals1 r1
 cases rx
 obtain⟨its1,rv1,p1,hz1⟩:=I1.tuple q1
 have lt1:=p1.lt
 refine zIR (show s1.heap.IsTuple a1 its1.toArray from p1) fun h' z1 z4 z6 z7=>?_
 refine wpAny_pyIter_enum z1 ⟨_,[s1.heap.objs.size+1,s1.heap.objs.size],_,_,H1,rfl,I1.kept (t':=s1.toks) z7,zIS (e:=s1.heap.objs.size+1) (it:=s1.heap.objs.size) (l:=a1) (yz (by (first|lia|omega))),⟨⟨_,z1⟩,z4⟩,fun c hc=>?_,q hz1⟩
 have:s1.heap.objs.size≤c:=by
  simp only[List.mem_cons,List.not_mem_nil,or_false] at hc
  rcases hc with e | e<;>(rw[e];first | exact Nat.le_add_right _ _ | exact Nat.le_refl _)
 exact I1.fpOk this (I1.hok.fresh this)
end L2
namespace L3
open PySem PySem.Spec PyProof.Rows L2
noncomputable def enD(ds:List D):List D:=ds.zipIdx.map fun p=>D.tup [.int p.2,p.1]
theorem zEX(ds:List D):(enD ds).length=ds.length:=by simp[enD]
theorem zKQ{K:PySem.W.Frag}{H0:Hp}{a:Addr}{xs:List V}{ds:List D}(h:SqT K H0 a xs)(hd:Dens K H0 ds xs) :
  Walk K H0 (enD ds) (fun u0=>True) (Ite K a) where
 go:=fun i G H u0 r g hi=>by
  have hl:i<xs.length:=by rw[zEX] at hi;rw[← hd.length];exact hi
  exact⟨xs,xs[i]'hl,g.sqT h,by simp⟩
 stop:=fun G H u0 r g=>⟨xs,g.sqT h,by rw[← hd.length,zEX];exact Nat.le_refl _⟩
 yld:=fun i G H x H' u0 r g hi y=>by
  obtain⟨t,rfl,hn,u,y1,rfl⟩:=y
  obtain⟨d1,e1,e2⟩:=(hd.grow g).got (y1 xs (g.sqT h))
  have gr:yB H (yp H t (.tup [.int i,u])):=.fresh hn
  refine⟨gr,r.fresh hn,D.tup [.int i,d1],by simp[enD,List.getElem?_map,List.getElem?_zipIdx,e1],?_⟩
  unfold zU
  exact⟨t,[.int i,u],rfl,.inl (.of zj),.cons (by unfold zU;rfl) (.cons (e2.grow gr) .nil)⟩
noncomputable def zQy(t:wN):TI2:=fun σ G R=>t σ G fun ds G1=>match ds with | [.tup xs]=>R (enD xs) (fun u0=>True) G1 | _=>False
theorem zPv{X:Cx}{a:Expr}{t:wN}{p pos pt:Pos}{es:List Expr}{kk:Nat}(hg:Gl X "enumerate")(hm:X.mg "enumerate"=none)(ha:A2 X [a] t)(hs:starEach [a] X.env=[(false,eval a X.env)]:=by rfl) :
  I2 X (.Tuple es kk pt) (.Call (.Name "enumerate" p) [a] [] pos) (zQy t):=by
 refine PI.mono (zMD hg hm ha hs) ?_
 rintro σ1 H R ⟨σ,G,R2,r,q,k⟩
 refine⟨σ,G,_,r,q,fun ds G1 q1 vs H1 g1 r1 d1=>?_⟩
 split at q1
 ·rename_i xs
  obtain⟨v,rfl,d2⟩:=zCF d1
  unfold zU at d2
  obtain⟨a1,us,rfl,h1,h2⟩:=d2
  refine⟨a1,us,rfl,h1,fun hz=>k _ _ G1 q1 _ H1 g1 r1 (zKQ h1 h2) ?_⟩
  rw[zEX,h2.length];exact hz
 ·exact q1.elim
end L3
namespace HZ
open PySem PySem.Spec PyProof.Rows
end HZ
namespace L2
open PySem PySem.Spec PyProof.Rows HZ
end L2
namespace L3
open PySem PySem.Spec PyProof.Rows L2
end L3
namespace HI
open PySem PySem.Spec PyProof.Rows
section
variable {prog:Program} {w:World} {A:Around} {E:Value→Shared→Prop} {s:Shared}
end
end HI
namespace L2
open PySem PySem.Spec PyProof.Rows
variable {X:Cx} {e:Expr} {t:TA} {p p2 pos pos2:Pos}
end L2
namespace L3
open PySem PySem.Spec PyProof.Rows L2
section
variable {X:Cx} {e:Expr} {p p2 pos pos2:Pos}
end
end L3
namespace L2
open PySem PySem.Spec PyProof.Rows
section
variable {X:Cx} {pos:Pos}
theorem zKR(hc:X.calm=true):wE X (.builtin "sum") (fun xs H Q=>∃(l:Addr) (ns:List Int),xs=[.ref l]∧SqL X.K H l (ns.map V.int)∧ns.length≤100∧(∀ a∈ns,0≤a∧a≤1000000)∧Q (.int ns.sum) H):=by
 intro pins s σ H xs us Q I r h
 obtain⟨l,ns,rfl,hs,hp,hb,q⟩:=h
 obtain⟨u,rfl,ru⟩:=vals1 r
 cases (show u=Value.ref l from ru)
 obtain⟨its,rv,pl,hz⟩:=I.list hs
 have hi:IntsAre its ns:=intsAre_of rv
 have ha:AllInts its.toArray:=hi.allInts
 have hn:numsOf its.toArray.toList=ns:=by rw[show its.toArray.toList=its from rfl,hi.numsOf]
 have hl:=pl.isList
 have hl2:its.length=ns.length:=hi.length
 have hz2:its.toArray.size=ns.length:=by simp;(first|lia|omega)
 generalize its.toArray=arr at ha hn hl hz2
 obtain⟨zs,rfl⟩:=ha.items
 rw[nums_intItems] at hn
 have hsz:zs.size=ns.length:=by simpa[intItems] using hz2
 have sm:∀(l:List Int),(∀ a∈l,0≤a∧a≤1000000)→0≤l.sum∧l.sum≤1000000*l.length:=fun l=>by
  induction l with
  | nil=>intro u0;simp
  | cons a r ih =>
   intro h
   have h1:=h a List.mem_cons_self
   have h2:=ih fun x hx=>h x (List.mem_cons_of_mem _ hx)
   rw[List.sum_cons,List.length_cons]
   (first|lia|omega)
 refine sum_intList (I.ok.hd hc) hl (fun j hj=>?_) fun h' tk t' hk=>?_
 ·have hm:numAt zs j∈ns:=by rw[← hn,numAt_eq];exact getD_mem (by rw[List.length_map,Array.length_toList];(first|lia|omega))
  have h1:=hb _ hm
  rw[preSum_eq]
  have h2:=sm ((zs.toList.map (·.1)).take (j+1)) fun a ha=>hb a (by rw[← hn];exact List.mem_of_mem_take ha)
  have h3:((zs.toList.map (·.1)).take (j+1)).length≤100:=by
   have:(zs.toList.map (·.1)).length=zs.size:=by simp
   rw[List.length_take,this];(first|lia|omega)
  unfold InLong
  exact⟨by constructor<;>(first|lia|omega),by constructor<;>(first|lia|omega)⟩
 ·refine⟨.int _,H,I.kept (t':=tk) hk,⟨_,rfl⟩,?_⟩
  rw[preSum_eq,List.take_of_length_le (by simp),hn]
  exact q
end
end L2
namespace L3
open PySem PySem.Spec PyProof.Rows L2
section
variable {X:Cx} {e o:Expr} {te to:zo} {t:wN} {tl:TL2} {pos p apos cpos:Pos}
noncomputable def zME:Sp2:=fun ds G R=>∃ ns:List Int,ds=ns.map D.int∧ns.length≤100∧(∀ a∈ns,0≤a∧a≤1000000)∧R (.int ns.sum) G
theorem zNw(hc:X.calm=true)(hg:Gl X "sum")(hm:X.mg "sum"=none)(ha:F2 X e tl)(he:starEach [e] X.env=(false,eval e X.env)::starEach [] X.env:=by rfl)(hpl:(backTo pos (starEach [] X.env)).any (·.1)=false:=by rfl) :
  E2 X (.Call (.Name "sum" p) [e] [] pos) (zb zME tl):=zGy (zKR hc) (by
   rintro ds G R l xs H Q ⟨ns,rfl,hp,hb,h⟩ r e d k
   have:=d.ints_inv
   subst this
   exact⟨l,ns,rfl,.of e,hp,hb,k _ G h _ H (.refl H) r (by unfold zU;rfl)⟩) hg hm (by decide +kernel) ha (by decide) (by decide) he hpl
theorem zHO{X:Cx}{sc:Scope}{N N0 own:List Str}(h:zLV X.env.scope sc N N0 own=true)(e2:X.N=N:=by rfl):zG0 X sc N0 own:=zg (osc:=X.env.scope) h rfl e2
theorem zQz{st:Stmt}:P2 X st (fun u0 u0 u0=>False):=by
 rintro pins s σ H E I ⟨σ',G,D2,r,q,k⟩
 exact q.elim
end
end L3
namespace K
open PySem PySem.Spec PyProof.Rows L2 L3
theorem zIT{σ:S2}{G:Gp}{t u:zo}{l:Addr}{ds:List D}{k:Int}{d:D}(h:ze t σ G (.adr l))(h':ze u σ G (.int k))(hl:Ls G l ds)(e:atI ds k=some d):ze (zP zi t u) σ G d:=wp h h' fun G2 e2 R q=>⟨ds,d,e2.ls hl,e,q⟩
theorem zDR{σ:S2}{G:Gp}{ta tb:zo}{a b:Bool}(ha:ze ta σ G (.bl a))(hb:a=true→ze tb σ G (.bl b)):ze (zDn ta tb) σ G (.bl (a&&b)):=by
 cases a with
 | true=>exact zGR ha (hb rfl)
 | false=>exact fun G2 e R q=>ha G2 e _ (by show if false=true then _ else _;rw[if_neg (by simp)];exact q)
theorem zHP{σ:S2}{G:Gp}{tl:TL2}{R:Q2}(h:tl σ G fun ds G1=>∀ l,G1.m l=none→R (.adr l) (zR G1 l ds)):yA tl σ G R:=h
theorem zQ0{σ:S2}{G:Gp}{f:D→D→Gp→Q2→Prop}{ta tb:zo}{R:Q2}(h:ta σ G fun x G1=>tb σ G1 fun y G2=>f x y G2 R):zP f ta tb σ G R:=h
theorem zMF{d:D}(h:flat 8 d=true):∀ l,d≠.adr l:=fun l e=>by subst e;cases h
theorem zNx{d:D}(h:∀ xs,d≠.tup xs):zCH d "tuple"=false:=by
 cases d with
 | tup xs=>exact absurd rfl (h xs)
 | _=>rfl
theorem zNy{σ:S2}{G:Gp}{t:zo}{l:Addr}{es:List D}(h:ze t σ G (.adr l))(hl:Ls G l es):ze (zCk "tuple" t) σ G (.bl false):=fun G2 e R q=>h G2 e _ ⟨⟨es,e.ls hl⟩,q⟩
theorem zNz{α:Type}{xs:List α}(f:α→Bool):(xs.map fun d=>D.bl (f d))=(xs.map f).map D.bl:=by rw[List.map_map];rfl
end K
namespace K
open PySem PySem.Spec PyProof.Rows L2 L3
section
variable {n:Nat} {q:Nat×Nat→Bool}
end
end K
namespace K
open PySem PySem.Spec PyProof.Rows L2 L3
section
variable {n:Nat} {q:Nat×Nat→Bool}
end
end K
namespace K
open PySem PySem.Spec PyProof.Rows L2 L3
end K
namespace K
open PySem PySem.Spec PyProof.Rows L2 L3
noncomputable def zCu:Nat→D→Bool
 | 0,_=>false
 | n+1,.tup xs=>xs.all (zCu n)
 | _+1,.int _=>true
 | _+1,.bl _=>true
 | _+1,.non=>true
 | _+1,.str _=>false
 | _+1,.adr _=>false
 | _+1,.dic _=>false
noncomputable def zq(n:Nat):Sp2:=fun ds G R=>∃ x,ds=[x,x]∧zCu n x=true∧R (.bl true) G
theorem zKS{ds:List D}{G:Gp}{R:Q2}(h:zq 0 ds G R):False:=by
 obtain⟨x,u0,h,u0⟩:=h
 cases h
noncomputable def zBd(d:Nat):yi:=(zX (xIf (xB (zLu (zB 1))) (zX (xIf (zB9 (xB (zP (fEq true) (zCk "tuple" (zB 0)) (zCk "tuple" (zB 1)))) (xB (zP (fEq true) (zCk "list" (zB 0)) (zCk "list" (zB 1))))) (zu (xC (.bl false))) yH) (zX (xIf (xB (zP (fEq true) (zK yR (zA (zB 0) zI)) (zK yR (zA (zB 1) zI)))) (zu (xC (.bl false))) yH) (zu (zb zJz (zf (iZ (zA (zB 0) (zA (zB 1) zI))) bd2 zAB (zK (zq d) (zA (zB 2) (zA (zB 3) zI)))))))) yH) (zu (zDn (zP (fEq false) (zB 0) (zB 1)) (zP (fEq false) (zCk "bool" (zB 0)) (zCk "bool" (zB 1))))))
theorem zJK{σ:S2}{G:Gp}{t:zo}{d:D}(h:ze t σ G d)(hd:∀ l,d≠.adr l):ze (zLu t) σ G (.bl (zCH d "tuple")):=fun G2 e R q=>h G2 e _ (by
 cases d with
 | adr l=>exact absurd rfl (hd l)
 | _=>exact q)
theorem zCZ{T:String}{σ:S2}{G:Gp}{t:zo}{d:D}(h:ze t σ G d)(hd:∀ l,d≠.adr l):ze (zCk T t) σ G (.bl (zCH d T)):=zIG h hd rfl
theorem zIU{σ:S2}{G:Gp}{tc:TT2}{t u v:yi}{E:yC}(h:PuT tc σ G true)(h':t { E with nx:=v E } σ G):zX (xIf tc t u) v E σ G:=h G (.refl G) _ (by rw[if_pos rfl];exact h')
theorem zHQ{α:Type}(l:List α):l.zip l=l.map fun x=>(x,x):=by
 induction l with
 | nil=>rfl
 | cons a r ih=>simp[ih]
theorem zMH(d:Nat)(ds:List D)(G:Gp)(R:Q2)(h:zq (d+1) ds G R):ds.length=2∧zBd d (zd R) (zS ["found","due"] ds) G:=by
 obtain⟨x,rfl,hx,h⟩:=h
 refine⟨rfl,?_⟩
 have flatcase:(∀ l,x≠.adr l)→zCH x "tuple"=false→flat 8 x=true→wf x x=true→zBd d (zd R) (zS ["found","due"] [x,x]) G:=by
  intro na nt fx ex
  unfold zBd
  have v0:ze (zB 0) (zS ["found","due"] [x,x]) G x:=zE rfl
  have v1:ze (zB 1) (zS ["found","due"] [x,x]) G x:=zE rfl
  have c1:=wK (zJK v1 na)
  rw[nt] at c1
  refine zBZ c1 ?_
  refine zAn (d:=.bl true) (zGR (zCt v0 v1 fx fx (by simp[ex])) (zCt (zCZ v0 na) (zCZ v1 na) rfl rfl ?_)) (.of h)
  cases zCH x "bool"<;>rfl
 cases x with
 | tup xs =>
  unfold zBd
  have na:∀ l,D.tup xs≠.adr l:=fun l z=>by cases z
  have v0:ze (zB 0) (zS ["found","due"] [.tup xs,.tup xs]) G (.tup xs):=zE rfl
  have v1:ze (zB 1) (zS ["found","due"] [.tup xs,.tup xs]) G (.tup xs):=zE rfl
  refine zIU (wK (zJK v1 na)) ?_
  refine zBZ (zLo (wK (zCt (zCZ v0 na) (zCZ v1 na) rfl rfl rfl)) (wK (zCt (zCZ v0 na) (zCZ v1 na) rfl rfl rfl))) ?_
  refine zBZ (wK (zJ4 (zII v0) (zII v1) rfl)) ?_
  have hw:=zLt (xs:=xs) (ys:=xs) (zF v0 (zF v1 zM))
  have hall:∀ y∈xs,zCu d y=true:=by
   have:xs.all (zCu d)=true:=hx
   exact List.all_eq_true.mp this
  have:=zBn (bd:=bd2) (te:=zK (zq d) (zA (zB 2) (zA (zB 3) zI))) (fun u0=>D.bl true) (fun p=>match p with | .tup [a,b]=>[a,b] | _=>[]) hw fun y hy=>by
   rw[zHQ,List.map_map] at hy
   obtain⟨z,hz,rfl⟩:=List.mem_map.mp hy
   exact⟨rfl,zY (zF (zE rfl) (zF (zE rfl) zM)) fun u0 u0 u0 q=>⟨z,rfl,hall z hz,q⟩⟩
  have e:List.map (fun u0=>D.bl true) ((xs.zip xs).map fun p=>D.tup [p.1,p.2])=(xs.map fun u0=>true).map D.bl:=by
   rw[zHQ];simp
  rw[e] at this
  have fin:=zIJ this
  have e2:(xs.map fun u0=>true).all id=true:=by simp
  rw[e2] at fin
  exact zAn fin (.of h)
 | int i=>exact flatcase (fun l z=>by cases z) rfl rfl (by rw[zBr];simp)
 | bl b=>exact flatcase (fun l z=>by cases z) rfl rfl (by cases b<;>rfl)
 | non=>exact flatcase (fun l z=>by cases z) rfl rfl rfl
 | str s=>cases hx
 | adr l=>cases hx
 | dic l=>cases hx
theorem zDy{n k:Nat}{q:Nat×Nat→Bool}:zCu (n+4) (zO k q)=true:=by
 show([nD k,D.tup (((yj k).filter q).map zt)]).all (zCu (n+3))=true
 simp only[List.all_cons,List.all_nil,Bool.and_true,Bool.and_eq_true]
 refine⟨rfl,?_⟩
 show(((yj k).filter q).map zt).all (zCu (n+2))=true
 rw[List.all_eq_true]
 intro x hx
 obtain⟨p,u0,rfl⟩:=List.mem_map.mp hx
 rfl
theorem zMI{σ:S2}{G:Gp}{t u:zo}{x:D}{n:Nat}(h:ze t σ G x)(h':ze u σ G x)(hd:zCu n x=true):PuT (wn (xB (zK (zq n) (zA t (zA u zI))))) σ G false:=zBH (b:=true) (wK (zY (sp:=zq n) (ds:=[x,x]) (zF h (zF h' zM)) fun u0 u0 u0 q=>⟨x,rfl,hd,q⟩))
end K
namespace K
open PySem PySem.Spec PyProof.Rows L2 L3
noncomputable abbrev uD(l:List Nat):D:=.tup (l.map nD)
theorem zQ1{σ:S2}{G:Gp}{te:zo}{g:TG2}{E:yC}{d:D}(h:ze te σ G d)(h':g d σ G fun σ' G'=>E.nx σ' G'):zv te g E σ G:=h G (.refl G) _ h'
end K
namespace K
open L3
theorem zPw{σ:S2}{G:Gp}{te:zo}{E:yC}(h:te σ G fun u0 G1=>E.nx σ G1):yk te E σ G:=h
end K
namespace K
open PySem PySem.Spec PyProof.Rows L2 L3
noncomputable def zHR(n:Nat):D→Bool
 | .int x=>decide (0≤x)&&decide (x<(n:Int))
 | _=>false
noncomputable def Bad(n:Nat)(d:D)(G:Gp):Prop:=(∃ xs,d=.tup xs∧(∀ x∈xs,flat 8 x=true)∧xs.length≤1000∧xs.all (zHR n)=false)∨((∀ xs,d≠.tup xs)∧∀ l,d≠.adr l)∨∃ l es,d=.adr l∧Ls G l es
noncomputable def Good(n:Nat)(d:D)(ps:List Nat):Prop:=d=.tup (ps.map nD)∧(∀ x∈ps,x<n)∧ps.length≤60
theorem zMJ{n:Nat}{ps:List Nat}(h:∀ x∈ps,x<n):(ps.map nD).all (zHR n)=true:=by
 rw[List.all_map,List.all_eq_true]
 intro x hx
 have:=h x hx
 simp only[Function.comp,nD,zHR,Bool.and_eq_true,decide_eq_true_eq]
 (first|lia|omega)
noncomputable def wH:Sp2:=fun ds G R=>∃(n:Nat) (d:D),ds=[nD n,d]∧((∃ ps,Good n d ps∧R (.bl true) G)∨(Bad n d G∧R (.bl false) G))
noncomputable def zAp:yi:=(zu (zDn (zCk "tuple" (zB 1)) (zb zJz (zf (iV (zB 1)) wy zAB (zDn (zK yf (zA (zB 2) zI)) (zBI (ya fun i j=>.bl (decide (i≤j))) (ya fun i j=>.bl (decide (i<j))) (xC (.int 0)) (zB 2) (zB 0)))))))
theorem zGV(ds:List D)(G:Gp)(R:Q2)(h:wH ds G R):ds.length=2∧zAp (zd R) (zS ["many","thing"] ds) G:=by
 obtain⟨n,d,rfl,h⟩:=h
 refine⟨rfl,?_⟩
 unfold zAp
 have tup:∀ xs:List D,(∀ x∈xs,flat 8 x=true)→R (.bl (xs.all (zHR n))) G→zu (zDn (zCk "tuple" (zB 1)) (zb zJz (zf (iV (zB 1)) wy zAB (zDn (zK yf (zA (zB 2) zI)) (zBI (ya fun i j=>.bl (decide (i≤j))) (ya fun i j=>.bl (decide (i<j))) (xC (.int 0)) (zB 2) (zB 0)))))) (zd R) (zS ["many","thing"] [nD n,.tup xs]) G:=fun xs fx hR=>by
  have m:=zBn (σ:=zS ["many","thing"] [nD n,.tup xs]) (G:=G) (bd:=wy) (te:=zDn (zK yf (zA (zB 2) zI)) (zBI (ya fun i j=>.bl (decide (i≤j))) (ya fun i j=>.bl (decide (i<j))) (xC (.int 0)) (zB 2) (zB 0))) (fun d=>.bl (zHR n d)) (fun d=>[d]) (zAQ (zE (i:=1) (d:=.tup xs) rfl)) fun x hx=>by
   refine⟨rfl,?_⟩
   have na:=zMF (fx x hx)
   have num:ze (zK yf (zA (zB 2) zI)) (zS ["many","thing"] [nD n,.tup xs]++[some x]) G (.bl (zLq x)):=zY (zF (zE (d:=x) rfl) zM) fun u0 u0 u0 q=>⟨x,rfl,.inl ⟨na,q⟩⟩
   cases x with
   | int v=>exact zGR (show ze _ _ _ (.bl true) from num) (zDu (f:=fun i j=>decide (i≤j)) (g:=fun i j=>decide (i<j)) (yU (d:=.int 0)) (zE rfl) (zE (i:=0) (d:=nD n) rfl))
   | _=>exact zDR (b:=false) num fun z=>by cases z
  rw[zNz] at m
  have a:=zIJ m
  rw[List.all_map] at a
  exact zAn (zGR (zPc (T:="tuple") (d:=.tup xs) (zE rfl) rfl) a) (.of hR)
 rcases h with ⟨ps,⟨rfl,hp,u0⟩,h⟩ | ⟨hb,h⟩
 ·exact tup _ (zDN ps) (by rw[zMJ hp];exact h)
 ·rcases hb with ⟨xs,rfl,fx,u0,ha⟩ | ⟨h1,h2⟩ | ⟨l,es,rfl,hl⟩
  ·exact tup xs fx (by rw[ha];exact h)
  ·exact zAn (zDR (b:=false) (zIG (T:="tuple") (d:=d) (zE rfl) h2 (zNx h1)) fun z=>by cases z) (.of h)
  ·exact zAn (zDR (b:=false) (zNy (l:=l) (zE rfl) hl) fun z=>by cases z) (.of h)
noncomputable def zPx(ps:List Nat):Bool:=(List.range (ps.length-1)).all fun k=>decide (ps.getD k 0<ps.getD (k+1) 0)
theorem zMK:∀ ps:List Nat,zPx ps=true↔ps.Pairwise (·<·):=by
 intro ps
 unfold zPx
 rw[List.all_eq_true]
 constructor
 ·intro h
  have step:∀ k,k+1<ps.length→ps.getD k 0<ps.getD (k+1) 0:=fun k hk=>of_decide_eq_true (h k (List.mem_range.mpr (by (first|lia|omega))))
  have far:∀ m i,i+m+1<ps.length→ps.getD i 0<ps.getD (i+m+1) 0:=fun m=>by
   induction m with
   | zero=>intro i hi;exact step i hi
   | succ m ih=>intro i hi;exact Nat.lt_trans (ih i (by (first|lia|omega))) (step (i+m+1) (by (first|lia|omega)))
  rw[List.pairwise_iff_getElem]
  intro i j hi hj hij
  have:=far (j-i-1) i (by (first|lia|omega))
  rw[show i+(j-i-1)+1=j by (first|lia|omega)] at this
  simpa only[List.getD,hi,hj,List.getElem?_eq_getElem,Option.getD_some] using this
 ·intro h k hk
  have hk':=List.mem_range.mp hk
  have h1:k<ps.length:=by (first|lia|omega)
  have h2:k+1<ps.length:=by (first|lia|omega)
  refine decide_eq_true ?_
  simp only[List.getD,h1,h2,List.getElem?_eq_getElem,Option.getD_some]
  exact(List.pairwise_iff_getElem.mp h) k (k+1) h1 h2 (by (first|lia|omega))
noncomputable def wI:Sp2:=fun ds G R=>∃ ps:List Nat,ds=[.tup (ps.map nD)]∧ps.length≤1000∧R (.bl (zPx ps)) G
noncomputable def zAq:yi:=(zu (zb zJz (zf (iR1 (zA (zP (ya fun i j=>.int (i-j)) (zK yR (zA (zB 0) zI)) (xC (.int 1))) zI)) wy zAB (zP (ya fun i j=>.bl (decide (i<j))) (zP zi (zB 0) (zB 1)) (zP zi (zB 0) (zP yJ (zB 1) (xC (.int 1))))))))
theorem zGW(ds:List D)(G:Gp)(R:Q2)(h:wI ds G R):ds.length=1∧zAq (zd R) (zS ["things"] ds) G:=by
 obtain⟨ps,rfl,hl,h⟩:=h
 refine⟨rfl,?_⟩
 unfold zAq
 have rg:PuI (iR1 (zA (zP (ya fun i j=>.int (i-j)) (zK yR (zA (zB 0) zI)) (xC (.int 1))) zI)) (zS ["things"] [.tup (ps.map nD)]) G ((List.range (ps.length-1)).map nD):=by
  have:=zBX (zF (zBU (g:=fun i j=>.int (i-j)) (zAb (ps:=ps) (zE (σ:=zS ["things"] [.tup (ps.map nD)]) (G:=G) (i:=0) rfl)) (yU (d:=.int 1))) zM) (by (first|lia|omega))
  rw[show((ps.length:Int)-1).toNat=((ps.length-1:Nat):Int).toNat by (first|lia|omega),zAD] at this
  exact this
 have m:=zBn (bd:=wy) (te:=(zP (ya fun i j=>.bl (decide (i<j))) (zP zi (zB 0) (zB 1)) (zP zi (zB 0) (zP yJ (zB 1) (xC (.int 1)))))) (fun d=>match d with | .int v=>.bl (decide (ps.getD v.toNat 0<ps.getD (v.toNat+1) 0)) | _=>.non) (fun d=>[d]) rg fun x hx=>by
  obtain⟨k,hk,rfl⟩:=List.mem_map.mp hx
  have hk':=List.mem_range.mp hk
  refine⟨rfl,?_⟩
  have ad:ze (zP yJ (zB 1) (xC (.int 1))) (zS ["things"] [.tup (ps.map nD)]++[some (nD k)]) G (nD (k+1)):=by
   have:=wk (σ:=zS ["things"] [.tup (ps.map nD)]++[some (nD k)]) (G:=G) (i:=(k:Int)) (j:=1) (zE (i:=1) rfl) yU
   rwa [show(k:Int)+1=((k+1:Nat):Int) by (first|lia|omega)] at this
  have:=zBU (g:=fun i j=>.bl (decide (i<j))) (zBv (ps:=ps) (i:=k) (zE (σ:=zS ["things"] [.tup (ps.map nD)]++[some (nD k)]) (G:=G) (i:=0) rfl) (zE (i:=1) rfl) (by (first|lia|omega))) (zBv (ps:=ps) (i:=k+1) (zE (i:=0) rfl) ad (by (first|lia|omega)))
  have e:decide (((ps.getD k 0:Nat):Int)<((ps.getD (k+1) 0:Nat):Int))=decide (ps.getD k 0<ps.getD (k+1) 0):=by
   rw[Bool.eq_iff_iff];simp
  rw[e] at this
  exact this
 have e:List.map (fun d=>match d with | .int v=>D.bl (decide (ps.getD v.toNat 0<ps.getD (v.toNat+1) 0)) | _=>.non) ((List.range (ps.length-1)).map nD)=((List.range (ps.length-1)).map fun k=>decide (ps.getD k 0<ps.getD (k+1) 0)).map D.bl:=by
  rw[List.map_map,List.map_map];rfl
 rw[e] at m
 have a:=zIJ m
 rw[List.all_map] at a
 exact zAn a (.of h)
end K
namespace L3
open PySem PySem.Spec PyProof.Rows L2
section
variable {X:Cx} {a b e:Expr} {ta tb te:zo} {t:wN} {p pos:Pos}
theorem zN0:OpR X (binaryOp .Mult) (fun x y H Q=>zGU X.K x y H Q∨zI9 X.K x y H Q):=by
 intro pins s σ H x y v u Q I rx ry h
 rcases h with h | h
 ·exact zLv pins s σ H x y v u Q I rx ry h
 ·exact zNl pins s σ H x y v u Q I rx ry h
noncomputable def zHS:D→D→Gp→Q2→Prop:=fun x y G R=>match x,y with
 | .tup xs,.int k=>xs≠[]∧0≤k∧xs.length*k.toNat≤1000000∧R (.tup (List.replicate k.toNat xs).flatten) G
 | _,_=>False
theorem zML{K:PySem.W.Frag}:Fit K (fun x y H Q=>zGU K x y H Q∨zI9 K x y H Q) zHS:=by
 intro dx dy G R x y H Q h r d1 d2 k
 unfold zHS at h
 split at h
 ·rename_i xs j
  obtain⟨hne,h0,hz,h⟩:=h
  by_cases h2:2≤j
  ·exact .inr (zLr (.tup xs) (.int j) G R x y H Q ⟨hne,h2,hz,h⟩ r d1 d2 k)
  ·refine .inl (zKI (.tup xs) (.int j) G R x y H Q ⟨by (first|lia|omega),?_⟩ r d1 d2 k)
   have:(List.replicate j.toNat xs).flatten=if j=1 then xs else []:=by
    by_cases h1:j=1
    ·subst h1;simp
    ·have:j=0:=by (first|lia|omega)
     subst this;simp
   rw[← this];exact h
 ·exact h.elim
theorem zPy(ha:E2 X a ta)(hb:E2 X b tb):E2 X (.BinOp a .Mult b pos) (zP zHS ta tb):=zGH zN0 zML ha hb
end
end L3
namespace L3
open PySem PySem.Spec PyProof.Rows L2 HS
end L3
namespace L3
open PySem PySem.Spec PyProof.Rows L2
section
variable {X:Cx} {e:Expr} {p pos:Pos}
end
end L3
namespace L3
open PySem PySem.Spec PyProof.Rows L2
section
variable {X:Cx} {a b:Expr} {ta tb:zo} {pos:Pos}
theorem zQ2(ha:E2 X a ta)(hb:E2 X b tb):E2 X (.BinOp a .LShift b pos) (zP (wF zEa fun i j=>.int (i*2 ^ j.toNat)) ta tb):=zGH zPC (zDD fun u0 u0=>⟨rfl,rfl⟩) ha hb
theorem zOX(ha:E2 X a ta)(hb:E2 X b tb):E2 X (.BinOp a .BitXor b pos) (zP (ya fun i j=>.int (Builtin.bitXor i j)) ta tb):=zGH zPD (zAO fun u0 u0=>⟨rfl,rfl⟩) ha hb
end
theorem zHT(a b:Nat):(a ^^^ b)+2*(a &&& b)=a+b:=by
 induction a using Nat.strongRecOn generalizing b with
 | _ a ih =>
  by_cases h:a=0
  ·subst h;simp
  ·have h0:=ih (a / 2) (by (first|lia|omega)) (b / 2)
   rw[← Nat.xor_div_two,← Nat.and_div_two] at h0
   have h1:=@Nat.xor_mod_two_eq_one a b
   have h2:=@Nat.and_mod_two_eq_one a b
   have h3:(a ^^^ b)%2+2*((a &&& b)%2)=a%2+b%2:=by
    clear h0 ih h
    rcases Nat.mod_two_eq_zero_or_one a with x | x<;>rcases Nat.mod_two_eq_zero_or_one b with y | y<;>rcases Nat.mod_two_eq_zero_or_one (a &&& b) with z | z<;>rcases Nat.mod_two_eq_zero_or_one (a ^^^ b) with w | w<;>rw[x,y,z,w]<;>rw[x,y,z] at h2<;>rw[x,y,w] at h1<;>simp at h1 h2 ⊢
   generalize a ^^^ b=u at h0 h3 ⊢
   generalize a &&& b=v at h0 h3 ⊢
   (first|lia|omega)
theorem zIV(a b:Nat):Builtin.bitXor (a:Int) (b:Int)=((a ^^^ b:Nat):Int):=by
 have e:Builtin.bitAnd (a:Int) (b:Int)=((a &&& b:Nat):Int):=by
  unfold Builtin.bitAnd
  have h1:decide ((0:Int)≤(a:Int))=true:=decide_eq_true (by (first|lia|omega))
  have h2:decide ((0:Int)≤(b:Int))=true:=decide_eq_true (by (first|lia|omega))
  rw[h1,h2]
  rfl
 have h:=zHT a b
 rw[PyProof.Rows.bitXor_and,e]
 (first|lia|omega)
end L3
namespace K
noncomputable def spn:List Nat→Nat→Prop
 | [],x=>x=0
 | b::l,x=>spn l x∨spn l (x ^^^ b)
theorem xr(x a b:Nat):x ^^^ a ^^^ b=x ^^^ b ^^^ a:=by rw[Nat.xor_assoc,Nat.xor_comm a b,← Nat.xor_assoc]
theorem xc(x a:Nat):x ^^^ a ^^^ a=x:=by rw[Nat.xor_assoc,Nat.xor_self,Nat.xor_zero]
theorem zBz:∀ {l:List Nat} {x y:Nat},spn l x→spn l y→spn l (x ^^^ y)
 | [],x,y,h,h'=>by
  have h1:x=0:=h
  have h2:y=0:=h'
  subst h1 h2;rfl
 | b::l,x,y,h,h'=>by
  rcases h with h | h<;>rcases h' with h' | h'
  ·exact .inl (zBz h h')
  ·refine .inr ?_
   have:=zBz h h'
   rwa [← Nat.xor_assoc] at this
  ·refine .inr ?_
   have:=zBz h h'
   rwa [xr] at this
  ·refine .inl ?_
   have:=zBz h h'
   rwa [← Nat.xor_assoc,xr x b y,xc] at this
theorem zE3:∀ {l:List Nat} {b x:Nat},spn (l++[b]) x↔spn l x∨spn l (x ^^^ b)
 | [],b,x=>Iff.rfl
 | a::l,b,x=>by
  show(spn (l++[b]) x∨spn (l++[b]) (x ^^^ a))↔_
  rw[zE3,zE3,xr x a b]
  show _↔(spn l x∨spn l (x ^^^ a))∨(spn l (x ^^^ b)∨spn l (x ^^^ b ^^^ a))
  constructor
  ·rintro((h | h) | (h | h))
   ·exact .inl (.inl h)
   ·exact .inr (.inl h)
   ·exact .inl (.inr h)
   ·exact .inr (.inr h)
  ·rintro((h | h) | (h | h))
   ·exact .inl (.inl h)
   ·exact .inr (.inl h)
   ·exact .inl (.inr h)
   ·exact .inr (.inr h)
theorem zEY{i:Nat}:∀ {l:List Nat} {s:Nat},(∀ b∈l,b.testBit i=false)→spn l s→s.testBit i=false
 | [],s,_,h=>by
  have h1:s=0:=h
  subst h1;exact Nat.zero_testBit i
 | b::l,s,hb,h=>by
  rcases h with h | h
  ·exact zEY (fun x hx=>hb x (List.mem_cons_of_mem _ hx)) h
  ·have:=zEY (fun x hx=>hb x (List.mem_cons_of_mem _ hx)) h
   rw[Nat.testBit_xor,hb b List.mem_cons_self,Bool.xor_false] at this
   exact this
noncomputable def red(free:List Nat)(x:Nat):Nat:=free.foldl (fun x b=>min x (x ^^^ b)) x
noncomputable def gdB(free:List Nat):Prop:=free.Pairwise (fun a b=>b.testBit a.log2=false)∧∀ b∈free,b≠0
theorem zGX{a:Nat}(h:a≠0):a.testBit a.log2=true:=Nat.testBit_log2 h
theorem zHU{a j:Nat}(h:a.log2<j):a.testBit j=false:=by
 apply Nat.testBit_lt_two_pow
 exact Nat.lt_of_lt_of_le Nat.lt_log2_self (Nat.pow_le_pow_right (by (first|lia|omega)) h)
theorem zMM{x y:Nat}(i:Nat)(hx:x.testBit i=false)(hy:y.testBit i=true)(h:∀ j,i<j→x.testBit j=y.testBit j):x<y:=by
 have e:x / 2 ^ (i+1)=y / 2 ^ (i+1):=Nat.eq_of_testBit_eq fun k=>by
  rw[Nat.testBit_div_two_pow,Nat.testBit_div_two_pow]
  exact h _ (by (first|lia|omega))
 rw[Nat.testBit_eq_decide_div_mod_eq] at hx hy
 have hx':=of_decide_eq_false hx
 have hy':=of_decide_eq_true hy
 rw[Nat.pow_succ,← Nat.div_div_eq_div_mul,← Nat.div_div_eq_div_mul] at e
 have lt:x / 2 ^ i<y / 2 ^ i:=by (first|lia|omega)
 refine Nat.lt_of_not_le fun hle=>?_
 have:=Nat.div_le_div_right (c:=2 ^ i) hle
 (first|lia|omega)
theorem zN1{a:Nat}(h:a≠0)(x:Nat):(min x (x ^^^ a)).testBit a.log2=false∧(min x (x ^^^ a)=x∨min x (x ^^^ a)=x ^^^ a):=by
 cases hx:x.testBit a.log2 with
 | true =>
  have h1:(x ^^^ a).testBit a.log2=false:=by rw[Nat.testBit_xor,hx,zGX h];rfl
  have h2:x ^^^ a<x:=zMM a.log2 h1 hx fun j hj=>by rw[Nat.testBit_xor,zHU hj,Bool.xor_false]
  rw[Nat.min_eq_right (by (first|lia|omega))]
  exact⟨h1,.inr rfl⟩
 | false =>
  have h1:(x ^^^ a).testBit a.log2=true:=by rw[Nat.testBit_xor,hx,zGX h];rfl
  have h2:x<x ^^^ a:=zMM a.log2 hx h1 fun j hj=>by rw[Nat.testBit_xor,zHU hj,Bool.xor_false]
  rw[Nat.min_eq_left (by (first|lia|omega))]
  exact⟨hx,.inl rfl⟩
theorem zGY:∀ {free:List Nat} (x:Nat),gdB free→spn free (x ^^^ red free x)∧∀ b∈free,(red free x).testBit b.log2=false
 | [],x,_=>⟨by show x ^^^ x=0;exact Nat.xor_self x,fun b hb=>nomatch hb⟩
 | a::l,x,⟨h1,h2⟩=>by
  have h1':=List.pairwise_cons.mp h1
  have ha:=h2 a List.mem_cons_self
  obtain⟨m1,m2⟩:=zN1 ha x
  obtain⟨i1,i2⟩:=zGY (free:=l) (min x (x ^^^ a)) ⟨h1'.2,fun b hb=>h2 b (List.mem_cons_of_mem _ hb)⟩
  have e:red (a::l) x=red l (min x (x ^^^ a)):=rfl
  rw[e]
  refine⟨?_,fun b hb=>?_⟩
  ·rcases m2 with m | m
   ·rw[m] at i1 ⊢;exact .inl i1
   ·rw[m] at i1 ⊢
    refine .inr ?_
    rwa [xr] at i1
  ·rcases List.mem_cons.mp hb with rfl | hb
   ·have:=zEY h1'.1 i1
    rw[Nat.testBit_xor,m1,Bool.false_xor] at this
    exact this
   ·exact i2 b hb
theorem zHV:∀ {free:List Nat} {y:Nat},gdB free→spn free y→(∀ b∈free,y.testBit b.log2=false)→y=0
 | [],y,_,h,_=>h
 | a::l,y,⟨h1,h2⟩,h,hb=>by
  have h1':=List.pairwise_cons.mp h1
  rcases h with h | h
  ·exact zHV ⟨h1'.2,fun b hb=>h2 b (List.mem_cons_of_mem _ hb)⟩ h fun b hb'=>hb b (List.mem_cons_of_mem _ hb')
  ·exfalso
   have:=zEY h1'.1 h
   rw[Nat.testBit_xor,hb a List.mem_cons_self,zGX (h2 a List.mem_cons_self)] at this
   cases this
theorem zDS{free:List Nat}{x:Nat}(h:gdB free):red free x=0↔spn free x:=by
 obtain⟨h1,h2⟩:=zGY x h
 constructor
 ·intro e
  rw[e,Nat.xor_zero] at h1;exact h1
 ·intro hx
  refine zHV h ?_ h2
  have:=zBz hx h1
  rwa [← Nat.xor_assoc,Nat.xor_self,Nat.zero_xor] at this
noncomputable def zAo(free:List Nat)(row:Nat):List Nat:=if red free row≠0 then free++[red free row] else free
theorem zN2{free:List Nat}{row:Nat}(h:gdB free):gdB (zAo free row):=by
 unfold zAo
 split
 ·rename_i hz
  obtain⟨h1,h2⟩:=zGY row h
  refine⟨List.pairwise_append.mpr ⟨h.1,List.pairwise_singleton _ _,fun a ha b hb=>?_⟩,fun b hb=>?_⟩
  ·rw[List.mem_singleton.mp hb];exact h2 a ha
  ·rcases List.mem_append.mp hb with hb | hb
   ·exact h.2 b hb
   ·rw[List.mem_singleton.mp hb];exact hz
 ·exact h
noncomputable def zAh(st:List Nat×Nat)(row:Nat):List Nat×Nat:=if row∈st.1 then st else (st.1++st.1.map (row ^^^ ·),st.2+1)
theorem zE4:∀(rows:List Nat) (free:List Nat) (st:List Nat×Nat),gdB free→(∀ x,x∈st.1↔spn free x)→st.2=free.length→(rows.foldl zAo free).length=(rows.foldl zAh st).2
 | [],free,st,_,_,h=>h.symm
 | row::rows,free,st,hg,hm,hl=>by
  rw[List.foldl_cons,List.foldl_cons]
  refine zE4 rows _ _ (zN2 hg) (fun x=>?_) ?_
  ·unfold zAo zAh
   by_cases hz:red free row=0
   ·rw[if_neg (show ¬ red free row≠0 from fun z=>z hz),if_pos ((hm row).mpr ((zDS hg).mp hz))]
    exact hm x
   ·rw[if_pos hz,if_neg fun z=>hz ((zDS hg).mpr ((hm row).mp z))]
    obtain⟨h1,u0⟩:=zGY row hg
    rw[zE3,List.mem_append,hm x,List.mem_map]
    constructor
    ·rintro(h | ⟨y,hy,rfl⟩)
     ·exact .inl h
     ·refine .inr ?_
      have:=zBz ((hm y).mp hy) h1
      rwa [show y ^^^ (row ^^^ red free row)=row ^^^ y ^^^ red free row by rw[← Nat.xor_assoc,Nat.xor_comm y row]] at this
    ·rintro(h | h)
     ·exact .inl h
     ·refine .inr ⟨x ^^^ row,(hm _).mpr ?_,by rw[Nat.xor_comm x row,← Nat.xor_assoc,Nat.xor_self,Nat.zero_xor]⟩
      have:=zBz h h1
      rwa [show x ^^^ red free row ^^^ (row ^^^ red free row)=x ^^^ row by rw[← Nat.xor_assoc,xr x _ row,xc]] at this
  ·unfold zAo zAh
   by_cases hz:red free row=0
   ·rw[if_neg (show ¬ red free row≠0 from fun z=>z hz),if_pos ((hm row).mpr ((zDS hg).mp hz))]
    exact hl
   ·rw[if_pos hz,if_neg fun z=>hz ((zDS hg).mpr ((hm row).mp z)),List.length_append]
    simp[hl]
theorem zKT(rows:List Nat):(rows.foldl zAo []).length=(rows.foldl zAh ([0],0)).2 :=
 zE4 rows [] ([0],0) ⟨.nil,fun b hb=>nomatch hb⟩ (fun x=>by simp[spn]) rfl
end K
namespace K
open PySem PySem.Spec PyProof.Rows L2 L3
theorem snoc_ind{P:List Nat→Prop}(nil:P [])(append_singleton:∀ l o,P l→P (l++[o]))(l:List Nat):P l:=by
 rw[← List.reverse_reverse l]
 induction l.reverse with
 | nil=>exact nil
 | cons a r ih=>rw[List.reverse_cons];exact append_singleton _ _ ih
noncomputable def zFV(l:List Nat):Nat:=(l.map fun o=>2 ^ o).sum
theorem zN3:∀(l:List Nat) (m:Nat),l.Pairwise (·<·)→(∀ x∈l,x<m)→zFV l<2 ^ m:=by
 intro l
 induction l using snoc_ind with
 | nil=>intro m u0 u0;exact Nat.two_pow_pos m
 | append_singleton l o ih =>
  intro m hp hm
  have hp':=List.pairwise_append.mp hp
  have h1:=ih o hp'.1 fun x hx=>hp'.2.2 x hx o (by simp)
  have ho:=hm o (by simp)
  have h2:2 ^ (o+1)≤2 ^ m:=Nat.pow_le_pow_right (by (first|lia|omega)) ho
  unfold zFV at *
  rw[List.map_append,List.sum_append]
  simp only[List.map_cons,List.map_nil,List.sum_cons,List.sum_nil]
  rw[Nat.pow_succ] at h2
  (first|lia|omega)
theorem zHW:∀(l:List Nat),l.Pairwise (·<·)→∀ i,(zFV l).testBit i=decide (i∈l):=by
 intro l
 induction l using snoc_ind with
 | nil=>intro u0 i;simp[zFV]
 | append_singleton l o ih =>
  intro hp i
  have hp':=List.pairwise_append.mp hp
  have hl:=zN3 l o hp'.1 fun x hx=>hp'.2.2 x hx o (by simp)
  have h1:=ih hp'.1 i
  have e:zFV (l++[o])=2 ^ o*1+zFV l:=by
   unfold zFV
   rw[List.map_append,List.sum_append]
   simp;(first|lia|omega)
  rw[e,Nat.testBit_two_pow_mul_add _ hl]
  by_cases hi:i<o
  ·rw[if_pos hi,h1]
   have:i≠o:=by (first|lia|omega)
   simp[this]
  ·rw[if_neg hi]
   have hni:i∉l:=fun z=>by have:=hp'.2.2 i z o (by simp);(first|lia|omega)
   by_cases hio:i=o
   ·subst hio;simp
   ·obtain⟨j,hj⟩:∃ j,i-o=j+1:=⟨i-o-1,by (first|lia|omega)⟩
    rw[hj,Nat.testBit_succ]
    simp[hni,hio]
noncomputable def oth(n:Nat)(ps:List Nat):List Nat:=(List.range n).filter fun x=>!decide (x∈ps)
theorem zDT(n:Nat)(ps:List Nat):(oth n ps).Pairwise (·<·):=List.pairwise_lt_range.sublist List.filter_sublist
theorem zC5{n:Nat}{ps:List Nat}{x:Nat}(h:x∈oth n ps):x<n:=List.mem_range.mp (List.mem_filter.mp h).1
theorem zJL(n:Nat)(ps:List Nat):(oth n ps).length≤n:=by
 have:=List.length_filter_le (fun x=>!decide (x∈ps)) (List.range n)
 rw[List.length_range] at this;exact this
theorem zGZ{σ:S2}{G:Gp}{i:Nat}{t:zo}{n:Nat}{ps:List Nat}{q:Nat×Nat→Bool}(h0:look σ 0=some (zO n q))(ht:∀ k:Nat,ze t (σ++[nD k].map some) G (uD ps))(hk:∀ k:Nat,look (σ++[nD k].map some) i=some (nD k))(hn:n≤1000):PuL (zf (iR1 (zA (zP zi (zB 0) (xC (.int 0))) zI)) wy (xB (zP (fIn true) (zB i) t)) (zB i)) σ G ((oth n ps).map nD):=by
 have c:=wa (σ:=σ) (G:=G) (bd:=wy) (tc:=(xB (zP (fIn true) (zB i) t))) (te:=zB i) (fun d=>match d with | .int v=>!decide (v.toNat∈ps) | _=>false) (fun d=>d) (fun d=>[d])
  (show PuI (iR1 (zA (zP zi (zB 0) (xC (.int 0))) zI)) _ _ ((List.range n).map nD) by
   rw[← zAD]
   exact zBX (zF (yu (zE h0)) zM) (by (first|lia|omega))) fun x hx=>by
  obtain⟨k,hk',rfl⟩:=List.mem_map.mp hx
  refine⟨rfl,wK (zEs (zE (hk k)) (ht k) rfl (zDN ps) ?_),fun u0=>zE (hk k)⟩
  rw[if_pos rfl,zLk];rfl
 have e:List.map (fun d=>d) (List.filter (fun d=>match d with | .int v=>!decide (v.toNat∈ps) | _=>false) ((List.range n).map nD))=(oth n ps).map nD:=by
  rw[List.map_id',List.filter_map];rfl
 rw[e] at c
 exact c
noncomputable def yL:Sp2:=fun ds G R=>∃(n:Nat) (q:Nat×Nat→Bool) (ps:List Nat),ds=[zO n q,uD ps]∧n≤100∧R (uD (oth n ps)) G
noncomputable def zAr:yi:=(zu (zb zn (zf (iR1 (zA (zP zi (zB 0) (xC (.int 0))) zI)) wy (xB (zP (fIn true) (zB 2) (zB 1))) (zB 2))))
theorem zGa(ds:List D)(G:Gp)(R:Q2)(h:yL ds G R):ds.length=2∧zAr (zd R) (zS ["web","places"] ds) G:=by
 obtain⟨n,q,ps,rfl,hn,h⟩:=h
 refine⟨rfl,?_⟩
 unfold zAr
 exact zAn (zBV (zGZ (σ:=zS ["web","places"] [zO n q,uD ps]) (n:=n) (q:=q) rfl (fun k=>zE rfl) (fun k=>rfl) (by (first|lia|omega)))) (.of h)
noncomputable def mask(q:Nat×Nat→Bool)(i:Nat)(os:List Nat):Nat:=zFV (os.filter (adj q i))
noncomputable def wq:Sp2:=fun ds G R=>∃(n:Nat) (q:Nat×Nat→Bool) (i:Nat) (os:List Nat),ds=[zO n q,nD i,uD os]∧i<n∧(∀ x∈os,x<n)∧n≤9∧os.length≤50∧R (nD (mask q i os)) G
noncomputable def zDU:yi:=(zu (zb zME (zf (iV (zB 2)) wy (xB (zK wT (zA (zB 0) (zA (zB 1) (zA (zB 3) zI))))) (zP (wF zEa fun i j=>.int (i*2 ^ j.toNat)) (xC (.int 1)) (zB 3)))))
theorem zMN(l:List Nat):(l.map fun(x:Nat)=>(x:Int)).sum=((l.sum:Nat):Int):=by
 induction l with
 | nil=>rfl
 | cons a r ih=>rw[List.map_cons,List.sum_cons,ih,List.sum_cons];(first|lia|omega)
theorem zMO(ds:List D)(G:Gp)(R:Q2)(h:wq ds G R):ds.length=3∧zDU (zd R) (zS ["web","place","others"] ds) G:=by
 obtain⟨n,q,i,os,rfl,hi,ho,hn,hl,h⟩:=h
 refine⟨rfl,?_⟩
 unfold zDU
 have c:=wa (σ:=zS ["web","place","others"] [zO n q,nD i,uD os]) (G:=G) (bd:=wy) (tc:=(xB (zK wT (zA (zB 0) (zA (zB 1) (zA (zB 3) zI)))))) (te:=(zP (wF zEa fun i j=>.int (i*2 ^ j.toNat)) (xC (.int 1)) (zB 3))) (fun d=>match d with | .int v=>adj q i v.toNat | _=>false) (fun d=>match d with | .int v=>nD (2 ^ v.toNat) | _=>.non) (fun d=>[d]) (zAQ (zE (i:=2) (d:=uD os) rfl)) fun x hx=>by
  obtain⟨k,hk,rfl⟩:=List.mem_map.mp hx
  refine⟨rfl,wK (zY (zF (zE (d:=zO n q) rfl) (zF (zE (d:=nD i) rfl) (zF (zE (d:=nD k) rfl) zM))) fun u0 u0 u0 q'=>⟨n,q,i,k,rfl,hi,ho k hk,q'⟩),fun u0=>wp (x:=.int 1) (y:=nD k) yU (zE rfl) fun u0 u0 u0 q'=>⟨⟨by (first|lia|omega),by have:=ho k hk;(first|lia|omega),by decide⟩,?_⟩⟩
  dsimp only
  have:(1:Int)*2 ^ ((k:Int)).toNat=((2 ^ k:Nat):Int):=by simp
  rw[this]
  exact q'
 have e:List.map (fun d=>match d with | .int v=>nD (2 ^ v.toNat) | _=>.non) (List.filter (fun d=>match d with | .int v=>adj q i v.toNat | _=>false) (os.map nD))=(((os.filter (adj q i)).map fun o=>2 ^ o).map fun(x:Nat)=>(x:Int)).map D.int:=by
  rw[List.filter_map,List.map_map,List.map_map,List.map_map];rfl
 rw[e] at c
 have s:ze (zb zME (zf (iV (zB 2)) wy (xB (zK wT (zA (zB 0) (zA (zB 1) (zA (zB 3) zI))))) (zP (wF zEa fun i j=>.int (i*2 ^ j.toNat)) (xC (.int 1)) (zB 3)))) (zS ["web","place","others"] [zO n q,nD i,uD os]) G (nD (mask q i os)):=fun G2 e2 R' q'=>c G2 e2 _ ⟨_,rfl,by
   have:=List.length_filter_le (adj q i) os
   simp only[List.length_map];(first|lia|omega),fun a ha=>by
   obtain⟨b,hb,rfl⟩:=List.mem_map.mp ha
   obtain⟨o,ho',rfl⟩:=List.mem_map.mp hb
   have:=ho o (List.mem_filter.mp ho').1
   have h2:2 ^ o≤2 ^ 9:=Nat.pow_le_pow_right (by (first|lia|omega)) (by (first|lia|omega))
   generalize 2 ^ o=z at h2 ⊢
   (first|lia|omega),by rw[zMN];exact q'⟩
 exact zAn s (.of h)
noncomputable def rk(n:Nat)(q:Nat×Nat→Bool)(ps:List Nat):List Nat:=(ps.map fun i=>mask q i (oth n ps)).foldl zAo []
noncomputable def wt:Sp2:=fun ds G R=>∃(n:Nat) (q:Nat×Nat→Bool) (ps:List Nat),ds=[zO n q,uD ps]∧n≤9∧(∀ x∈ps,x<n)∧ps.length≤50∧R (nD (rk n q ps).length) G
noncomputable def zB0:yi:=(zX (zv (zK yL (zA (zB 0) (zA (zB 1) zI))) (gN 2)) (zX (zv (yA (wS zI)) (gN 3)) (zX (wV (iV (zB 1)) (gN 4) (zX (zv (zK wq (zA (zB 0) (zA (zB 4) (zA (zB 2) zI)))) (gN 5)) (zX (wV (iV (zB 3)) (gN 6) (zv (zK ye (zA (zB 5) (zA (zP (ya fun i j=>.int (Builtin.bitXor i j)) (zB 5) (zB 6)) zI))) (gN 5))) (xIf (xB (zP (fEq true) (zB 5) (xC (.int 0)))) (yk (zEm (zB 3) (zA (zB 5) zI))) yH)))) (zu (zK yR (zA (zB 3) zI))))))
theorem zKU(free:List Nat)(row:Nat):(zAo free row).length≤free.length+1:=by
 unfold zAo
 split<;>simp
theorem zFz:∀(rows free:List Nat),(rows.foldl zAo free).length≤free.length+rows.length
 | [],free=>by simp
 | r::rows,free=>by
  rw[List.foldl_cons,List.length_cons]
  have:=zFz rows (zAo free r)
  have:=zKU free r
  (first|lia|omega)
theorem zJM{σ:S2}{G:Gp}{t u:zo}{a b:Nat}(h:ze t σ G (nD a))(h':ze u σ G (nD b)):ze (zK ye (zA t (zA u zI))) σ G (nD (min a b)):=by
 have a3:ze (zK ye (zA t (zA u zI))) σ G (.int (if (b:Int)<(a:Int) then (b:Int) else (a:Int))):=zY (zF h (zF h' zM)) fun u0 u0 u0 q=>q
 have e:(if (b:Int)<(a:Int) then (b:Int) else (a:Int))=((min a b:Nat):Int):=by split<;>(first|lia|omega)
 rw[e] at a3
 exact a3
theorem zN4{σ:S2}{G:Gp}{t u:zo}{a b:Nat}(h:ze t σ G (nD a))(h':ze u σ G (nD b)):ze (zP (ya fun i j=>.int (Builtin.bitXor i j)) t u) σ G (nD (a ^^^ b)):=by
 have:=zBU (g:=fun i j=>.int (Builtin.bitXor i j)) h h'
 rw[zIV] at this
 exact this
theorem zIW(ds:List D)(G:Gp)(R:Q2)(h:wt ds G R):ds.length=2∧zB0 (zd R) (zS ["web","places","others","free","place","rest","row"] ds) G:=by
 obtain⟨n,q,ps,rfl,hn,hm,hl,h⟩:=h
 refine⟨rfl,?_⟩
 unfold zB0
 rw[show zS ["web","places","others","free","place","rest","row"] [zO n q,uD ps]=[some (zO n q),some (uD ps),none,none,none,none,none] from rfl]
 refine wU (d:=uD (oth n ps)) (zY (zF (zE rfl) (zF (zE rfl) zM)) fun u0 u0 u0 q'=>⟨n,q,ps,rfl,by (first|lia|omega),q'⟩) ?_
 simp only[gN,List.set_cons_succ,List.set_cons_zero]
 refine wZ (zAL (ds:=[]) (fun G2 e R q=>zG9 (zD5 ⟨by rw[sizeLine_eq];simp,q⟩)) fun f hf=>?_)
 simp only[gN,List.set_cons_succ,List.set_cons_zero]
 have hol:=zJL n ps
 refine zA5 (zPg (ds:=ps.map nD) (zE rfl) (zAa (fun k G'=>G'.m f=some ((((ps.take k).map fun i=>mask q i (oth n ps)).foldl zAo []).map nD)∧L3.Sub G G') ⟨by simpa using zH,.new hf⟩ (fun u0 u0 u0=>trivial) ?_ ?_))
 ·rintro k x hx G2 ⟨h1,h2⟩
  obtain⟨i,hi,rfl⟩:=zAZ hx
  have hin:=hm i (List.mem_of_getElem? hi)
  have hkl:k<ps.length:=(List.getElem?_eq_some_iff.mp hi).1
  simp only[gN,List.set_cons_succ,List.set_cons_zero]
  rw[yl hi,List.map_append,List.foldl_append]
  simp only[List.map_cons,List.map_nil,List.foldl_cons,List.foldl_nil]
  have hfl:(((ps.take k).map fun i=>mask q i (oth n ps)).foldl zAo []).length≤50:=by
   have:=zFz ((ps.take k).map fun i=>mask q i (oth n ps)) []
   rw[List.length_map,List.length_take] at this
   simp only[List.length_nil] at this
   (first|lia|omega)
  generalize ((ps.take k).map fun i=>mask q i (oth n ps)).foldl zAo []=free at h1 hfl
  refine wU (d:=nD (mask q i (oth n ps))) (zY (zF (zE rfl) (zF (zE rfl) (zF (zE rfl) zM))) fun u0 u0 u0 q'=>⟨n,q,i,oth n ps,rfl,hin,fun x hx=>zC5 hx,hn,by (first|lia|omega),q'⟩) ?_
  simp only[gN,List.set_cons_succ,List.set_cons_zero]
  generalize mask q i (oth n ps)=row
  refine zA5 (show iV _ _ _ _ from(zE (i:=3) (d:=.adr f) rfl) _ (.refl _) _ ⟨free.map nD,.inl h1,⟨fun j σ' G'=>σ'=[some (zO n q),some (uD ps),some (uD (oth n ps)),some (.adr f),some (nD i),some (nD (red (free.take j) row)),none]∧G'=G2,⟨rfl,rfl⟩,?_,?_,?_⟩⟩)
  ·rintro j σ' G' u0 ⟨u0,rfl⟩
   exact .inl h1
  ·rintro j x σ' G' hx ⟨rfl,rfl⟩
   obtain⟨b,hb,rfl⟩:=zAZ hx
   simp only[gN,List.set_cons_succ,List.set_cons_zero]
   refine zQ1 (zJM (zE rfl) (zN4 (zE rfl) (zE rfl))) ?_
   simp only[gN,List.set_cons_succ,List.set_cons_zero]
   refine⟨_,_,.keep (.keep (.keep (.keep (.keep (.keep (.skip .nil)))))),.refl _,?_,rfl⟩
   rw[yl hb]
   unfold red
   rw[List.foldl_append];rfl
  ·rintro σ' G' ⟨rfl,rfl⟩
   rw[List.length_map,List.take_length]
   have t:PuT (xB (zP (fEq true) (zB 5) (xC (.int 0)))) [some (zO n q),some (uD ps),some (uD (oth n ps)),some (.adr f),some (nD i),some (nD (red free row)),none] G' (!decide (red free row=0)):=wK (zCt (x:=nD (red free row)) (y:=nD 0) (zE rfl) yU rfl rfl (by rw[if_pos rfl,zC4]))
   by_cases hz:red free row=0
   ·rw[decide_eq_true hz] at t
    dsimp only
    refine zB6 t ⟨.keep (.keep (.keep (.keep (.skip (.skip (.skip .nil)))))),G',.refl _,?_,h2⟩
    unfold zAo
    rw[if_neg (fun z=>z hz)]
    exact h1
   ·rw[decide_eq_false hz] at t
    dsimp only
    refine zC2 t (zPw (zCU (d:=nD (red free row)) rfl h1 (fun Q q'=>zF (zE rfl) zM _ (.refl _) _ q') (by rw[List.length_map];(first|lia|omega)) ?_))
    refine⟨.keep (.keep (.keep (.keep (.skip (.skip (.skip .nil)))))),_,.refl _,?_,h2.put hf⟩
    unfold zAo
    rw[if_pos hz,zH]
    simp
 ·rintro G2 ⟨h1,h2⟩
  rw[List.length_map,List.take_length] at h1
  dsimp only
  exact zAn (d:=nD (rk n q ps).length) (zY (zF (zE (i:=3) (d:=.adr f) rfl) zM) fun u0 e u0 q'=>⟨_,e.ls (.inl h1),by rw[List.length_map];exact q'⟩) ⟨G,h2,h⟩
noncomputable def zCl(n:Nat)(q:Nat×Nat→Bool)(ps:List Nat):Bool:=decide (2≤ps.length)&&decide (ps.length+2≤n)&&decide ((rk n q ps).length≤1)
noncomputable def yv:Sp2:=fun ds G R=>∃(n:Nat) (q:Nat×Nat→Bool) (ps:List Nat),ds=[zO n q,uD ps]∧n≤9∧(∀ x∈ps,x<n)∧ps.length≤50∧ps.Pairwise (·<·)∧R (.bl (zCl n q ps)) G
noncomputable def zB1:yi:=(zX (xIf (zB9 (wn (xB (zK wH (zA (zP zi (zB 0) (xC (.int 0))) (zA (zB 1) zI))))) (wn (xB (zK wI (zA (zB 1) zI))))) (zu (xC (.bl false))) yH) (zu (zDn (zBI (ya fun i j=>.bl (decide (i≤j))) (ya fun i j=>.bl (decide (i≤j))) (xC (.int 2)) (zK yR (zA (zB 1) zI)) (zP (ya fun i j=>.int (i-j)) (zP zi (zB 0) (xC (.int 0))) (xC (.int 2)))) (zP (ya fun i j=>.bl (decide (i≤j))) (zK wt (zA (zB 0) (zA (zB 1) zI))) (xC (.int 1))))))
theorem zIX(ds:List D)(G:Gp)(R:Q2)(h:yv ds G R):ds.length=2∧zB1 (zd R) (zS ["web","places"] ds) G:=by
 obtain⟨n,q,ps,rfl,hn,hm,hl,hr,h⟩:=h
 refine⟨rfl,?_⟩
 unfold zB1
 rw[show zS ["web","places"] [zO n q,uD ps]=[some (zO n q),some (uD ps)] from rfl]
 have c1:ze (zK wH (zA (zP zi (zB 0) (xC (.int 0))) (zA (zB 1) zI))) [some (zO n q),some (uD ps)] G (.bl true):=zY (zF (yu (zE rfl)) (zF (zE (d:=uD ps) rfl) zM)) fun u0 u0 u0 q'=>⟨n,_,rfl,.inl ⟨ps,⟨rfl,hm,by (first|lia|omega)⟩,q'⟩⟩
 have c2:ze (zK wI (zA (zB 1) zI)) [some (zO n q),some (uD ps)] G (.bl true):=zY (zF (zE (d:=uD ps) rfl) zM) fun u0 u0 u0 q'=>⟨ps,rfl,by (first|lia|omega),by rw[(zMK ps).mpr hr];exact q'⟩
 refine zBZ (zLo (zBH (b:=true) (wK c1)) (zBH (b:=true) (wK c2))) ?_
 have a1:=zDu (f:=fun i j=>decide (i≤j)) (g:=fun i j=>decide (i≤j)) (yU (σ:=[some (zO n q),some (uD ps)]) (G:=G) (d:=.int 2)) (zAb (ps:=ps) (zE (i:=1) rfl)) (zBU (g:=fun i j=>.int (i-j)) (yu (n:=n) (q:=q) (zE (i:=0) rfl)) (yU (d:=.int 2)))
 have a2:ze (zP (ya fun i j=>.bl (decide (i≤j))) (zK wt (zA (zB 0) (zA (zB 1) zI))) (xC (.int 1))) [some (zO n q),some (uD ps)] G (.bl (decide (((rk n q ps).length:Int)≤1))):=zBU (g:=fun i j=>.bl (decide (i≤j))) (zY (d:=nD (rk n q ps).length) (zF (zE rfl) (zF (zE rfl) zM)) fun u0 u0 u0 q'=>⟨n,q,ps,rfl,hn,hm,hl,q'⟩) (yU (d:=.int 1))
 have:=zDR a1 fun u0=>a2
 have e:((decide ((2:Int)≤(ps.length:Int))&&decide ((ps.length:Int)≤(n:Int)-2))&&decide (((rk n q ps).length:Int)≤1))=zCl n q ps:=by
  unfold zCl
  rw[Bool.eq_iff_iff]
  simp only[Bool.and_eq_true,decide_eq_true_eq]
  (first|lia|omega)
 rw[e] at this
 exact zAn this (.of h)
noncomputable def wP(os:List Nat)(m:Nat):List Nat:=os.map fun o=>if m.testBit o then 1 else 0
noncomputable def within(os:List Nat)(m:Nat):Prop:=∀ i,m.testBit i=true→i∈os
theorem zMP{os:List Nat}{m m':Nat}(h:within os m)(h':within os m')(e:wP os m=wP os m'):m=m':=by
 refine Nat.eq_of_testBit_eq fun i=>?_
 by_cases hi:i∈os
 ·have:=List.map_inj_left.mp e i hi
  cases q:m.testBit i<;>cases q':m'.testBit i<;>simp_all
 ·cases q:m.testBit i with
  | true=>exact absurd (h i q) hi
  | false =>
   cases q':m'.testBit i with
   | true=>exact absurd (h' i q') hi
   | false=>rfl
theorem zIY{os:List Nat}{m m':Nat}(h:within os m)(h':within os m'):within os (m ^^^ m'):=fun i hi=>by
 rw[Nat.testBit_xor] at hi
 cases q:m.testBit i with
 | true=>exact h i q
 | false =>
  rw[q,Bool.false_xor] at hi
  exact h' i hi
theorem zHX(os:List Nat):within os 0:=fun i hi=>by rw[Nat.zero_testBit] at hi;cases hi
theorem zD7{q:Nat×Nat→Bool}{i:Nat}{os:List Nat}(hp:os.Pairwise (·<·)):within os (mask q i os):=fun j hj=>by
 unfold mask at hj
 rw[zHW _ (hp.sublist List.filter_sublist)] at hj
 exact(List.mem_filter.mp (of_decide_eq_true hj)).1
theorem zKV{q:Nat×Nat→Bool}{i:Nat}{os:List Nat}(hp:os.Pairwise (·<·)):wP os (mask q i os)=os.map fun o=>if adj q i o then 1 else 0:=by
 unfold wP mask
 refine List.map_congr_left fun o ho=>?_
 rw[zHW _ (hp.sublist List.filter_sublist)]
 cases h:adj q i o with
 | true=>simp[ho,h]
 | false=>simp[h]
theorem zMQ(os:List Nat)(a b:Nat):((wP os a).zip (wP os b)).map (fun p=>(p.1+p.2)%2)=wP os (a ^^^ b):=by
 unfold wP
 rw[List.zip_map',List.map_map]
 refine List.map_congr_left fun o u0=>?_
 simp only[Function.comp,Nat.testBit_xor]
 cases a.testBit o<;>cases b.testBit o<;>rfl
theorem zGb{os:List Nat}{st:List Nat×Nat}{row:Nat}(h:∀ m∈st.1,within os m)(hr:within os row):∀ m∈(zAh st row).1,within os m:=by
 unfold zAh
 split
 ·exact h
 ·intro m hm
  rcases List.mem_append.mp hm with hm | hm
  ·exact h m hm
  ·obtain⟨x,hx,rfl⟩:=List.mem_map.mp hm
   exact zIY hr (h x hx)
theorem zKW(st:List Nat×Nat)(row:Nat):(zAh st row).1.length≤2*st.1.length:=by
 unfold zAh
 split
 ·(first|lia|omega)
 ·simp;(first|lia|omega)
noncomputable def zDV:yi:=(zX (zAK 2 (zf (iR1 (zA (zP zi (zB 0) (xC (.int 0))) zI)) wy (xB (zP (fIn true) (zB 7) (zB 1))) (zB 7))) (zX (zv (yA (wS (zA (zP zHS (yG (zA (xC (.int 0)) zI)) (zK yR (zA (zB 2) zI))) zI))) (gN 3)) (zX (zv (xC (.int 0)) (gN 4)) (zX (wV (iV (zB 1)) (gN 5) (zX (zv (zb zn (zf (iV (zB 2)) wy zAB (zK zDw (zA (zP (fIn false) (yG (zA (zK ye (zA (zB 5) (zA (zB 7) zI))) (zA (zK yr (zA (zB 5) (zA (zB 7) zI))) zI))) (zP zi (zB 0) (xC (.int 1)))) zI)))) (gN 6)) (xIf (xB (zP (fIn true) (zB 6) (zB 3))) (zX (zv (yA (zCo (zB 3) (yA (zf (iV (zB 3)) wy zAB (zb zn (zf (iZ (zA (zB 6) (zA (zB 7) zI))) bd2 zAB (zP (wF (fun u0 j=>0<j) fun i j=>.int (i%j)) (zP yJ (zB 8) (zB 9)) (xC (.int 2))))))))) (gN 3)) (zv (zP yJ (zB 4) (xC (.int 1))) (gN 4))) yH))) (zu (zB 4))))))
end K
namespace K
open PySem PySem.Spec PyProof.Rows L2 L3
theorem zGc{σ:S2}{G:Gp}{ta tb:zo}{R:List D→Gp→Prop}{l:Addr}(ha:ze ta σ G (.adr l))(h:tb σ G fun y G2=>match D.adr l,y with | D.adr l,D.adr m=>∃ xs ys,G2.m l=some xs∧G2.m m=some ys∧xs.length+ys.length≤1000000∧R (xs++ys) G2 | _,_=>False):zCo ta tb σ G R:=ha G (.refl G) _ h
theorem zMR{σ:S2}{G:Gp}{tc:TT2}{t u:yi}{E:yC}{b:Bool}(h:PuT tc σ G b)(hy:b=true→t { E with nx:=u E } σ G)(hn:b=false→u E σ G):zX (xIf tc t yH) u E σ G:=by
 cases b with
 | false=>exact zBZ h (hn rfl)
 | true=>exact h G (.refl G) _ (by rw[if_pos rfl];exact hy rfl)
theorem zN5{σ:S2}{G:Gp}{te:zo}{g:TG2}{E:yC}(h:te σ G fun d G1=>g d σ G1 fun σ' G'=>E.nx σ' G'):zv te g E σ G:=h
theorem zPz{σ:S2}{G:Gp}{te:zo}{g:TG2}{E:yC}{d:D}(h:ze te σ G d)(h':g d σ G fun σ' G'=>E.nx σ' G'):zv te g E σ G:=h G (.refl G) _ h'
end K
namespace K
open PySem PySem.Spec PyProof.Rows L2 L3
theorem zE5:∀ l l':List Nat,eqDs (l.map nD) (l'.map nD)=decide (l=l')
 | [],[]=>by simp[eqDs]
 | [],_::_=>by simp[eqDs]
 | _::_,[]=>by simp[eqDs]
 | a::r,b::t=>by
  simp only[List.map_cons,eqDs]
  rw[zC4,zE5 r t,Bool.eq_iff_iff]
  simp
theorem zP0(ls:List (List Nat))(x:List Nat):((ls.map uD).any fun z=>wf z (uD x))=decide (x∈ls):=by
 rw[List.any_map,Bool.eq_iff_iff]
 simp only[List.any_eq_true,Function.comp,decide_eq_true_eq]
 constructor
 ·rintro⟨y,h,e⟩
  have e':eqDs (y.map nD) (x.map nD)=true:=e
  rw[zE5] at e'
  rw[← of_decide_eq_true e'];exact h
 ·intro h
  exact⟨x,h,by show eqDs (x.map nD) (x.map nD)=true;rw[zE5];simp⟩
theorem zeros(k:Nat):(List.replicate k [D.int 0]).flatten=(List.replicate k 0).map nD:=by
 induction k with
 | zero=>rfl
 | succ k ih=>rw[List.replicate_succ,List.flatten_cons,ih,List.replicate_succ];rfl
theorem zKX(os:List Nat):wP os 0=List.replicate os.length 0:=by
 unfold wP
 induction os with
 | nil=>rfl
 | cons a r ih=>rw[List.map_cons,ih];simp[List.replicate_succ]
noncomputable def zAt:Sp2:=fun ds G R=>∃(n:Nat) (q:Nat×Nat→Bool) (ps:List Nat),ds=[zO n q,uD ps]∧n≤9∧(∀ x∈ps,x<n)∧ps.length≤9∧R (nD (rk n q ps).length) G
noncomputable def zCK(n:Nat)(q:Nat×Nat→Bool)(ps:List Nat)(k:Nat):List Nat×Nat:=((ps.take k).map fun i=>mask q i (oth n ps)).foldl zAh ([0],0)
theorem span_len(rows:List Nat):∀ st:List Nat×Nat,(rows.foldl zAh st).1.length≤2 ^ rows.length*st.1.length:=by
 induction rows with
 | nil=>intro st;simp
 | cons r rows ih =>
  intro st
  rw[List.foldl_cons,List.length_cons,Nat.pow_succ]
  have h1:=ih (zAh st r)
  have h2:=zKW st r
  calc _≤_:=h1
   _≤2 ^ rows.length*(2*st.1.length):=Nat.mul_le_mul_left _ h2
   _=_:=by rw[Nat.mul_assoc]
theorem zHY{os:List Nat}(rows:List Nat)(hr:∀ r∈rows,within os r):∀ st:List Nat×Nat,(∀ m∈st.1,within os m)→∀ m∈(rows.foldl zAh st).1,within os m:=by
 induction rows with
 | nil=>intro st h;exact h
 | cons r rows ih =>
  intro st h
  rw[List.foldl_cons]
  exact ih (fun x hx=>hr x (List.mem_cons_of_mem _ hx)) _ (zGb h (hr r (by simp)))
theorem zIZ{os:List Nat}{st:List Nat×Nat}{row:Nat}(hw:∀ m∈st.1,within os m)(hr:within os row):(wP os row∈st.1.map (wP os))↔row∈st.1:=by
 constructor
 ·intro h
  obtain⟨m,hm,e⟩:=List.mem_map.mp h
  rw[← zMP (hw m hm) hr e];exact hm
 ·exact fun h=>List.mem_map_of_mem h
theorem zMS(ds:List D)(G:Gp)(R:Q2)(h:zAt ds G R):ds.length=2∧zDV (zd R) (zS ["web","places","rest","span","found","place","row"] ds) G:=by
 obtain⟨n,q,ps,rfl,hn,hm,hl,h⟩:=h
 refine⟨rfl,?_⟩
 unfold zDV
 rw[show zS ["web","places","rest","span","found","place","row"] [zO n q,uD ps]=[some (zO n q),some (uD ps),none,none,none,none,none] from rfl]
 refine(zGZ (σ:=[some (zO n q),some (uD ps),none,none,none,none,none]) (G:=G) (i:=7) (t:=zB 1) (n:=n) (q:=q) (ps:=ps) rfl (fun k=>zE rfl) (fun k=>rfl) (by (first|lia|omega))) G (.refl _) _ fun lr hlr=>?_
 dsimp only
 simp only[gN,List.set_cons_succ,List.set_cons_zero]
 have hol:=zJL n ps
 have hor:=zDT n ps
 have hop:∀ x∈oth n ps,x<n∧x∉ps:=fun x hx=>⟨zC5 hx,by simpa using(List.mem_filter.mp hx).2⟩
 have hrk:(rk n q ps).length=(zCK n q ps ps.length).2:=by unfold rk zCK;rw[List.take_length];exact zKT _
 rw[hrk] at h
 have hspl:∀ k,k≤9→(zCK n q ps k).1.length≤512:=fun k hk=>by
  have:=span_len ((ps.take k).map fun i=>mask q i (oth n ps)) ([0],0)
  unfold zCK
  refine Nat.le_trans this ?_
  simp only[List.length_map,List.length_take,List.length_cons,List.length_nil,Nat.zero_add,Nat.mul_one]
  exact Nat.le_trans (Nat.pow_le_pow_right (by (first|lia|omega)) (show min k ps.length≤9 by (first|lia|omega))) (by decide)
 have hspw:∀ k,∀ m∈(zCK n q ps k).1,within (oth n ps) m:=fun k=>by
  unfold zCK
  refine zHY _ (fun r hr=>?_) _ (fun m hm=>?_)
  ·obtain⟨i,u0,rfl⟩:=List.mem_map.mp hr
   exact zD7 hor
  ·rw[List.mem_singleton.mp hm];exact zHX _
 have hsp0:zCK n q ps 0=([0],0):=rfl
 have hspS:∀ k i,ps[k]?=some i→zCK n q ps (k+1)=zAh (zCK n q ps k) (mask q i (oth n ps)):=fun k i hi=>by
  unfold zCK
  rw[yl hi,List.map_append,List.foldl_append];rfl
 generalize zCK n q ps=sp at hspl hspw hsp0 hspS h
 generalize oth n ps=os at *
 have mlr:(zR G lr (os.map nD)).m lr=some (os.map nD):=zH
 have sb1:L3.Sub G (zR G lr (os.map nD)):=.new hlr
 generalize zR G lr (os.map nD)=G1 at mlr sb1
 have p0:ze (zP zHS (yG (zA (xC (.int 0)) zI)) (zK yR (zA (zB 2) zI))) [some (zO n q),some (uD ps),some (.adr lr),none,none,none,none] G1 (uD (wP os 0)):=by
  have e:uD (wP os 0)=.tup (List.replicate (os.length:Int).toNat [D.int 0]).flatten:=by
   rw[zKX,zeros];rfl
  rw[e]
  exact wp (x:=.tup [.int 0]) (y:=nD os.length) (yP (zF yU zM) (by simp)) (zY (zF (zE (i:=2) (d:=.adr lr) rfl) zM) fun u0 e u0 q'=>⟨_,e.ls (.inl mlr),by rw[List.length_map];exact q'⟩) fun u0 u0 u0 q'=>⟨by simp,by (first|lia|omega),by simp;(first|lia|omega),q'⟩
 refine wZ (zAL (ds:=[uD (wP os 0)]) (fun G2 e R q=>zG9 ((zF p0 zM) G2 e _ ⟨by rw[sizeLine_eq];simp,q⟩)) fun s0 hs0=>?_)
 simp only[gN,List.set_cons_succ,List.set_cons_zero]
 refine wU yU ?_
 simp only[gN,List.set_cons_succ,List.set_cons_zero]
 have ne0:lr≠s0:=fun z=>by rw[← z,mlr] at hs0;cases hs0
 refine zA5 (zPg (ds:=ps.map nD) (zE rfl) ⟨fun k σ' G'=>∃ s,σ'=[some (zO n q),some (uD ps),some (.adr lr),some (.adr s),some (nD (sp k).2),none,none]∧G'.m s=some (((sp k).1.map (wP os)).map uD)∧G'.m lr=some (os.map nD)∧L3.Sub G G',?_,fun u0 u0 u0 u0 u0=>trivial,?_,?_⟩)
 ·exact⟨s0,by rw[hsp0];rfl,by rw[hsp0];exact zH,by rw[zQ ne0];exact mlr,sb1.trans (.new hs0)⟩
 ·rintro k x σ' G2 hx ⟨s,rfl,h1,h2,h3⟩
  obtain⟨i,hi,rfl⟩:=zAZ hx
  have hin:=hm i (List.mem_of_getElem? hi)
  have hip:=List.mem_of_getElem? hi
  have hkl:k<ps.length:=(List.getElem?_eq_some_iff.mp hi).1
  have hS:=hspS k i hi
  have hW:=hspw k
  have hL:=hspl k (by (first|lia|omega))
  simp only[gN,List.set_cons_succ,List.set_cons_zero]
  have er:=zKV (q:=q) (i:=i) hor
  have wr:=zD7 (q:=q) (i:=i) hor
  generalize mask q i os=row at er wr hS
  have pr:ze (zb zn (zf (iV (zB 2)) wy zAB (zK zDw (zA (zP (fIn false) (yG (zA (zK ye (zA (zB 5) (zA (zB 7) zI))) (zA (zK yr (zA (zB 5) (zA (zB 7) zI))) zI))) (zP zi (zB 0) (xC (.int 1)))) zI)))) [some (zO n q),some (uD ps),some (.adr lr),some (.adr s),some (nD (sp k).2),some (nD i),none] G2 (uD (wP os row)):=by
   have c:=zBn (σ:=[some (zO n q),some (uD ps),some (.adr lr),some (.adr s),some (nD (sp k).2),some (nD i),none]) (G:=G2) (bd:=wy) (te:=(zK zDw (zA (zP (fIn false) (yG (zA (zK ye (zA (zB 5) (zA (zB 7) zI))) (zA (zK yr (zA (zB 5) (zA (zB 7) zI))) zI))) (zP zi (zB 0) (xC (.int 1)))) zI))) (fun d=>match d with | .int v=>nD (if adj q i v.toNat then 1 else 0) | _=>.non) (fun d=>[d]) (zBW (zE (i:=2) (d:=.adr lr) rfl) (.inl h2)) fun x hx=>by
    obtain⟨o,ho,rfl⟩:=List.mem_map.mp hx
    refine⟨rfl,?_⟩
    have a2:ze (zK ye (zA (zB 5) (zA (zB 7) zI))) ([some (zO n q),some (uD ps),some (.adr lr),some (.adr s),some (nD (sp k).2),some (nD i),none]++[nD o].map some) G2 (nD (min i o)):=zJM (zE rfl) (zE rfl)
    have a3:ze (zK yr (zA (zB 5) (zA (zB 7) zI))) ([some (zO n q),some (uD ps),some (.adr lr),some (.adr s),some (nD (sp k).2),some (nD i),none]++[nD o].map some) G2 (nD (max i o)):=by
     have a3:ze (zK yr (zA (zB 5) (zA (zB 7) zI))) ([some (zO n q),some (uD ps),some (.adr lr),some (.adr s),some (nD (sp k).2),some (nD i),none]++[nD o].map some) G2 (.int (if (i:Int)<(o:Int) then (o:Int) else (i:Int))):=zY (zF (zE (d:=nD i) rfl) (zF (zE (d:=nD o) rfl) zM)) fun u0 u0 u0 q=>q
     have e:(if (i:Int)<(o:Int) then (o:Int) else (i:Int))=((max i o:Nat):Int):=by split<;>(first|lia|omega)
     rw[e] at a3
     exact a3
    have a1:ze (zP (fIn false) (yG (zA (zK ye (zA (zB 5) (zA (zB 7) zI))) (zA (zK yr (zA (zB 5) (zA (zB 7) zI))) zI))) (zP zi (zB 0) (xC (.int 1)))) ([some (zO n q),some (uD ps),some (.adr lr),some (.adr s),some (nD (sp k).2),some (nD i),none]++[nD o].map some) G2 (.bl (adj q i o)):=zEs (x:=zt (min i o,max i o)) (yP (zF a2 (zF a3 zM)) (by simp)) (zCr (zE rfl)) (zCI _) zDK (by
     rw[if_neg (by simp),zEP]
     exact zEQ hin (hop o ho).1)
    refine zY (zF a1 zM) fun G3 u0 R3 q'=>?_
    show R3 (D.int (if adj q i o=true then 1 else 0)) G3
    rw[show(if adj q i o=true then (1:Int) else 0)=(((if adj q i o=true then 1 else 0):Nat):Int) by split<;>rfl]
    exact q'
   have e:List.map (fun d=>match d with | .int v=>nD (if adj q i v.toNat then 1 else 0) | _=>.non) (os.map nD)=(wP os row).map nD:=by
    rw[er,List.map_map,List.map_map];rfl
   rw[e] at c
   exact zBV c
  refine wU pr ?_
  simp only[gN,List.set_cons_succ,List.set_cons_zero]
  have t:PuT (xB (zP (fIn true) (zB 6) (zB 3))) [some (zO n q),some (uD ps),some (.adr lr),some (.adr s),some (nD (sp k).2),some (nD i),some (uD (wP os row))] G2 (!decide (row∈(sp k).1)):=wK (wp (x:=uD (wP os row)) (y:=.adr s) (zE rfl) (zE rfl) fun G3 e3 R' q'=>⟨_,e3.ls (.inl h1),zFs _,fun d hd=>by
    obtain⟨b,u0,rfl⟩:=List.mem_map.mp hd
    exact zFs b,by
    rw[if_pos rfl,zP0]
    have:decide (wP os row∈(sp k).1.map (wP os))=decide (row∈(sp k).1):=decide_eq_decide.mpr (zIZ hW wr)
    rw[this]
    exact q'⟩)
  by_cases hz:row∈(sp k).1
  ·rw[decide_eq_true hz] at t
   refine zB6 t ⟨_,_,.keep (.keep (.keep (.keep (.keep (.skip (.skip .nil)))))),.refl _,s,?_,?_,h2,h3⟩
   ·rw[hS];unfold zAh;rw[if_pos hz]
   ·rw[hS];unfold zAh;rw[if_pos hz];exact h1
  ·rw[decide_eq_false hz] at t
   have c:PuL (zf (iV (zB 3)) wy zAB (zb zn (zf (iZ (zA (zB 6) (zA (zB 7) zI))) bd2 zAB (zP (wF (fun u0 j=>0<j) fun i j=>.int (i%j)) (zP yJ (zB 8) (zB 9)) (xC (.int 2)))))) [some (zO n q),some (uD ps),some (.adr lr),some (.adr s),some (nD (sp k).2),some (nD i),some (uD (wP os row))] G2 ((((sp k).1.map (row ^^^ ·)).map (wP os)).map uD):=by
    have c:=zBn (σ:=[some (zO n q),some (uD ps),some (.adr lr),some (.adr s),some (nD (sp k).2),some (nD i),some (uD (wP os row))]) (G:=G2) (bd:=wy) (te:=(zb zn (zf (iZ (zA (zB 6) (zA (zB 7) zI))) bd2 zAB (zP (wF (fun u0 j=>0<j) fun i j=>.int (i%j)) (zP yJ (zB 8) (zB 9)) (xC (.int 2)))))) (fun d=>match d with | .tup zs=>.tup (List.zipWith (fun a b=>match a,b with | .int a,.int b=>.int ((a+b)%2) | _,_=>.non) ((wP os row).map nD) zs) | _=>.non) (fun d=>[d]) (zBW (zE (i:=3) (d:=.adr s) rfl) (.inl h1)) fun x hx=>by
     obtain⟨b,hb,rfl⟩:=List.mem_map.mp hx
     refine⟨rfl,?_⟩
     have c2:=zBn (σ:=([some (zO n q),some (uD ps),some (.adr lr),some (.adr s),some (nD (sp k).2),some (nD i),some (uD (wP os row))]++[uD b].map some)) (G:=G2) (bd:=bd2) (te:=(zP (wF (fun u0 j=>0<j) fun i j=>.int (i%j)) (zP yJ (zB 8) (zB 9)) (xC (.int 2)))) (fun d=>match d with | .tup [.int a,.int b]=>.int ((a+b)%2) | _=>.non) (fun d=>match d with | .tup us=>us | _=>[]) (zLt (xs:=(wP os row).map nD) (ys:=b.map nD) (zF (zE (i:=6) (d:=uD (wP os row)) rfl) (zF (zE (i:=7) (d:=uD b) rfl) zM))) fun x hx=>by
      obtain⟨p,hp,rfl⟩:=List.mem_map.mp hx
      have hp1:=List.of_mem_zip hp
      obtain⟨u,u0,e1⟩:=List.mem_map.mp hp1.1
      obtain⟨v,u0,e2⟩:=List.mem_map.mp hp1.2
      obtain⟨p1,p2⟩:=p
      cases e1
      cases e2
      exact⟨rfl,wp (x:=.int ((u:Int)+(v:Int))) (wk (zE rfl) (zE rfl)) yU fun u0 u0 u0 q'=>⟨by show(0:Int)<2;decide,q'⟩⟩
     have e2:List.map (fun d=>match d with | .tup [.int a,.int b]=>D.int ((a+b)%2) | _=>.non) ((((wP os row).map nD).zip (b.map nD)).map fun p=>D.tup [p.1,p.2])=List.zipWith (fun a b=>match a,b with | .int a,.int b=>.int ((a+b)%2) | _,_=>.non) ((wP os row).map nD) (b.map nD):=by
      rw[List.map_map,List.zip,List.map_zipWith]
      congr 1
      funext a b
      cases a<;>cases b<;>rfl
     rw[e2] at c2
     exact zBV c2
    have e:List.map (fun d=>match d with | .tup zs=>D.tup (List.zipWith (fun a b=>match a,b with | .int a,.int b=>.int ((a+b)%2) | _,_=>.non) ((wP os row).map nD) zs) | _=>.non) (((sp k).1.map (wP os)).map uD)=(((sp k).1.map (row ^^^ ·)).map (wP os)).map uD:=by
     rw[List.map_map,List.map_map,List.map_map,List.map_map]
     refine List.map_congr_left fun m hm'=>?_
     show D.tup _=uD (wP os (row ^^^ m))
     rw[← zMQ]
     show D.tup _=D.tup _
     congr 1
     rw[List.map_map,List.zip,List.map_zipWith,List.zipWith_map]
     congr 1
    rw[e] at c
    exact c
   refine zC2 t (wZ (zHP (zGc (zE (d:=.adr s) rfl) (zAL c fun s1 hs1=>?_))))
   have n1:s≠s1:=fun z=>by rw[← z,h1] at hs1;cases hs1
   have n2:lr≠s1:=fun z=>by rw[← z,h2] at hs1;cases hs1
   refine⟨_,_,by rw[zQ n1];exact h1,zH,by simp only[List.length_map];(first|lia|omega),fun s2 hs2=>?_⟩
   have n3:lr≠s2:=fun z=>by rw[← z,zQ n2,h2] at hs2;cases hs2
   simp only[gN,List.set_cons_succ,List.set_cons_zero]
   refine zPz (d:=nD ((sp k).2+1)) (wk (i:=((sp k).2:Int)) (j:=1) (zE rfl) yU) ?_
   simp only[gN,List.set_cons_succ,List.set_cons_zero]
   refine⟨_,_,.keep (.keep (.keep (.keep (.keep (.skip (.skip .nil)))))),.refl _,s2,?_,?_,by rw[zQ n3,zQ n2];exact h2,(h3.trans (.new hs1)).trans (.new hs2)⟩
   ·rw[hS];unfold zAh;rw[if_neg hz]
   ·rw[hS];unfold zAh;rw[if_neg hz,zH]
    simp only[List.map_append]
 ·rintro σ' G2 ⟨s,rfl,h1,h2,h3⟩
  rw[List.length_map]
  dsimp only
  exact zAn (d:=nD (sp ps.length).2) (zE (i:=4) rfl) ⟨G,h3,h⟩
end K
namespace K
open PySem PySem.Spec PyProof.Rows L2 L3 HS
noncomputable def pI(p:Nat×Nat):List Int:=[(p.1:Int),(p.2:Int)]
theorem zGd(l:List (Nat×Nat)):l.map zt=(l.map pI).map tI:=by rw[List.map_map];rfl
theorem zP1{a b:Nat×Nat}(h:ltP a b):ltI (pI b) (pI a)=false:=by
 unfold ltP at h
 unfold pI
 simp only[ltI]
 split
 ·split
  ·rfl
  ·simp only[decide_eq_false_iff_not];(first|lia|omega)
 ·simp only[decide_eq_false_iff_not];(first|lia|omega)
theorem zOY{l:List (Nat×Nat)}:∀ ns∈l.map pI,ns≠[]:=fun ns h=>by
 obtain⟨p,u0,rfl⟩:=List.mem_map.mp h
 simp[pI]
theorem zHZ:∀ n,n<10→(yj n).length≤36:=by decide +kernel
theorem zBe{n:Nat}{l:List (Nat×Nat)}(nd:l.Nodup)(hp:∀ p∈l,p.1<p.2∧p.2<n)(hn:n≤9):l.length≤36 :=
 Nat.le_trans (nd.length_le_of_subset fun p h=>yZ.mpr (hp p h)) (zHZ n (by (first|lia|omega)))
theorem zE6{n:Nat}{l:List (Nat×Nat)}{m:List (List Int)}(nd:l.Nodup)(hp:∀ p∈l,p.1<p.2∧p.2<n)(pm:m.Perm (l.map pI))(hm:m.Pairwise (fun a b=>ltI b a=false)):m=((yj n).filter fun p=>decide (p∈l)).map pI:=by
 have rs:((yj n).filter fun p=>decide (p∈l)).Pairwise ltP:=(zHB n).filter _
 refine List.Perm.eq_of_pairwise (fun a b u0 u0 h1 h2=>zGS a b h2 h1) hm ?_ (pm.trans (List.Perm.map _ ?_))
 ·rw[List.pairwise_map]
  exact rs.imp zP1
 ·refine(List.perm_ext_iff_of_nodup nd ((ym n).filter _)).mpr fun p=>?_
  rw[List.mem_filter,yZ]
  constructor
  ·intro h;exact⟨hp p h,decide_eq_true h⟩
  ·rintro⟨u0,h⟩;exact of_decide_eq_true h
theorem zMT{σ:S2}{G:Gp}{tl:TL2}{n:Nat}{l:List (Nat×Nat)}(h:PuL tl σ G (l.map zt))(nd:l.Nodup)(hp:∀ p∈l,p.1<p.2∧p.2<n)(hn:n≤9):ze (zb zn (zBb tl)) σ G (.tup (((yj n).filter fun p=>decide (p∈l)).map zt)):=fun G2 e R q=>h G2 e _ (by
 refine⟨l.map pI,zGd l,by have:=zBe nd hp hn;rw[List.length_map];(first|lia|omega),zOY,fun m pm hm=>?_⟩
 rw[zE6 nd hp pm hm,← zGd]
 exact q)
theorem zCa{σ:S2}{G:Gp}{t:zo}{a:Addr}{n:Nat}{l:List (Nat×Nat)}(h:ze t σ G (.adr a))(hl:Ls G a (l.map zt))(nd:l.Nodup)(hp:∀ p∈l,p.1<p.2∧p.2<n)(hn:n≤9):ze (zb zn (zBa (zA t zI))) σ G (.tup (((yj n).filter fun p=>decide (p∈l)).map zt)):=fun G2 e R q=>h G2 e _ (by
 refine⟨l.map pI,?_,by have:=zBe nd hp hn;rw[List.length_map];(first|lia|omega),zOY,fun m pm hm=>?_⟩
 ·rw[← zGd];exact e.ls hl
 ·rw[zE6 nd hp pm hm,← zGd]
  exact q)
theorem zMU{σ:S2}{G:Gp}{t u:zo}{a b:Nat}(h:ze t σ G (nD a))(h':ze u σ G (nD b)):ze (zb zn (zA3 (wS (zA t (zA u zI))))) σ G (zt (min a b,max a b)):=by
 refine zBV (ds:=[min a b,max a b].map nD) (zJ5 (l:=[a,b]) (fun G2 e R q=>zG9 ((zF h (zF h' zM)) G2 e _ ⟨by rw[sizeLine_eq];simp,q⟩)) (by simp) ?_ ?_)
 ·by_cases hab:a≤b
  ·rw[Nat.min_eq_left hab,Nat.max_eq_right hab]
  ·rw[Nat.min_eq_right (by (first|lia|omega)),Nat.max_eq_left (by (first|lia|omega))]
   exact List.Perm.swap _ _ _
 ·simp only[List.pairwise_cons,List.mem_singleton,List.not_mem_nil,List.Pairwise.nil,and_true,false_imp_iff,implies_true]
  rintro x rfl
  (first|lia|omega)
noncomputable def yM(n:Nat)(q:Nat×Nat→Bool):List Nat:=(((yj n).filter q).filter fun p=>decide (p.2=n-1)).map Prod.fst
noncomputable def yN(n:Nat)(q:Nat×Nat→Bool):List (Nat×Nat):=((yj n).filter q).filter fun p=>!decide (p.2=n-1)
noncomputable def glF(n1:Nat)(q1:Nat×Nat→Bool)(n2:Nat)(q2:Nat×Nat→Bool):List (Nat×Nat):=(yN n1 q1++(yN n2 q2).map fun p=>(p.1+(n1-1),p.2+(n1-1)))++(yM n1 q1).flatMap fun a=>(yM n2 q2).map fun b=>(a,b+(n1-1))
theorem zDW{n:Nat}{q:Nat×Nat→Bool}{a:Nat}(h:a∈yM n q):a<n-1:=by
 obtain⟨p,hp,rfl⟩:=List.mem_map.mp h
 obtain⟨h1,h2⟩:=List.mem_filter.mp hp
 have:=yZ.mp (List.mem_filter.mp h1).1
 have:=of_decide_eq_true h2
 (first|lia|omega)
theorem zBO{n:Nat}{q:Nat×Nat→Bool}:(yM n q).Nodup:=by
 unfold yM List.Nodup
 rw[List.pairwise_map]
 have nd:(((yj n).filter q).filter fun p=>decide (p.2=n-1)).Nodup:=((ym n).filter _).filter _
 refine nd.imp_of_mem fun {a b} ha hb ne e=>ne (Prod.ext e ?_)
 have h1:=of_decide_eq_true (List.mem_filter.mp ha).2
 have h2:=of_decide_eq_true (List.mem_filter.mp hb).2
 rw[h1,h2]
theorem zBP{n:Nat}{q:Nat×Nat→Bool}{p:Nat×Nat}(h:p∈yN n q):p.1<p.2∧p.2<n-1:=by
 obtain⟨h1,h2⟩:=List.mem_filter.mp h
 have:=yZ.mp (List.mem_filter.mp h1).1
 have:p.2≠n-1:=by simpa using h2
 (first|lia|omega)
theorem zCb{n:Nat}{q:Nat×Nat→Bool}:(yM n q).length≤n:=by
 have:=(zBO (n:=n) (q:=q)).length_le_of_subset (l₂:=List.range n) fun a h=>List.mem_range.mpr (by have:=zDW h;(first|lia|omega))
 rwa [List.length_range] at this
theorem zMV{n1 n2:Nat}{q1 q2:Nat×Nat→Bool}(h1:2≤n1)(h2:2≤n2):∀ p∈glF n1 q1 n2 q2,p.1<p.2∧p.2<n1+n2-2:=by
 intro p hp
 rcases List.mem_append.mp hp with hp | hp
 ·rcases List.mem_append.mp hp with hp | hp
  ·have:=zBP hp;(first|lia|omega)
  ·obtain⟨x,hx,rfl⟩:=List.mem_map.mp hp
   have:=zBP hx
   simp only;(first|lia|omega)
 ·obtain⟨a,ha,hp⟩:=List.mem_flatMap.mp hp
  obtain⟨b,hb,rfl⟩:=List.mem_map.mp hp
  have:=zDW ha
  have:=zDW hb
  simp only;(first|lia|omega)
theorem zF0{n1 n2:Nat}{q1 q2:Nat×Nat→Bool}:(glF n1 q1 n2 q2).Nodup:=by
 unfold glF
 refine List.nodup_append.mpr ⟨List.nodup_append.mpr ⟨((ym n1).filter _).filter _,?_,?_⟩,?_,?_⟩
 ·unfold List.Nodup
  rw[List.pairwise_map]
  refine(((ym n2).filter _).filter _:(yN n2 q2).Nodup).imp fun ne e=>ne ?_
  simp only[Prod.mk.injEq] at e
  exact Prod.ext (by (first|lia|omega)) (by (first|lia|omega))
 ·rintro a ha b hb rfl
  have h1:=zBP ha
  obtain⟨x,hx,e⟩:=List.mem_map.mp hb
  have:x.2+(n1-1)=a.2:=by rw[← e]
  (first|lia|omega)
 ·unfold List.Nodup
  rw[List.pairwise_flatMap]
  refine⟨fun a ha=>?_,zBO.imp fun {a b} ne=>?_⟩
  ·rw[List.pairwise_map]
   refine(zBO (n:=n2) (q:=q2)).imp fun ne e=>ne ?_
   simp only[Prod.mk.injEq] at e
   (first|lia|omega)
  ·intro x hx y hy e
   obtain⟨u0,u0,rfl⟩:=List.mem_map.mp hx
   obtain⟨u0,u0,rfl⟩:=List.mem_map.mp hy
   simp only[Prod.mk.injEq] at e
   exact ne e.1
 ·rintro x hx y hy rfl
  obtain⟨a,ha,hp⟩:=List.mem_flatMap.mp hy
  obtain⟨b,hb,rfl⟩:=List.mem_map.mp hp
  have h1:=zDW ha
  rcases List.mem_append.mp hx with hx | hx
  ·have:=zBP hx;simp only at this;(first|lia|omega)
  ·obtain⟨z,hz,e⟩:=List.mem_map.mp hx
   simp only[Prod.mk.injEq] at e
   (first|lia|omega)
end K
namespace L2
open PySem PySem.Spec PyProof.Rows
noncomputable def Cx.compC(X:Cx)(z:Str)(N':List Str)(sc:Scope)(C:Addr)(s:Shared)(H:Hp)(fp:List Addr)(pins:List (Addr×Obj)):Cx :=
 { X with N:=N',s₀:=s,H₀:=H,env:=compEnvC sc ((z,C+1)::zAd sc X.env) C X.env,outer:=X.stack,ex:=fp,fn:=fun y=>y==z,pn:=X.pn++pins,xe:=fun u0 u0=>False }
set_option genInjectivity false in
structure zGe (X:Cx) (sc:Scope) (N0:List Str) (z:Str):Prop where
 kind:sc.kind=.function
 one:sc.names.lookup z=some .cell
 lay:∀ a acc,cellsFrom a sc.names acc=(z,a)::acc
 push:∀ h:Heap,pushCells h sc.names=h.push { cls:=.type "cell",data:=.cell none }
 rel:∀ x,((relabel sc X.env).names.lookup x=some .cell∨(relabel sc X.env).names.lookup x=some .free)→x=z∨sc.names.lookup x=some .free
 names:∀ y∈sc.names,y.2=.local→sc.names.lookup y.1=some .local
 cap:∀ y∈sc.names,y.2=.free→X.env.kindOf y.1=some .cell∨X.env.kindOf y.1=some .free
 len:N0.length=X.N.length
 vis:∀(i:Nat) (x:Str),N0[i]?=some x→Vis (relabel sc X.env) x→X.N[i]?=some x∧sc.names.lookup x=some .free
theorem zHa{M:Model}{A:Around}{E:Value→Shared→Prop}{s:Shared}{sc:Scope}{globals:Addr}{cl:List (Str×Addr)}{qual:Str}{outer:Env}{z:Str}{Q:Env→Shared→Prop}
  (hlay:∀ a acc,cellsFrom a sc.names acc=(z,a)::acc) (hpush:∀ h:Heap,pushCells h sc.names=h.push { cls:=.type "cell",data:=.cell none })
  (hQ:∀ h':Heap,h'.Ns s.heap.objs.size (fun u0=>none)→h'.IsCell (s.heap.objs.size+1) none→(∀ b o,s.heap.get? b=some o→h'.get? b=some o) →
   Q (newEnv sc s.heap.objs.size globals ((z,s.heap.objs.size+1)::cl) qual none .none (some outer) builtinsNs) { s with heap:=h' }) :
  wpAny M A (newFunctionEnv sc globals cl [] qual none .none (some outer)) Q E s:=by
 simp only[newFunctionEnv,Option.isSome_some,if_true]
 refine wpAny_bind (wpAny_alloc ?_)
 refine wpAny_bind (wpAny_layCells _ (fun name kind cells=>by cases hkc:kind==NameKind.cell<;>simp[hkc]) _ _ _ _ ?_)
 rw[hlay]
 rw[show({ s with heap:=s.heap.push { cls:=.type "dict",data:=.dict #[] } }:Shared).heap.objs.size=s.heap.objs.size+1 from Heap.size_push ..]
 refine wpAny_bind ?_
 rw[List.forIn_nil]
 refine wpAny_pure (wpAny_pure ?_)
 have hk:∀ b o,(s.heap.push { cls:=.type "dict",data:=.dict #[] }).get? b=some o→(pushCells (s.heap.push { cls:=.type "dict",data:=.dict #[] }) sc.names).get? b=some o:=fun b o e=>by
  rw[hpush];exact Heap.get?_push_of_some _ e
 refine hQ _ ((Heap.Ns.new s.heap (.type "dict")).keeps hk) ?_ fun b o e=>hk b o (Heap.get?_push_of_some _ e)
 show Heap.IsCell (pushCells _ _) _ _
 rw[hpush]
 have:=Heap.get?_push_size (s.heap.push { cls:=.type "dict",data:=.dict #[] }) (o:={ cls:=.type "cell",data:=.cell none }) rfl
 rw[Heap.size_push] at this
 exact⟨_,this,rfl⟩
section
variable {X:Cx} {z:Str} {tg elt iter:Expr} {ifs:List Expr} {sc:Scope} {pos:Pos} {N0 own:List Str} {wi:TI} {g:TG} {tc:TT} {te:TE}
theorem zHb {pins : List (Addr × Obj)} {σ : St} {s₂ : Shared} {itv : Value} {Q : VK} {E : Value → Shared → Prop} (hc : X.calm = true) (T : zGe X sc N0 z)
    (hg : ∀ C s H fp pins, PG (X.compC z (N0 ++ own) sc C s H fp pins) tg g) (ht : ∀ C s H fp pins, PTs (X.compC z (N0 ++ own) sc C s H fp pins) ifs tc) (he : ∀ C s H fp pins, PE (X.compC z (N0 ++ own) sc C s H fp pins) elt te)
    (h : PIE X pins σ tg (fun J H1 => ∀ D, H1 D = none → ∃ W : Nat → Nat → Hp → Prop, (∃ m, W 0 m (yp H1 D (.lst []))) ∧
      ∀ i m H2, W i m H2 → (J.stop i H2 ∧ Q (.ref D) H2) ∨
        (J.go i H2 ∧ ∀ x H3, J.yld i H2 x H3 → g x (σ ++ List.replicate own.length none) H3 fun σ4 H4 => σ4.take σ.length = σ ∧ σ4.length = σ.length + own.length ∧ tc σ4 H4 fun b H5 =>
          if b = true then te σ4 H5 fun v H6 => ∃ acc, H6 D = some (.lst acc) ∧ acc.length < sizeLine ∧ ∃ m', m' < m ∧ W (i + 1) m' (yp H6 D (.lst (acc ++ [v]))) else ∃ m', m' < m ∧ W (i + 1) m' H5)) itv s₂) :
    wpAny (model X.prog X.w) X.A (newList []) (fun acc s₃ => wpAny (model X.prog X.w) X.A (newFunctionEnv sc X.env.globals (zAd sc X.env) [] X.env.qual none .none (some X.env)) (fun cenv s₄ =>
      codeAny (model X.prog X.w) X.A (.compStart (.ListComp elt [⟨tg, iter, ifs, 0⟩] sc pos) 0 itv acc { cenv with scope := relabel sc X.env })
        (fun r s' => ∃ D H' m, r = .ok .next ∧ acc = .ref D ∧ zV X pins σ H' s' ∧ zB8 X pins H' cenv.locals ∧ s'.heap.Ns cenv.locals m ∧ Q (.ref D) H') s₄) E s₃) E s₂ := by
  obtain ⟨it, fp, tn, J, H1, rfl, I2, Tn, st2, f2, hR⟩ := h
  refine wpAny_newObj_type (zHa T.lay T.push fun h₁ hns₁ hcl₁ hkp₁ => ?_)
  dsimp only at hns₁ hcl₁ hkp₁ ⊢
  generalize hH2 : s₂.heap.push { cls := .type "list", dict := none, data := .seq ([] : List Value).toArray } = h3 at hns₁ hcl₁ hkp₁ ⊢
  have hC : h3.objs.size = s₂.heap.objs.size + 1 := by rw [← hH2, Heap.size_push]
  have I3 : zV X pins σ (yp H1 s₂.heap.objs.size (.lst [])) { s₂ with heap := h3 } := by
    rw [← hH2]
    exact I2.laid (t' := s₂.toks) (fun b u e => Heap.get?_push_of_some _ e) (Nat.le_refl _) ⟨by simp, [], 0, .nil, Heap.get?_push_size _ rfl⟩
  have fD : H1 s₂.heap.objs.size = none := I2.hok.fresh (Nat.le_refl _)
  obtain ⟨W, ⟨m0, w0⟩, turn⟩ := hR _ fD
  have kp : ∀ b o, h3.get? b = some o → h₁.get? b = some o := hkp₁
  have fp2 : ∀ b ∈ fp, b < s₂.heap.objs.size := fun b hb => by
    obtain ⟨o, e, _⟩ := Tn.obj _ _ st2 b hb
    exact Heap.lt_size e
  have CK0 : ∀ x c, (zAd sc X.env).lookup x = some c → X.env.cells.lookup x = some c := fun x c e => zAN e
  have CK : ∀ x c, ((z, h3.objs.size + 1) :: zAd sc X.env).lookup x = some c → (x = z ∧ c = h3.objs.size + 1) ∨ (x ≠ z ∧ X.env.cells.lookup x = some c) := fun x c e => by
    by_cases hx : x = z
    · subst hx
      simp at e
      exact .inl ⟨rfl, e.symm⟩
    · have hb : (x == z) = false := by simpa using hx
      rw [List.lookup_cons, hb] at e
      exact .inr ⟨hx, CK0 x c e⟩
  have CZ : ∀ x c, X.env.cells.lookup x = some c → c < h3.objs.size := fun x c e => by
    obtain ⟨v, q⟩ := I3.cell x c e
    exact q.lt
  have nofs : ∀ {b : Addr}, h3.objs.size ≤ b → b ∉ frs X.stack := fun {b} hb z => by
    rcases List.mem_cons.mp (I3.stkSub b z) with e | z
    · exact absurd (Nat.lt_of_lt_of_le I3.lt (show h3.objs.size ≤ X.env.locals by rw [← e]; exact hb)) (Nat.lt_irrefl _)
    · exact I3.nofs (a := b) hb z
  have fpS : ∀ b ∈ fp, b ∉ frs X.stack := fun b hb z => by
    rcases List.mem_cons.mp (I3.stkSub b z) with e | z
    · exact (f2 b hb).2.1 e
    · exact (f2 b hb).2.2.1 z
  have fpD : ∀ b ∈ fp, yp H1 s₂.heap.objs.size (.lst []) b = none := fun b hb => by rw [yF (Nat.ne_of_lt (fp2 b hb))]; exact (f2 b hb).1
  have pinS : ∀ p ∈ X.pn ++ pins, p.1 ∉ frs X.stack := fun p hp z => by
    obtain ⟨_, _, n1, n2, _⟩ := I3.pin p hp
    rcases List.mem_cons.mp (I3.stkSub p.1 z) with e | z
    · exact n1 e
    · exact n2 z
  let X' := X.compC z (N0 ++ own) sc h3.objs.size { s₂ with heap := h3 } (yp H1 s₂.heap.objs.size (.lst [])) fp pins
  have cells' : ∀ x, (X'.env.kindOf x = some .cell ∨ X'.env.kindOf x = some .free) → x = z ∨ sc.names.lookup x = some .free := fun x hx => T.rel x hx
  have hfree : ∀ y ∈ sc.names, y.2 = .free → ∃ c, X.env.cells.lookup y.1 = some c := fun y hy hf => I2.ok.has _ (T.cap y hy hf)
  have ok' : X'.Ok := by
    refine ⟨I3.ok.mod, ?_, I3.ok.glob, I3.ok.blt, Nat.le_refl _, fun x y c e1 e2 => ?_, fun x hx => ?_, fun x c hz e => ?_, I3.ok.hd, I3.ok.frames, .inl rfl, fun b hb => ⟨?_, fun x c e => ?_⟩, I3.bs, Nat.le_trans I3.ok.bsz I3.sz, fun b o e hb => ?_, fpS, I3.stack, I3.stkFree, I3.tabs⟩
    · exact T.kind
    · rcases CK _ _ e1 with ⟨q1, q2⟩ | ⟨q1, q2⟩ <;> rcases CK _ _ e2 with ⟨q3, q4⟩ | ⟨q3, q4⟩
      · rw [q1, q3]
      · have w := CZ _ _ q4; rw [q2] at w; exact absurd w (Nat.not_lt_of_le (Nat.le_succ _))
      · have w := CZ _ _ q2; rw [q4] at w; exact absurd w (Nat.not_lt_of_le (Nat.le_succ _))
      · exact I3.ok.inj x y c q2 q4
    · rcases cells' x hx with rfl | hx'
      · exact ⟨_, List.lookup_cons_self⟩
      · by_cases hz : x = z
        · subst hz; exact ⟨_, List.lookup_cons_self⟩
        · obtain ⟨c, hc⟩ := zBT (env := X.env) (ns := sc.names) (cs := []) (x := x) hfree (.inr (PySem.mem_of_lookup hx'))
          refine ⟨c, ?_⟩
          show ((z, h3.objs.size + 1) :: zAd sc X.env).lookup x = some c
          have hb : (x == z) = false := by simpa using hz
          rw [List.lookup_cons, hb]; exact hc
    · rcases CK _ _ e with ⟨_, q⟩ | ⟨q, _⟩
      · rw [q]; exact Nat.le_succ _
      · have : (x == z) = true := hz
        exact absurd (by simpa using this) q
    · exact Nat.ne_of_lt (Nat.lt_of_lt_of_le (fp2 b hb) (by show s₂.heap.objs.size ≤ h3.objs.size; rw [hC]; exact Nat.le_succ _))
    · rcases CK _ _ e with ⟨_, q⟩ | ⟨_, q⟩
      · intro w; rw [q] at w; have w2 := fp2 b hb; rw [← w, hC] at w2; exact absurd w2 (Nat.not_lt_of_le (Nat.le_trans (Nat.le_succ _) (Nat.le_succ _)))
      · exact (f2 b hb).2.2.2.2.1 x c q
    · have := (I3.bs b o e).1
      rcases (f2 b hb).2.2.2.1 with z | z
      · exact I3.ok.noex b o e z
      · have := Nat.lt_of_lt_of_le (Heap.lt_size e) I3.ok.bsz
        exact absurd (Nat.lt_of_lt_of_le this z) (Nat.lt_irrefl _)
  have hlook : ∀ (i : Nat) (x : Str) (v : V), (N0 ++ own)[i]? = some x → (σ ++ List.replicate own.length none)[i]? = some (some v) → Vis (relabel sc X.env) x → ∃ c u, RelV v u ∧ X'.env.cells.lookup x = some c ∧ (X'.env.kindOf x = some .cell ∨ X'.env.kindOf x = some .free) ∧ h3.IsCell c (some u) := by
    intro i x v e1 e2 e3
    have hi : i < σ.length := by
      by_cases hi : i < σ.length
      · exact hi
      · rw [List.getElem?_append_right (by (first|lia|omega)), List.getElem?_replicate] at e2
        split at e2 <;> cases e2
    have e2' : σ[i]? = some (some v) := by rw [List.getElem?_append_left hi] at e2; exact e2
    have hi0 : i < N0.length := by rw [T.len, ← I3.len]; exact hi
    have e1' : N0[i]? = some x := by rw [List.getElem?_append_left hi0] at e1; exact e1
    obtain ⟨n1, n2⟩ := T.vis i x e1' e3
    have cp := T.cap _ (PySem.mem_of_lookup n2) rfl
    obtain ⟨m, hn, hl⟩ := I3.loc
    have vis : Vis X.env.scope x := by
      rcases cp with z | z
      · exact .inr (.inl z)
      · exact .inr (.inr z)
    obtain ⟨u, r, l⟩ := hl i x v n1 e2' vis
    obtain ⟨c', hc'⟩ := zBT (env := X.env) (ns := sc.names) (cs := []) (x := x) hfree (.inr (PySem.mem_of_lookup n2))
    have hc2 : (zAd sc X.env).lookup x = some c' := hc'
    rcases l with ⟨z, _⟩ | ⟨_, c, e, q⟩
    · rcases cp with z' | z' <;> (rw [z] at z'; cases z')
    · have : c = c' := by
        have := CK0 _ _ hc2
        rw [e] at this; exact Option.some.inj this
      subst this
      have xz : x ≠ z := fun w => by rw [w, T.one] at n2; cases n2
      have hc3 : X'.env.cells.lookup x = some c := by
        show ((z, h3.objs.size + 1) :: zAd sc X.env).lookup x = some c
        have hb : (x == z) = false := by simpa using xz
        rw [List.lookup_cons, hb]; exact hc2
      refine ⟨c, u, r, hc3, ?_, q⟩
      rcases e3 with z | z | z
      · exfalso
        have := lookup_relabel_local (env := X.env) (names := sc.names) (x := x)
        have nl : ∀ {names : List (Str × NameKind)}, names.lookup x = some .free → (names.map fun (n, k) => if (k == NameKind.free && X.env.scope.kind == .function && X.env.kindOf n == some .cell) then (n, NameKind.cell) else (n, k)).lookup x ≠ some .local := by
          intro names
          induction names with
          | nil => intro h; simp at h
          | cons p r ih =>
            obtain ⟨n, k⟩ := p
            intro h
            show List.lookup x ((if (k == NameKind.free && X.env.scope.kind == .function && X.env.kindOf n == some .cell) = true then (n, NameKind.cell) else (n, k)) :: _) ≠ _
            cases hx : x == n with
            | true =>
              simp only [List.lookup_cons, hx] at h
              cases h
              by_cases hq : (NameKind.free == NameKind.free && X.env.scope.kind == .function && X.env.kindOf n == some .cell) = true
              · rw [if_pos hq]; simp [List.lookup_cons, hx]
              · rw [if_neg hq]; simp [List.lookup_cons, hx]
            | false =>
              simp only [List.lookup_cons, hx] at h
              by_cases hq : (k == NameKind.free && X.env.scope.kind == .function && X.env.kindOf n == some .cell) = true
              · rw [if_pos hq]; simp only [List.lookup_cons, hx]; exact ih h
              · rw [if_neg hq]; simp only [List.lookup_cons, hx]; exact ih h
        exact nl n2 z
      · exact .inl z
      · exact .inr z
  have σl : (σ ++ List.replicate own.length none).length = (N0 ++ own).length := by
    rw [List.length_append, List.length_append, List.length_replicate, T.len, ← I3.len]
  have I4 : zV X' [] (σ ++ List.replicate own.length none) (yp H1 s₂.heap.objs.size (.lst [])) { s₂ with heap := h₁ } := by
    refine ⟨ok', rfl, I3.bare, Un.kept kp, ⟨_, hns₁, fun i x v e1 e2 e3 => ?_⟩, fun x c e => ?_, I3.hok.fresh (Nat.le_refl _), fun x c e => ?_, fun p hp => ?_, I3.hok.kept kp, σl⟩
    · obtain ⟨c, u, r, q1, q2, q3⟩ := hlook i x v e1 e2 e3
      obtain ⟨o, ho, hd⟩ := q3
      exact ⟨u, r, .inr ⟨q2, c, q1, o, kp c o ho, hd⟩⟩
    · rcases CK x c e with ⟨_, q⟩ | ⟨_, q⟩
      · rw [q]; exact ⟨none, hcl₁⟩
      · obtain ⟨v, o, ho, hd⟩ := I3.cell x c q
        exact ⟨v, o, kp c o ho, hd⟩
    · rcases CK x c e with ⟨_, q⟩ | ⟨_, q⟩
      · rw [q]; exact I3.hok.fresh (Nat.le_succ _)
      · exact I3.freeC x c q
    · have hp' : p ∈ X.pn ++ pins := by
        have : p ∈ (X.pn ++ pins) ++ [] := hp
        simpa using this
      obtain ⟨e, n, ne, nf, d⟩ := I3.pin p hp'
      exact ⟨kp _ _ e, n, Nat.ne_of_lt (Heap.lt_size e), pinS p hp', d⟩
  have fpX : ∀ {H : Hp}, (∀ b ∈ fp, H b = none) → ∀ b ∈ fp, zB8 X' [] H b := fun {H} hn b hb => by
    refine ⟨hn b hb, (ok'.exf b hb).1, fpS b hb, .inl hb, (ok'.exf b hb).2, fun p hp => ?_⟩
    have hp' : p ∈ X.pn ++ pins := by
      have : p ∈ (X.pn ++ pins) ++ [] := hp
      simpa using this
    exact (f2 b hb).2.2.2.2.2 p hp'
  have st4 : tn 0 h₁ := Tn.keep 0 s₂.heap h₁ st2 fun b hb o e => kp b o (hH2 ▸ Heap.get?_push_of_some _ e)
  have back : ∀ {σ' : St} {H' : Hp} {s' : Shared}, zV X' [] σ' H' s' → zV X pins σ H' s' ∧ zB8 X pins H' h3.objs.size ∧ ∃ m, s'.heap.Ns h3.objs.size m := fun {σ' H' s'} J => by
    have u : Un (frs X.stack) fp (yp H1 s₂.heap.objs.size (.lst [])) H' h3 s'.heap := J.base
    have J3 : zV X pins σ H' s' := I3.call' J.os u J.hok J.bare fun b hb => ⟨(f2 b hb).2.2.2.1, (f2 b hb).2.1, (f2 b hb).2.2.2.2.1, (f2 b hb).2.2.2.2.2⟩
    obtain ⟨m, hn, _⟩ := J.loc
    refine ⟨J3, ?_, m, hn⟩
    refine ⟨J.free, Nat.ne_of_gt I3.lt, I3.nofs (Nat.le_refl _), .inr I3.sz, fun x c e z => ?_, fun p hp z => ?_⟩
    · obtain ⟨v, q⟩ := I3.cell x c e
      exact absurd (Nat.lt_of_lt_of_le q.lt (by rw [z]; exact Nat.le_refl _)) (Nat.lt_irrefl _)
    · exact absurd (Nat.lt_of_lt_of_le (Heap.lt_size (I3.pin p hp).1) (by rw [z]; exact Nat.le_refl _)) (Nat.lt_irrefl _)
  have loop : ∀ s₅ : Shared, s₅ = { s₂ with heap := h₁ } →
      codeAny (model X.prog X.w) X.A (.compLoop (.ListComp elt [⟨tg, iter, ifs, 0⟩] sc pos) 0 (.ref it) (.ref s₂.heap.objs.size) X'.env)
        (fun r s' => ∃ D H' m, r = .ok .next ∧ Value.ref s₂.heap.objs.size = .ref D ∧ zV X pins σ H' s' ∧ zB8 X pins H' h3.objs.size ∧ s'.heap.Ns h3.objs.size m ∧ Q (.ref D) H') s₅ := by
    rintro s₅ rfl
    exact codeAny_mono (cmpLp (X' := X') (Z := fun H' s' => zV X pins σ H' s' ∧ zB8 X pins H' h3.objs.size ∧ ∃ m, s'.heap.Ns h3.objs.size m) hc (fun _ _ z => z) Tn (hg _ _ _ _ _) (ht _ _ _ _ _) (he _ _ _ _ _) turn fpX back I4 st4 fpD w0) fun r s' ⟨H', e, ⟨b1, b2, m, b3⟩, q⟩ => ⟨_, H', m, e, rfl, b1, b2, b3, q⟩
  exact codeAny_compStart_list (loop _ rfl) (Tn.self _ 0 _ _ _ st4 (loop _ rfl))

theorem zHc{i:Nat}{y:Str}{py spos:Pos}(hc:X.calm=true)(T:zGe X sc N0 z)(hi:PI X tg iter wi)
  (hg:∀ C s H fp pins,PG (X.compC z (N0++own) sc C s H fp pins) tg g) (ht:∀ C s H fp pins,PTs (X.compC z (N0++own) sc C s H fp pins) ifs tc) (he:∀ C s H fp pins,PE (X.compC z (N0++own) sc C s H fp pins) elt te)
  (hN:X.N.Nodup) (hy:X.N[i]?=some y) (hl:X.env.scope.names.lookup y=some .local)
  (hsw:swapsWith (.ListComp elt [⟨tg,iter,ifs,0⟩] sc pos) (some (.Name y py)) spos.line X.env=pure true)
  (hs:∀ x,foldedSetIterable iter X.env x=pure x:=by intro u0;rfl):PS X (.Assign [.Name y py] (.ListComp elt [⟨tg,iter,ifs,0⟩] sc pos) spos) (fun D σ H=>zIu own.length wi g tc te σ H fun v H1=>D.nx (σ.set i (some v)) H1):=by
 intro pins s σ H D I h
 rw[exec_Assign_Name_used _ _ _ _ hsw]
 refine wpAny_bind (wpAny_standAt (wpAny_bind ?_))
 show wpAny _ X.A (do let _ ← comprehension (.ListComp elt [⟨tg,iter,ifs,0⟩] sc pos) sc X.env _ (newList []) false (eval iter X.env) (some (assign (.Name y py) X.env))) _ _ s
 refine wpAny_bind (wpAny_mono (wpAny_comprehension_free (use:=some (assign (.Name y py) X.env)) (Q:=fun u0 s'=>SP X pins D .next s') rfl hs (wX fun y hy hf=>I.ok.has _ (T.cap y hy hf)) T.kind T.names
  (yq (hi pins s σ H _ I h) fun xv s₁ h₁=>yq h₁ fun it s₂ h₂=>?_)) (fun u0 s' hq=>wpAny_pure (wpAny_pure hq)) fun u0 u0 e=>e)
 refine yq (zHb (iter:=iter) (pos:=pos) (E:=X.xe) (Q:=fun v H1=>D.nx (σ.set i (some v)) H1) hc T hg ht he h₂) fun acc s₃ h₃=>yq h₃ fun cenv s₄ h₄=>codeAny_mono h₄ fun r s' hr=>?_
 obtain⟨A,H',m,rfl,rfl,J,f,hn,q⟩:=hr
 show wpAny _ X.A (assign (.Name y py) X.env (.ref A)) _ _ _
 refine wpAny_assign_Name (zDg J hN hy (.inl hl) (v:=.ref A) rfl (fun s'' J' ⟨a,sb,ha⟩=>?_) (.inr hl))
 have hCa:cenv.locals≠a:=by
  rcases ha with z | z
  ·rw[z];exact f.2.1
  ·exact fun e=>f.2.2.2.2.1 y a z e.symm
 refine⟨m,hn.sameBut sb hCa,fun h' hs'=>⟨_,H',?_,q⟩⟩
 exact J'.turned (t':=s''.toks) (fun b o hb e=>(hs'.2 b hb).trans e) f.1 f.2.1 f.2.2.2.1 f.2.2.2.2.1 f.2.2.2.2.2
end
end L2
namespace L3
open PySem PySem.Spec PyProof.Rows L2
noncomputable def zMW(osc sc:Scope)(N N0:List Str)(z:Str):Bool :=
 decide (sc.kind=.function)&&decide (sc.names.lookup z=some .cell)&&sc.names.all (fun y=>decide (y.2=.local→sc.names.lookup y.1=some .local))
 && sc.names.all (fun y=>decide (y.2=.free→osc.names.lookup y.1=some .cell∨osc.names.lookup y.1=some .free))
 && decide (N0.length=N.length)&&(List.range N0.length).all (fun i=>match N0[i]? with | some x=>!zJu (zAf osc sc) x||decide (N[i]?=some x∧sc.names.lookup x=some .free) | none=>true)
 && decide ((N0++[z]).Nodup)&&sc.names.all (fun y=>decide ((zAf osc sc).lookup y.1=some .cell∨(zAf osc sc).lookup y.1=some .free→y.1=z∨sc.names.lookup y.1=some .free))&&decide ((zAf osc sc).lookup z=some .cell)
set_option genInjectivity false in
structure zMX (X:Cx) (sc:Scope) (N0:List Str) (z:Str):Prop where
 ok:zGe X sc N0 z
 nd:(N0++[z]).Nodup
 cel:(relabel sc X.env).names.lookup z=some .cell
theorem lookup_mem{α:Type}{x:Str}{v:α}:∀ {l:List (Str×α)},l.lookup x=some v→∃ y∈l,y.1=x
 | [],h=>by simp at h
 | (n,k)::r,h=>by
  rw[List.lookup_cons] at h
  cases hx:x==n with
  | true=>exact⟨(n,k),by simp,by simpa using(beq_iff_eq.mp hx).symm⟩
  | false =>
   rw[hx] at h
   obtain⟨y,hy,e⟩:=lookup_mem h
   exact⟨y,List.mem_cons_of_mem _ hy,e⟩
theorem zKY{X:Cx}{osc sc:Scope}{N N0:List Str}{z:Str}(h:zMW osc sc N N0 z=true)(hlay:∀ a acc,cellsFrom a sc.names acc=(z,a)::acc)(hpush:∀ h:Heap,pushCells h sc.names=h.push { cls:=.type "cell",data:=.cell none })(e1:X.env.scope=osc:=by rfl)(e2:X.N=N:=by rfl):zMX X sc N0 z:=by
 subst e1 e2
 unfold zMW at h
 simp only[Bool.and_eq_true,decide_eq_true_eq,List.all_eq_true] at h
 obtain⟨⟨⟨⟨⟨⟨⟨⟨h1,h2⟩,h3⟩,h4⟩,h5⟩,h6⟩,h7⟩,h8⟩,h9⟩:=h
 refine⟨⟨h1,h2,hlay,hpush,fun x hx=>?_,h3,h4,h5,fun i x e v=>?_⟩,h7,h9⟩
 ·have hx':(zAf X.env.scope sc).lookup x=some .cell∨(zAf X.env.scope sc).lookup x=some .free:=hx
  obtain⟨y,hy,e⟩:∃ y∈zAf X.env.scope sc,y.1=x:=by
   rcases hx' with w | w<;>exact lookup_mem w
  obtain⟨y0,hy0,e0⟩:=List.mem_map.mp hy
  have e1:y0.1=x:=by
   rw[← e,← e0]
   obtain⟨n,k⟩:=y0
   dsimp only
   split<;>rfl
  have:=h8 y0 hy0
  rw[e1] at this
  exact this hx'
 ·have hi:i<N0.length:=(List.getElem?_eq_some_iff.mp e).1
  have q:=h6 i (List.mem_range.mpr hi)
  rw[e] at q
  dsimp only at q
  have hv:zJu (zAf X.env.scope sc) x=true:=by
   have v':(zAf X.env.scope sc).lookup x=some .local∨(zAf X.env.scope sc).lookup x=some .cell∨(zAf X.env.scope sc).lookup x=some .free:=v
   unfold zJu
   rcases v' with v' | v' | v'<;>rw[v']
  rw[hv] at q
  simpa using q
section
variable {X:Cx} {elt iter:Expr} {pos:Pos} {te:zo} {ifs:List Expr} {sc:Scope} {N0:List Str} {wi:TI2} {tc:TT2}
theorem zN6(i:Nat)(x:Str){y:Str}{px py spos:Pos}(hc:X.calm=true)(T:zMX X sc N0 x)(hi:I2 X (.Name x px) iter wi)
  (ht:∀ C s H fp pins,Ts2 (X.compC x (N0++[x]) sc C s H fp pins) ifs tc) (he:∀ C s H fp pins,E2 (X.compC x (N0++[x]) sc C s H fp pins) elt te)
  (hN:X.N.Nodup) (hy:X.N[i]?=some y:=by rfl) (hl:X.env.scope.names.lookup y=some .local:=by rfl)
  (hsw:swapsWith (.ListComp elt [⟨.Name x px,iter,ifs,0⟩] sc pos) (some (.Name y py)) spos.line X.env=pure true:=by rfl)
  (hs:∀ x,foldedSetIterable iter X.env x=pure x:=by intro u0;rfl):P2 X (.Assign [.Name y py] (.ListComp elt [⟨.Name x px,iter,ifs,0⟩] sc pos) spos) (zAK i (zf wi wy tc te)):=by
 have T':=T.ok
 refine PS.at (zHc (own:=[x]) (g:=zCm X.N.length) (tc:=lT X.K tc) (te:=lE X.K te) hc T' hi (fun C s H fp pins=>zBF (X:=X.compC x (N0++[x]) sc C s H fp pins) T.nd (by
  show(N0++[x])[X.N.length]?=some x
  rw[← T'.len];simp) (.inr T.cel) (.inl (by show(x==x)=true;simp))) ht he hN hy hl hsw hs) fun E σ1 H hl h=>?_
 obtain⟨σ,G,D2,r,q,k⟩:=h
 refine zCQ (n:=1) (N:=X.N.length) bind1 (fun d us e=>by cases e;rfl) hl ⟨σ,G,_,r,q,fun ds G' q' l xs H' g' r' n e d=>?_⟩
 exact k.nx _ _ (q' l n) _ H' g' ((r.to g' (r'.own e d)).set i (by unfold zU;rfl))
end
end L3
namespace K
open PySem PySem.Spec PyProof.Rows L2 L3
noncomputable def wQ:Sp2:=fun ds G R=>∃(n1:Nat) (q1:Nat×Nat→Bool) (n2:Nat) (q2:Nat×Nat→Bool),ds=[zO n1 q1,zO n2 q2]∧2≤n1∧2≤n2∧n1+n2≤11∧R (zO (n1+n2-2) fun p=>decide (p∈glF n1 q1 n2 q2)) G
noncomputable def zCc:yi:=(zX (zv (zP (ya fun i j=>.int (i-j)) (zP zi (zB 0) (xC (.int 0))) (xC (.int 1))) (gN 2)) (zX (zAK 3 (zf (iV (yG (zA (zB 0) (zA (zB 1) zI)))) wy zAB (yA (zf (iV (zP zi (zB 6) (xC (.int 1)))) bd2 (xB (zP (fEq false) (zB 8) (zP (ya fun i j=>.int (i-j)) (zP zi (zB 6) (xC (.int 0))) (xC (.int 1))))) (zB 7))))) (zX (zAK 4 (zf (iV (zP zi (zB 0) (xC (.int 1)))) wy (xB (zP (fEq true) (zP zi (zB 6) (xC (.int 1))) (zB 2))) (zB 6))) (zX (zv (yA (zCo (zB 4) (yA (zf (iV (zP zi (zB 1) (xC (.int 1)))) bd2 (xB (zP (fEq true) (zB 7) (zP (ya fun i j=>.int (i-j)) (zP zi (zB 1) (xC (.int 0))) (xC (.int 1))))) (yG (zA (zP yJ (zB 6) (zB 2)) (zA (zP yJ (zB 7) (zB 2)) zI))))))) (gN 4)) (zX (wV (iV (zP zi (zB 3) (xC (.int 0)))) (gN 5) (zv (yA (zCo (zB 4) (yA (zf (iV (zP zi (zB 3) (xC (.int 1)))) wy zAB (yG (zA (zB 5) (zA (zP yJ (zB 6) (zB 2)) zI))))))) (gN 4))) (zu (yG (zA (zP (ya fun i j=>.int (i-j)) (zP yJ (zB 2) (zP zi (zB 1) (xC (.int 0)))) (xC (.int 1))) (zA (zb zn (zBa (zA (zB 4) zI))) zI)))))))))
theorem zB2{σ:S2}{G:Gp}{t:zo}{n:Nat}(h:ze t σ G (nD n))(h1:1≤n):ze (zP (ya fun i j=>.int (i-j)) t (xC (.int 1))) σ G (nD (n-1)):=by
 have:=zBU (g:=fun i j=>.int (i-j)) h (yU (d:=.int 1))
 rwa [show(n:Int)-1=((n-1:Nat):Int) by (first|lia|omega)] at this
theorem zF1(l:List Nat)(c:Nat):(l.map fun u0=>c).sum=l.length*c:=by
 induction l with
 | nil=>simp
 | cons a r ih=>rw[List.map_cons,List.sum_cons,ih,List.length_cons,Nat.succ_mul];(first|lia|omega)
theorem zMY{σ:S2}{G:Gp}{i:Nat}{t:TL2}{u:yi}{E:yC}(h:t σ G fun ds G'=>∀ l,G'.m l=none→u E (σ.set i (some (.adr l))) (zR G' l ds)):zX (zAK i t) u E σ G:=h
theorem zGf{σ:S2}{G:Gp}{l:List (Nat×Nat)}{t:zo}{tc:TT2}{te:zo}(p:Nat×Nat→Bool)(f:Nat×Nat→D)(h:ze t σ G (.tup (l.map zt)))(hx:∀ x∈l,PuT tc (σ++[some (nD x.1),some (nD x.2)]) G (p x)∧ze te (σ++[some (nD x.1),some (nD x.2)]) G (f x)):PuL (zf (iV t) bd2 tc te) σ G ((l.filter p).map f):=by
 have c:=wa (σ:=σ) (G:=G) (bd:=bd2) (tc:=tc) (te:=te) (fun d=>match d with | .tup [.int a,.int b]=>p (a.toNat,b.toNat) | _=>false) (fun d=>match d with | .tup [.int a,.int b]=>f (a.toNat,b.toNat) | _=>.non) (fun d=>match d with | .tup us=>us | _=>[]) (zAQ h) fun x hx'=>by
  obtain⟨y,hy,rfl⟩:=List.mem_map.mp hx'
  exact⟨rfl,(hx y hy).1,fun u0=>(hx y hy).2⟩
 have e:List.map (fun d=>match d with | .tup [.int a,.int b]=>f (a.toNat,b.toNat) | _=>.non) (List.filter (fun d=>match d with | .tup [.int a,.int b]=>p (a.toNat,b.toNat) | _=>false) (l.map zt))=(l.filter p).map f:=by
  rw[List.filter_map,List.map_map];rfl
 rw[e] at c
 exact c
theorem near_pu {σ : S2} {G : Gp} {n : Nat} {q : Nat × Nat → Bool} (hs : σ.length = 6) (hn : 2 ≤ n) : PuL (zf (iV (zP zi (zB 6) (xC (.int 1)))) bd2 (xB (zP (fEq false) (zB 8) (zP (ya fun i j => .int (i - j)) (zP zi (zB 6) (xC (.int 0))) (xC (.int 1))))) (zB 7)) (σ ++ [zO n q].map some) G ((yM n q).map nD) := by
  match σ, hs with
  | [a, b, c, d, e, f], _ =>
    have := zGf (σ := [a, b, c, d, e, f] ++ [zO n q].map some) (G := G) (l := (yj n).filter q) (tc := (xB (zP (fEq false) (zB 8) (zP (ya fun i j => .int (i - j)) (zP zi (zB 6) (xC (.int 0))) (xC (.int 1)))))) (te := zB 7) (fun p => decide (p.2 = n - 1)) (fun p => nD p.1) (zCr (zE (i := 6) rfl)) fun x hx => ⟨wK (zCt (x := nD x.2) (y := nD (n - 1)) (zE rfl) (zB2 (yu (n := n) (q := q) (zE rfl)) (by (first|lia|omega))) rfl rfl (by rw [if_neg (by simp), zC4])), zE rfl⟩
    unfold yM
    rw [List.map_map]
    exact this
theorem near_comp {σ : S2} {G : Gp} {n1 n2 : Nat} {q1 q2 : Nat × Nat → Bool} {R : List D → Gp → Prop} (hs : σ.length = 6) (h0 : look σ 0 = some (zO n1 q1)) (h0' : look σ 1 = some (zO n2 q2)) (h1 : 2 ≤ n1) (h2 : 2 ≤ n2)
    (h : ∀ a1 a2 G1, G1.m a1 = some ((yM n1 q1).map nD) → G1.m a2 = some ((yM n2 q2).map nD) → L3.Sub G G1 → R [.adr a1, .adr a2] G1) :
    zf (iV (yG (zA (zB 0) (zA (zB 1) zI)))) wy zAB (yA (zf (iV (zP zi (zB 6) (xC (.int 1)))) bd2 (xB (zP (fEq false) (zB 8) (zP (ya fun i j => .int (i - j)) (zP zi (zB 6) (xC (.int 0))) (xC (.int 1))))) (zB 7))) σ G R := by
  refine zEO (zPg (ds := [zO n1 q1, zO n2 q2]) (yP (zF (zE h0) (zF (zE h0') zM)) (by simp)) fun A hA => zDG (fun i acc G' => (i = 0 ∧ acc = [] ∧ G' = zR G A []) ∨ (i = 1 ∧ ∃ a1, acc = [.adr a1] ∧ G.m a1 = none ∧ a1 ≠ A ∧ L3.Sub (zR G a1 ((yM n1 q1).map nD)) G' ∧ G'.m A = some acc) ∨ (i = 2 ∧ ∃ a1 a2, acc = [.adr a1, .adr a2] ∧ G.m a1 = none ∧ G.m a2 = none ∧ a1 ≠ A ∧ a2 ≠ A ∧ a1 ≠ a2 ∧ L3.Sub (zR (zR G a1 ((yM n1 q1).map nD)) a2 ((yM n2 q2).map nD)) G' ∧ G'.m A = some acc)) (.inl ⟨rfl, rfl, rfl⟩) ?_ ?_ ?_)
  · rintro i acc G' (⟨rfl, rfl, rfl⟩ | ⟨rfl, a1, rfl, _, _, _, h6⟩ | ⟨rfl, a1, a2, rfl, _, _, _, _, _, _, h6⟩)
    · exact ⟨trivial, zH, by simp⟩
    · exact ⟨trivial, h6, by simp⟩
    · exact ⟨trivial, h6, by simp⟩
  · rintro i x acc G' hx (⟨rfl, rfl, rfl⟩ | ⟨rfl, a1, rfl, k1, k2, k3, k4⟩ | ⟨rfl, _⟩)
    · cases hx
      refine ⟨[zO n1 q1], rfl, ?_⟩
      unfold zAB
      dsimp only
      rw [if_pos rfl]
      refine zAL (near_pu hs h1) fun a1 ha1 => ?_
      have ne : a1 ≠ A := fun z => by rw [z, zH] at ha1; cases ha1
      have ha0 : G.m a1 = none := by rwa [zQ ne] at ha1
      refine ⟨by rw [zQ (Ne.symm ne)]; exact zH, _, .refl _, .inr (.inl ⟨rfl, a1, rfl, ha0, ne, ?_, zH⟩)⟩
      refine ⟨fun b u e => ?_, fun b u e => e⟩
      by_cases hb : b = A
      · subst hb; rw [zQ (Ne.symm ne), hA] at e; cases e
      · rw [zQ hb]
        by_cases hb1 : b = a1
        · subst hb1; rw [zH] at e ⊢; exact e
        · rw [zQ hb1] at e ⊢; rw [zQ hb]; exact e
    · cases hx
      refine ⟨[zO n2 q2], rfl, ?_⟩
      unfold zAB
      dsimp only
      rw [if_pos rfl]
      refine zAL (near_pu hs h2) fun a2 ha2 => ?_
      have ne : a2 ≠ A := fun z => by rw [z, k4] at ha2; cases ha2
      have n12 : a1 ≠ a2 := fun z => by rw [← z, k3.m _ _ zH] at ha2; cases ha2
      have ha0 : G.m a2 = none := by
        cases e : G.m a2 with
        | none => rfl
        | some u =>
          have := k3.m a2 u (by rw [zQ (Ne.symm n12)]; exact e)
          rw [this] at ha2; cases ha2
      refine ⟨by rw [zQ (Ne.symm ne)]; exact k4, _, .refl _, .inr (.inr ⟨rfl, a1, a2, rfl, k1, ha0, k2, ne, n12, ?_, zH⟩)⟩
      refine ⟨fun b u e => ?_, fun b u e => k3.ro b u e⟩
      by_cases hb : b = A
      · subst hb; rw [zQ (Ne.symm ne), zQ (Ne.symm k2), hA] at e; cases e
      · rw [zQ hb]
        by_cases hb1 : b = a2
        · subst hb1; rw [zH] at e ⊢; exact e
        · rw [zQ hb1] at e ⊢; exact k3.m b u e
    · cases hx
  · rintro acc G' (⟨z, _⟩ | ⟨z, _⟩ | ⟨_, a1, a2, rfl, k1, k2, k3, k4, k5, k6, k7⟩)
    · cases z
    · cases z
    refine ⟨zR (zR G a1 ((yM n1 q1).map nD)) a2 ((yM n2 q2).map nD), by rw [zQ (Ne.symm k4), zQ (Ne.symm k3)]; exact hA, k6, h a1 a2 _ (by rw [zQ k5]; exact zH) zH ((L3.Sub.new k1).trans (.new (by rw [zQ (Ne.symm k5)]; exact k2)))⟩
theorem zKZ (ds : List D) (G : Gp) (R : Q2) (h : wQ ds G R) : ds.length = 2 ∧ zCc (zd R) (zS ["one", "two", "more", "near", "found", "a"] ds) G := by
  obtain ⟨n1, q1, n2, q2, rfl, h1, h2, h11, h⟩ := h
  refine ⟨rfl, ?_⟩
  unfold zCc
  rw [show zS ["one", "two", "more", "near", "found", "a"] [zO n1 q1, zO n2 q2] = [some (zO n1 q1), some (zO n2 q2), none, none, none, none] from rfl]
  refine wU (d := nD (n1 - 1)) (zB2 (yu (zE rfl)) (by (first|lia|omega))) ?_
  simp only [gN, List.set_cons_succ, List.set_cons_zero]
  refine zMY (near_comp (σ := [some (zO n1 q1), some (zO n2 q2), some (nD (n1 - 1)), none, none, none]) rfl rfl rfl h1 h2 fun a1 a2 G1 m1 m2 sb ln hln => ?_)
  · skip
    have e1 : Ext G1 (zR G1 ln [.adr a1, .adr a2]) := .new hln
    have m3 : (zR G1 ln [.adr a1, .adr a2]).m ln = some [.adr a1, .adr a2] := zH
    have n1' : a1 ≠ ln := fun z => by rw [← z, m1] at hln; cases hln
    have n2' : a2 ≠ ln := fun z => by rw [← z, m2] at hln; cases hln
    replace m1 : (zR G1 ln [.adr a1, .adr a2]).m a1 = some ((yM n1 q1).map nD) := by rw [zQ n1']; exact m1
    replace m2 : (zR G1 ln [.adr a1, .adr a2]).m a2 = some ((yM n2 q2).map nD) := by rw [zQ n2']; exact m2
    replace sb : L3.Sub G (zR G1 ln [.adr a1, .adr a2]) := sb.trans (.new hln)
    clear e1
    generalize zR G1 ln [.adr a1, .adr a2] = G2 at m1 m2 m3 sb
    simp only [List.set_cons_succ, List.set_cons_zero]
    have c := wa (σ := [some (zO n1 q1), some (zO n2 q2), some (nD (n1 - 1)), some (.adr ln), none, none]) (G := G2) (bd := wy) (tc := (xB (zP (fEq true) (zP zi (zB 6) (xC (.int 1))) (zB 2)))) (te := zB 6) (fun d => match d with | .tup [.int a, .int b] => !decide (b.toNat = n1 - 1) | _ => false) (fun d => d) (fun d => [d]) (zAQ (zCr (n := n1) (q := q1) (zE (i := 0) rfl))) fun x hx => by
      obtain ⟨p, hp, rfl⟩ := List.mem_map.mp hx
      exact ⟨rfl, wK (zCt (x := nD p.2) (y := nD (n1 - 1)) (zG8 (zE rfl)) (zE rfl) rfl rfl (by rw [if_pos rfl, zC4]; rfl)), fun _ => zE rfl⟩
    have e : List.map (fun d => d) (List.filter (fun d => match d with | .tup [.int a, .int b] => !decide (b.toNat = n1 - 1) | _ => false) (((yj n1).filter q1).map zt)) = (yN n1 q1).map zt := by
      rw [List.map_id', List.filter_map]; rfl
    rw [e] at c
    refine c G2 (.refl _) _ fun f1 hf1 => ?_
    dsimp only
    simp only [List.set_cons_succ, List.set_cons_zero]
    have c2 := zGf (σ := [some (zO n1 q1), some (zO n2 q2), some (nD (n1 - 1)), some (.adr ln), some (.adr f1), none]) (G := zR G2 f1 ((yN n1 q1).map zt)) (l := (yj n2).filter q2) (tc := (xB (zP (fEq true) (zB 7) (zP (ya fun i j => .int (i - j)) (zP zi (zB 1) (xC (.int 0))) (xC (.int 1)))))) (te := (yG (zA (zP yJ (zB 6) (zB 2)) (zA (zP yJ (zB 7) (zB 2)) zI)))) (fun p => !decide (p.2 = n2 - 1)) (fun p => zt (p.1 + (n1 - 1), p.2 + (n1 - 1))) (zCr (zE (i := 1) rfl)) fun x hx => ⟨wK (zCt (x := nD x.2) (y := nD (n2 - 1)) (zE rfl) (zB2 (yu (n := n2) (q := q2) (zE rfl)) (by (first|lia|omega))) rfl rfl (by rw [if_pos rfl, zC4])), yP (zF (wk (i := (x.1 : Int)) (j := ((n1 - 1 : Nat) : Int)) (zE rfl) (zE rfl)) (zF (wk (i := (x.2 : Int)) (j := ((n1 - 1 : Nat) : Int)) (zE rfl) (zE rfl)) zM)) (by simp)⟩
    have e2 : List.map (fun p => zt (p.1 + (n1 - 1), p.2 + (n1 - 1))) (((yj n2).filter q2).filter fun p => !decide (p.2 = n2 - 1)) = ((yN n2 q2).map fun p => (p.1 + (n1 - 1), p.2 + (n1 - 1))).map zt := by
      rw [List.map_map]; rfl
    rw [e2] at c2
    refine wZ (zHP (zGc (zE (d := .adr f1) rfl) (zAL c2 fun f2 hf2 => ?_)))
    have nf : f1 ≠ f2 := fun z => by rw [← z, zH] at hf2; cases hf2
    have fl1 : (yN n1 q1).length ≤ 36 := zBe (((ym n1).filter _).filter _) (fun p hp => (by have := zBP hp; (first|lia|omega) : p.1 < p.2 ∧ p.2 < n1)) (by (first|lia|omega))
    have fl2 : (yN n2 q2).length ≤ 36 := zBe (((ym n2).filter _).filter _) (fun p hp => (by have := zBP hp; (first|lia|omega) : p.1 < p.2 ∧ p.2 < n2)) (by (first|lia|omega))
    refine ⟨_, _, by rw [zQ nf]; exact zH, zH, by simp only [List.length_map]; (first|lia|omega), fun f3 hf3 => ?_⟩
    have keep : ∀ {b : Addr} {u : List D}, G2.m b = some u → b ≠ f3 ∧ (zR (zR (zR G2 f1 ((yN n1 q1).map zt)) f2 (((yN n2 q2).map fun p => (p.1 + (n1 - 1), p.2 + (n1 - 1))).map zt)) f3 ((yN n1 q1).map zt ++ ((yN n2 q2).map fun p => (p.1 + (n1 - 1), p.2 + (n1 - 1))).map zt)).m b = some u := fun {b u} hb => by
      have b1 : b ≠ f1 := fun z => by rw [← z, hb] at hf1; cases hf1
      have b2 : b ≠ f2 := fun z => by rw [← z, zQ b1, hb] at hf2; cases hf2
      have b3 : b ≠ f3 := fun z => by rw [← z, zQ b2, zQ b1, hb] at hf3; cases hf3
      exact ⟨b3, by rw [zQ b3, zQ b2, zQ b1]; exact hb⟩
    have m1' := (keep m1).2
    have m2' := (keep m2).2
    have m3' := (keep m3).2
    have m4' : (zR (zR (zR G2 f1 ((yN n1 q1).map zt)) f2 (((yN n2 q2).map fun p => (p.1 + (n1 - 1), p.2 + (n1 - 1))).map zt)) f3 ((yN n1 q1).map zt ++ ((yN n2 q2).map fun p => (p.1 + (n1 - 1), p.2 + (n1 - 1))).map zt)).m f3 = some ((yN n1 q1 ++ (yN n2 q2).map fun p => (p.1 + (n1 - 1), p.2 + (n1 - 1))).map zt) := by rw [zH, List.map_append]
    have sb' : L3.Sub G (zR (zR (zR G2 f1 ((yN n1 q1).map zt)) f2 (((yN n2 q2).map fun p => (p.1 + (n1 - 1), p.2 + (n1 - 1))).map zt)) f3 ((yN n1 q1).map zt ++ ((yN n2 q2).map fun p => (p.1 + (n1 - 1), p.2 + (n1 - 1))).map zt)) := ((sb.trans (.new hf1)).trans (.new hf2)).trans (.new hf3)
    generalize zR (zR (zR G2 f1 ((yN n1 q1).map zt)) f2 (((yN n2 q2).map fun p => (p.1 + (n1 - 1), p.2 + (n1 - 1))).map zt)) f3 ((yN n1 q1).map zt ++ ((yN n2 q2).map fun p => (p.1 + (n1 - 1), p.2 + (n1 - 1))).map zt) = G3 at m1' m2' m3' m4' sb'
    clear keep m1 m2 m3 sb c c2 hf3 hf2 hf1
    simp only [gN, List.set_cons_succ, List.set_cons_zero]
    have gd := zF0 (n1 := n1) (q1 := q1) (n2 := n2) (q2 := q2)
    have gi := zMV (q1 := q1) (q2 := q2) h1 h2
    have nl1 := zCb (n := n1) (q := q1)
    have nl2 := zCb (n := n2) (q := q2)
    have fl : (yN n1 q1 ++ (yN n2 q2).map fun p => (p.1 + (n1 - 1), p.2 + (n1 - 1))).length ≤ 72 := by rw [List.length_append, List.length_map]; (first|lia|omega)
    unfold glF at gd gi h
    generalize (yN n1 q1 ++ (yN n2 q2).map fun p => (p.1 + (n1 - 1), p.2 + (n1 - 1))) = F at m4' fl gd gi h
    generalize yM n1 q1 = N1 at *
    generalize yM n2 q2 = N2 at *
    refine zA5 (show iV _ _ _ _ from zQ0 (zE (i := 3) (d := .adr ln) rfl _ (.refl _) _ (yU (d := .int 0) _ (.refl _) _ (zAT m3' rfl ⟨_, .inl m1', ⟨fun k σ' G' => ∃ s, σ' = [some (zO n1 q1), some (zO n2 q2), some (nD (n1 - 1)), some (.adr ln), some (.adr s), none] ∧ G'.m s = some ((F ++ (N1.take k).flatMap fun a => N2.map fun b => (a, b + (n1 - 1))).map zt) ∧ G'.m ln = some [.adr a1, .adr a2] ∧ G'.m a1 = some (N1.map nD) ∧ G'.m a2 = some (N2.map nD) ∧ L3.Sub G G', ?_, ?_, ?_, ?_⟩⟩))))
    · exact ⟨f3, rfl, by simpa using m4', m3', m1', m2', sb'⟩
    · rintro k σ' G' _ ⟨s, _, _, _, z, _⟩
      exact .inl z
    · rintro k x σ' G' hx ⟨s, rfl, k1, k2, k3, k4, k5⟩
      obtain ⟨a, ha, rfl⟩ := zAZ hx
      simp only [gN, List.set_cons_succ, List.set_cons_zero]
      have c3 := zBn (σ := [some (zO n1 q1), some (zO n2 q2), some (nD (n1 - 1)), some (.adr ln), some (.adr s), some (nD a)]) (G := G') (bd := wy) (te := (yG (zA (zB 5) (zA (zP yJ (zB 6) (zB 2)) zI)))) (fun d => match d with | .int b => zt (a, b.toNat + (n1 - 1)) | _ => .non) (fun d => [d]) (wi := (iV (zP zi (zB 3) (xC (.int 1))))) (ds := N2.map nD) (zBW (zIT (k := 1) (zE (i := 3) (d := .adr ln) rfl) yU (.inl k2) rfl) (.inl k4)) fun x hx => by
        obtain ⟨b, hb, rfl⟩ := List.mem_map.mp hx
        exact ⟨rfl, yP (zF (zE rfl) (zF (wk (i := (b : Int)) (j := ((n1 - 1 : Nat) : Int)) (zE rfl) (zE rfl)) zM)) (by simp)⟩
      have e3 : List.map (fun d => match d with | .int b => zt (a, b.toNat + (n1 - 1)) | _ => .non) (N2.map nD) = (N2.map fun b => (a, b + (n1 - 1))).map zt := by rw [List.map_map, List.map_map]; rfl
      rw [e3] at c3
      refine zN5 (zHP (zGc (zE (d := .adr s) rfl) (zAL c3 fun g1 hg1 => ?_)))
      have ng : s ≠ g1 := fun z => by rw [← z, k1] at hg1; cases hg1
      have fl4 : ((N1.take k).flatMap fun a => N2.map fun b => (a, b + (n1 - 1))).length ≤ 900 := by
        rw [List.length_flatMap]
        simp only [List.length_map]
        have : ((N1.take k).map fun _ => N2.length).sum = (N1.take k).length * N2.length := zF1 _ _
        rw [this, List.length_take]
        exact Nat.le_trans (Nat.mul_le_mul (show min k N1.length ≤ 11 by (first|lia|omega)) (show N2.length ≤ 11 by (first|lia|omega))) (by decide)
      refine ⟨_, _, by rw [zQ ng]; exact k1, zH, by simp only [List.length_map, List.length_append]; (first|lia|omega), fun g2 hg2 => ?_⟩
      simp only [gN, List.set_cons_succ, List.set_cons_zero]
      have kp : ∀ {b : Addr} {u : List D} {X Y : List D}, G'.m b = some u → (zR G' g1 X).m g2 = none → (zR (zR G' g1 X) g2 Y).m b = some u := fun {b u X Y} hb hz => by
        have b1 : b ≠ g1 := fun z => by rw [← z, hb] at hg1; cases hg1
        have b2 : b ≠ g2 := fun z => by rw [← z, zQ b1, hb] at hz; cases hz
        rw [zQ b2, zQ b1]; exact hb
      refine ⟨_, _, .keep (.keep (.keep (.keep (.keep (.skip .nil))))), .refl _, g2, rfl, ?_, kp k2 hg2, kp k3 hg2, kp k4 hg2, (k5.trans (.new hg1)).trans (.new hg2)⟩
      rw [zH, yl ha, List.flatMap_append, ← List.map_append]
      simp
    · rintro σ' G' ⟨s, rfl, k1, k2, k3, k4, k5⟩
      rw [List.length_map, List.take_length] at k1
      dsimp only
      generalize (F ++ N1.flatMap fun a => N2.map fun b => (a, b + (n1 - 1))) = FF at *
      have a1 : ze (zP (ya fun i j => .int (i - j)) (zP yJ (zB 2) (zP zi (zB 1) (xC (.int 0)))) (xC (.int 1))) [some (zO n1 q1), some (zO n2 q2), some (nD (n1 - 1)), some (.adr ln), some (.adr s), none] G' (nD (n1 + n2 - 2)) := by
        have := zBU (g := fun i j => .int (i - j)) (wk (σ := [some (zO n1 q1), some (zO n2 q2), some (nD (n1 - 1)), some (.adr ln), some (.adr s), none]) (G := G') (i := ((n1 - 1 : Nat) : Int)) (j := (n2 : Int)) (zE (i := 2) rfl) (yu (n := n2) (q := q2) (zE (i := 1) rfl))) (yU (d := .int 1))
        rwa [show ((n1 - 1 : Nat) : Int) + (n2 : Int) - 1 = ((n1 + n2 - 2 : Nat) : Int) by (first|lia|omega)] at this
      exact zAn (d := zO (n1 + n2 - 2) fun p => decide (p ∈ FF)) (yP (zF a1 (zF (zCa (zE (i := 4) rfl) (.inl k1) gd gi (by (first|lia|omega))) zM)) (by simp)) ⟨G, k5, h⟩
end K
namespace K
open PySem PySem.Spec PyProof.Rows L2 L3
noncomputable def nmL(n:Nat)(q:Nat×Nat→Bool)(od:List Nat):List (Nat×Nat):=((yj n).filter q).map fun p=>(min (od.getD p.1 0) (od.getD p.2 0),max (od.getD p.1 0) (od.getD p.2 0))
theorem zE7{n:Nat}{od:List Nat}(h:od.Perm (List.range n)){i j:Nat}(hi:i<n)(hj:j<n)(e:od.getD i 0=od.getD j 0):i=j:=by
 have hl:od.length=n:=by rw[h.length_eq,List.length_range]
 have nd:od.Nodup:=h.nodup_iff.mpr List.nodup_range
 have e1:od.getD i 0=od[i]:=by simp[List.getD,hl,hi]
 have e2:od.getD j 0=od[j]:=by simp[List.getD,hl,hj]
 rw[e1,e2] at e
 exact(List.getElem_inj nd).mp e
theorem zOZ{n:Nat}{od:List Nat}(h:od.Perm (List.range n)){i:Nat}(hi:i<n):od.getD i 0<n:=by
 have hl:od.length=n:=by rw[h.length_eq,List.length_range]
 have e1:od.getD i 0=od[i]:=by simp[List.getD,hl,hi]
 rw[e1]
 exact List.mem_range.mp (h.mem_iff.mp (List.getElem_mem _))
theorem zP2{n:Nat}{q:Nat×Nat→Bool}{od:List Nat}(h:od.Perm (List.range n)):∀ p∈nmL n q od,p.1<p.2∧p.2<n:=by
 intro p hp
 obtain⟨x,hx,rfl⟩:=List.mem_map.mp hp
 have h1:=yZ.mp (List.mem_filter.mp hx).1
 have a:=zOZ h (i:=x.1) (by (first|lia|omega))
 have b:=zOZ h (i:=x.2) (by (first|lia|omega))
 have:od.getD x.1 0≠od.getD x.2 0:=fun e=>by have:=zE7 h (by (first|lia|omega)) (by (first|lia|omega)) e;(first|lia|omega)
 simp only;(first|lia|omega)
theorem zKa{n:Nat}{q:Nat×Nat→Bool}{od:List Nat}(h:od.Perm (List.range n)):(nmL n q od).Nodup:=by
 unfold nmL List.Nodup
 rw[List.pairwise_map]
 have nd:((yj n).filter q).Nodup:=(ym n).filter _
 refine nd.imp_of_mem fun {a b} ha hb ne e=>ne ?_
 have h1:=yZ.mp (List.mem_filter.mp ha).1
 have h2:=yZ.mp (List.mem_filter.mp hb).1
 simp only[Prod.mk.injEq] at e
 have i1:=fun e=>zE7 h (i:=a.1) (j:=b.1) (by (first|lia|omega)) (by (first|lia|omega)) e
 have i2:=fun e=>zE7 h (i:=a.2) (j:=b.2) (by (first|lia|omega)) (by (first|lia|omega)) e
 have i3:=fun e=>zE7 h (i:=a.1) (j:=b.2) (by (first|lia|omega)) (by (first|lia|omega)) e
 have i4:=fun e=>zE7 h (i:=a.2) (j:=b.1) (by (first|lia|omega)) (by (first|lia|omega)) e
 generalize od.getD a.1 0=x1 at *
 generalize od.getD a.2 0=x2 at *
 generalize od.getD b.1 0=y1 at *
 generalize od.getD b.2 0=y2 at *
 by_cases c:x1=y1
 ·exact Prod.ext (i1 c) (i2 (by (first|lia|omega)))
 ·have:=i3 (by (first|lia|omega))
  have:=i4 (by (first|lia|omega))
  (first|lia|omega)
theorem zMZ{σ:S2}{G:Gp}{t u:zo}{n:Nat}{q:Nat×Nat→Bool}{od:List Nat}{lo i j k:Nat}(ht:ze t σ G (.tup (((yj n).filter q).map zt)))(hod:od.Perm (List.range n))(hn:n≤9)
  (ha:∀ x:Nat×Nat,x∈(yj n).filter q→ze (zP zi u (zB i)) (σ++[some (nD x.1),some (nD x.2)]) G (nD (od.getD x.1 0))) (hb:∀ x:Nat×Nat,x∈(yj n).filter q→ze (zP zi u (zB j)) (σ++[some (nD x.1),some (nD x.2)]) G (nD (od.getD x.2 0))) :
  ze (zb zn (zBb (zf (iV t) bd2 zAB (zb zn (zA3 (wS (zA (zP zi u (zB i)) (zA (zP zi u (zB j)) zI)))))))) σ G (.tup (((yj n).filter fun p=>decide (p∈nmL n q od)).map zt)):=by
 have c:=zGf (σ:=σ) (G:=G) (l:=(yj n).filter q) (tc:=zAB) (te:=(zb zn (zA3 (wS (zA (zP zi u (zB i)) (zA (zP zi u (zB j)) zI)))))) (fun u0=>true) (fun x=>zt (min (od.getD x.1 0) (od.getD x.2 0),max (od.getD x.1 0) (od.getD x.2 0))) ht fun x hx=>⟨zLX,zMU (ha x hx) (hb x hx)⟩
 rw[List.filter_eq_self.mpr (fun u0 u0=>rfl)] at c
 have e:List.map (fun x=>zt (min (od.getD x.1 0) (od.getD x.2 0),max (od.getD x.1 0) (od.getD x.2 0))) ((yj n).filter q)=(nmL n q od).map zt:=by
  unfold nmL;rw[List.map_map];rfl
 rw[e] at c
 exact zMT c (zKa hod) (zP2 hod) hn
noncomputable def zA8:Sp2:=fun ds G R=>∃(l:Addr) (m:Nat),ds=[.adr l,nD m]∧zAR G l∧1≤m∧m≤9∧∀(n:Nat) (q:Nat×Nat→Bool) (G':Gp),1≤n→n≤9→Dr l G G'→R (zO n q) G'
noncomputable def zCd:yi:=(zX (zPi 2 3 (zA (zK wY (zA (zB 0) (zA (zB 1) zI))) (zA (zK wY (zA (zB 0) (zA (zB 1) zI))) zI))) (zX (xIf (zB9 (xB (zP (ya fun i j=>.bl (decide (i<j))) (zP zi (zB 2) (xC (.int 0))) (xC (.int 2)))) (zB9 (xB (zP (ya fun i j=>.bl (decide (i<j))) (zP zi (zB 3) (xC (.int 0))) (xC (.int 2)))) (xB (zP (ya fun i j=>.bl (decide (j<i))) (zP yJ (zP zi (zB 2) (xC (.int 0))) (zP zi (zB 3) (xC (.int 0)))) (xC (.int 11)))))) (zu (zB 2)) yH) (zX (zv (zK wQ (zA (zB 2) (zA (zB 3) zI))) (gN 4)) (zX (zv (yA (zEl (zA (zP zi (zB 4) (xC (.int 0))) zI))) (gN 5)) (zX (zv (yA (zf (iR1 (zA (zP zi (zB 4) (xC (.int 0))) zI)) wy zAB (zLU (zB 5) (zA (zK zy (zA (zB 0) (zA (zK yR (zA (zB 5) zI)) zI))) zI)))) (gN 6)) (zu (yG (zA (zP zi (zB 4) (xC (.int 0))) (zA (zb zn (zBb (zf (iV (zP zi (zB 4) (xC (.int 1)))) bd2 zAB (zb zn (zA3 (wS (zA (zP zi (zB 6) (zB 7)) (zA (zP zi (zB 6) (zB 8)) zI)))))))) zI)))))))))
theorem zP3{σ:S2}{G:Gp}{i j:Nat}{t:wN}{u:yi}{E:yC}(h:t σ G fun ds G1=>match ds with | [d,e]=>u E ((σ.set i (some d)).set j (some e)) G1 | _=>False):zX (zPi i j t) u E σ G:=h
theorem zKb(ds:List D)(G:Gp)(R:Q2)(h:zA8 ds G R):ds.length=2∧zCd (zd R) (zS ["state","most","one","two","web","left","order"] ds) G:=by
 obtain⟨l,m,rfl,hs,hm1,hm,h⟩:=h
 refine⟨rfl,?_⟩
 unfold zCd
 rw[show zS ["state","most","one","two","web","left","order"] [.adr l,nD m]=[some (.adr l),some (nD m),none,none,none,none,none] from rfl]
 refine zP3 (zDt (zC3 (zF (zE rfl) (zF (zE rfl) zM)) ⟨l,m,rfl,hs,hm1,by (first|lia|omega),fun n1 q1 G1 h1 h1m d1=>zDt (zC3 (zF (zE rfl) (zF (zE rfl) zM)) ⟨l,m,rfl,d1.st,hm1,by (first|lia|omega),fun n2 q2 G2 h2 h2m d2=>zD5 ?_⟩)⟩))
 dsimp only
 simp only[List.set_cons_succ,List.set_cons_zero]
 have d02:=d1.trans d2
 have ii:∀ {i j:Nat} {f:Int→Int→Bool} {σ:S2} {t u:zo},ze t σ G2 (nD i)→ze u σ G2 (nD j)→PuT (xB (zP (ya fun i j=>.bl (f i j)) t u)) σ G2 (f i j):=fun h h'=>wK (zBU (g:=fun i j=>.bl (_)) h h')
 have tt:PuT (zB9 (xB (zP (ya fun i j=>.bl (decide (i<j))) (zP zi (zB 2) (xC (.int 0))) (xC (.int 2)))) (zB9 (xB (zP (ya fun i j=>.bl (decide (i<j))) (zP zi (zB 3) (xC (.int 0))) (xC (.int 2)))) (xB (zP (ya fun i j=>.bl (decide (j<i))) (zP yJ (zP zi (zB 2) (xC (.int 0))) (zP zi (zB 3) (xC (.int 0)))) (xC (.int 11)))))) [some (.adr l),some (nD m),some (zO n1 q1),some (zO n2 q2),none,none,none] G2 (decide (((n1:Nat):Int)<((2:Nat):Int))||(decide (((n2:Nat):Int)<((2:Nat):Int))||decide (((11:Nat):Int)<((n1+n2:Nat):Int)))) :=
  zH8 (ii (f:=fun i j=>decide (i<j)) (yu (zE rfl)) (yU (d:=nD 2))) fun u0=>zH8 (ii (f:=fun i j=>decide (i<j)) (yu (zE rfl)) (yU (d:=nD 2))) fun u0=>ii (i:=n1+n2) (j:=11) (f:=fun i j=>decide (j<i)) (wk (i:=(n1:Int)) (j:=(n2:Int)) (yu (zE rfl)) (yu (zE rfl))) (yU (d:=nD 11))
 refine zMR tt (fun u0=>?_) fun hb=>?_
 ·dsimp only
  exact zAn (zE rfl) (.of (h n1 q1 G2 h1 (by (first|lia|omega)) d02))
 ·have hh:2≤n1∧2≤n2∧n1+n2≤11:=by
   simp only[Bool.or_eq_false_iff,decide_eq_false_iff_not] at hb
   (first|lia|omega)
  obtain⟨g1,g2,g3⟩:=hh
  generalize hq:(fun p=>decide (p∈glF n1 q1 n2 q2))=q
  refine wU (d:=zO (n1+n2-2) q) (zY (zF (zE rfl) (zF (zE rfl) zM)) fun u0 u0 u0 q'=>⟨n1,q1,n2,q2,rfl,g1,g2,g3,by rw[hq];exact q'⟩) ?_
  simp only[gN,List.set_cons_succ,List.set_cons_zero]
  have hn1:1≤n1+n2-2:=by (first|lia|omega)
  have hn9:n1+n2-2≤9:=by (first|lia|omega)
  generalize n1+n2-2=n at hn1 hn9
  have pl:PuL (zEl (zA (zP zi (zB 4) (xC (.int 0))) zI)) [some (.adr l),some (nD m),some (zO n1 q1),some (zO n2 q2),some (zO n q),none,none] G2 ((List.range n).map nD):=fun G2 e R q'=>zF (d:=nD n) (yu (q:=q) (zE rfl)) zM G2 e _ ⟨by (first|lia|omega),by rw[zAD];exact q'⟩
  refine wZ (zAL pl fun lf hlf=>?_)
  simp only[gN,List.set_cons_succ,List.set_cons_zero]
  have la:lf≠l:=d02.st.ne hlf
  have hsG:zAR (zR G2 lf ((List.range n).map nD)) l:=d02.st.ext (.new hlf)
  have hdr:DrS l G2 (zR G2 lf ((List.range n).map nD)):=(DrS.refl d02.st).put d02.st hlf
  have pn:ze (zP zi (zB 4) (xC (.int 0))) [some (.adr l),some (nD m),some (zO n1 q1),some (zO n2 q2),some (zO n q),some (.adr lf),none] (zR G2 lf ((List.range n).map nD)) (nD (List.range n).length):=by
   rw[List.length_range];exact yu (q:=q) (zE rfl)
  refine wZ (zHP (show zf _ _ _ _ _ _ _ from drawn (σ:=[some (.adr l),some (nD m),some (zO n1 q1),some (zO n2 q2),some (zO n q),some (.adr lf),none]) (G:=zR G2 lf ((List.range n).map nD)) (G0:=G2) (k:=7) (xs:=List.range n) (i0:=0) (i2:=5) (t:=zA (zP zi (zB 4) (xC (.int 0))) zI)
   (R:=fun d G1=>match d with | .tup ds=>∀ a,G1.m a=none→zu (yG (zA (zP zi (zB 4) (xC (.int 0))) (zA (zb zn (zBb (zf (iV (zP zi (zB 4) (xC (.int 1)))) bd2 zAB (zb zn (zA3 (wS (zA (zP zi (zB 6) (zB 7)) (zA (zP zi (zB 6) (zB 8)) zI)))))))) zI))) (zd R) [some (.adr l),some (nD m),some (zO n1 q1),some (zO n2 q2),some (zO n q),some (.adr lf),some (.adr a)] (zR G1 a ds) | _=>False) rfl rfl rfl (zF pn zM) hsG d02.st la zH hlf hdr (by simp;(first|lia|omega)) fun od G' hp hd=>fun a ha=>?_))
  have ods:∀ {x:Nat×Nat},x∈(yj n).filter q→x.1<n∧x.2<n:=fun {x} hx=>by have:=yZ.mp (List.mem_filter.mp hx).1;(first|lia|omega)
  have hl:od.length=n:=by rw[hp.length_eq,List.length_range]
  have ma:(zR G' a (od.map nD)).m a=some (od.map nD):=zH
  have at':∀ {i:Nat},i<n→atI (od.map nD) (i:Int)=some (nD (od.getD i 0)):=fun {i} hi=>zI7 (by (first|lia|omega))
  have e:=zMZ (σ:=[some (.adr l),some (nD m),some (zO n1 q1),some (zO n2 q2),some (zO n q),some (.adr lf),some (.adr a)]) (G:=zR G' a (od.map nD)) (t:=(zP zi (zB 4) (xC (.int 1)))) (u:=zB 6) (n:=n) (q:=q) (od:=od) (lo:=0) (i:=7) (j:=8) (k:=0) (zCr (zE rfl)) hp hn9 (fun x hx=>zIT (l:=a) (zE rfl) (zE (d:=nD x.1) rfl) (.inl ma) (at' (ods hx).1)) (fun x hx=>zIT (l:=a) (zE rfl) (zE (d:=nD x.2) rfl) (.inl ma) (at' (ods hx).2))
  refine zAn (d:=zO n fun p=>decide (p∈nmL n q od)) (yP (zF (yu (q:=q) (zE rfl)) (zF e zM)) (by simp)) ?_
  obtain⟨G3,d3,s3⟩:=hd
  exact⟨G3,s3.trans (.new ha),h n _ G3 hn1 hn9 (d02.trans d3)⟩
end K
namespace K
open PySem PySem.Spec PyProof.Rows L2 L3
noncomputable def wA:Sp2:=fun ds G R=>∃(n:Nat) (q:Nat×Nat→Bool) (ps:List Nat),ds=[zO n q,uD ps]∧n≤9∧(∀ x∈ps,x<n)∧ps.length≤9∧R (.bl (zCl n q ps)) G
noncomputable def zCe:yi:=(zu (zDn (zBI (ya fun i j=>.bl (decide (i<j))) (ya fun i j=>.bl (decide (i<j))) (xC (.int 1)) (zK yR (zA (zB 1) zI)) (zP (ya fun i j=>.int (i-j)) (zP zi (zB 0) (xC (.int 0))) (xC (.int 1)))) (zP (ya fun i j=>.bl (decide (i<j))) (zK zAt (zA (zB 0) (zA (zB 1) zI))) (xC (.int 2)))))
theorem zKc(ds:List D)(G:Gp)(R:Q2)(h:wA ds G R):ds.length=2∧zCe (zd R) (zS ["web","places"] ds) G:=by
 obtain⟨n,q,ps,rfl,hn,hm,hl,h⟩:=h
 refine⟨rfl,?_⟩
 unfold zCe
 rw[show zS ["web","places"] [zO n q,uD ps]=[some (zO n q),some (uD ps)] from rfl]
 have a1:=zDu (f:=fun i j=>decide (i<j)) (g:=fun i j=>decide (i<j)) (yU (σ:=[some (zO n q),some (uD ps)]) (G:=G) (d:=.int 1)) (zAb (ps:=ps) (zE (i:=1) rfl)) (zBU (g:=fun i j=>.int (i-j)) (yu (n:=n) (q:=q) (zE (i:=0) rfl)) (yU (d:=.int 1)))
 have a2:ze (zP (ya fun i j=>.bl (decide (i<j))) (zK zAt (zA (zB 0) (zA (zB 1) zI))) (xC (.int 2))) [some (zO n q),some (uD ps)] G (.bl (decide (((rk n q ps).length:Int)<2))):=zBU (g:=fun i j=>.bl (decide (i<j))) (zY (d:=nD (rk n q ps).length) (zF (zE rfl) (zF (zE rfl) zM)) fun u0 u0 u0 q'=>⟨n,q,ps,rfl,hn,hm,hl,q'⟩) (yU (d:=.int 2))
 have:=zDR a1 fun u0=>a2
 have e:((decide ((1:Int)<(ps.length:Int))&&decide ((ps.length:Int)<(n:Int)-1))&&decide (((rk n q ps).length:Int)<2))=zCl n q ps:=by
  unfold zCl
  rw[Bool.eq_iff_iff]
  simp only[Bool.and_eq_true,decide_eq_true_eq]
  (first|lia|omega)
 rw[e] at this
 exact zAn this (.of h)
noncomputable def zCL(n:Nat)(ps:List Nat):Prop:=ps.Pairwise (·<·)∧∀ x∈ps,x<n
theorem zCL.len{n:Nat}{ps:List Nat}(h:zCL n ps):ps.length≤n:=by
 have nd:ps.Nodup:=h.1.imp fun a=>Nat.ne_of_lt a
 have:=nd.length_le_of_subset (l₂:=List.range n) fun x hx=>List.mem_range.mpr (h.2 x hx)
 rwa [List.length_range] at this
noncomputable def zBf:Sp2:=fun ds G R=>∃(l:Addr) (n:Nat),ds=[.adr l,nD n]∧zAR G l∧n≤100∧∀(ps:List Nat) G',zCL n ps→Dr l G G'→R (uD ps) G'
noncomputable def zDX:yi:=(zu (zb zn (zf (iR1 (zA (zB 1) zI)) wy (xB (zP (fEq false) (zK zy (zA (zB 0) (zA (xC (.int 2)) zI))) (xC (.int 0)))) (zB 2))))
theorem zP4{σ:S2}{G:Gp}{tl:TL2}{E:yC}(h:tl σ G fun ds G1=>E.rt (.tup ds) G1):zu (zb zn tl) E σ G:=h
theorem zQ3{G0:Gp}{A l:Addr}{x y:List D}(h:A≠l):zR (zR G0 A x) l y=zR (zR G0 l y) A x:=by
 unfold zR
 dsimp only
 congr 1
 funext z
 by_cases hz:z=l
 ·subst hz
  simp only[if_true,if_neg (Ne.symm h)]
 ·by_cases hzA:z=A
  ·subst hzA
   simp only[if_true,if_neg h]
  ·simp only[if_neg hz,if_neg hzA]
theorem Dr.swap{G0 G3:Gp}{A l:Addr}{x:List D}(h:A≠l)(d:Dr l (zR G0 A x) G3)(st:zAR G0 l):∃ G1,Dr l G0 G1∧G3=zR G1 A x:=by
 obtain⟨s',b',rfl,ok⟩:=d
 exact⟨zR G0 l [.int s',.bl b'],⟨s',b',rfl,ok⟩,zQ3 h⟩
theorem zMa(ds:List D)(G:Gp)(R:Q2)(h:zBf ds G R):ds.length=2∧zDX (zd R) (zS ["state","many"] ds) G:=by
 obtain⟨l,n,rfl,st,hn,h⟩:=h
 refine⟨rfl,?_⟩
 unfold zDX
 rw[show zS ["state","many"] [.adr l,nD n]=[some (.adr l),some (nD n)] from rfl]
 refine zP4 (zEO (show iR1 _ _ _ _ from zIH (d:=nD n) (zE rfl) (zD5 ⟨by (first|lia|omega),?_⟩)))
 rw[zAD]
 intro A hA
 have Al:A≠l:=st.ne hA
 refine zDG (fun i acc G'=>∃(ps:List Nat) (G0:Gp),acc=ps.map nD∧ps.Pairwise (·<·)∧(∀ x∈ps,x<i∧x<n)∧ps.length≤i∧Dr l G G0∧G'=zR G0 A acc) ⟨[],G,rfl,.nil,fun x hx=>(by cases hx),Nat.le_refl _,.refl st,rfl⟩ ?_ ?_ ?_
 ·rintro i acc G' ⟨ps,G0,rfl,h0,h1,h2,h3,rfl⟩
  exact⟨trivial,zH,by rw[List.length_map];exact h2⟩
 ·rintro i x acc G' hx ⟨ps,G0,rfl,h0,h1,h2,h3,rfl⟩
  obtain⟨rfl,hi⟩:=zGN hx
  have A0:G0.m A=none:=h3.none st hA
  refine⟨[nD i],rfl,zQ0 (zC3 (zF (zE rfl) (zF (yU (d:=.int 2)) zM)) ⟨l,2,rfl,h3.st.ext (.new A0),by (first|lia|omega),by (first|lia|omega),fun t G3 ht d3=>?_⟩)⟩
  refine⟨rfl,rfl,?_⟩
  obtain⟨G1,dG,rfl⟩:=Dr.swap Al d3 h3.st
  have e0:(if false=true then !wf (nD t) (.int 0) else wf (nD t) (.int 0))=decide (t=0):=by rw[if_neg (by simp)];exact zC4 t 0
  rw[e0]
  by_cases ht0:t=0
  ·rw[decide_eq_true ht0]
   dsimp only
   rw[if_pos rfl]
   refine zE (i:=2) (d:=nD i) rfl _ (.refl _) _ ⟨zH,_,.refl _,ps++[i],G1,by simp,?_,?_,by simp;(first|lia|omega),h3.trans dG,zAs⟩
   ·refine List.pairwise_append.mpr ⟨h0,List.pairwise_singleton _ _,fun a ha b hb=>?_⟩
    rw[List.mem_singleton.mp hb]
    exact(h1 a ha).1
   ·intro x hx
    rcases List.mem_append.mp hx with hx | hx
    ·have:=h1 x hx;(first|lia|omega)
    ·rw[List.mem_singleton.mp hx];(first|lia|omega)
  ·rw[decide_eq_false ht0]
   dsimp only
   rw[if_neg (by simp)]
   exact⟨_,.refl _,ps,G1,rfl,h0,fun x hx=>(by have:=h1 x hx;(first|lia|omega):x<i+1∧x<n),by (first|lia|omega),h3.trans dG,rfl⟩
 ·rintro acc G' ⟨ps,G0,rfl,h0,h1,h2,h3,rfl⟩
  exact⟨G0,h3.none st hA,.new (h3.none st hA),.of (h ps G0 ⟨h0,fun x hx=>(h1 x hx).2⟩ h3)⟩
theorem zCL.nil{n:Nat}:zCL n []:=⟨.nil,fun x hx=>nomatch hx⟩
theorem zCL.all{n:Nat}:zCL n (List.range n):=⟨List.pairwise_lt_range,fun x hx=>List.mem_range.mp hx⟩
end K
namespace HT
open PySem PySem.Spec PyProof.Rows
section
variable {prog:Program} {w:World} {A:Around} {E:Value→Shared→Prop} {s:Shared}
end
end HT
namespace L3
open PySem PySem.Spec PyProof.Rows L2
section
variable {X:Cx} {a b c d e o:Expr} {es:List Expr} {pos p:Pos} {ta tb tc td te:zo} {tl:TL2}
end
end L3
namespace L3
open PySem PySem.Spec PyProof.Rows L2
section
variable {X:Cx} {a b e o:Expr} {pos p apos cpos:Pos} {ta tb te:zo} {tl:TL2} {t:wN}
theorem part_of{v:Value}{p:Option Int}(h:IsPart v p):∃ l:Option (Int×Tok),v=partValue l∧l.map (·.1)=p:=by
 cases h with
 | none=>exact⟨none,rfl,rfl⟩
 | int=>exact⟨some (_,_),rfl,rfl⟩
end
end L3
namespace L2
open PySem PySem.Spec PyProof.Rows
theorem wL.obj{P:Program}{w:World}{H:Hp}{h:Heap}{a:Addr}{o:HO}(x:wL P w H h a o):∃ u,h.get? a=some u:=by
 cases o with
 | lst xs=>obtain⟨u0,u0,u0,u0,e⟩:=x;exact⟨_,e⟩
 | tup xs=>obtain⟨u0,u0,u0,u0,e,u0⟩:=x;exact⟨_,e⟩
 | dK kvs=>obtain⟨u0,u0,u0,u0,o,u0,u0,e,u0⟩:=x;exact⟨_,e⟩
 | dT kvs=>obtain⟨u0,u0,u0,u0,o,u0,u0,e,u0⟩:=x;exact⟨_,e⟩
 | set S n=>obtain⟨o,u0,u0,u0,e,u0⟩:=x;exact⟨_,e⟩
 | ins C dx fs=>obtain⟨u0,u0,u0,e,u0⟩:=x;exact⟨_,e⟩
 | own y=>obtain⟨o,e⟩:=x;exact⟨_,e⟩
 | xd fs=>obtain⟨u0,⟨u0,u0,u0,e,u0⟩,u0⟩:=x;exact⟨_,e⟩
 | rng lo hi=>obtain⟨u0,u0,u0,e⟩:=x;exact⟨_,e⟩
 | frz ob u=>obtain⟨e,u0⟩:=x;exact⟨_,e⟩
 | tbl ps=>obtain⟨u0,u0,u0,u0,e,u0⟩:=x;exact⟨_,e⟩
 | met f y=>exact⟨_,(show h.get? a=some _ from x)⟩
 | ext φ=>obtain⟨u0,⟨u0,e⟩,u0⟩:=x;exact⟨_,e⟩
theorem zMb{env:Env}{r:List Env}{L:Addr}(hf:env.frame=some L):L∈frs (env::r):=by
 unfold frs;rw[List.filterMap_cons,hf];exact List.mem_cons_self
theorem zCM{env:Env}{r:List Env}{b:Addr}(h:b∈frs r):b∈frs (env::r):=by
 unfold frs;rw[List.filterMap_cons]
 cases env.frame with
 | none=>exact h
 | some L=>exact List.mem_cons_of_mem _ h
theorem zKd{env:Env}{r:List Env}{L b:Addr}(hf:env.frame=some L)(h:b∈frs (env::r)):b=L∨b∈frs r:=by
 unfold frs at h;rw[List.filterMap_cons,hf] at h
 exact List.mem_cons.mp h
theorem zMc{h base h' B:Heap}:∀ {l:List Env},h.FunFrames base l→(∀ L∈frs l,B.get? L=none)→(∀ L∈frs l,∀ o,h.get? L=some o→∃ sl,h'.get? L=some { o with slots:=sl })→h'.FunFrames B l
 | [],_,_,_=>trivial
 | env::r,⟨hk,⟨L,o,hf,hn,ho,hd⟩,hr⟩,hB,hs=>by
  have hL:L∈frs (env::r):=zMb hf
  obtain⟨sl,e⟩:=hs L hL o ho
  exact⟨hk,⟨L,_,hf,hB L hL,e,hd⟩,zMc hr (fun b hb=>hB b (zCM hb)) fun b hb=>hs b (zCM hb)⟩
noncomputable def Tr(h B:Heap)(e C:Addr):Prop:=(∃ a0,h.TracedW B e (.ref C) a0)∨∃ oe vs a0,h.get? e=some oe∧oe.cls=.ref C∧oe.data=.fields vs∧vs[1]?=some .none∧vs[0]?=some a0
set_option genInjectivity false in
structure XE (P:Program) (w:World) (outer:List Env) (H:Hp) (s:Shared) (C e:Addr) (H':Hp) (B:Heap) (s':Shared):Prop where
 os:s'.os=s.os
 bare:AllBare s'.gens
 un:Un (frs outer) [] H H' s.heap s'.heap
 hok:HOk P w H' s'.heap
 new:s.heap.get? e=none
 free:H' e=none
 stay:Heap.StaysIn B s'.heap
 eB:B.get? e=none
 frB:∀ L∈frs outer,B.get? L=none
 has1:∀ b u,H' b=some u→∃ o,B.get? b=some o
 has0:∀ b o,s.heap.get? b=some o→H b=none→b∉frs outer→B.get? b=some o
 th:∀ b o,s.heap.get? b=some o→b∉frs outer→∃ o',B.get? b=some o'
 tr:∃ a0,s'.heap.TracedW B e (.ref C) a0
set_option genInjectivity false in
structure XB (X:Cx) (C e:Addr) (H':Hp) (B:Heap) (s':Shared):Prop where
 ok:X.Ok
 stk:X.stack=X.env::X.outer
 frm:X.env.frame=some X.env.locals
 ex:X.ex=[]
 os:s'.os=X.s₀.os
 bare:AllBare s'.gens
 un:Un X.fs [] X.H₀ H' X.s₀.heap s'.heap
 hok:HOk X.prog X.w H' s'.heap
 new:X.s₀.heap.get? e=none
 free:H' e=none
 stay:Heap.StaysIn B s'.heap
 eB:B.get? e=none
 frB:∀ L∈frs X.stack,B.get? L=none
 funs:s'.heap.FunFrames B X.stack
 has1:∀ b u,H' b=some u→∃ o,B.get? b=some o
 has0:∀ b o,X.s₀.heap.get? b=some o→X.H₀ b=none→b∉frs X.stack→B.get? b=some o
 th:∀ b o,X.s₀.heap.get? b=some o→b∉frs X.stack→∃ o',B.get? b=some o'
 tr:Tr s'.heap B e C
section
variable {X:Cx} {C e:Addr} {H':Hp} {B:Heap} {s':Shared}
theorem XB.outL(x:XB X C e H' B s'){b:Addr}{o:Obj}(q:X.s₀.heap.get? b=some o)(hb:b∉X.fs):b∉frs X.stack:=fun z=>by
 rw[x.stk] at z
 rcases zKd x.frm z with r | r
 ·exact absurd (Nat.lt_of_lt_of_le (Heap.lt_size q) x.ok.above) (by rw[r];exact Nat.lt_irrefl _)
 ·exact hb r
theorem XB.left(x:XB X C e H' B s'){h'':Heap}{a0:Value}(l:Heap.LeftW B X.stack e (.ref C) a0 s'.heap h''):XE X.prog X.w X.outer X.H₀ X.s₀ C e H' B { s' with heap:=h'' }:=by
 obtain⟨l1,l2,l3,l4⟩:=l
 have keep:∀ b o,X.s₀.heap.get? b=some o→X.H₀ b=none→b∉X.fs→h''.get? b=some o:=fun b o q n hb=>l1 b o (x.has0 b o q n (x.outL q hb))
 have slot:∀ b o,X.s₀.heap.get? b=some o→X.H₀ b=none→b∈X.fs→∃ sl,h''.get? b=some { o with slots:=sl }:=fun b o q n hb=>by
  obtain⟨sl,q1⟩:=x.un.slot b o q n hb (by simp)
  have hd:∀ vs,o.data≠.fields vs:=by
   obtain⟨u0,o1,ho,hd⟩:=x.ok.funs.mem hb
   rw[q] at ho;cases ho;exact hd
  obtain⟨sl2,q2⟩:=l4 b _ q1 hd
  exact⟨sl2,q2⟩
 have th:∀ b o,X.s₀.heap.get? b=some o→∃ o',h''.get? b=some o':=fun b o q=>by
  by_cases hb:b∈X.fs
  ·obtain⟨sl,z⟩:=slot b o q (x.ok.frf b hb) hb
   exact⟨_,z⟩
  ·obtain⟨o',z⟩:=x.th b o q (x.outL q hb)
   exact⟨o',l1 b o' z⟩
 refine⟨x.os,x.bare,⟨fun b o q n hb u0=>keep b o q n hb,fun b o q n hb u0=>slot b o q n hb,fun b o q n u0=>x.un.free b o q n (by simp),fun b o q u0=>th b o q,x.un.tups,x.un.frzs,x.un.tbls⟩,?_,x.new,x.free,l1,x.eB,fun L hL=>x.frB L (by rw[x.stk];exact zCM hL),x.has1,fun b o q n hb=>x.has0 b o q n (x.outL q hb),fun b o q hb=>x.th b o q (x.outL q hb),⟨a0,l3⟩⟩
 intro b u q
 refine(x.hok b u q).stay (fun c v hc r=>?_) (fun u0 r=>r) (fun u0 u0 r=>r) fun u0 u0 u0 r=>r
 have:∃ o,B.get? c=some o:=by
  rcases hc with z | z
  ·subst z;exact x.has1 _ _ q
  ·exact x.has1 _ _ z
 obtain⟨o2,z⟩:=this
 have z2:=x.stay c o2 z
 rw[r] at z2
 obtain rfl:v=o2:=Option.some.inj z2
 exact l1 c v z
theorem XB.leave(x:XB X C e H' B s'){M:Model}{Q:Unit→Shared→Prop}{E:Value→Shared→Prop}(hQ:∀ h'',XE X.prog X.w X.outer X.H₀ X.s₀ C e H' B { s' with heap:=h'' }→Q () { s' with heap:=h'' }):wpAny M X.A (leaving X.env (.ref e)) Q E s':=by
 have fr:X.A.frames=some (X.env::X.outer):=by rw[x.ok.frames,x.stk]
 have ff:=x.funs
 rw[x.stk] at ff
 rcases x.tr with ⟨a0,t⟩ | ⟨oe,vs,a0,t1,t2,t3,t4,t5⟩
 ·exact wpAny_leaving_nextW fr ff x.frm t x.stay x.eB fun h' l=>hQ h' (x.left (a0:=a0) (by rw[x.stk];exact l))
 ·exact wpAny_leaving_firstW fr ff x.frm t1 x.stay x.eB t3 t4 t5 fun h' l=>hQ h' (x.left (a0:=a0) (by rw[x.stk,← t2];exact l))
theorem XE.body{pins:List (Addr×Obj)}{σ:St}{H:Hp}{s:Shared}(stk:X.stack=X.env::X.outer)(frm:X.env.frame=some X.env.locals)(ex:X.ex=[])(I:zV X pins σ H s)(x:XE X.prog X.w X.stack H s C e H' B s'):XB X C e H' B s':=by
 have I2:zV X pins σ H' s':=I.call' x.os x.un x.hok x.bare (fun b hb=>absurd hb (by simp))
 have nex:∀ b,b∉X.ex:=fun b z=>by rw[ex] at z;exact absurd z (by simp)
 have un:=I2.base
 rw[ex] at un
 refine⟨I.ok,stk,frm,ex,x.os.trans I.os,x.bare,un,x.hok,?_,x.free,x.stay,x.eB,x.frB,?_,x.has1,fun b o q n hb=>?_,fun b o q hb=>?_,.inl x.tr⟩
 ·cases q:X.s₀.heap.get? e with
  | none=>rfl
  | some o =>
   obtain⟨o',z⟩:=I.base.there e o q (nex _)
   rw[x.new] at z;cases z
 ·exact zMc I.stack x.frB fun L hL o ho=>x.un.slot L o ho (I.stkFree L hL) hL (by simp)
 ·exact x.has0 b o (I.base.keep b o q n (fun z=>hb (by rw[stk];exact zCM z)) (nex _)) (I.base.free b o q n (nex _)) hb
 ·obtain⟨o',z⟩:=I.base.there b o q (nex _)
  exact x.th b o' z hb
theorem XB.made{pins:List (Addr×Obj)}{σ:St}{H:Hp}{s:Shared}{h':Heap}{args:List Value}(stk:X.stack=X.env::X.outer)(frm:X.env.frame=some X.env.locals)(ex:X.ex=[])(I:zV X pins σ H s)(m:s.heap.MadeExcOf h' e (.ref C) args) :
  XB X C e H (PySem.W.hideAll s.heap (frs X.stack)) { s with heap:=h' }:=by
 have nex:∀ b,b∉X.ex:=fun b z=>by rw[ex] at z;exact absurd z (by simp)
 have I2:zV X pins σ H { s with heap:=h' }:=I.kept (t':=s.toks) m.keeps
 have un:=I2.base
 rw[ex] at un
 have hid:∀ b o,(PySem.W.hideAll s.heap (frs X.stack)).get? b=some o→s.heap.get? b=some o∧b∉frs X.stack:=fun b o q=>⟨PySem.W.of_hideAll _ q,fun hb=>by rw[PySem.W.hideAll_none _ hb] at q;cases q⟩
 have get:∀ b o,s.heap.get? b=some o→b∉frs X.stack→(PySem.W.hideAll s.heap (frs X.stack)).get? b=some o:=fun b o q n=>PySem.W.hideAll_get (frs X.stack) q n
 have none_of:∀ b,b∈frs X.stack→(PySem.W.hideAll s.heap (frs X.stack)).get? b=none:=fun b hb=>by
  cases q:(PySem.W.hideAll s.heap (frs X.stack)).get? b with
  | none=>rfl
  | some o=>exact absurd hb (hid b o q).2
 refine⟨I.ok,stk,frm,ex,I.os,I.bare,un,I2.hok,?_,?_,fun b o q=>m.keeps b o (hid b o q).1,?_,none_of,?_,fun b u q=>?_,fun b o q n hb=>?_,fun b o q hb=>?_,.inr ?_⟩
 ·cases q:X.s₀.heap.get? e with
  | none=>rfl
  | some o =>
   obtain⟨o',z⟩:=I.base.there e o q (nex _)
   rw[m.new] at z;cases z
 ·cases q:H e with
  | none=>rfl
  | some u =>
   obtain⟨o,z⟩:=(I.hok e u q).obj
   rw[m.new] at z;cases z
 ·cases q:(PySem.W.hideAll s.heap (frs X.stack)).get? e with
  | none=>rfl
  | some o =>
   have z:=(hid e o q).1
   rw[m.new] at z;cases z
 ·exact zMc I.stack none_of fun L hL o ho=>⟨o.slots,m.keeps L o ho⟩
 ·obtain⟨o,z⟩:=(I.hok b u q).obj
  exact⟨o,get b o z fun w=>by rw[I.stkFree b w] at q;cases q⟩
 ·exact get b o (I.base.keep b o q n (fun z=>hb (by rw[stk];exact zCM z)) (nex _)) hb
 ·obtain⟨o',z⟩:=I.base.there b o q (nex _)
  exact⟨o',get b o' z hb⟩
 ·obtain⟨t,h1,u0,u0⟩:=m.there
  exact⟨_,_,.ref t,h1,rfl,rfl,rfl,rfl⟩
end
end L2
namespace L2
open PySem PySem.Spec PyProof.Rows
noncomputable abbrev bmV:List Value:=[.type "ValueError",.type "Exception",.type "BaseException",.type "object"]
theorem zN7{K:PySem.W.Frag}{h:Heap}{C:Addr}{bmB:List Value}{newId:String}(X:K.In h)(q:PySem.W.excIn K C bmB newId=true) :
  ∃ bm N nm qn bs hdct sn sub ab col dd k0 k1 k2 k3 k5 mN,h.get? C=some (excClassObj nm qn C N bs bm hdct sn sub ab col dd k0 k1 k2 k3 k5 newId)∧h.Ns N mN∧mN "__init__"=none∧OwnTail h bmB bm:=by
 unfold PySem.W.excIn at q
 split at q
 ·rename_i dict cd sl heq
  split at q
  ·rename_i C' bm a0 a1 a2 a3 n a5 hm hs
   simp only[Bool.and_eq_true,beq_iff_eq,Bool.not_eq_true'] at q
   obtain⟨⟨⟨⟨⟨q1,q2⟩,q3⟩,q4⟩,q5⟩,q6⟩:=q
   subst q1 q2
   have hg:=X _ _ heq
   obtain⟨mN,e1,e2⟩:∃ mN,h.Ns cd.ns mN∧mN "__init__"=none:=by
    exact⟨_,Heap.Ns.of_isNs (PySem.W.isNs_of_in X q5),PySem.W.nsMap_none_of_in X q5 q6⟩
   obtain⟨nm,bs,mro,ns,qn,hd,sn,sub,ab,col,del⟩:=cd
   dsimp only at hm q3 e1 hg
   subst hm q3
   have hsl:sl=#[a0,a1,a2,a3,some (.builtin n),a5]:=by
    cases sl with
    | mk l=>dsimp only at hs;rw[hs]
   subst hsl
   exact⟨bm,ns,nm,qn,bs,hd,sn,sub,ab,col,dict,a0,a1,a2,a3,a5,mN,hg,e1,e2,PySem.W.tail_of_in X q4⟩
  ·cases q
 ·cases q
end L2
namespace L3
open PySem PySem.Spec PyProof.Rows L2
noncomputable def Rz(P:Program)(w:World)(K:PySem.W.Frag)(mg:Str→Option Value)(base:Heap)(k:Nat)(x:Str)(ps:List Str)(cond:List D→Gp→(Gp→Prop)→Prop)(C:Addr):Prop :=
 ∃ f fd,mg x=some (.ref f)∧PySem.W.keepIn K (.ref f)=true∧Binds K fd ps []∧(∀ ds G E,cond ds G E→ds.length=ps.length) ∧
  ∀(A:Around) (outer:List Env) (s:Shared) (H:Hp) (args:Args) (us:List Value) (vs:List V) (ds:List D) (G:Gp) (E:Gp→Prop),yd k A→zFQ P w K mg base A outer s H→BindsTo s fd args (ps.zip us)→zh vs us→Dens K H ds vs→yK K G H→cond ds G E →
   codeAny (model P w) A (.call (.ref f) args) (fun r s'=>∃ e H' B,r=.error (.ref e)∧XE P w outer H s C e H' B s'∧yB H H'∧∃ G',yK K G' H'∧E G') s
noncomputable def Xs(X:Cx)(C:Addr)(sts:List Stmt)(t:(Gp→Prop)→S2→Gp→Prop):Prop :=
 ∀(pins:List (Addr×Obj)) (s:Shared) (σ1:L2.St) (H:Hp) (σ:S2) (G:Gp) (E:Gp→Prop),zV X pins σ1 H s→Rel X.K σ G σ1 H→t E σ G →
  wpAny (model X.prog X.w) X.A (execs sts X.env) (fun u0 u0=>False) (fun v s'=>∃ e H' B,v=.ref e∧XB X C e H' B s'∧yB H H'∧∃ G',yK X.K G' H'∧E G') s
noncomputable def Xe(X:Cx)(C:Addr)(ex:Expr)(t:(Gp→Prop)→S2→Gp→Prop):Prop :=
 ∀(pins:List (Addr×Obj)) (s:Shared) (σ1:L2.St) (H:Hp) (σ:S2) (G:Gp) (E:Gp→Prop),zV X pins σ1 H s→Rel X.K σ G σ1 H→t E σ G →
  wpAny (model X.prog X.w) X.A (eval ex X.env) (fun u0 u0=>False) (fun v s'=>∃ e H' B,v=.ref e∧XB X C e H' B s'∧yB H H'∧∃ G',yK X.K G' H'∧E G') s
set_option genInjectivity false in
structure Own (X:Cx):Prop where
 no:∀ v s,¬ X.xe v s
 stk:X.stack=X.env::X.outer
 frm:X.env.frame=some X.env.locals
 ex:X.ex=[]
 calm:X.calm=true
section
variable {X:Cx} {C:Addr} {st:Stmt} {rest body els:List Stmt} {t:(Gp→Prop)→S2→Gp→Prop}
theorem zOa{t1:yi}(O:Own X)(h1:P2 X st t1)(h2:Xs X C rest t):Xs X C (st::rest) (fun E σ G=>t1 { nx:=t E,rt:=fun u0 u0=>False } σ G):=by
 intro pins s σ1 H σ G E I r h
 refine wpAny_execs_cons (wpAny_mono (h1 pins s σ1 H { nx:=fun σ1' H'=>yB H H'∧∃ σ' G',Rel X.K σ' G' σ1' H'∧t E σ' G',rt:=fun u0 u0=>False } I ⟨σ,G,_,r,h,⟨fun σ' G' q σ1' H' g r'=>⟨g,σ',G',r',q⟩,fun u0 u0 q=>q.elim,fun u0 u0 q=>q.elim,fun u0 u0 q=>q.elim⟩⟩) (fun f s' q=>?_) fun v s' q=>(O.no v s' q).elim)
 cases f with
 | next=>obtain⟨σ1',H',I',g,σ',G',r',q'⟩:=q;exact wpAny_mono (h2 pins s' σ1' H' σ' G' E I' r' q') (fun u0 u0 z=>z) fun v s2 ⟨e,H2,B,e1,e2,g2,e3⟩=>⟨e,H2,B,e1,e2,g.trans g2,e3⟩
 | brk=>obtain⟨u0,u0,u0,q⟩:=q;exact q
 | cont=>obtain⟨u0,u0,u0,q⟩:=q;exact q
 | ret u=>obtain⟨u0,u0,u0,u0,u0,q⟩:=q;exact q
theorem zQ4{c:Expr}{tt:TT2}{pos:Pos}(O:Own X)(hc:T2 X c tt)(hb:Xs X C body t):Xs X C (.If c body els pos::rest) (fun E σ G=>tt σ G fun b G'=>b=true∧t E σ G'):=by
 intro pins s σ1 H σ G E I r h
 refine wpAny_execs_cons (wpAny_If (wpAny_mono (hc pins s σ1 H (fun b H'=>b=true∧yB H H'∧∃ G',Rel X.K σ G' σ1 H'∧t E σ G') I ⟨σ,G,_,r,h,fun b G' q H' g r'=>⟨q.1,g,G',r.to g r',q.2⟩⟩) (fun b s' q=>?_) fun v s' q=>(O.no v s' q).elim))
 obtain⟨H',I',rfl,g,G',r',q'⟩:=q
 exact wpAny_mono (hb pins s' σ1 H' σ G' E I' r' q') (fun u0 u0 z=>z.elim) fun v s2 ⟨e,H2,B,e1,e2,g2,e3⟩=>⟨e,H2,B,e1,e2,g.trans g2,e3⟩
theorem zGg{F:Str}{ps:List Str}{cond:List D→Gp→(Gp→Prop)→Prop}{k k':Nat}{e:Expr}{es:List Expr}{ta:wN}{p pos:Pos}(O:Own X)(R:Rz X.prog X.w X.K X.mg X.base k F ps cond C)(hr:yd k' X.A)(hk:k≤k')(hg:Gl X F)(ha:A2 X (e::es) ta)
  (hdb:(F==("__debug__":Str))=false:=by decide) (he:starEach (e::es) X.env=(false,eval e X.env)::starEach es X.env:=by rfl) (hpl:(backTo pos (starEach es X.env)).any (·.1)=false:=by rfl) :
  Xe X C (.Call (.Name F p) (e::es) [] pos) (fun E σ G=>ta σ G fun ds G'=>cond ds G' E):=by
 intro pins s σ1 H σ G E I r h
 obtain⟨f,fd,hm,hkp,hb,hl,run⟩:=R
 refine wpAny_Call_Name_kw (zC9 I hg hm ?_ hdb)
 refine PySem.W.callWith_K (h₀:=X.base) I.ok.mod.kin hkp (wpAny_mono (ha pos pins s σ1 H (fun vs H'=>yB H H'∧∃ ds G',Dens X.K H' ds vs∧yK X.K G' H'∧cond ds G' E) I ⟨σ,G,_,r,h,fun ds G' q vs H' g r' d'=>⟨g,ds,G',d',r',q⟩⟩) (fun us s1 q=>?_) fun v s' q=>(O.no v s' q).elim) he hpl
 obtain⟨vs,H1,I1,rv,g,ds,G',d',r',q'⟩:=q
 refine⟨I1.kIn,wpAny_call (codeAny_mono (run X.A X.stack s1 H1 ⟨us,[]⟩ us vs ds G' E (hr.mono hk) I1.env0 ?_ rv d' r' q') fun rr s' ⟨ee,H',B,e1,e2,g2,e3⟩=>?_)⟩
 ·have:=hb s1 us I1.kIn (by rw[List.append_nil,← rv.length,← d'.length];exact hl ds G' E q')
  rw[List.append_nil] at this
  exact this
 ·subst e1
  exact⟨ee,H',B,rfl,e2.body O.stk O.frm O.ex I1,g.trans g2,e3⟩
theorem zP5{ex:Expr}{pos:Pos}(h:Xe X C ex t)(hs:swapsWith ex none pos.line X.env=pure false:=by rfl):Xs X C (.Expr ex pos::rest) t:=by
 intro pins s σ1 H σ G E I r q
 exact wpAny_execs_cons (wpAny_Expr_any (wpAny_mono (h pins s σ1 H σ G E I r q) (fun u0 u0 z=>z.elim) fun u0 u0 z=>z) I.quiet hs)
theorem x_raise{cn:Str}{m:Expr}{tm:zo}{np cpos pos:Pos}(O:Own X)(hg:Gl X cn)(hm:X.mg cn=some (.ref C))(hc:PySem.W.excIn X.K C bmV "ValueError.__new__"=true)(he:E2 X m tm)
  (hdb:(cn==("__debug__":Str))=false:=by decide) (hst:starEach [m] X.env=(false,eval m X.env)::starEach [] X.env:=by rfl):Xs X C (.Raise (some (.Call (.Name cn np) [m] [] cpos)) none pos::rest) (fun E σ G=>tm σ G fun u0 G'=>E G'):=by
 intro pins s σ1 H σ G E I r h
 have ha:PA X [m] (zLB (lE X.K tm) zPE):=yS he wz hst
 obtain⟨bm,N,nm,qn,bs,hdct,sn,sub,ab,col,dd,k0,k1,k2,k3,k5,mN,c1,c2,c3,c4⟩:=zN7 I.ok.mod.kin hc
 refine wpAny_execs_cons (wpAny_Raise_call_subT (C:=C) (N:=N) (bm:=bm) (mN:=mN) (nm:=nm) (q:=qn) (bs:=bs) (hdct:=hdct) (sn:=sn) (sub:=sub) (ab:=ab) (col:=col) (dd:=dd) (k0:=k0) (k1:=k1) (k2:=k2) (k3:=k3) (k5:=k5) F.excBase_ValueError (c4.hasType F.excBase_ValueError.hasBase) (I.ok.hd O.calm) (by rw[hst];rfl) c3 (zC9 I hg hm ⟨rfl,?_⟩ hdb))
 rw[hst]
 refine Calls.evalArgs_plain ?_
 have h2:=ha cpos pins s σ1 H (fun vs H'=>vs.length=1∧yB H H'∧∃ G',yK X.K G' H'∧E G') I ⟨σ,G,fun u0 G'=>E G',r,h,fun d G' q v H' g r' dv=>⟨rfl,g,G',r',q⟩⟩
 rw[hst] at h2
 refine wpAny_mono h2 (fun us s1 ⟨vs,H1,I1,rv,hl,hgr,hG⟩=>?_) fun v s' q=>(O.no v s' q).elim
 refine⟨rfl,?_,I1.bk _ _ c1,c2.keeps I1.bk,c4.keeps I1.bk,fun h' e mm=>⟨e,H1,_,rfl,XB.made O.stk O.frm O.ex I1 mm,hgr,hG⟩⟩
 show us.length≤sizeLine
 rw[← rv.length,hl];decide
end
section
variable {P:Program} {w:World} {K:PySem.W.Frag} {mg:Str→Option Value} {base:Heap}
theorem zC6{N:List Str}{qual:Str}{scope:Scope}{f:Addr}{cd:Value}{A:Around}{outer:List Env}{s:Shared}{H:Hp}{E:XK}:Own (zCD CX0 P w K mg base N qual scope f cd A outer s H E).nox:=⟨fun u0 u0 h=>h,rfl,rfl,rfl,rfl⟩
theorem zMd{x qual:Str}{st:Stmt}{f:Addr}{fd:FuncData}{N ps:List Str}{k:Nat}{C:Addr}{cond:List D→Gp→(Gp→Prop)→Prop}(t:(Gp→Prop)→S2→Gp→Prop)(F:Fun K x qual st f fd)(S:zZ N ps (zG st))(hm:mg x=some (.ref f))(hb:Binds K fd ps [])
  (ht:∀(cdv:Value) (A:Around) (outer:List Env) (s:Shared) (H:Hp) (E:XK),yd k (A.deeper (envOfC qual (zG st) s.heap.objs.size f cdv))→Xs (zCD CX0 P w K mg base N qual (zG st) f cdv A outer s H E).nox C (zW st) t)
  (hs:∀ ds G E,cond ds G E→ds.length=ps.length∧t E (zS N ds) G):Rz P w K mg base (k+1) x ps cond C:=by
 refine⟨f,fd,hm,F.kp,hb,fun ds G E h=>(hs ds G E h).1,fun A outer s H args us vs ds G EE hr e0 hbd rv d r h=>?_⟩
 obtain⟨oc,od,kV,doc,pm,an,cdv,ct,osl,rfl,lk,hcd⟩:=F.ex
 obtain⟨hl,hq⟩:=hs ds G EE h
 have hlv:vs.length=ps.length:=by rw[← d.length];exact hl
 have KX:K.In s.heap:=e0.mod.kin.keeps fun b o e=>(e0.bs b o e).1
 have lim:s.heap.NoLimit:=e0.mod.nolimit.keeps fun b o e=>(e0.bs b o e).1
 have hkind:∀ y∈ps.zip us,(zG st).names.lookup y.1=some .local∨((zG st).names.lookup y.1=some .cell∧((cellsFrom (s.heap.objs.size+1) (zG st).names []).lookup y.1).isSome=true):=fun⟨n,v⟩ hy=>by
  rcases S.par n (List.of_mem_zip hy).1 with q | q
  ·exact .inl q
  ·exact .inr ⟨q,PySem.W.cellsFrom_some _ _ _ (.inl q)⟩
 refine codeAny_call_function hr.depth (KX _ _ lk) rfl S.co S.gen rfl (PySem.W.codeRec_of KX hcd) (hbd _ _ _ _ ?_)
 refine wpAny_newFunctionEnv_cells S.kind hkind fun env he s1 x=>?_
 subst he
 refine⟨lim.keeps x.toInCall.keep,codeAny_func ?_⟩
 have I:zV (zCD CX0 P w K mg base N qual (zG st) f cdv A outer s H E0) [] (start N vs) H s1:=zDi S hr.hd e0 hlv rv x
 refine wpAny_mono (ht cdv A outer s H E0 (hr.deeper _) [] s1 (start N vs) H (zS N ds) G EE (I.wish _) (zDp r d) hq) (fun fl s' z=>z.elim) fun v s' z=>?_
 obtain⟨e,H',B,rfl,xb,g,hG⟩:=z
 exact xb.leave fun h'' q=>⟨e,H',B,rfl,q,g,hG⟩
end
end L3
namespace L2
open PySem PySem.Spec PyProof.Rows
theorem zJN{a b:Int}{t u:Tok}{c:Value}:∀ {l:List Value},TriplesOk l→TriplesOk (l++[.int a t,.int b u,c])∧∀ pos x,codeAmong pos (l++[.int a t,.int b u,c])=some x→codeAmong pos l=some x∨x=c
 | [],_=>⟨trivial,fun pos x e=>by
   have e':(if (a==↑pos.line&&b==↑pos.col)=true then some c else none)=some x:=e
   split at e'
   ·cases e';exact .inr rfl
   ·cases e'⟩
 | .int i _::.int j _::z::r,h=>by
  obtain⟨h1,h2⟩:=zJN (a:=a) (b:=b) (t:=t) (u:=u) (c:=c) (l:=r) h
  refine⟨h1,fun pos x e=>?_⟩
  have e':(if (i==↑pos.line&&j==↑pos.col)=true then some z else codeAmong pos (r++[.int a t,.int b u,c]))=some x:=e
  show(if (i==↑pos.line&&j==↑pos.col)=true then some z else codeAmong pos r)=some x∨x=c
  split at e'
  ·rename_i hc;rw[if_pos hc];exact .inl e'
  ·rename_i hc;rw[if_neg hc];exact h2 pos x e'
noncomputable def BMn(h:Heap)(mg:Str→Option Value):Prop:=∃ bm ob,mg "__builtins__"=some (.ref bm)∧bm≠builtinsNs∧h.get? bm=some ob∧ob.cls=.type "module"∧ob.dict=some builtinsNs∧ob.data=.plain
noncomputable def zJO(H:Hp)(cv:Value)(q:Str):Prop:=∃(c:Addr) (o:Obj) (us:Array Value) (t':Tok),cv=.ref c∧H c=some (.frz o (.own 0))∧o.data=.fields us∧us[1]?=some (.str q t')
theorem zKe{X:Cx}{pins:List (Addr×Obj)}{σ:St}{H:Hp}{s:Shared}{params:Arguments}{body:Expr}{sc:Scope}{pos:Pos}{c P:Addr}{q:Str}{tq:Tok}{Q:Value→Shared→Prop}{E:Value→Shared→Prop}{A:Around}
  (I:zV X pins σ H s) (hcap:∀ y∈sc.names,y.2=.free→X.env.kindOf y.1=some .cell∨X.env.kindOf y.1=some .free) (hdf:defaultsOf params X.env=([],[])) (hcode:X.env.code=.ref c) (hC:PySem.W.CodeHd X.base c P) (hB:BMn X.base X.mg)
  (hq:X.env.qual++"<lambda>"=q) (hP:H P=some (.tbl #[.str q tq]))
  (h:∀(g:Addr) (H':Hp) (s':Shared) (cv ctv pm:Value),zV X pins σ H' s'→zCy H H'→Un X.fs [] H H' s.heap s'.heap→s.heap.objs.size≤g→H' g=none→s'.heap.get? g=some { cls:=.type "function",data:=.func (PySem.W.kla_fn "<lambda>" q params body sc (zAd sc X.env) pm cv ctv) }→zJO H' cv q→Q (.ref g) s') :
  wpAny (model X.prog X.w) A (eval (.Lambda params body sc pos) X.env) Q E s:=by
 have hfree:∀ y∈sc.names,y.2=.free→∃ c,X.env.cells.lookup y.1=some c:=fun y hy hf=>I.ok.has _ (hcap y hy hf)
 obtain⟨q',t',vs,e0,e1,e2,e3⟩:=(show wL X.prog X.w H s.heap P (.tbl #[.str q tq]) from I.hok P _ hP)
 cases e0
 have hns:s.heap.Ns mainGlobals X.mg:=I.mod.glob.keeps I.bk
 have hCh:PySem.W.CodeHd s.heap c P:=hC.keeps I.bk
 have hBh:s.heap.BuiltinsAt X.mg P:=by
  obtain⟨bm,o,b1,b2,b5,b6,b7,b8⟩:=hB
  obtain⟨g1,g2⟩:=I.bs _ _ b5
  refine⟨bm,o,b1,b2,fun z=>?_,fun z=>?_,g1,b6,b7,b8⟩
  ·obtain⟨o',es,ep,n1,n2,u0⟩:=hns
   rw[z,n1] at g1;cases g1
   rw[n2] at b8;cases b8
  ·rw[z,hP] at g2;cases g2
 have hnP:mainGlobals≠P:=fun z=>by
  obtain⟨o,es,ep,n1,n2,u0⟩:=hns
  rw[z,e1] at n1;cases n1
  cases n2
 refine PySem.W.kla_eval hdf ?_
 rw[hq]
 cases hc:codeAmong pos vs.toList with
 | some cv =>
  refine PySem.W.kla_makeFunctionHit (wX hfree) I.ok.glob hns hcode hCh e1 e2 hc hBh fun ctv h' tk kp hs=>?_
  have kp2:∀ b u,s.heap.get? b=some u→(h'.push { cls:=.type "function",data:=.func (PySem.W.kla_fn "<lambda>" q params body sc (zAd sc X.env) ((X.mg "__name__").getD .none) cv ctv) }).get? b=some u:=fun b u z=>Heap.get?_push_of_some _ (kp b u z)
  exact h _ H _ cv ctv _ (I.kept (t':=tk) kp2) (.refl H) (Un.kept kp2) hs (I.hok.fresh hs) (Heap.get?_push_size _ rfl) (e3 pos cv hc)
 | none =>
  refine PySem.W.kla_makeFunction (wX hfree) I.ok.glob hns hcode hCh e1 e2 hc hnP hBh fun c' ctv h' tk eb hs1 hs2 cr eP=>?_
  obtain⟨c1,oc,us,tt,z1,z2,z3,z4⟩:=cr
  cases z1
  have nc:H c'=none:=I.hok.fresh hs1
  have hcP:c'≠P:=fun z=>by rw[z,hP] at nc;cases nc
  have hs:s.heap.objs.size≤h'.objs.size:=Nat.le_of_lt (Nat.lt_of_le_of_lt hs1 hs2)
  generalize hfo:PySem.W.kla_obj "<lambda>" q params body sc (zAd sc X.env) ((X.mg "__name__").getD .none) c' ctv=fo
  have sm:zCy H (yp H c' (.frz oc (.own 0))):=fun b o z=>by rw[yF (yh z nc)];exact z
  have kp:∀ b u,b≠P→s.heap.get? b=some u→(h'.push fo).get? b=some u:=fun b u n z=>Heap.get?_push_of_some _ (eb b u n z)
  have nP:∀ b,H b=none→b≠P:=fun b n z=>by rw[z,hP] at n;cases n
  obtain⟨t1,t2⟩:=zJN (a:=↑pos.line) (b:=↑pos.col) (t:=0) (u:=0) (c:=.ref c') e2
  have gP:(h'.push fo).get? P=some (PySem.W.tabObj (vs++#[rawInt ↑pos.line,rawInt ↑pos.col,.ref c'])):=Heap.get?_push_of_some _ eP
  have un:Un X.fs [] H (yp H c' (.frz oc (.own 0))) s.heap (h'.push fo):=by
   refine⟨fun b o z n u0 u0=>kp b o (nP b n) z,fun b o z n u0 u0=>⟨o.slots,kp b o (nP b n) z⟩,fun b o z n u0=>?_,fun b o z u0=>?_,fun b xs z=>sm _ _ z,fun b o u z=>sm _ _ z,fun b ps z=>sm _ _ z⟩
   ·rw[yF (Nat.ne_of_lt (Nat.lt_of_lt_of_le (Heap.lt_size z) hs1))];exact n
   ·by_cases hb:b=P
    ·exact⟨_,by rw[hb];exact gP⟩
    ·exact⟨o,kp b o hb z⟩
  have hok:HOk X.prog X.w (yp H c' (.frz oc (.own 0))) (h'.push fo):=by
   intro b u z
   by_cases hb:b=c'
   ·subst hb
    rw[zj] at z;cases z
    exact⟨Heap.get?_push_of_some _ z2,_,Heap.get?_push_of_some _ z2⟩
   ·rw[yF hb] at z
    by_cases hb2:b=P
    ·subst hb2
     rw[hP] at z;cases z
     refine⟨q,tq,_,rfl,gP,?_,fun pos' cv e=>?_⟩
     ·rw[Array.toList_append];exact t1
     ·rw[Array.toList_append] at e
      rcases t2 pos' cv e with r | r
      ·obtain⟨c2,o2,us2,tt2,w1,w2,w3⟩:=e3 pos' cv r
       exact⟨c2,o2,us2,tt2,w1,sm _ _ w2,w3⟩
      ·exact⟨c',oc,us,tt,r,zj,z3,z4⟩
    ·refine(I.hok b u z).stay (fun d v hd r=>kp d v ?_ r) (fun u0 r=>sm _ _ r) (fun u0 u0 r=>sm _ _ r) fun u0 u0 u0 r=>sm _ _ r
     rcases hd with w | w
     ·rw[w];exact hb2
     ·intro w2;rw[w2,hP] at w;cases w
  refine h _ _ _ (.ref c') ctv ((X.mg "__name__").getD .none) (I.un (t':=tk) un hok) sm un hs ?_ ?_ ⟨c',oc,us,tt,rfl,zj,z3,z4⟩
  ·rw[yF (Nat.ne_of_gt hs2)];exact I.hok.fresh hs
  ·rw[← hfo];exact Heap.get?_push_size _ rfl
end L2
namespace L2
open PySem PySem.Spec PyProof.Rows
noncomputable def zE8(sc:Scope)(cl:List (Str×Addr))(q:Str)(g:Addr)(cv:Value)(L:Addr):Env:=newEnv sc L mainGlobals cl (q++".<locals>.") (some g) cv none builtinsNs
noncomputable def zKf(X:Cx)(sc:Scope)(q:Str)(g:Addr)(cv:Value)(A:Around)(outer:List Env)(s:Shared)(H:Hp):Cx where
 prog:=X.prog
 w:=X.w
 K:=X.K
 mg:=X.mg
 base:=X.base
 A:=A.deeper (zE8 sc (zAd sc X.env) q g cv s.heap.objs.size)
 N:=X.N
 s₀:=s
 H₀:=H
 env:=zE8 sc (zAd sc X.env) q g cv s.heap.objs.size
 outer:=outer
 stack:=zE8 sc (zAd sc X.env) q g cv s.heap.objs.size::outer
 ex:=[]
 calm:=true
 fn:=fun u0=>false
 pn:=[]
 xe:=fun u0 u0=>False
set_option genInjectivity false in
structure zJP (env:Env) (sc:Scope):Prop where
 kind:sc.kind=.function
 co:sc.isCoroutine=false
 gen:sc.isGenerator=false
 nocell:∀ y∈sc.names,y.2≠.cell
 noloc:∀ y∈sc.names,y.2≠.local
 cap:∀ y∈sc.names,y.2=.free→env.kindOf y.1=some .cell∨env.kindOf y.1=some .free
theorem zN8{X:Cx}{pins:List (Addr×Obj)}{σ:St}{H1 H2:Hp}{s1 s2:Shared}{sc:Scope}{q:Str}{g:Addr}{cv:Value}{A:Around}{outer:List Env}{k:Nat}{h':Heap}{tk:Nat}
  (I:zV X pins σ H1 s1) (T:zJP X.env sc) (un:Un (frs X.stack) [] H1 H2 s1.heap s2.heap) (e0:zFQ X.prog X.w X.K X.mg X.base A outer s2 H2) (hr:yd (k+1) A)
  (ns:h'.Ns s2.heap.objs.size fun u0=>none) (kp:∀ b o,s2.heap.get? b=some o→h'.get? b=some o):zV (zKf X sc q g cv A outer s2 H2) [] σ H2 { s2 with heap:=h',toks:=tk }:=by
 have cellK:∀ x c,X.env.cells.lookup x=some c→∀ v,s1.heap.IsCell c v→h'.IsCell c v:=fun x c e v ⟨o,ho,hd⟩=>by
  obtain⟨sl,z⟩:=un.any ho (I.freeC x c e) (by simp)
  exact⟨_,kp _ _ z,hd⟩
 have free_of:∀ x,(sc.names.lookup x=some .local∨sc.names.lookup x=some .cell∨sc.names.lookup x=some .free)→sc.names.lookup x=some .free:=fun x hx=>by
  rcases hx with z | z | z
  ·exact absurd rfl (T.noloc _ (PySem.mem_of_lookup z))
  ·exact absurd rfl (T.nocell _ (PySem.mem_of_lookup z))
  ·exact z
 have hfree:∀ y∈sc.names,y.2=.free→∃ c,X.env.cells.lookup y.1=some c:=fun y hy hf=>I.ok.has _ (T.cap y hy hf)
 have has:∀ x,sc.names.lookup x=some .free→∃ c,(zAd sc X.env).lookup x=some c:=fun x hx=>zBT (env:=X.env) (ns:=sc.names) (cs:=[]) (x:=x) hfree (.inr (PySem.mem_of_lookup hx))
 have noA:∀ b:Addr,b∉(zKf X sc q g cv A outer s2 H2).ex:=fun b z=>absurd (show b∈([]:List Addr) from z) (by simp)
 refine⟨⟨e0.mod,T.kind,rfl,rfl,Nat.le_refl _,fun x y c h1 h2=>I.ok.inj x y c (zAN h1) (zAN h2),fun x hx=>?_,fun x c z=>(by cases z),fun u0=>(hr.deeper _).hd,Around.frames_deeper e0.frames,.inr ⟨rfl,rfl⟩,fun b z=>absurd z (noA b),e0.bs,e0.bsz,fun b u0 u0=>noA b,fun b z=>absurd z (noA b),e0.funs,e0.frf,e0.tb⟩,
  rfl,e0.bare,Un.kept kp,⟨_,ns,fun i x v h1 h2 h3=>?_⟩,fun x c e=>?_,e0.hok.fresh (Nat.le_refl _),fun x c e=>?_,fun p hp=>absurd (show p∈([]:List (Addr×Obj)) from hp) (by simp),e0.hok.kept kp,I.len⟩
 ·exact has x (free_of x (.inr hx))
 ·have hf:=free_of x h3
  obtain⟨m,hn,hl⟩:=I.loc
  have cp:=T.cap _ (PySem.mem_of_lookup hf) rfl
  have vis:Vis X.env.scope x:=by
   rcases cp with z | z
   ·exact .inr (.inl z)
   ·exact .inr (.inr z)
  obtain⟨u,r,l⟩:=hl i x v h1 h2 vis
  refine⟨u,r,?_⟩
  obtain⟨c',hc'⟩:=has x hf
  have hc2:=zAN hc'
  rcases l with ⟨z,u0⟩ | ⟨u0,c,e,z⟩
  ·rcases cp with z' | z'<;>(rw[z] at z';cases z')
  ·rw[e] at hc2
   have ec:c=c':=Option.some.inj hc2
   rw[← ec] at hc'
   exact .inr ⟨.inr hf,c,hc',cellK x c e _ z⟩
 ·have e':=zAN (show(zAd sc X.env).lookup x=some c from e)
  obtain⟨v,z⟩:=I.cell x c e'
  exact⟨v,cellK x c e' v z⟩
 ·have e':=zAN (show(zAd sc X.env).lookup x=some c from e)
  obtain⟨v,o,ho,u0⟩:=I.cell x c e'
  exact un.free c o ho (I.freeC x c e') (by simp)
end L2
namespace L3
open PySem PySem.Spec PyProof.Rows L2
theorem zJQ{X:Cx}{sc:Scope}{q:Str}{g:Addr}{cv:Value}{A:Around}{outer:List Env}{s:Shared}{H:Hp}:Own (zKf X sc q g cv A outer s H):=⟨fun u0 u0 h=>h,rfl,rfl,rfl,rfl⟩
theorem zN9{X:Cx}{pins:List (Addr×Obj)}{σ1:L2.St}{σ:S2}{G:Gp}{E:Gp→Prop}{H1 H2:Hp}{s1 s2:Shared}{sc:Scope}{q:Str}{g C:Addr}{cv ctv pm:Value}{A:Around}{outer:List Env}{k:Nat}{params:Arguments}{body:Expr}{t:(Gp→Prop)→S2→Gp→Prop}
  (I:L2.zV X pins σ1 H1 s1) (T:zJP X.env sc) (un:Un (frs X.stack) [] H1 H2 s1.heap s2.heap) (e0:zFQ X.prog X.w X.K X.mg X.base A outer s2 H2) (hr:yd (k+1) A)
  (hbd:bindArgs (PySem.W.kla_fn "<lambda>" q params body sc (zAd sc X.env) pm cv ctv) ⟨[],[]⟩=pure [])
  (hg:s2.heap.get? g=some { cls:=.type "function",data:=.func (PySem.W.kla_fn "<lambda>" q params body sc (zAd sc X.env) pm cv ctv) }) (lc:zJO H2 cv q)
  (hx:Xe (zKf X sc q g cv A outer s2 H2) C body t) (r:Rel X.K σ G σ1 H2) (ht:t E σ G) :
  codeAny (model X.prog X.w) A (.call (.ref g) ⟨[],[]⟩) (fun r s'=>∃ e H' B,r=.error (.ref e)∧XE X.prog X.w outer H2 s2 C e H' B s'∧yB H2 H'∧∃ G',yK X.K G' H'∧E G') s2:=by
 obtain⟨c,o,us,t',rfl,z2,z3,z4⟩:=lc
 have hcr:s2.heap.CodeRec (.ref c) q:=⟨c,o,us,t',rfl,(e0.hok c _ z2).1,z3,z4⟩
 have lim:s2.heap.NoLimit:=e0.mod.nolimit.keeps fun b o e=>(e0.bs b o e).1
 refine PySem.W.kla_callFunE hr.depth hg rfl T.co T.gen rfl hcr ?_
 rw[hbd]
 refine wpAny_pure (wpAny_newFunctionEnv T.nocell (fun y hy=>absurd hy (by simp)) (fun h' ns sb=>?_) T.kind)
 have kp:∀ b o,s2.heap.get? b=some o→h'.get? b=some o:=fun b o e=>by
  rw[sb.2 b (Nat.ne_of_lt (Heap.lt_size e))]
  exact Heap.get?_push_of_some _ e
 refine⟨lim.keeps kp,PySem.W.kla_codeExpr ?_⟩
 have I2:=zN8 (q:=q) (g:=g) (cv:=.ref c) (tk:=s2.toks+0) I T un e0 hr ns kp
 refine wpAny_mono (hx [] _ σ1 H2 σ G E I2 r ht) (fun v s' z=>z.elim) fun v s' z=>?_
 obtain⟨e,H',B,rfl,xb,gr,hG⟩:=z
 exact xb.leave fun h'' xe=>⟨e,H',B,rfl,xe,gr,hG⟩
end L3
namespace L2
open PySem PySem.Spec PyProof.Rows
theorem zIa{prog:Program}{w:World}{A:Around}{K:PySem.W.Frag}{x C:Addr}{R:Result→Shared→Prop}{tp:Value}{hh:Heap}{g:Array GenState}{dr:Drawn}{t:Nat}{os:OsState}(X:K.In hh)(L0:∀ M,PySem.W.Looks M hh (typeOf (.ref x)) (.ref C))(hm:PySem.W.mroIn K C (.type "object")=some true)
  (h:R (.ok (.ret (.ref C))) ⟨hh,g,dr,t,os⟩):codeAny (model prog w) A (.call (.builtin "getset_descriptor.__get__") ⟨[.builtin "object.__class__",.ref x,tp],[]⟩) R ⟨hh,g,dr,t,os⟩:=by
 have L1:∀ M,PySem.W.Looks M hh (isSubtype (.ref C) (.type "object")) true:=fun M=>PySem.W.looks_mroIn X hm
 refine codeAny_call_builtin PySem.W.KF.slot_gs.plain PySem.W.KF.entry_gs (PySem.W.KF.slot_gs.check _ _ _ _ _ _ _ _ PySem.W.KF.type_class (PySem.W.KF.args_gs _ _ _) ?_)
 unfold Builtin.«getset_descriptor.__get__» Builtin.Getset_descriptor.descrGet
 rw[PySem.W.dga_obj]
 refine wpAny_bind (wpAny_pure ?_)
 show wpAny _ _ (Builtin.Getset_descriptor.descrGetter (.builtin "object.__class__") (some (.ref x))) _ _ _
 unfold Builtin.Getset_descriptor.descrGetter
 dsimp only
 unfold Builtin.Getset_descriptor.descrCheckInstance
 have e1:Builtin.Getset_descriptor.descrNameAndClass (.builtin "object.__class__")=(pure (("__class__":Str),Value.type "object"):Sem (Str×Value)):=by
  unfold Builtin.Getset_descriptor.descrNameAndClass
  dsimp only
  rw[PySem.W.KF.owner_class]
 refine wpAny_bind (wpAny_bind (wpAny_of_eq e1 ?_))
 dsimp only
 unfold isInstance
 refine wpAny_bind (wpAny_bind (PySem.W.Looks.at (L0 _) (PySem.W.Looks.at (L1 _) ?_)))
 refine wpAny_ite_false rfl (wpAny_pure ?_)
 unfold again
 refine wpAny_pure ⟨Code.quiet_builtin _ (by decide +kernel),codeAny_builtin PySem.W.KF.entry_class ?_⟩
 unfold Builtin.«object.__class__»
 dsimp only
 unfold shownTypeOf
 refine wpAny_bind (wpAny_bind (PySem.W.Looks.at (L0 _) ?_))
 refine wpAny_ite_false rfl (wpAny_pure ?_)
 unfold ret
 exact wpAny_pure h
theorem zKg{prog:Program}{w:World}{A:Around}{E:Value→Shared→Prop}{K:PySem.W.Frag}{e C:Addr}{o:Obj}{h:Heap}{g:Array GenState}{d:Drawn}{t:Nat}{os:OsState}{Q:Option Value→Shared→Prop}(X:K.In h)(hx:h.get? e=some o)(hc:o.cls=.ref C)
  (k1:PySem.W.findIn K (.ref C) "__getattribute__"=some (some (.builtin "BaseException.__getattribute__"))) (k2:PySem.W.findIn K (.ref C) "__getattr__"=some none) (k3:PySem.W.findIn K (.ref C) "__class__"=some (some (.builtin "object.__class__")))
  (k4:PySem.W.specialIn K (.builtin "object.__class__") "__get__"=some (some (.builtin "getset_descriptor.__get__"))) (k5:PySem.W.takesIn K (.builtin "object.__class__")=some true) (k6:PySem.W.mroIn K C (.type "object")=some true) (k7:PySem.W.mroIn K C (.type "BaseException")=some true)
  (q:Q (some (.ref C)) ⟨h,g,d,t+1,os⟩):wpAny (model prog w) A (getAttr? (.ref e) "__class__") Q E ⟨h,g,d,t,os⟩:=by
 have L0:∀ M,PySem.W.Looks M h (typeOf (.ref e)) (.ref C):=fun M=>hc▸PySem.W.Looks.andThen (PySem.W.Looks.ld hx) PySem.W.Looks.now
 have L7:∀ M,PySem.W.Looks M h (isSubtype (.ref C) (.type "BaseException")) true:=fun M=>PySem.W.looks_mroIn X k7
 unfold getAttr?
 refine wpAny_bind (wpAny_mkText ?_)
 unfold getAttrBy?
 refine wpAny_bind (wpAny_attempt ?_)
 unfold getAttrBy
 refine wpAny_holding (wpAny_bind (PySem.W.Looks.at (L0 _) ?_))
 refine wpAny_bind (PySem.W.Looks.at (PySem.W.looks_findIn X k1) ?_)
 dsimp only
 refine wpAny_ite_false rfl ?_
 unfold getAttrByItsOwn
 refine wpAny_bind ?_
 unfold hookBefore
 refine wpAny_ite_true rfl (PySem.W.Looks.at (PySem.W.looks_findIn X k2) ?_)
 refine wpAny_bind (wpAny_attempt (wpAny_holding ?_))
 unfold callGetattribute
 refine wpAny_ite_false rfl ?_
 unfold boundAndCalled
 refine wpAny_bind (wpAny_of_eq (F.excAttr_ValueError.ga.bind (.ref e)) ?_)
 dsimp only
 refine wpAny_call (codeAny_call_builtin F.excAttr_ValueError.ga.plain F.entry_bexc_ga ?_)
 have hk:builtinKind "BaseException.__getattribute__"=some Manifest.AttrKind.slot:=by decide +kernel
 have hsp:splitId "BaseException.__getattribute__"=some ("BaseException","__getattribute__"):=by decide +kernel
 have ha:argsOk "BaseException.__getattribute__" { pos:=[Value.ref e,Value.str "__class__" t] }:=F.args_bexc_ga _ _
 unfold checkBuiltinCall
 rw[hk,hsp]
 dsimp only[List.cons_append,List.nil_append]
 unfold isInstance
 refine wpAny_bind (wpAny_bind (PySem.W.Looks.at (L0 _) (PySem.W.Looks.at (L7 _) ?_)))
 refine wpAny_ite_false rfl (wpAny_of_eq ha ?_)
 unfold Builtin.«object.__getattribute__»
 refine wpAny_bind ?_
 unfold slotArgs
 refine wpAny_ite_false rfl (wpAny_ite_false rfl (wpAny_pure ?_))
 dsimp only
 refine wpAny_bind ?_
 unfold Builtin.ObjectAttr.attrName
 refine wpAny_pure ?_
 refine wpAny_bind (PySem.W.Looks.at (L0 _) ?_)
 refine wpAny_bind ?_
 unfold Builtin.ObjectAttr.find
 refine wpAny_bind (PySem.W.Looks.at (PySem.W.looks_findIn X k3) ?_)
 refine wpAny_bind ?_
 unfold Builtin.ObjectAttr.getOf
 refine PySem.W.Looks.at (PySem.W.looks_specialIn X k4) ?_
 refine wpAny_bind ?_
 unfold Builtin.ObjectAttr.dataDescriptor?
 refine wpAny_bind (PySem.W.Looks.at (PySem.W.looks_takesIn X k5) ?_)
 refine wpAny_ite_true rfl (wpAny_pure ?_)
 dsimp only
 refine wpAny_bind (wpAny_rule (wpAny_pure ?_))
 dsimp only
 unfold Builtin.ObjectAttr.bindTo
 dsimp only
 refine wpAny_bind (wpAny_holding (wpAny_call (zIa X L0 k6 ?_)))
 unfold ret
 refine wpAny_pure ?_
 dsimp only
 exact PySem.W.handed_on rfl (wpAny_pure q)
set_option genInjectivity false in
structure zEG (K:PySem.W.Frag) (C:Addr):Prop where
 ex0:PySem.W.excIn K C bmV "ValueError.__new__"=true
 cl:(PySem.W.clsIn K C).isSome=true
 k1:PySem.W.findIn K (.ref C) "__getattribute__"=some (some (.builtin "BaseException.__getattribute__"))
 k2:PySem.W.findIn K (.ref C) "__getattr__"=some none
 k3:PySem.W.findIn K (.ref C) "__class__"=some (some (.builtin "object.__class__"))
 k4:PySem.W.specialIn K (.builtin "object.__class__") "__get__"=some (some (.builtin "getset_descriptor.__get__"))
 k5:PySem.W.takesIn K (.builtin "object.__class__")=some true
 k6:PySem.W.mroIn K C (.type "object")=some true
 k7:PySem.W.mroIn K C (.type "BaseException")=some true
theorem zP6{K:PySem.W.Frag}{C:Addr}(h:(PySem.W.clsIn K C).isSome=true):∃ c d cd sl,K.lookup C=some ⟨c,d,.cls cd,sl⟩:=by
 unfold PySem.W.clsIn at h
 split at h
 ·rename_i c d cd sl e;exact⟨c,d,cd,sl,e⟩
 ·cases h
theorem zMe{K:PySem.W.Frag}{e C:Addr}(k:zEG K C):PySem.W.KitX K (.ref e) (.ref C) (fun h=>∃ o,h.get? e=some o∧o.cls=.ref C):=by
 obtain⟨c0,d0,cd,sl,hl⟩:=zP6 k.cl
 refine⟨fun M h _ ⟨o,hx,hc⟩=>hc▸PySem.W.Looks.andThen (PySem.W.Looks.ld hx) PySem.W.Looks.now,fun M h X u0 A Q E s kp q=>?_,fun h tp dd its n s2 X ht=>?_,fun {prog w A E Q s} X ⟨o,hx,hc⟩ q=>?_⟩
 ·unfold isType
  exact wpAny_bind (wpAny_loadPart (kp _ _ (X _ _ hl)) (wpAny_pure q))
 ·refine Bool.eq_false_iff.mpr fun z=>?_
  have z':=Value.ref.inj (beq_iff_eq.mp z)
  have z2:=X _ _ hl
  rw[z',ht] at z2
  cases z2
 ·obtain⟨hh,g,d,t,os⟩:=s
  exact zKg X hx hc k.k1 k.k2 k.k3 k.k4 k.k5 k.k6 k.k7 q
end L2
namespace HD
open PySem PySem.Spec PyProof.Rows
section
variable {prog:Program} {w:World} {A:Around} {E:Value→Shared→Prop} {s:Shared}
end
section
variable {prog:Program} {w:World} {A:Around} {R:Result→Shared→Prop} {h0:Heap} {S I l:Addr} {its:Array Value} {ks:Nat→Int} {vs:Nat→Value} {g:Array GenState} {d:Drawn} {os:OsState}
end
section
variable {prog:Program} {w:World} {A:Around} {E:Value→Shared→Prop} {s:Shared}
end
end HD
namespace L2
open PySem PySem.Spec PyProof.Rows HD
noncomputable abbrev zKh(X:Cx)(a:Addr)(o:Obj):Cx:={ X with pn:=(a,o)::X.pn }
section
variable {X:Cx} {pins:List (Addr×Obj)} {σ:List (Option V)} {H:Hp} {s:Shared} {a:Addr} {o:Obj}
theorem zV.pinD(I:zV X pins σ H s)(e:s.heap.get? a=some o)(n:H a=none)(l:a≠X.env.locals)(f:a∉X.fs)(c:∀ v,o.data≠.cell v):zV X ((a,o)::pins) σ H s :=
 ⟨I.ok,I.os,I.bare,I.base,I.loc,I.cell,I.free,I.freeC,fun p hp=>by
  rcases List.mem_append.mp hp with hp | hp
  ·exact I.pin p (List.mem_append_left _ hp)
  ·rcases List.mem_cons.mp hp with rfl | hp
   ·exact⟨e,n,l,f,c⟩
   ·exact I.pin p (List.mem_append_right _ hp),I.hok,I.len⟩
theorem Cx.Ok.pin(k:X.Ok):(zKh X a o).Ok:=⟨k.mod,k.kind,k.glob,k.blt,k.above,k.inj,k.has,k.cab,k.hd,k.frames,k.stk,k.exf,k.bs,k.bsz,k.noex,k.exfs,k.funs,k.frf,k.tb⟩
theorem zV.into(I:zV X ((a,o)::pins) σ H s):zV (zKh X a o) pins σ H s :=
 ⟨I.ok.pin,I.os,I.bare,I.base,I.loc,I.cell,I.free,I.freeC,fun p hp=>I.pin p (by
  rcases List.mem_append.mp hp with hp | hp
  ·rcases List.mem_cons.mp hp with rfl | hp
   ·exact List.mem_append_right _ List.mem_cons_self
   ·exact List.mem_append_left _ hp
  ·exact List.mem_append_right _ (List.mem_cons_of_mem _ hp)),I.hok,I.len⟩
end
end L2
namespace L3
open PySem PySem.Spec PyProof.Rows L2
end L3
namespace L2
open PySem PySem.Spec PyProof.Rows
theorem XE.after{P:Program}{w:World}{outer:List Env}{H H':Hp}{s s':Shared}{C e:Addr}{B base h'':Heap}(x:XE P w outer H s C e H' B s')(ff:s.heap.FunFrames base outer)(frf:∀ b∈frs outer,H b=none)(st:Heap.StaysIn B h'')
  (sl:∀ b o,s'.heap.get? b=some o→(∀ vs,o.data≠.fields vs)→∃ sl,h''.get? b=some { o with slots:=sl }):Un (frs outer) [] H H' s.heap h''∧HOk P w H' h'':=by
 have slot:∀ b o,s.heap.get? b=some o→H b=none→b∈frs outer→∃ sl,h''.get? b=some { o with slots:=sl }:=fun b o q n hb=>by
  obtain⟨s1,q1⟩:=x.un.slot b o q n hb (by simp)
  have hd:∀ vs,o.data≠.fields vs:=by
   obtain⟨u0,o1,ho,hd⟩:=ff.mem hb
   rw[q] at ho;cases ho;exact hd
  obtain⟨s2,q2⟩:=sl b _ q1 hd
  exact⟨s2,q2⟩
 refine⟨⟨fun b o q n hb u0=>st b o (x.has0 b o q n hb),fun b o q n hb u0=>slot b o q n hb,fun b o q n u0=>x.un.free b o q n (by simp),fun b o q u0=>?_,x.un.tups,x.un.frzs,x.un.tbls⟩,fun b u q=>?_⟩
 ·by_cases hb:b∈frs outer
  ·obtain⟨s1,z⟩:=slot b o q (frf b hb) hb
   exact⟨_,z⟩
  ·obtain⟨o',z⟩:=x.th b o q hb
   exact⟨o',st b o' z⟩
 ·refine(x.hok b u q).stay (fun c v hc r=>?_) (fun u0 r=>r) (fun u0 u0 r=>r) fun u0 u0 u0 r=>r
  have:∃ o,B.get? c=some o:=by
   rcases hc with z | z
   ·subst z;exact x.has1 _ _ q
   ·exact x.has1 _ _ z
  obtain⟨o2,z⟩:=this
  have z2:=x.stay c o2 z
  rw[r] at z2
  obtain rfl:v=o2:=Option.some.inj z2
  exact st c v z
section
variable {X:Cx} {pins:List (Addr×Obj)} {σ:St} {H:Hp} {s:Shared}
theorem zGh{M:Model}{A:Around}{E:Value→Shared→Prop}{i:Nat}{x:Str}{pos:Pos}{Q:Unit→Shared→Prop}(I:zV X pins σ H s)(hN:X.N.Nodup)(hi:X.N[i]?=some x)(hk:X.env.scope.names.lookup x=some .local)
  (h:∀ s',zV X pins (σ.set i none) H s'→Q () s'):wpAny M A (do bindName X.env x Value.none;unbindBehindTheSuite X.env x pos) Q E s:=by
 obtain⟨m,hn,hl⟩:=id I.loc
 have hcls:(X.env.scope.kind==.class||(X.env.scope.kind==.module&&X.env.locals != X.env.globals))=false:=by rw[I.ok.kind];rfl
 have hiσ:i<σ.length:=by rw[I.len];exact(List.getElem?_eq_some_iff.mp hi).1
 have cne:=I.cne
 refine wpAny_nameGoes_keeps hk hn hcls fun h' v hn' hs=>?_
 obtain⟨oL,u0,u0,hoL,u0⟩:=id hn
 have tracked:HOk X.prog X.w H h':=fun b ob e=>by
  refine(I.hok b ob e).stay (fun c w' hc q=>(hs.2 c ?_).trans q) (fun u0 q=>q) (fun u0 u0 q=>q) fun u0 u0 u0 q=>q
  rintro rfl
  rcases hc with rfl | hc
  ·rw[I.free] at e;cases e
  ·rw[I.free] at hc;cases hc
 refine h _ ⟨I.ok,I.os,I.bare,⟨fun b o e n hb hx=>?_,fun b o e n hb hx=>?_,I.base.free,fun b o e hx=>?_,I.base.tups,I.base.frzs,I.base.tbls⟩,⟨_,hn',fun j y v' e1 e2 e3=>?_⟩,fun y c e=>?_,I.free,I.freeC,fun p hp=>?_,tracked,by simpa using I.len⟩
 ·exact(hs.2 b (Nat.ne_of_lt (Nat.lt_of_lt_of_le (Heap.lt_size e) I.ok.above))).trans (I.base.keep b o e n hb hx)
 ·obtain⟨sl,e1⟩:=I.base.slot b o e n hb hx
  exact⟨sl,(hs.2 b (Nat.ne_of_lt (Nat.lt_of_lt_of_le (Heap.lt_size e) I.ok.above))).trans e1⟩
 ·obtain⟨o',e1⟩:=I.base.there b o e hx
  exact⟨o',(hs.2 b (Nat.ne_of_lt (Nat.lt_of_lt_of_le (Heap.lt_size e) I.ok.above))).trans e1⟩
 ·by_cases hj:j=i
  ·subst hj
   rw[List.getElem?_set_self hiσ] at e2
   cases e2
  ·rw[List.getElem?_set_ne (Ne.symm hj)] at e2
   obtain⟨u',r',q⟩:=hl j y v' e1 e2 e3
   refine⟨u',r',?_⟩
   rcases q with ⟨k,e⟩ | ⟨k,c,e,z⟩
   ·refine .inl ⟨k,?_⟩
    have:y≠x:=fun e=>hj (zEZ hN e1 (e▸hi))
    simp[this,e]
   ·exact .inr ⟨k,c,e,z.sameBut hs (cne y c e)⟩
 ·obtain⟨w',z⟩:=I.cell y c e
  exact⟨w',z.sameBut hs (cne y c e)⟩
 ·obtain⟨e,n,ne,nf,d⟩:=I.pin p hp
  exact⟨(hs.2 p.1 ne).trans e,n,ne,nf,d⟩
theorem zMf{M:Model}{A:Around}{E:Value→Shared→Prop}{i:Nat}{x:Str}{v:V}{pos:Pos}{Q:Value→Shared→Prop}(I:zV X pins σ H s)(hi:X.N[i]?=some x)(hk:X.env.scope.names.lookup x=some .local)(hv:σ[i]?=some (some v))(hd:(x==("__debug__":Str))=false)
  (h:∀ u,RelV v u→Q u s):wpAny M A (eval (.Name x pos) X.env) Q E s:=by
 obtain⟨m,hn,hl⟩:=I.loc
 obtain⟨u,r,l⟩:=hl i x v hi hv (.inl hk)
 rcases l with ⟨u0,hm⟩ | ⟨z,u0⟩
 ·exact wpAny_Name (wpAny_loadName_local I.ok.kind hk hn hm (h u r)) hd
 ·rcases z with z | z<;>(rw[show X.env.kindOf x=some .local from hk] at z;cases z)
theorem zMg{C Cc g:Addr}{cn xc en er:Str}{ic ie ir:Nat}{p1 p2 p3 p4 p5 p6 p7 hp tp:Pos}{Z:Hp→Prop}{Q:Flow→Shared→Prop}{E:Value→Shared→Prop}(stk:X.stack=X.env::X.outer)(frm:X.env.frame=some X.env.locals)(ex:X.ex=[])
  (I:zV X pins σ H s) (hN:X.N.Nodup) (c1:X.N[ic]?=some cn) (c2:X.env.scope.names.lookup cn=some .local) (c3:σ[ic]?=some (some (.ref g))) (hf:PySem.W.FnAt g s.heap)
  (run:codeAny (model X.prog X.w) X.A (.call (.ref g) ⟨[],[]⟩) (fun r s'=>∃ e H' B,r=.error (.ref e)∧XE X.prog X.w X.stack H s C e H' B s'∧Z H') s)
  (hg:Gl X xc) (hm:X.mg xc=some (.ref Cc)) (hx:PySem.W.exmOne X.K (.ref C) (.ref Cc)=some true)
  (e1:X.N[ie]?=some en) (e2:X.env.scope.names.lookup en=some .local) (r1:X.N[ir]?=some er) (r2:X.env.scope.names.lookup er=some .local)
  (h:∀ e oe H' s',zV (zKh X e oe) pins (((σ.set ie (some (.ref e))).set ir (some (.ref e))).set ie none) H' s'→Z H'→oe.cls=.ref C→Q .next s')
  (d1:(cn==("__debug__":Str))=false:=by decide) (d2:(xc==("__debug__":Str))=false:=by decide) (d3:(en==("__debug__":Str))=false:=by decide)
  (sw1:swapsWith (.Call (.Name cn p1) [] [] p2) none p3.line X.env=pure false:=by rfl) (sw2:swapsWith (.Name en p6) (some (.Name er p5)) p7.line X.env=pure false:=by rfl) :
  wpAny (model X.prog X.w) X.A (exec (.Try [.Expr (.Call (.Name cn p1) [] [] p2) p3] [.ExceptHandler (some (.Name xc p4)) (some en) [.Assign [.Name er p5] (.Name en p6) p7] hp] [] [] tp) X.env) Q E s:=by
 refine wpAny_Try_except (wpAny_execs_cons (wpAny_Expr_any (wpAny_Call_Name_kw (zMf I c1 c2 c3 d1 fun u r=>?_)) I.quiet sw1))
 obtain rfl:u=Value.ref g:=r
 refine PySem.W.callWith_F0 hf (wpAny_call (codeAny_mono run fun r s' ⟨e,H',B,z1,x,hZ⟩=>?_))
 subst z1
 dsimp only
 have xb:=x.body stk frm ex I
 obtain⟨a0,tr⟩:=x.tr
 have fr:X.A.frames=some (X.env::X.outer):=by rw[I.ok.frames,stk]
 have ffb:=xb.funs
 rw[stk] at ffb
 refine wpAny_noteFrame_onW fr ffb frm tr x.stay x.eB fun h1 n1=>?_
 obtain⟨n1,n2,n3,n4⟩:=n1
 refine wpAny_setFlight_noneW n1 n2 n3 fun h2 s2 f2 t2 k2=>?_
 have I2:zV X pins σ H' { s' with heap:=h2 }:=by
  obtain⟨u,hk⟩:=x.after I.stack I.stkFree s2 fun b o q nd=>by
   obtain⟨sl,z⟩:=n4 b o q nd
   exact⟨sl,k2 b _ z nd⟩
  exact I.call' (s':={ s' with heap:=h2 }) x.os u hk x.bare fun b hb=>absurd hb (by simp)
 refine wpAny_handleBy_cons (codeAny_handlers_test ?_) (fun q=>by cases q)
 refine Calls.Name_function_global I.ok.kind hg (Calls.loadGlobal_global (by rw[I.ok.glob];exact I2.mod.glob.keeps I2.bk) hm ?_) d2
 have hte:∃ o,h2.get? e=some o∧o.cls=.ref C:=by
  obtain⟨oe,vs,T,oT,ts,w1,⟨w2,u0⟩,u0⟩:=t2
  exact⟨oe,w1,w2⟩
 obtain⟨oe2,w1,w2⟩:=hte
 refine PySem.W.Looks.at (PySem.W.exm_one I2.kIn (w2▸PySem.W.Looks.andThen (PySem.W.Looks.ld w1) PySem.W.Looks.now) hx) ?_
 dsimp only
 rw[if_pos rfl]
 refine codeAny_handlers_suite_as ?_
 refine wpAny_setFlight_noneW s2 f2 t2.at fun h3 s3 f3 t3 k3=>?_
 have I3:zV X pins σ H' { s' with heap:=h3 }:=by
  obtain⟨u,hk⟩:=x.after I.stack I.stkFree s3 fun b o q nd=>by
   obtain⟨sl,z⟩:=n4 b o q nd
   exact⟨sl,k3 b _ (k2 b _ z nd) nd⟩
  exact I.call' (s':={ s' with heap:=h3 }) x.os u hk x.bare fun b hb=>absurd hb (by simp)
 obtain⟨oe,vs,T,oT,ts,v1,⟨v2,u0⟩,v3,u0⟩:=t3
 have neL:e≠X.env.locals:=fun z=>by
  obtain⟨m,⟨o,es,ep,ho,u0⟩,u0⟩:=I.loc
  have:=x.new
  rw[z,ho] at this;cases this
 have neF:e∉X.fs:=fun z=>by
  obtain⟨u0,o,ho,u0⟩:=I.funs.mem z
  rw[x.new] at ho;cases ho
 have I3p:=I3.pinD v1 x.free neL neF fun v q=>by rw[v3] at q;cases q
 have hie:ie<σ.length:=by rw[I.len];exact(List.getElem?_eq_some_iff.mp e1).1
 refine zAz I3p hN e1 (.inl e2) (show RelV (.ref e) (.ref e) from rfl) (fun s4 I4=>?_) (.inr e2)
 refine wpAny_execs_cons (wpAny_Assign_Name (zMf I4 e1 e2 (List.getElem?_set_self hie) d3 fun u r=>?_) sw2)
 obtain rfl:u=Value.ref e:=r
 refine zAz I4 hN r1 (.inl r2) (show RelV (.ref e) (.ref e) from rfl) (fun s5 I5=>?_) (.inr r2)
 refine wpAny_execs_nil ?_
 dsimp only
 refine zGh I5 hN e1 e2 fun s6 I6=>?_
 exact h e oe H' s6 I6.into hZ v2
end
end L2
namespace L3
open PySem PySem.Spec PyProof.Rows L2
theorem _root_.L2.zCy.grow{H H':Hp}(h:zCy H H'):yB H H':=⟨fun a xs e=>h a _ e,fun a o u e=>h a _ e⟩
theorem yK.same{K:PySem.W.Frag}{G:Gp}{H H':Hp}(r:yK K G H)(h:zCy H H'):yK K G H' :=
 ⟨fun a ds e=>by obtain⟨xs,e1,e2⟩:=r.m a ds e;exact⟨xs,h _ _ e1,e2.grow h.grow⟩,fun a ds e=>by obtain⟨xs,e1,e2⟩:=r.ro a ds e;exact⟨xs,h.grow.roL e1,e2.grow h.grow⟩⟩
set_option genInjectivity false in
structure zMh (st:Stmt) (N:List Str) (rest:List Stmt):Prop where
 body:∃ j1 p1 p2 p3 p4 p5 p6 p7 p8 p9 p10 p11 p12,zW st=.Assign [.Name "error" p1] (.Constant .none j1 p2) p3::.Try [.Expr (.Call (.Name "call" p4) [] [] p5) p6] [.ExceptHandler (some (.Name "ChordError" p7)) (some "e") [.Assign [.Name "error" p8] (.Name "e" p9) p10] p11] [] [] p12::rest
 n0:N[0]?=some ("call":Str)
 n1:N[1]?=some ("error":Str)
 n2:N[2]?=some ("e":Str)
 l0:(zG st).names.lookup ("call":Str)=some .local
 l1:(zG st).names.lookup ("error":Str)=some .local
 l2:(zG st).names.lookup ("e":Str)=some .local
 gl:(zG st).names.lookup ("ChordError":Str)=some .globalImplicit
set_option genInjectivity false in
structure zMi (X:Cx) (x:Str) (c P:Addr) (params:Arguments) (body:Expr) (sc:Scope):Prop where
 hsc:zJP X.env sc
 code:X.env.code=.ref c
 hd:PySem.W.CodeHd X.base c P
 blt:BMn X.base X.mg
 qual:X.env.qual++"<lambda>"=x++".<locals>.<lambda>"
 mem:x∈zBj
 tab:PySem.W.tabIn X.K x=some (c,P)
 df:defaultsOf params X.env=([],[])
 bd:∀(q:Str) (cl:List (Str×Addr)) (pm cv ctv:Value),bindArgs (PySem.W.kla_fn "<lambda>" q params body sc cl pm cv ctv) ⟨[],[]⟩=pure []
theorem zKi{X:Cx}{st:Stmt}{f:Addr}{fd:FuncData}{N:List Str}{k:Nat}{C Cc c P:Addr}{kind:Int}{x:Str}{rest:List Stmt}{params:Arguments}{body:Expr}{sc:Scope}{t:(Gp→Prop)→S2→Gp→Prop}{trest:Addr→yi}{p lp pos:Pos}
  (F:Fun X.K "_law_refused" "_law_refused" st f fd) (S:zZ N ["call"] (zG st)) (hm:X.mg "_law_refused"=some (.ref f)) (hb:Binds X.K fd ["call"] []) (hr:yd (k+2) X.A) (hgl:Gl X "_law_refused") (B:zMh st N rest)
  (hCc:X.mg "ChordError"=some (.ref Cc)) (hxm:PySem.W.exmOne X.K (.ref C) (.ref Cc)=some true)
  (hrest:∀(cdv:Value) (A:Around) (outer:List Env) (s:Shared) (H:Hp) (e:Addr) (oe:Obj),yd (k+1) (A.deeper (envOfC "_law_refused" (zG st) s.heap.objs.size f cdv))→oe.cls=.ref C→Ps2 (zKh (zCD CX0 X.prog X.w X.K X.mg X.base N "_law_refused" (zG st) f cdv A outer s H E0).nox e oe) rest (trest e))
  (hres:∀(e:Addr) (G:Gp) (R:Q2),(∀ l,G.m l=none→R (.adr l) (zR G l [.int kind]))→trest e (zd R) ((List.replicate N.length none).set 1 (some (.adr e))) G)
  (L:zMi X x c P params body sc) (hlam:∀(g:Addr) (cv:Value) (A:Around) (outer:List Env) (s:Shared) (H:Hp),yd k (A.deeper (zE8 sc (zAd sc X.env) (x++".<locals>.<lambda>") g cv s.heap.objs.size))→Xe (zKf X sc (x++".<locals>.<lambda>") g cv A outer s H) C body t) :
  F2 X (.Call (.Name "_law_refused" p) [.Lambda params body sc lp] [] pos) (fun σ G R=>t (fun G'=>R [.int kind] G') σ G):=by
 intro pins s σ1 H Q I hq
 obtain⟨σ,G,R,r,ht,kk⟩:=hq
 refine wpAny_Call_Name_kw (zC9 I hgl hm ?_)
 refine PySem.W.callWith_K (h₀:=X.base) I.ok.mod.kin F.kp ?_
 obtain⟨tq,hP⟩:=I.tabs x L.mem c P L.tab
 show wpAny _ _ (spliced ((false,eval (.Lambda params body sc lp) X.env)::backTo pos (starEach [] X.env))) _ _ s
 refine Calls.spliced_cons (zKe I L.hsc.cap L.df L.code L.hd L.blt L.qual hP fun g H1 s1 cv ctv pm I1 sm un1 hsz hg0 hgo lc=>?_)
 refine Calls.spliced_nil ⟨I1.kIn,wpAny_call ?_⟩
 obtain⟨oc,od,kV,doc,pm2,an,cdv,ct,osl,rfl,lk,hcd⟩:=F.ex
 have hg3:g∉frs X.stack:=fun z=>by
  obtain⟨u0,o,ho,u0⟩:=I.stack.mem z
  exact absurd (Nat.lt_of_lt_of_le (Heap.lt_size ho) hsz) (Nat.lt_irrefl _)
 let Q1:VK:=fun v H'=>∃ l xs G',v=.ref l∧R [.int kind] G'∧yK X.K G' H'∧G'.m l=none∧H' l=some (.lst xs)∧Dens X.K H' [.int kind] xs∧yB H H'
 have core:codeAny (model X.prog X.w) X.A (.call (.ref f) ⟨[.ref g],[]⟩) (CR CX0 X.stack X.prog X.w H1 s1 Q1 E0) s1:=by
  have e0:=I1.env0
  have KX:X.K.In s1.heap:=I1.kIn
  have lim:s1.heap.NoLimit:=I1.nolimit
  have hkind:∀ y∈[("call":Str)].zip [Value.ref g],(zG st).names.lookup y.1=some .local∨((zG st).names.lookup y.1=some .cell∧((cellsFrom (s1.heap.objs.size+1) (zG st).names []).lookup y.1).isSome=true):=fun⟨n,v⟩ hy=>by
   rcases S.par n (List.of_mem_zip hy).1 with q | q
   ·exact .inl q
   ·exact .inr ⟨q,PySem.W.cellsFrom_some _ _ _ (.inl q)⟩
  have hbd:=hb s1 [.ref g] KX rfl
  refine codeAny_call_function hr.depth (KX _ _ lk) rfl S.co S.gen rfl (PySem.W.codeRec_of KX hcd) (hbd _ _ _ _ ?_)
  refine wpAny_newFunctionEnv_cells S.kind hkind fun env he s2 x2=>?_
  subst he
  refine⟨lim.keeps x2.toInCall.keep,codeAny_func ?_⟩
  have J0:zV (zCD CX0 X.prog X.w X.K X.mg X.base N "_law_refused" (zG st) f cdv X.A X.stack s1 H1 E0).nox [] (start N [.ref g]) H1 s2:=(zDi (vs:=[.ref g]) (us:=[.ref g]) S hr.hd e0 rfl (.cons (show RelV (.ref g) (.ref g) from rfl) .nil) x2).wish _
  have hrr:yd (k+1) (X.A.deeper (envOfC "_law_refused" (zG st) s1.heap.objs.size f cdv)):=hr.deeper _
  obtain⟨j1,p1,p2,p3,p4,p5,p6,p7,p8,p9,p10,p11,p12,hbody⟩:=B.body
  rw[hbody]
  have hl3:3≤N.length:=by have:=(List.getElem?_eq_some_iff.mp B.n2).1;(first|lia|omega)
  have st0:(start N [.ref g])[0]?=some (some (.ref g)):=rfl
  refine wpAny_execs_cons (wpAny_Assign_Name (wpAny_mono (zK3 (X:=(zCD CX0 X.prog X.w X.K X.mg X.base N "_law_refused" (zG st) f cdv X.A X.stack s1 H1 E0).nox) [] s2 _ H1 (fun v H'=>v=.non∧H'=H1) J0 ⟨rfl,rfl⟩) (fun u s3 hz=>?_) (fun u0 u0 z=>z.elim)) rfl)
  obtain⟨v,H',J1,rv,rfl,hH⟩:=hz
  rw[hH] at J1
  refine zAz J1 S.nd B.n1 (.inl B.l1) rv (fun s4 J2=>?_) (.inr B.l1)
  dsimp only
  refine wpAny_execs_cons (zMg (C:=C) (Cc:=Cc) (Z:=fun H'=>yB H1 H'∧∃ G',yK X.K G' H'∧R [.int kind] G') rfl rfl rfl J2 S.nd B.n0 B.l0 (by rw[List.getElem?_set_ne (by decide)];exact st0) ?fn ?run B.gl hCc hxm B.n2 B.l2 B.n1 B.l1 ?h)
  case fn=>exact⟨_,_,_,_,J2.base.keep g _ hgo hg0 hg3 (by intro z;exact absurd (show g∈([]:List Addr) from z) (by simp))⟩
  case run =>
   exact zN9 (X:=X) (pins:=pins) (σ1:=σ1) I1 L.hsc J2.base J2.env0 hrr (L.bd _ _ _ _ _) (J2.base.keep g _ hgo hg0 hg3 (by intro z;exact absurd (show g∈([]:List Addr) from z) (by simp))) lc (hlam g cv _ _ s4 _ (hrr.deeper _)) (r.to sm.grow (r.g.same sm)) ht
  case h =>
   intro e oe H' s' Jp hZ hcl
   obtain⟨gr,G',rg,hR⟩:=hZ
   dsimp only
   let D:Ends:={ nx:=fun u0 H''=>Q1 .non H'',rt:=Q1 }
   let R2:Q2:=fun d G''=>∃ l G0,d=.adr l∧G0.m l=none∧G''=zR G0 l [.int kind]∧R [.int kind] G0
   have hG:yB H H':=sm.grow.trans gr
   refine wpAny_mono (hrest cdv X.A X.stack s1 H1 e oe hrr hcl [] s' _ H' D Jp ⟨_,G',zd R2,⟨rg,?_,?_⟩,hres e G' R2 fun l n=>⟨l,G',rfl,n,rfl,hR⟩,⟨?_,?_,?_,?_⟩⟩) (fun fl s'' hs=>?_) (fun u0 u0 z=>z.elim)
   ·simp[L2.start];(first|lia|omega)
   ·intro i d e1
    by_cases hi:i=1
    ·subst hi
     rw[List.getElem?_set_self (by simp;(first|lia|omega))] at e1
     cases e1
     refine⟨.ref e,?_,by unfold zU;rfl⟩
     rw[List.getElem?_set_ne (by decide),List.getElem?_set_self (by simp[L2.start];(first|lia|omega))]
    ·rw[List.getElem?_set_ne (Ne.symm hi),List.getElem?_replicate] at e1
     split at e1<;>cases e1
   ·rintro σ' G1 ⟨G2,s2',⟨l,G0,z,u0⟩⟩;cases z
   ·intro u0 u0 z;exact z.elim
   ·intro u0 u0 z;exact z.elim
   ·rintro d G1 ⟨G2,s2',⟨l,G0,rfl,n0,rfl,hR0⟩⟩ v H2 g2 r2 dv
    unfold zU at dv
    subst dv
    obtain⟨xs,w1,w2⟩:=r2.m l _ (s2'.m _ _ zH)
    exact⟨l,xs,G0,rfl,hR0,r2.sub ((Sub.new n0).trans s2'),n0,w1,w2,hG.trans g2⟩
   ·cases fl with
    | ret u =>
     obtain⟨v,σ',H2,J,rv2,q⟩:=hs
     exact⟨v,H2,J.os,J.bare,J.base,J.hok,rv2,q⟩
    | next =>
     obtain⟨σ',H2,J,⟨l,xs,G2,z,u0⟩⟩:=hs
     cases z
    | brk=>obtain⟨u0,u0,u0,q⟩:=hs;exact q.elim
    | cont=>obtain⟨u0,u0,u0,q⟩:=hs;exact q.elim
 refine codeAny_mono core fun rr s' hq'=>?_
 cases rr with
 | error e=>exact hq'.elim
 | ok fl =>
  cases fl with
  | ret u =>
   obtain⟨v,H',J,rv,l,xs,G',rfl,a1,a2,a3,a4,a5,a6⟩:=I1.after hq'
   exact⟨.ref l,H',J,rv,kk _ G' a1 l xs H' a6 a2 a3 a4 a5⟩
  | next=>exact hq'.elim
  | brk=>exact hq'.elim
  | cont=>exact hq'.elim
end L3
namespace L3
open PySem PySem.Spec PyProof.Rows L2
noncomputable def zHd(i:Nat)(e:Addr)(b:Bool):zo:=fun σ G R=>look σ i=some (.adr e)∧R (.bl b) G
section
variable {X:Cx}
theorem zHe{e C:Addr}{oe:Obj}{c:Value}{vc:V}{b:Bool}(k:zEG X.K C)(hp:(e,oe)∈X.pn)(hc:oe.cls=.ref C)(hv:∀ u,RelV vc u→u=c)(hb:PySem.W.kitOne X.K (.ref C) c=some b):wE X (.builtin "isinstance") (fun xs H Q=>xs=[.ref e,vc]∧Q (.bl b) H):=by
 intro pins s σ H xs us Q I rv h
 obtain⟨rfl,q⟩:=h
 obtain⟨w1,w2,rfl,r1,r2⟩:=vals2 rv
 obtain rfl:w1=Value.ref e:=r1
 obtain rfl:=hv w2 r2
 exact PySem.W.kia_one (zMe k) I.kIn ⟨oe,(I.pin _ (List.mem_append_left _ hp)).1,hc⟩ hb (fun z=>nomatch z) fun tk=>⟨.bl b,H,I.tok _,rfl,q⟩
theorem zHf(i:Nat){x cn:Str}{e C D:Addr}{oe:Obj}{b:Bool}{p p1 p2 pos:Pos}(k:zEG X.K C)(hp:(e,oe)∈X.pn)(hc:oe.cls=.ref C)(hg:Gl X "isinstance")(hm:X.mg "isinstance"=none)(hg2:Gl X cn)(hD:X.mg cn=some (.ref D))(hb:PySem.W.kitOne X.K (.ref C) (.ref D)=some b)
  (hN:X.N[i]?=some x:=by rfl) (hv:Vis X.env.scope x:=by first | exact Or.inl rfl | exact Or.inr (Or.inl rfl) | exact Or.inr (Or.inr rfl)) (hd:(x==("__debug__":Str))=false:=by decide) (hcd:(x==("__classdict__":Str))=false:=by decide) (hdb:(cn==("__debug__":Str))=false:=by decide) :
  E2 X (.Call (.Name "isinstance" p) [.Name x p1,.Name cn p2] [] pos) (zHd i e b):=by
 refine PE.mono (zAA (zHe (vc:=.ref D) k hp hc (fun u r=>r) hb) hg hm (by decide +kernel) (yS (zGB hN hv hd hcd) (yS (zIm hg2 hD (v:=.ref D) rfl hdb) wz rfl) rfl)) ?_
 rintro σ1 H Q ⟨σ,G,R,r,⟨q1,q2⟩,kk⟩
 obtain⟨v,e1,e2⟩:=r.val i _ (zCE q1)
 unfold zU at e2
 subst e2
 exact⟨_,e1,rfl,kk _ G q2 _ H (.refl H) r.g (by unfold zU;rfl)⟩
theorem zP7(i:Nat){x:Str}{e C:Addr}{oe:Obj}{p p1 p2 pos:Pos}(k:zEG X.K C)(hp:(e,oe)∈X.pn)(hc:oe.cls=.ref C)(hg:Gl X "isinstance")(hm:X.mg "isinstance"=none)(hg2:Gl X "ValueError")(hm2:X.mg "ValueError"=none)(hb:PySem.W.kitOne X.K (.ref C) (.type "ValueError")=some true)
  (hN:X.N[i]?=some x:=by rfl) (hv:Vis X.env.scope x:=by first | exact Or.inl rfl | exact Or.inr (Or.inl rfl) | exact Or.inr (Or.inr rfl)) (hd:(x==("__debug__":Str))=false:=by decide) (hcd:(x==("__classdict__":Str))=false:=by decide) :
  E2 X (.Call (.Name "isinstance" p) [.Name x p1,.Name "ValueError" p2] [] pos) (zHd i e true):=by
 refine PE.mono (zAA (zHe (vc:=.ty "ValueError") k hp hc (fun u r=>r) hb) hg hm (by decide +kernel) (yS (zGB hN hv hd hcd) (yS (zEK (v:=.ty "ValueError") hg2 hm2 (by decide +kernel) rfl) wz rfl) rfl)) ?_
 rintro σ1 H Q ⟨σ,G,R,r,⟨q1,q2⟩,kk⟩
 obtain⟨v,e1,e2⟩:=r.val i _ (zCE q1)
 unfold zU at e2
 subst e2
 exact⟨_,e1,rfl,kk _ G q2 _ H (.refl H) r.g (by unfold zU;rfl)⟩
inductive zA9 (X:Cx) (is:List Nat):List Expr→Prop
 | nil:zA9 X is []
 | con {c:Str} {j:Nat} {p:Pos} {r:List Expr} (h:c.length≤100) (t:zA9 X is r):zA9 X is (.Constant (.str c) j p::r)
 | fld {i:Nat} {x:Str} {p p2:Pos} {r:List Expr} (hi:i∈is) (h:PE X (.Name x p) (zQJ i)) (t:zA9 X is r):zA9 X is (.FormattedValue (.Name x p) (-1) none p2::r)
theorem zMj{is:List Nat}{c:Str}{j:Nat}{p:Pos}{r:List Expr}(t:zA9 X is r)(h:c.length≤100:=by decide):zA9 X is (.Constant (.str c) j p::r):=.con h t
theorem zP8(i:Nat){is:List Nat}{x:Str}{p p2:Pos}{r:List Expr}(t:zA9 X is r)(hi:i∈is:=by decide)(hN:X.N[i]?=some x:=by rfl)(hv:Vis X.env.scope x:=by first | exact Or.inl rfl | exact Or.inr (Or.inl rfl) | exact Or.inr (Or.inr rfl))(hd:(x==("__debug__":Str))=false:=by decide)(hcd:(x==("__classdict__":Str))=false:=by decide) :
  zA9 X is (.FormattedValue (.Name x p) (-1) none p2::r):=.fld hi (zGB hN hv hd hcd) t
theorem zKj:∀ n:Fin 100,(Str.ofString (toString ((n.val:Nat):Int))).length≤100:=by decide +kernel
theorem zE9{is:List Nat}{pins:List (Addr×Obj)}{σ1:L2.St}{H:Hp}(hs:∀ i∈is,∃ n:Nat,n<100∧σ1[i]?=some (some (.int n))){Qq:Str→Shared→Prop}(hq:∀ out s',L2.zV X pins σ1 H s'→out.length≤sizeLine→Qq out s') :
  ∀ {parts:List Expr},zA9 X is parts→∀(acc:Str) (s:Shared),L2.zV X pins σ1 H s→acc.length+100*parts.length≤sizeLine→Joins (model X.prog X.w) X.A X.xe (evalEach parts X.env) acc Qq s
 | _,.nil,acc,s,I,hl=>hq acc s I (by simpa using hl)
 | _,.con (c:=c) (r:=r) h t,acc,s,I,hl=>by
  have hl':acc.length+100*(r.length+1)≤sizeLine:=by simpa using hl
  have e:(acc++c).length=acc.length+c.length:=Str.length_append _ _
  refine wpAny_Constant_str ⟨c,_,rfl,by (first|lia|omega),zE9 hs hq t _ _ (I.tok _) (by (first|lia|omega))⟩
 | _,.fld (i:=i) (r:=r) hi h t,acc,s,I,hl=>by
  have hl':acc.length+100*(r.length+1)≤sizeLine:=by simpa using hl
  obtain⟨n,hn,hv⟩:=hs i hi
  refine wpAny_FormattedValue_plain (yq (h pins s σ1 H (fun v H'=>v=.int n∧H'=H) I ⟨_,hv,rfl,rfl⟩) fun u s1 hz=>?_)
  obtain⟨v,H',I1,rv,rfl,hH⟩:=hz
  rw[hH] at I1
  obtain⟨tk,rfl⟩:=rv
  have hlen:=zKj ⟨n,hn⟩
  dsimp only at hlen
  have e:(acc++Str.ofString (toString (n:Int))).length=acc.length+(Str.ofString (toString (n:Int))).length:=Str.length_append _ _
  refine wpAny_formatField_int ?_ ⟨_,_,rfl,by (first|lia|omega),zE9 hs hq t _ _ (I1.tok _) (by (first|lia|omega))⟩
  have:((n:Int)).natAbs=n:=by simp
  rw[this]
  have h2:Nat.log2 n≤n:=Nat.log2_le_self n
  (first|lia|omega)
noncomputable def xFs(is:List Nat):zo:=fun σ G R=>(∀ i∈is,∃ n:Nat,n<100∧look σ i=some (.int n))∧∀ x,R (.str x) G
theorem zP9(is:List Nat){v1 v2:Expr}{r:List Expr}{pos:Pos}(h:zA9 X is (v1::v2::r))(hl:100*(v1::v2::r).length≤sizeLine:=by decide):E2 X (.JoinedStr (v1::v2::r) pos) (xFs is):=by
 intro pins s σ1 H Q I hq
 obtain⟨σ,G,R,rr,⟨q1,q2⟩,kk⟩:=hq
 refine wpAny_JoinedStr (zE9 (fun i hi=>?_) (fun out s' I' ho=>?_) h Str.empty s I (by have:Str.empty.length=0:=rfl;(first|lia|omega)))
 ·obtain⟨n,hn,hk⟩:=q1 i hi
  obtain⟨v,e1,e2⟩:=rr.val i _ (zCE hk)
  unfold zU at e2
  subst e2
  exact⟨n,hn,e1⟩
 ·exact⟨ho,.str out,H,I'.tok _,⟨_,rfl⟩,kk _ G (q2 out) _ H (.refl H) rr.g (by unfold zU;rfl)⟩
end
end L3
namespace L2
open PySem PySem.Spec PyProof.Rows
noncomputable def zQA:Value→Bool | .str _ _=>true | _=>false
noncomputable def zMk:Value→Bool | .int _ _=>true | _=>false
noncomputable def zQ5:Value→Bool | .bool _=>true | _=>false
noncomputable def zQB(P:Addr):Option Value→Bool | some (.ref a)=>a==P | _=>false
noncomputable def zB3(K:PySem.W.Frag)(c P:Addr):Bool:=match K.lookup c with
 | some ⟨.type "code",_,.fields vs,_⟩=>zQB P vs[11]?&&zQA (vs.getD 18 .none)&&zMk (vs.getD 7 .none)&&zQ5 (vs.getD 9 .none)&&zMk (vs.getD 10 .none)&&!(c==P)
 | _=>false
theorem zDz{K:PySem.W.Frag}{c P:Addr}{h:Heap}(X:K.In h)(q:zB3 K c P=true):PySem.W.CodeHd h c P∧isCodeTable h P:=by
 unfold zB3 at q
 split at q
 ·rename_i d vs sl heq
  simp only[Bool.and_eq_true,Bool.not_eq_true',beq_eq_false_iff_ne] at q
  obtain⟨⟨⟨⟨⟨q1,q2⟩,q3⟩,q4⟩,q5⟩,q6⟩:=q
  have h11:vs[11]?=some (.ref P):=by
   generalize vs[11]?=v at q1
   cases v with
   | none=>cases q1
   | some v=>cases v<;>first | (have:=beq_iff_eq.mp (show(_==P)=true from q1);rw[this];done) | cases q1
  have hd:∀(b:Value→Bool) (v:Value),b v=true→b v=true:=fun u0 u0 z=>z
  obtain⟨s,t,e18⟩:∃ s t,vs.getD 18 .none=.str s t:=by
   generalize vs.getD 18 .none=v at q2
   cases v<;>first | exact⟨_,_,rfl⟩ | cases q2
  obtain⟨i,t2,e7⟩:∃ s t,vs.getD 7 .none=.int s t:=by
   generalize vs.getD 7 .none=v at q3
   cases v<;>first | exact⟨_,_,rfl⟩ | cases q3
  obtain⟨b,e9⟩:∃ s,vs.getD 9 .none=.bool s:=by
   generalize vs.getD 9 .none=v at q4
   cases v<;>first | exact⟨_,rfl⟩ | cases q4
  obtain⟨i2,t3,e10⟩:∃ s t,vs.getD 10 .none=.int s t:=by
   generalize vs.getD 10 .none=v at q5
   cases v<;>first | exact⟨_,_,rfl⟩ | cases q5
  have g:=X _ _ heq
  refine⟨⟨_,vs,s,t,i,t2,b,i2,t3,g,rfl,rfl,h11,?_,e18,e7,e9,e10,q6⟩,⟨c,_,vs,g,rfl,rfl,h11⟩⟩
  rw[Array.getD_eq_getD_getElem?,h11];rfl
 ·cases q
theorem zHg{K:PySem.W.Frag}{x:Str}{c P f:Addr}{oc:Value}{od:Option Addr}{fd:FuncData}{sl:Array (Option Value)}(h:PySem.W.tabIn K x=some (c,P))(h1:PySem.W.nsIn K mainGlobals x=some (some (.ref f)))(h2:K.lookup f=some ⟨oc,od,.func fd,sl⟩):fd.code=.ref c:=by
 unfold PySem.W.tabIn at h
 rw[h1] at h
 dsimp only at h
 rw[h2] at h
 dsimp only at h
 cases hc:fd.code<;>(rw[hc] at h;dsimp only at h)<;>try cases h
 rename_i c'
 split at h
 ·split at h
  ·cases h;rfl
  ·cases h
 ·cases h
end L2
namespace L2
open PySem PySem.Spec PyProof.Rows
set_option genInjectivity false in
structure zOb (K:PySem.W.Frag) (as ts:List Addr) (qn:Addr→Str):Prop where
 out:∀ P∈ts,P∉as
 code:∀ P∈ts,∃ c,zB3 K c P=true
 name:∀ x∈zBj,∀ c b,PySem.W.tabIn K x=some (c,b)→b∈ts∧qn b=x++".<locals>.<lambda>"
theorem lookup_none{K:PySem.W.Frag}{P:Addr}(h:P∉K.map (·.1)):K.lookup P=none:=by
 induction K with
 | nil=>rfl
 | cons p r ih =>
  rw[List.map_cons,List.mem_cons,not_or] at h
  obtain⟨a,o⟩:=p
  have hb:(P==a)=false:=by simpa using h.1
  rw[List.lookup_cons,hb]
  exact ih h.2
theorem zQ6{K:PySem.W.Frag}{as ts:List Addr}{x x':Str}(h:∃ c P c' P',PySem.W.tabIn K x=some (c,P)∧zB3 K c P=true∧PySem.W.tabIn K x'=some (c',P')∧zB3 K c' P'=true∧P≠P'∧(ts=[P,P']∨ts=[P',P]))(hy:∀ y∈zBj,y=x∨y=x'∨PySem.W.tabIn K y=none)(ho:∀ P∈ts,P∉as):∃ qn,zOb K as ts qn:=by
 obtain⟨c,P,c',P',h1,h2,h3,h4,hne,ht⟩:=h
 have hm:∀ b,b∈ts↔b=P∨b=P':=fun b=>by
  rcases ht with rfl | rfl
  ·simp
  ·simp[or_comm]
 refine⟨fun b=>if b=P then x++".<locals>.<lambda>" else x'++".<locals>.<lambda>",ho,fun P2 hP=>?_,fun y hyy c2 b e=>?_⟩
 ·rcases(hm P2).mp hP with rfl | rfl
  ·exact⟨c,h2⟩
  ·exact⟨c',h4⟩
 ·rcases hy y hyy with rfl | rfl | z
  ·rw[h1] at e;cases e;exact⟨(hm _).mpr (.inl rfl),if_pos rfl⟩
  ·rw[h3] at e;cases e;exact⟨(hm _).mpr (.inr rfl),if_neg (Ne.symm hne)⟩
  ·rw[z] at e;cases e
theorem zKk{P':Program}{w:World}{K:PySem.W.Frag}{mg mb:Str→Option Value}{CX:CXT}{k:Nat}{fa a:Addr}{fd:FuncData}{x:Str}{sp:Sp}{s₁:Shared}{vs:List Value}{ns:List Int}{ts:List Addr}{qn:Addr→Str}
  (TB:TabsAt K s₁.heap ts qn) (KX:K.In s₁.heap) (hns:s₁.heap.Ns mainGlobals mg) (hb:s₁.heap.Ns builtinsNs mb) (hbb:∀ x:Str,x≠"__name__"→mb x=bootBuiltins x) (hlim:s₁.heap.NoLimit) (hg:s₁.gens=#[])
  (ha:s₁.heap.get? a=some { cls:=.type "list",data:=.seq vs.toArray }) (hi:IntsAre vs ns) (hl:ns.length≤sizeLine) (hr:yd k callerA)
  (hbm:BMn s₁.heap mg) (F:∀ base:Heap,K.In base→base.Ns mainGlobals mg→BMn base mg→zDB P' w K mg base CX k fa fd [x] sp) (hbind:∀(s:Shared) (u:Value),BindsTo s fd ⟨[u],[]⟩ [(x,u)])
  (hsp:∀ H:Hp,zNT H→SqL K H a (ns.map V.int)→sp [.ref a] H (fun v u0=>v=.bl true) fun u0 u0 u0=>False)
  (hCX:∀ H e s',CX [] H s₁ (fun u0 u0 u0=>False) e s'→False) :
  codeAny (model P' w) callerA (.call (.ref fa) ⟨[.ref a],[]⟩) (fun r s'=>r=.ok (.ret (.bool true))∧OldK s₁.heap s'.heap∧s'.os=s₁.os∧AllBare s'.gens) s₁:=by
 have rv:=zDk hi
 have lenV:=hi.length
 -- from an abstract heap in which nothing but the script may be tracked
 have core:∀ H:Hp,zNT H→SqL K H a (ns.map V.int)→HOk P' w H s₁.heap→(∀ b,H b≠none→b=a∨b∈ts)→(H a≠none→K.lookup a=none)→(∀ P∈ts,H P=some (.tbl #[.str (qn P) 0])) →
   codeAny (model P' w) callerA (.call (.ref fa) ⟨[.ref a],[]⟩) (fun r s'=>r=.ok (.ret (.bool true))∧OldK s₁.heap s'.heap∧s'.os=s₁.os∧AllBare s'.gens) s₁:=by
  intro H hO hS hok hA hK hT
  have base_of:∀ {b:Addr} {o:Obj},s₁.heap.get? b=some o→H b=none→(zFO s₁.heap H).get? b=some o:=fun e n=>zK2 e n
  have noA:∀ {b:Addr} {o:Obj} {es:Array DictEntry} {ep:Nat},s₁.heap.get? b=some o→o.data=.dict es ep→H b=none:=fun {b o es ep} e d=>by
   cases q:H b with
   | none=>rfl
   | some u =>
    rcases hA b (by rw[q];simp) with e' | e'
    ·subst e'
     rw[ha] at e;cases e
     have d':Data.seq vs.toArray _=Data.dict es ep:=d
     cases d'
    ·rw[TB.obj b e'] at e;cases e
     have d':Data.fields #[]=Data.dict es ep:=d
     cases d'
  have nsK:∀ {b:Addr} {m:Str→Option Value},s₁.heap.Ns b m→(zFO s₁.heap H).Ns b m:=fun {b m} ⟨o,es,ep,e,d,r⟩=>⟨o,es,ep,base_of e (noA e d),d,r⟩
  have hKb:K.In (zFO s₁.heap H):=fun b o e=>base_of (KX b o e) (by
   cases q:H b with
   | none=>rfl
   | some u =>
    rcases hA b (by rw[q];simp) with e' | e'
    ·subst e'
     rw[hK (by rw[q];simp)] at e;cases e
    ·rw[TB.out b e'] at e;cases e)
  have hM:Mod K mg (zFO s₁.heap H):=⟨hKb,nsK hns,⟨mb,nsK hb,hbb⟩,let ⟨mc,h1,h2⟩:=hlim;⟨mc,nsK h1,h2⟩⟩
  have e0:zFQ P' w K mg (zFO s₁.heap H) callerA [] s₁ H:=⟨rfl,hM,fun b o e=>zM8 e,Nat.le_of_eq (zJc _ _),trivial,fun b hb=>absurd (show b∈([]:List Addr) from hb) (by simp),hok,.of_eq hg,fun x hx c b e=>by
   obtain⟨z1,z2⟩:=TB.name x hx c b e
   exact⟨0,by rw[← z2];exact hT b z1⟩⟩
  have hbm':BMn (zFO s₁.heap H) mg:=by
   obtain⟨bm,o,b1,b2,b5,b6,b7,b8⟩:=hbm
   refine⟨bm,o,b1,b2,base_of b5 ?_,b6,b7,b8⟩
   cases q:H bm with
   | none=>rfl
   | some u =>
    rcases hA bm (by rw[q];simp) with e' | e'
    ·subst e'
     rw[ha] at b5;cases b5;cases b8
    ·rw[TB.obj bm e'] at b5;cases b5;cases b8
  refine codeAny_mono ((F _ hKb (nsK hns) hbm').run callerA [] s₁ H ⟨[.ref a],[]⟩ [.ref a] [.ref a] _ _ hr e0 (hbind s₁ (.ref a)) (.cons rfl .nil) (hsp H hO hS)) fun r s' h=>?_
  cases r with
  | error e=>exact(hCX H e s' h).elim
  | ok fl =>
   cases fl with
   | next=>exact False.elim h
   | brk=>exact False.elim h
   | cont=>exact False.elim h
   | ret u =>
    obtain⟨v,H',os,bare,un,hok',r',q⟩:=h
    have q':v=.bl true:=q
    subst q'
    obtain rfl:u=Value.bool true:=r'
    have K1:∀ b o,b∉ts→s₁.heap.get? b=some o→s'.heap.get? b=some o:=fun b o hb e=>by
     cases q:H b with
     | none=>exact un.keep b o e q (by intro z;exact absurd (show b∈([]:List Addr) from z) (by simp)) (by simp)
     | some u =>
      rcases hO b with z | ⟨ob,xs,z⟩ | ⟨ps,z⟩
      ·rw[q] at z;cases z
      ·have z2:=un.frzs b ob _ z
       obtain⟨e1,u0⟩:=hok b _ z
       obtain⟨e2,u0⟩:=hok' b _ z2
       rw[e] at e1;cases e1
       exact e2
      ·rcases hA b (by rw[q];simp) with e' | e'
       ·obtain⟨u0,u0,u0,u0,w1,u0⟩:=hok b _ z
        rw[e',ha] at w1;cases w1
       ·exact absurd e' hb
    have K2:∀ b,b∈ts→∃ vs,s'.heap.get? b=some (PySem.W.tabObj vs):=fun b hb=>by
     have z2:=un.tbls b _ (hT b hb)
     obtain⟨u0,u0,vs,u0,w1,u0⟩:=hok' b _ z2
     exact⟨vs,w1⟩
    refine⟨rfl,⟨fun b o e=>?_,fun b o e=>?_⟩,os,bare⟩
    ·by_cases hb:b∈ts
     ·obtain⟨vs,w1⟩:=K2 b hb
      rw[TB.obj b hb] at e
      cases e
      exact .inr (.inl ⟨TB.code b hb,rfl,#[],vs,rfl,by simpa using w1⟩)
     ·exact .inl (K1 b o hb e)
    ·by_cases hb:b∈ts
     ·obtain⟨vs,w1⟩:=K2 b hb
      exact⟨_,w1⟩
     ·exact⟨o,K1 b o hb e⟩
 have naT:∀ P∈ts,P≠a:=fun P hP z=>by
  have e:=TB.obj P hP
  rw[z,ha] at e;cases e
 have tok:∀(H:Hp),∀ P∈ts,wL P' w H s₁.heap P (.tbl #[.str (qn P) 0]):=fun H P hP=>⟨qn P,0,#[],rfl,TB.obj P hP,trivial,fun pos cv e=>by cases e⟩
 cases hk:K.lookup a with
 | some o =>
  -- the script is one of the module's own objects
  have e:=KX a o hk
  rw[ha] at e
  cases e
  refine core (fun b=>if b∈ts then some (.tbl #[.str (qn b) 0]) else none) (fun b=>?_) (.inr ⟨_,vs.toArray,_,hk,rfl,rfl,rfl,by rw[List.size_toArray,lenV];exact hl,by simpa using rv⟩) (fun b u z=>?_) (fun b z=>?_) (fun z=>?_) fun P hP=>if_pos hP
  ·by_cases hb:b∈ts
   ·exact .inr (.inr ⟨_,if_pos hb⟩)
   ·exact .inl (if_neg hb)
  ·by_cases hb:b∈ts
   ·have z':=(if_pos hb).symm.trans z
    cases z'
    exact tok _ b hb
   ·have z':=(if_neg hb).symm.trans z
    cases z'
  ·by_cases hb:b∈ts
   ·exact .inr hb
   ·exact absurd (if_neg hb) z
  ·by_cases hb:a∈ts
   ·exact absurd rfl (naT a hb)
   ·exact absurd (if_neg hb) z
 | none =>
  refine core (fun b=>if b=a then some (.frz { cls:=.type "list",data:=.seq vs.toArray } (.lst (ns.map V.int))) else if b∈ts then some (.tbl #[.str (qn b) 0]) else none) (fun b=>?_) (.inl (.inr ⟨{ cls:=.type "list",data:=.seq vs.toArray },if_pos rfl⟩)) (fun b u z=>?_) (fun b z=>?_) (fun u0=>hk) fun P hP=>?_
  ·by_cases hb:b=a
   ·exact .inr (.inl ⟨_,_,if_pos hb⟩)
   ·by_cases hb2:b∈ts
    ·exact .inr (.inr ⟨_,(if_neg hb).trans (if_pos hb2)⟩)
    ·exact .inl ((if_neg hb).trans (if_neg hb2))
  ·by_cases hb:b=a
   ·have z':=(if_pos hb).symm.trans z
    cases z'
    subst hb
    exact⟨ha,by rw[List.length_map];exact hl,vs,_,rv,ha⟩
   ·by_cases hb2:b∈ts
    ·have z':=((if_neg hb).trans (if_pos hb2)).symm.trans z
     cases z'
     exact tok _ b hb2
    ·have z':=((if_neg hb).trans (if_neg hb2)).symm.trans z
     cases z'
  ·by_cases hb:b=a
   ·exact .inl hb
   ·by_cases hb2:b∈ts
    ·exact .inr hb2
    ·exact absurd ((if_neg hb).trans (if_neg hb2)) z
  ·exact(if_neg (naT P hP)).trans (if_pos hP)
theorem zMl{l:PySem.W.OpenLaw}{n k:Nat}{q:Program}{loose:List Str}{XP:(Str→Option Value)→Heap→Prop}{YP:World→Heap→Prop}{d:DefRec}{K:Params→PySem.W.Frag}{CX:World→CXT}{sp:World→Sp}{x:Str}
  (hn:l.most=some n) (hn2:n≤sizeLine) (hdf:d.params.defaults=[]) (hr:yd k callerA)
  (hY:∀(w:World) (h:Heap),YP w h→(K w.params).In h∧∃ ts qn,TabsAt (K w.params) h ts qn)
  (F:∀(w:World) (mg:Str→Option Value) (fa:Addr) (h:Heap),(K w.params).In h→h.Ns mainGlobals mg→mg d.name=some (.ref fa) →
   ∃ fd:FuncData,(∀(s:Shared) (u:Value),BindsTo s fd ⟨[u],[]⟩ [(x,u)]) ∧
    ∀ base:Heap,(K w.params).In base→base.Ns mainGlobals mg→BMn base mg→zDB l.prog w (K w.params) mg base (CX w) k fa fd [x] (sp w))
  (hsp:∀(w:World) (H:Hp) (a:Addr) (ns:List Int),ns.length≤n→zNT H→SqL (K w.params) H a (ns.map V.int)→sp w [.ref a] H (fun v u0=>v=.bl true) fun u0 u0 u0=>False)
  (hCX:∀(w:World) (H:Hp) (s:Shared) (e:Value) (s':Shared),CX w [] H s (fun u0 u0 u0=>False) e s'→False) :
  PySem.W.WalkO q loose XP YP l.row.toRowW d [] (fun f vs=>PySem.call f vs):=by
 refine Att.zGq hn hdf fun w s₀ s₁ mg mb fa o pm cd doc a vs ns G Y ho hd hcd hmg hobj hints hlen hg=>?_
 obtain⟨KX,ts,qn,TB⟩:=hY w _ Y
 obtain⟨fd,hb,hF⟩:=F w mg fa _ KX G.T.g hmg
 exact zKk TB KX G.T.g G.T.b G.T.builtins G.T.nolimit hg hobj hints (Nat.le_trans hlen hn2) hr G.T.bmain hF hb (fun H hO hS=>hsp w H a ns hlen hO hS) fun H e s'=>hCX w H s₁ e s'
end L2
namespace L3
open PySem PySem.Spec PyProof.Rows L2
theorem zKl{l:PySem.W.OpenLaw}{k:Nat}{q:Program}{loose:List Str}{XP:(Str→Option Value)→Heap→Prop}{d:DefRec}{K:Params→PySem.W.Frag}{as:List Addr}{e:∀ P:Params,as=(K P).map (·.1)}{ts:List Addr}(hn:l.most=some 63)(hdf:d.params.defaults=[])(hr:yd k callerA)
  (hT:∀ w:World,∃ qn,zOb (K w.params) as ts qn)
  (F:∀(w:World) (mg:Str→Option Value) (fa:Addr) (h:Heap),(K w.params).In h→h.Ns mainGlobals mg→mg d.name=some (.ref fa) →
   ∃ fd:FuncData,(∀(s:Shared) (u:Value),BindsTo s fd ⟨[u],[]⟩ [("script",u)])∧∀ base:Heap,(K w.params).In base→base.Ns mainGlobals mg→BMn base mg→zDB l.prog w (K w.params) mg base CX0 k fa fd ["script"] (lSp (K w.params) zFq)) :
  PySem.W.WalkO q loose XP (PySem.W.kmHook K as e ts).says l.row.toRowW d [] (fun f vs=>PySem.call f vs) :=
 L2.zMl (K:=K) (n:=63) (k:=k) (x:="script") (CX:=fun u0=>CX0) (sp:=fun w=>lSp (K w.params) zFq) hn (by decide) hdf hr (fun w h Y=>⟨PySem.W.km_in_of Y,ts,by
  obtain⟨qn,t⟩:=hT w
  have KX:=PySem.W.km_in_of Y
  exact⟨qn,PySem.W.km_tabs_of Y,fun P hP=>lookup_none (by rw[← e w.params];exact t.out P hP),fun P hP=>(zDz KX (t.code P hP).choose_spec).2,t.name⟩⟩) F (fun u0 H a ns hl hO hS=>zPZ hl hO hS) fun u0 u0 u0 u0 u0 z=>z
theorem zMm{P:Program}{w:World}{K:PySem.W.Frag}{mg:Str→Option Value}{base:Heap}{x qual:Str}{st:Stmt}{f:Addr}{fd:FuncData}{N ps:List Str}{k:Nat}{sp:Sp2}(t:yi)(F:Fun K x qual st f fd)(S:zZ N ps (zG st))
  (ht:∀(cdv:Value) (A:Around) (outer:List Env) (s:Shared) (H:Hp) (E:XK),fd.code=cdv→yd k (A.deeper (envOfC qual (zG st) s.heap.objs.size f cdv))→Ps2 (zCD CX0 P w K mg base N qual (zG st) f cdv A outer s H E).nox (zW st) t)
  (hs:∀ ds G R,sp ds G R→ds.length=ps.length∧t (zd R) (zS N ds) G):zDB P w K mg base CX0 (k+1) f fd ps (lSp K sp):=by
 have F0:=F.ex
 obtain⟨oc,od,kV,doc,pm,an,cdv,ct,osl,rfl,lk,hcd⟩:=F0
 refine zOJ lk hcd S ?_ ?_
 ·rintro vs H Q E ⟨ds,G,R,d,r,h,u0⟩
  rw[← d.length]
  exact(hs ds G R h).1
 ·intro A outer s H vs Q E hr h
  obtain⟨ds,G,R,d,r,h,kk⟩:=h
  refine⟨_,(ht cdv A outer s H E rfl hr).nox,zS N ds,G,_,zDp r d,(hs ds G R h).2,⟨?_,?_,?_,?_⟩⟩
  ·rintro σ G' ⟨G'',s',q'⟩ σ1 H' g' r'
   exact kk _ G'' q' _ H' g' (r'.g.sub s') (by unfold zU;rfl)
  ·intro σ G' h;exact h.elim
  ·intro σ G' h;exact h.elim
  ·rintro d' G' ⟨G'',s',q'⟩ v H' g' r' dv
   exact kk _ G'' q' _ H' g' (r'.sub s') dv
end L3
namespace L3
open PySem PySem.Spec PyProof.Rows L2
noncomputable def zKm(kind:Int)(cond:List D→Gp→(Gp→Prop)→Prop)(ta:wN):TL2:=fun σ G R=>ta σ G fun ds G2=>cond ds G2 fun G3=>R [.int kind] G3
noncomputable def zQC(osc sc:Scope):Bool:=decide (sc.kind=.function)&&!sc.isCoroutine&&!sc.isGenerator&&sc.names.all (fun y=>decide (y.2≠.cell))&&sc.names.all (fun y=>decide (y.2≠.local))&&sc.names.all (fun y=>decide (y.2=.free→osc.names.lookup y.1=some .cell∨osc.names.lookup y.1=some .free))
theorem zMn{env:Env}{osc sc:Scope}(h:zQC osc sc=true)(e:env.scope=osc):zJP env sc:=by
 subst e
 unfold zQC at h
 simp only[Bool.and_eq_true,decide_eq_true_eq,List.all_eq_true,Bool.not_eq_true'] at h
 obtain⟨⟨⟨⟨⟨h1,h2⟩,h3⟩,h4⟩,h5⟩,h6⟩:=h
 exact⟨h1,h2,h3,h4,h5,h6⟩
theorem zOc{X:Cx}{osc:Scope}{x:Str}{c P:Addr}{params:Arguments}{body:Expr}{sc:Scope}(h:zQC osc sc=true)(code:X.env.code=.ref c)(hd:PySem.W.CodeHd X.base c P)(blt:BMn X.base X.mg)(tab:PySem.W.tabIn X.K x=some (c,P))(mem:x∈zBj)(qual:X.env.qual++"<lambda>"=x++".<locals>.<lambda>")(df:defaultsOf params X.env=([],[]))
  (bd:∀(q:Str) (cl:List (Str×Addr)) (pm cv ctv:Value),bindArgs (PySem.W.kla_fn "<lambda>" q params body sc cl pm cv ctv) ⟨[],[]⟩=pure []) (e:X.env.scope=osc:=by rfl):zMi X x c P params body sc :=
 ⟨zMn h e,code,hd,blt,qual,mem,tab,df,bd⟩
theorem zOd{X:Cx}{st:Stmt}{f:Addr}{fd:FuncData}{N:List Str}{k:Nat}{C Cc c P:Addr}{kind:Int}{x:Str}{rest:List Stmt}{params:Arguments}{body:Expr}{sc:Scope}{cond:List D→Gp→(Gp→Prop)→Prop}{ta:wN}{trest:Addr→yi}{p lp pos:Pos}
  (F:Fun X.K "_law_refused" "_law_refused" st f fd) (S:zZ N ["call"] (zG st)) (hm:X.mg "_law_refused"=some (.ref f)) (hb:Binds X.K fd ["call"] []) (hr:yd (k+2) X.A) (hgl:Gl X "_law_refused") (B:zMh st N rest)
  (hCc:X.mg "ChordError"=some (.ref Cc)) (hxm:PySem.W.exmOne X.K (.ref C) (.ref Cc)=some true)
  (hrest:∀(cdv:Value) (A:Around) (outer:List Env) (s:Shared) (H:Hp) (e:Addr) (oe:Obj),yd (k+1) (A.deeper (envOfC "_law_refused" (zG st) s.heap.objs.size f cdv))→oe.cls=.ref C→Ps2 (zKh (zCD CX0 X.prog X.w X.K X.mg X.base N "_law_refused" (zG st) f cdv A outer s H E0).nox e oe) rest (trest e))
  (hres:∀(e:Addr) (G:Gp) (R:Q2),(∀ l,G.m l=none→R (.adr l) (zR G l [.int kind]))→trest e (zd R) ((List.replicate N.length none).set 1 (some (.adr e))) G)
  (L:zMi X x c P params body sc) (hlam:∀(g:Addr) (cv:Value) (A:Around) (outer:List Env) (s:Shared) (H:Hp),yd k (A.deeper (zE8 sc (zAd sc X.env) (x++".<locals>.<lambda>") g cv s.heap.objs.size))→Xe (zKf X sc (x++".<locals>.<lambda>") g cv A outer s H) C body (fun E σ G=>ta σ G fun ds G2=>cond ds G2 E)) :
  F2 X (.Call (.Name "_law_refused" p) [.Lambda params body sc lp] [] pos) (zKm kind cond ta) :=
 zKi (t:=fun E σ G=>ta σ G fun ds G2=>cond ds G2 E) F S hm hb hr hgl B hCc hxm hrest hres L hlam
end L3
namespace K
open PySem PySem.Spec PyProof.Rows L2 L3
noncomputable def zAu(ex:Addr)(b_TooMany b_NoTie b_NoSplit b_NoName b_BadNote:Bool):yi:=(zX (zv (yA (wS (zA (zHd 1 ex b_TooMany) (zA (zHd 1 ex b_NoTie) (zA (zHd 1 ex b_NoSplit) zI))))) (gN 3)) (zX (zv (yA (zCo (zB 3) (yA (wS (zA (zHd 1 ex b_NoName) (zA (zHd 1 ex b_BadNote) zI)))))) (gN 3)) (zX (xIf (wn (xB (zHd 1 ex true))) (zu (xC .non)) yH) (zu (yA (zf (iR1 (zA (xC (.int 5)) zI)) wy (xB (zP zi (zB 3) (zB 4))) (zB 4)))))))
theorem zRZ{σ:S2}{G:Gp}{ta tb:zo}{R:List D→Gp→Prop}(h:ta σ G fun x G1=>tb σ G1 fun y G2=>match x,y with | D.adr l,D.adr m=>∃ xs ys,G2.m l=some xs∧G2.m m=some ys∧xs.length+ys.length≤1000000∧R (xs++ys) G2 | _,_=>False):zCo ta tb σ G R:=h
theorem zQD{σ:S2}{G:Gp}{t u:zo}{l:Addr}{ds:List D}{k:Int}{d:D}(h:ze t σ G (.adr l))(h':ze u σ G (.int k))(hl:Ls G l ds)(e:atI ds k=some d):ze (zP zi t u) σ G d:=wp h h' fun G2 e2 R q=>⟨ds,d,e2.ls hl,e,q⟩
theorem zMo{G G':Gp}{l:Addr}{ds:List D}(h:Sub G G'):Sub (zR G l ds) (zR G' l ds):=⟨fun a o e=>by
 by_cases ha:a=l
 ·subst ha;rw[zH] at e ⊢;exact e
 ·rw[zQ ha] at e ⊢;exact h.m a o e,fun a o e=>h.ro a o e⟩
theorem zMp{G G':Gp}{x:Addr}(h:Sub G G')(n:G'.m x=none):G.m x=none:=by
 cases q:G.m x with
 | none=>rfl
 | some o=>rw[h.m x o q] at n;cases n
theorem zFA{tl:TL2}{i:Nat}{u:yi}{E:yC}{σ:S2}{G:Gp}{ds:List D}(h:PuL tl σ G ds)(h':∀ l,G.m l=none→u E (σ.set i (some (.adr l))) (zR G l ds)):zX (zv (yA tl) (gN i)) u E σ G:=h G (.refl G) _ h'
theorem zMq{tl:TL2}{i:Nat}{u:yi}{E:yC}{σ:S2}{G:Gp}(h:tl σ G fun ds G'=>∀ l,G'.m l=none→u E (σ.set i (some (.adr l))) (zR G' l ds)):zX (zv (yA tl) (gN i)) u E σ G:=h
theorem zQ7{i:Nat}{σ:S2}{G:Gp}{R:Q2}{d:D}(h:look σ i=some d)(h':R d G):zB i σ G R:=by unfold zB;rw[h];exact h'
theorem zGi{tc:TT2}{t u v:yi}{E:yC}{σ:S2}{G:Gp}(h:xIf tc t u { E with nx:=v E } σ G):zX (xIf tc t u) v E σ G:=h
theorem zMr{tl:TL2}{E:yC}{σ:S2}{G:Gp}{ds:List D}(h:PuL tl σ G ds)(h':∀ l,G.m l=none→E.rt (.adr l) (zR G l ds)):zu (yA tl) E σ G:=h G (.refl G) _ h'
noncomputable def zQ8(bs:List Bool):D→Bool | .int k=>bs.getD k.toNat false | _=>false
theorem zF2{b0 b1 b2 b3 b4:Bool}{e:Addr}{G:Gp}{R:Q2}{ks:List D}(hks:((yX 0 5).filter (zQ8 [b0,b1,b2,b3,b4])).map id=ks)(h:∀ l,G.m l=none→R (.adr l) (zR G l ks)) :
  zAu e b0 b1 b2 b3 b4 (zd R) ((List.replicate 4 none).set 1 (some (.adr e))) G:=by
 unfold zAu
 refine zFA (ds:=[.bl b0,.bl b1,.bl b2]) (fun G2 e2 R2 q=>⟨rfl,rfl,rfl,(show 3≤sizeLine by decide),q⟩) fun l1 n1=>?_
 show zX _ _ _ [none,some (.adr e),none,some (.adr l1)] (zR G l1 [.bl b0,.bl b1,.bl b2])
 refine zMq (zRZ (zQ7 (d:=.adr l1) rfl ?_))
 refine zAL (ds:=[.bl b3,.bl b4]) (fun G2 e2 R2 q=>⟨rfl,rfl,(show 2≤sizeLine by decide),q⟩) fun l2 n2=>?_
 have n12:l1≠l2:=fun z=>by rw[← z,zH] at n2;cases n2
 refine⟨[.bl b0,.bl b1,.bl b2],[.bl b3,.bl b4],by rw[zQ n12];exact zH,zH,(show 3+2≤1000000 by decide),fun l3 n3=>?_⟩
 show zX _ _ _ [none,some (.adr e),none,some (.adr l3)] _
 generalize hG3:zR (zR (zR G l1 [.bl b0,.bl b1,.bl b2]) l2 [.bl b3,.bl b4]) l3 ([.bl b0,.bl b1,.bl b2]++[.bl b3,.bl b4])=G3
 have hs:Sub G G3:=by rw[← hG3];exact((Sub.new n1).trans (.new n2)).trans (.new n3)
 have hl:Ls G3 l3 [.bl b0,.bl b1,.bl b2,.bl b3,.bl b4]:=by rw[← hG3];exact .own
 refine zGi (zB6 (zBH (b:=true) (wK fun G2 e2 R2 q=>⟨rfl,q⟩)) ?_)
 show zu (yA (zf (iR1 (zA (xC (.int 5)) zI)) wy (xB (zP zi (zB 3) (zB 4))) (zB 4))) (zd R) [none,some (.adr e),none,some (.adr l3)] G3
 refine zMr (ds:=ks) ?_ fun l4 n4=>⟨zR G l4 ks,zMo hs,h l4 (zMp hs n4)⟩
 rw[← hks]
 refine wa (zQ8 [b0,b1,b2,b3,b4]) id (fun x=>[x]) (zBX (j:=5) (zF yU zM) (by decide)) fun x hx=>⟨rfl,wK ?_,fun u0=>zE rfl⟩
 obtain⟨k,hk,rfl⟩:=List.mem_map.mp hx
 have hk5:k<5:=List.mem_range.mp hk
 refine zQD (l:=l3) (zE rfl) (zE rfl) hl ?_
 match k,hk5 with
 | 0,_=>rfl
 | 1,_=>rfl
 | 2,_=>rfl
 | 3,_=>rfl
 | 4,_=>rfl
theorem zHh(e:Addr)(G:Gp)(R:Q2)(h:∀ l,G.m l=none→R (.adr l) (zR G l [.int 0])):zAu e true false false false false (zd R) ((List.replicate 4 none).set 1 (some (.adr e))) G:=zF2 rfl h
theorem zHi(e:Addr)(G:Gp)(R:Q2)(h:∀ l,G.m l=none→R (.adr l) (zR G l [.int 2])):zAu e false false true false false (zd R) ((List.replicate 4 none).set 1 (some (.adr e))) G:=zF2 rfl h
end K
namespace K
open PySem PySem.Spec PyProof.Rows L2 L3
theorem zHj{σ:S2}{G:Gp}{te:zo}{E:yC}{d:D}(h:ze te σ G d)(h':E.rt d G):zu te E σ G:=h G (.refl G) _ h'
theorem zQE{σ:S2}{G:Gp}{ta tb:zo}{f:D→D→Gp→Q2→Prop}{R:Q2}(h:ta σ G fun x G1=>tb σ G1 fun y G2=>f x y G2 R):zP f ta tb σ G R:=h
theorem zQ9{σ:S2}{G:Gp}{kind:Int}{cond:List D→Gp→(Gp→Prop)→Prop}{ta:wN}{ds:List D}{R:Q2}(h:PuA ta σ G ds)(h':∀ E:Gp→Prop,E G→cond ds G E)(h2:∀ l,G.m l=none→R (.adr l) (zR G l [.int kind])):yA (zKm kind cond ta) σ G R:=h G (.refl G) _ (h' _ h2)
theorem zMs{σ:S2}{G:Gp}{k:Int}{cond:List D→Gp→(Gp→Prop)→Prop}{ta:wN}{ds:List D}{ng:Bool}{R:Q2}(h:PuA ta σ G ds)(h':∀ E:Gp→Prop,E G→cond ds G E)(h2:∀ G',Sub G G'→R (.bl (!ng)) G'):zP (fEq ng) (yA (zKm k cond ta)) (yA (wS (zA (xC (.int k)) zI))) σ G R:=by
 refine zQE (zQ9 h h' fun l1 n1=>zAL (ds:=[.int k]) (fun G2 e R q=>⟨(show 1≤sizeLine by decide),q⟩) fun l2 n2=>?_)
 have n12:l1≠l2:=fun z=>by rw[← z,zH] at n2;cases n2
 have e:eqDs [.int k] [.int k]=true:=by
  show ((k==k)&&true)=true
  simp
 refine⟨[.int k],[.int k],.inl (by rw[zQ n12];exact zH),.own,?_,?_,?_⟩
 ·intro d hd;rw[List.mem_singleton.mp hd];rfl
 ·intro d hd;rw[List.mem_singleton.mp hd];rfl
 ·rw[e]
  have:(if ng=true then !true else true)=!ng:=by cases ng<;>rfl
  rw[this]
  exact h2 _ ((Sub.new n1).trans (.new n2))
theorem zOe{i j:Nat}{x y:D}{σ:S2}{G:Gp}{Q:S2→Gp→Prop}(h:Q ((σ.set i (some x)).set j (some y)) G):gNN i j (.tup [x,y]) σ G Q:=h
noncomputable def wR:Sp2:=fun ds G R=>∃ a b:Nat,ds=[nD a,nD b]∧a≤b∧R .non G
noncomputable def yn:List D→Gp→(Gp→Prop)→Prop:=fun ds G E=>∃ a b:Nat,ds=[nD a,nD b]∧b<a∧b<100∧E G
noncomputable def zAc:yi:=(xIf (xB (zP (ya fun i j=>.bl (decide (j<i))) (zB 0) (zB 1))) (fun u0 u0 u0=>False) yH)
noncomputable def zAF:(Gp→Prop)→S2→Gp→Prop:=(fun E σ G=>(xB (zP (ya fun i j=>.bl (decide (j<i))) (zB 0) (zB 1))) σ G fun b G2=>b=true∧(fun E σ G=>(xFs [1]) σ G fun u0 G2=>E G2) E σ G2)
theorem zD0{σ:S2}{G:Gp}{t u:zo}{a b:Nat}{c:Bool}(h:ze t σ G (nD a))(h':ze u σ G (nD b))(e:decide (b<a)=c):ze (zP (ya fun i j=>.bl (decide (j<i))) t u) σ G (.bl c):=by
 have:=zBU (g:=fun i j=>.bl (decide (j<i))) h h'
 have e2:decide ((b:Int)<(a:Int))=c:=by rw[← e];simp
 rw[e2] at this
 exact this
theorem zFW(ds:List D)(G:Gp)(R:Q2)(h:wR ds G R):ds.length=2∧zAc (zd R) (zS ["many","most"] ds) G:=by
 obtain⟨a,b,rfl,hab,h⟩:=h
 refine⟨rfl,?_⟩
 unfold zAc
 exact zB6 (σ:=[some (nD a),some (nD b)]) (wK (zD0 (a:=a) (b:=b) (zE rfl) (zE rfl) (by simp;(first|lia|omega)))) (FgR.of h)
theorem zFB(ds:List D)(G:Gp)(E:Gp→Prop)(h:yn ds G E):ds.length=2∧zAF E (zS ["many","most"] ds) G:=by
 obtain⟨a,b,rfl,hab,hb,h⟩:=h
 refine⟨rfl,?_⟩
 unfold zAF
 refine(wK (zD0 (σ:=[some (nD a),some (nD b)]) (G:=G) (a:=a) (b:=b) (c:=true) (zE (i:=0) rfl) (zE (i:=1) rfl) (by simp;(first|lia|omega)))) G (.refl G) _ ⟨rfl,fun k hk=>?_,fun x=>h⟩
 rw[List.mem_singleton.mp hk]
 exact⟨b,hb,rfl⟩
theorem zRA{σ:S2}{G:Gp}{te:zo}{E:yC}{u:yi}{d:D}(h:ze te σ G d)(h':u E σ G):zX (yk te) u E σ G:=h G (.refl G) _ h'
theorem zRa{t:zo}{ds:List D}{σ:S2}{G:Gp}{R:List D→(Gp→Prop)→Gp→Prop}(h:ze t σ G (.tup ds))(h':R ds (fun u0=>True) G):iV t σ G R:=h G (.refl G) _ h'
theorem zDY{wi:TI2}{g:TG2}{tb u:yi}{E:yC}{σ:S2}{G:Gp}(h:wV wi g tb { E with nx:=u E } σ G):zX (wV wi g tb) u E σ G:=h
theorem zIb{σ:S2}{G:Gp}{i:Nat}{tl:TL2}{u:yi}{E:yC}{ds:List D}(h:PuL tl σ G ds)(h':∀ l,G.m l=none→u E (σ.set i (some (.adr l))) (zR G l ds)):zX (zAK i tl) u E σ G:=h G (.refl G) _ h'
theorem zJR{σ:S2}{G:Gp}{te:zo}{E:yC}(h:te σ G fun u0 G1=>E.nx σ G1):yk te E σ G:=h
theorem zRB{σ:S2}{G:Gp}{to:zo}{t:wN}{R:Q2}{l:Addr}{xs:List D}(ho:ze to σ G (.adr l))(h:G.m l=some xs)(ht:t σ G fun ds G2=>match ds with | [d]=>∃ ys,G2.m l=some ys∧ys.length≤1000000∧R .non (zR G2 l (ys++[d])) | _=>False):zEm to t σ G R:=by
 refine ho G (.refl G) _ ?_
 show match G.m l with | some _=>_ | none=>_
 rw[h]
 have:∀(ds:List D) (G2:Gp),(match ds with | [d]=>∃ ys,G2.m l=some ys∧ys.length≤1000000∧R .non (zR G2 l (ys++[d])) | _=>False)=(match ds with | [d]=>(match G2.m l with | some xs=>xs.length≤1000000∧R .non (zR G2 l (xs++[d])) | none=>False) | _=>False):=fun ds G2=>by
  split
  ·rename_i d
   cases q:G2.m l with
   | none=>simp
   | some ys=>simp
  ·rfl
 simp only[this] at ht
 exact ht
end K
namespace K
open PySem PySem.Spec PyProof.Rows L2 L3
noncomputable def zBA:Sp2:=fun ds G R=>∃(n:Nat) (q:Nat×Nat→Bool) (ps:List Nat),ds=[zO n q,.tup (ps.map nD)]∧(∀ x∈ps,x<n)∧ps.length≤100∧R (zO ps.length (wW q ps)) G
noncomputable def zCf:yi:=(zX (zv (yA (wS zI)) (gN 2)) (zX (wV (iF (yw yQ (zA (zK yR (zA (zB 1) zI)) zI))) (gNN 3 4) (zX (zv (yG (zA (zK ye (zA (zP zi (zB 1) (zB 3)) (zA (zP zi (zB 1) (zB 4)) zI))) (zA (zK yr (zA (zP zi (zB 1) (zB 3)) (zA (zP zi (zB 1) (zB 4)) zI))) zI))) (gN 5)) (xIf (xB (zP (fIn false) (zB 5) (zP zi (zB 0) (xC (.int 1))))) (yk (zEm (zB 2) (zA (yG (zA (zB 3) (zA (zB 4) zI))) zI))) yH))) (zu (yG (zA (zK yR (zA (zB 1) zI)) (zA (zK zCR (zA (zB 2) zI)) zI))))))
theorem zJS{σ:S2}{G:Gp}{t u:zo}{a b:Nat}(h:ze t σ G (nD a))(h':ze u σ G (nD b)):ze (zK ye (zA t (zA u zI))) σ G (nD (min a b)):=by
 have a3:ze (zK ye (zA t (zA u zI))) σ G (.int (if (b:Int)<(a:Int) then (b:Int) else (a:Int))):=zY (zF h (zF h' zM)) fun u0 u0 u0 q=>q
 have e:(if (b:Int)<(a:Int) then (b:Int) else (a:Int))=((min a b:Nat):Int):=by split<;>(first|lia|omega)
 rw[e] at a3
 exact a3
theorem zJT{σ:S2}{G:Gp}{t u:zo}{a b:Nat}(h:ze t σ G (nD a))(h':ze u σ G (nD b)):ze (zK yr (zA t (zA u zI))) σ G (nD (max a b)):=by
 have a3:ze (zK yr (zA t (zA u zI))) σ G (.int (if (a:Int)<(b:Int) then (b:Int) else (a:Int))):=zY (zF h (zF h' zM)) fun u0 u0 u0 q=>q
 have e:(if (a:Int)<(b:Int) then (b:Int) else (a:Int))=((max a b:Nat):Int):=by split<;>(first|lia|omega)
 rw[e] at a3
 exact a3
theorem zMt{σ:S2}{G:Gp}{te:zo}{g:TG2}{E:yC}{d:D}(h:ze te σ G d)(h':g d σ G fun σ' G'=>E.nx σ' G'):zv te g E σ G:=h G (.refl G) _ h'
theorem zOA{σ:S2}{G:Gp}{te:zo}{E:yC}(h:te σ G fun u0 G1=>E.nx σ G1):yk te E σ G:=h
theorem zKn(ds:List D)(G:Gp)(R:Q2)(h:zBA ds G R):ds.length=2∧zCf (zd R) (zS ["web","places","found","one","other","pair"] ds) G:=by
 obtain⟨n,q,ps,rfl,hp,hl,h⟩:=h
 refine⟨rfl,?_⟩
 unfold zCf
 rw[show zS ["web","places","found","one","other","pair"] [zO n q,.tup (ps.map nD)]=[some (zO n q),some (.tup (ps.map nD)),none,none,none,none] from rfl]
 refine wZ (zAL (ds:=[]) (fun G2 e R q=>zG9 (zD5 ⟨by rw[sizeLine_eq];simp,q⟩)) fun f hf=>?_)
 simp only[gN,List.set_cons_succ,List.set_cons_zero]
 refine zA5 (zQq (show yw yQ _ _ _ _ from zIH (zAb (ps:=ps) (zE rfl)) (zD5 ⟨ps.length,rfl,hl,fun a ha=>?_⟩)))
 have fa:a≠f:=fun e=>by rw[e,zH] at ha;cases ha
 have ga:G.m a=none:=by rw[zQ fa] at ha;exact ha
 refine zAa (fun k G'=>G'.m f=some ((((yj ps.length).take k).filter (wW q ps)).map zt)∧G'.m a=some ((yj ps.length).map zt)∧L3.Sub G G') ⟨?_,zH,?_⟩ (fun u0 u0 h=>.inl h.2.1) ?_ ?_
 ·rw[zQ (Ne.symm fa)];exact zH
 ·exact((Sub.refl G).put hf).put ga
 ·rintro k x hx G2 ⟨h1,h2,h3⟩
  obtain⟨p,hpk,rfl⟩:=zAZ hx
  have hp':=List.mem_of_getElem? hpk
  obtain⟨p1,p2⟩:=yZ.mp hp'
  have hc:(((yj ps.length).take (k+1)).filter (wW q ps))=(((yj ps.length).take k).filter (wW q ps))++(if wW q ps p=true then [p] else []):=by
   rw[yl hpk,List.filter_append]
   congr 1
   simp[List.filter_cons]
  have hz:((((yj ps.length).take k).filter (wW q ps)).map zt).length≤1000000:=by
   rw[List.length_map]
   have:=List.length_filter_le (wW q ps) ((yj ps.length).take k)
   rw[List.length_take] at this
   have:=zC0 hl
   (first|lia|omega)
  have b1:=hp _ (getD_mem (ps:=ps) (i:=p.1) (by (first|lia|omega)))
  have b2:=hp _ (getD_mem (ps:=ps) (i:=p.2) p2)
  show gNN 3 4 (.tup [nD p.1,nD p.2]) _ _ _
  simp only[gNN,List.set_cons_succ,List.set_cons_zero]
  have i1:ze (zP zi (zB 1) (zB 3)) [some (zO n q),some (.tup (ps.map nD)),some (.adr f),some (nD p.1),some (nD p.2),none] G2 (nD (ps.getD p.1 0)):=zBv (zE rfl) (zE rfl) (by (first|lia|omega))
  have i2:ze (zP zi (zB 1) (zB 4)) [some (zO n q),some (.tup (ps.map nD)),some (.adr f),some (nD p.1),some (nD p.2),none] G2 (nD (ps.getD p.2 0)):=zBv (zE rfl) (zE rfl) p2
  generalize hu:ps.getD p.1 0=u at b1 i1
  generalize hv:ps.getD p.2 0=v at b2 i2
  refine wU (d:=zt (min u v,max u v)) (yP (zF (zJS i1 i2) (zF (zJT i1 i2) zM)) (by simp)) ?_
  simp only[gN,List.set_cons_succ,List.set_cons_zero]
  have t:PuT (xB (zP (fIn false) (zB 5) (zP zi (zB 0) (xC (.int 1))))) [some (zO n q),some (.tup (ps.map nD)),some (.adr f),some (nD p.1),some (nD p.2),some (zt (min u v,max u v))] G2 (wW q ps p):=wK (zEs (x:=zt (min u v,max u v)) (zE rfl) (zCr (n:=n) (q:=q) (zE rfl)) (zCI _) zDK (by
   rw[if_neg (by simp),zEP,zEQ b1 b2]
   unfold wW
   rw[hu,hv]))
  cases hk:wW q ps p with
  | false =>
   rw[hk] at t
   refine zB6 t ⟨.keep (.keep (.keep (.skip (.skip (.skip .nil))))),G2,.refl _,?_,h2,h3⟩
   rw[hc,hk];simpa using h1
  | true =>
   rw[hk] at t
   refine zC2 t (zOA (zCU (d:=zt p) rfl h1 (fun Q q'=>zF (yP (zF (zE rfl) (zF (zE rfl) zM)) (by simp)) zM _ (.refl _) _ q') hz ⟨.keep (.keep (.keep (.skip (.skip (.skip .nil))))),_,.refl _,?_,?_,?_⟩))
   ·rw[zH,hc,hk];simp
   ·rw[zQ fa];exact h2
   ·exact h3.put hf
 ·rintro G2 ⟨h1,h2,h3⟩
  rw[List.length_map,List.take_length] at h1
  dsimp only
  exact zAn (d:=zO ps.length (wW q ps)) (yP (zF (zAb (zE rfl)) (zF (zY (d:=.tup (((yj ps.length).filter (wW q ps)).map zt)) (zF (zE (i:=2) (d:=.adr f) rfl) zM) fun u0 e u0 q'=>⟨_,e.ls (.inl h1),q'⟩) zM)) (by simp)) ⟨G,h3,h⟩
noncomputable def zFC(q:Nat×Nat→Bool)(os:List Nat)(i:Nat):Bool:=!(os.filter (adj q i)).isEmpty
noncomputable def ptL(q:Nat×Nat→Bool)(ps os:List Nat):List (Nat×Nat):=(yj ps.length).filter (wW q ps)++((List.range ps.length).filter fun k=>zFC q os (ps.getD k 0)).map fun k=>(k,ps.length)
theorem zOB{q:Nat×Nat→Bool}{os:List Nat}{i:Nat}:decide (mask q i os≠0)=zFC q os i:=by
 unfold mask zFC
 cases h:os.filter (adj q i) with
 | nil=>rfl
 | cons a r =>
  have:zFV (a::r)≠0:=by
   simp only[zFV,List.map_cons,List.sum_cons]
   have:0<2 ^ a:=Nat.pow_pos (by decide)
   (first|lia|omega)
  simp[this]
theorem zMu{q:Nat×Nat→Bool}{ps os:List Nat}:∀ p∈ptL q ps os,p.1<p.2∧p.2<ps.length+1:=by
 intro p hp
 unfold ptL at hp
 rcases List.mem_append.mp hp with h | h
 ·have:=yZ.mp (List.mem_filter.mp h).1
  (first|lia|omega)
 ·obtain⟨k,hk,rfl⟩:=List.mem_map.mp h
  have:=List.mem_range.mp (List.mem_filter.mp hk).1
  dsimp only
  (first|lia|omega)
theorem zF3{q:Nat×Nat→Bool}{ps os:List Nat}:(ptL q ps os).Nodup:=by
 unfold ptL
 refine List.nodup_append.mpr ⟨(ym _).filter _,?_,fun a ha b hb e=>?_⟩
 ·unfold List.Nodup
  rw[List.pairwise_map]
  refine((List.nodup_range).filter _).imp fun {a b} hne e=>hne ?_
  exact(Prod.mk.inj e).1
 ·obtain⟨k,u0,rfl⟩:=List.mem_map.mp hb
  have:=yZ.mp (List.mem_filter.mp ha).1
  rw[e] at this
  dsimp only at this
  (first|lia|omega)
noncomputable def wl:Sp2:=fun ds G R=>∃(n:Nat) (q:Nat×Nat→Bool) (ps os:List Nat),ds=[zO n q,uD ps,uD os]∧n≤9∧ps.length≤8∧(∀ x∈ps,x<n)∧(∀ x∈os,x<n)∧os.length≤50∧R (zO (ps.length+1) fun p=>decide (p∈ptL q ps os)) G
noncomputable def zCg:yi:=(zX (zv (zK yR (zA (zB 1) zI)) (gN 3)) (zX (zv (yA (zI3 (zA (zP zi (zK zCW (zA (zB 0) (zA (zB 1) zI))) (xC (.int 1))) zI))) (gN 4)) (zX (wV (iR1 (zA (zB 3) zI)) (gN 5) (xIf (xB (zP (fEq true) (zK wq (zA (zB 0) (zA (zP zi (zB 1) (zB 5)) (zA (zB 2) zI)))) (xC (.int 0)))) (yk (zEm (zB 4) (zA (yG (zA (zB 5) (zA (zB 3) zI))) zI))) yH)) (zu (yG (zA (zP yJ (zB 3) (xC (.int 1))) (zA (zb zn (zBa (zA (zB 4) zI))) zI)))))))
theorem zFD{n k:Nat}{x:D}(h:((List.range n).map nD)[k]?=some x):x=nD k∧k<n:=by
 obtain⟨y,hy,rfl⟩:=zAZ h
 obtain⟨h1,h2⟩:=List.getElem?_eq_some_iff.mp hy
 rw[List.getElem_range] at h2
 rw[List.length_range] at h1
 exact⟨by rw[h2],h1⟩
noncomputable def ptK(q:Nat×Nat→Bool)(ps os:List Nat)(k:Nat):List (Nat×Nat):=(yj ps.length).filter (wW q ps)++((List.range k).filter fun k=>zFC q os (ps.getD k 0)).map fun k=>(k,ps.length)
theorem zDZ{q:Nat×Nat→Bool}{ps os:List Nat}{k:Nat}:ptK q ps os (k+1)=ptK q ps os k++if zFC q os (ps.getD k 0)=true then [(k,ps.length)] else []:=by
 unfold ptK
 rw[List.range_succ,List.filter_append,List.map_append,List.append_assoc]
 congr 2
 simp only[List.filter_cons,List.filter_nil]
 split<;>simp
theorem zJU{q:Nat×Nat→Bool}{ps os:List Nat}{k:Nat}(h:ps.length≤8)(hk:k≤ps.length):((ptK q ps os k).map zt).length≤1000000:=by
 unfold ptK
 rw[List.length_map,List.length_append,List.length_map]
 have h1:=List.length_filter_le (wW q ps) (yj ps.length)
 have h2:=List.length_filter_le (fun k=>zFC q os (ps.getD k 0)) (List.range k)
 rw[List.length_range] at h2
 have h3:=zHZ ps.length (by (first|lia|omega))
 (first|lia|omega)
theorem zOf{σ:S2}{G:Gp}{t u:zo}{n:Nat}{q:Nat×Nat→Bool}{ps:List Nat}{sp:Sp2}(hsp:∀ ds G R,zCW ds G R→sp ds G R)(h:ze t σ G (zO n q))(h':ze u σ G (uD ps))(hp:∀ x∈ps,x<n)(hl:ps.length≤100):PuL (zI3 (zA (zP zi (zK sp (zA t (zA u zI))) (xC (.int 1))) zI)) σ G (((yj ps.length).filter (wW q ps)).map zt) :=
 fun G2 e R q'=>zF (d:=.tup (((yj ps.length).filter (wW q ps)).map zt)) (zCr (n:=ps.length) (q:=wW q ps) (zY (zF h (zF h' zM)) fun u0 u0 u0 hh=>hsp _ _ _ ⟨n,q,ps,rfl,hp,hl,hh⟩)) zM G2 e _ ⟨_,rfl,q'⟩
theorem zKo(ds:List D)(G:Gp)(R:Q2)(h:wl ds G R):ds.length=3∧zCg (zd R) (zS ["web","side","others","last","ties","k"] ds) G:=by
 obtain⟨n,q,ps,os,rfl,hn,hl,hp,ho,hol,h⟩:=h
 refine⟨rfl,?_⟩
 unfold zCg
 refine wU (σ:=[some (zO n q),some (uD ps),some (uD os),none,none,none]) (d:=nD ps.length) (zAb (zE rfl)) ?_
 show zX _ _ _ [some (zO n q),some (uD ps),some (uD os),some (nD ps.length),none,none] G
 refine zFA (zOf (fun u0 u0 u0 z=>z) (zE rfl) (zE rfl) hp (by (first|lia|omega))) fun f hf=>?_
 show zX _ _ _ [some (zO n q),some (uD ps),some (uD os),some (nD ps.length),some (.adr f),none] _
 refine zDY (zGO (n:=ps.length) (zF (zE rfl) zM) (by (first|lia|omega)) ?_)
 refine zAa (fun k G'=>G'.m f=some ((ptK q ps os k).map zt)∧Sub G G') ⟨?_,.new hf⟩ (fun u0 u0 u0=>trivial) ?_ ?_
 ·rw[zH];unfold ptK;simp
 ·rintro k x hx G2 ⟨h1,h2⟩
  obtain⟨rfl,hk⟩:=zFD hx
  have hi:=hp _ (getD_mem (ps:=ps) (i:=k) hk)
  show xIf _ _ _ _ [some (zO n q),some (uD ps),some (uD os),some (nD ps.length),some (.adr f),some (nD k)] G2
  have t:PuT (xB (zP (fEq true) (zK wq (zA (zB 0) (zA (zP zi (zB 1) (zB 5)) (zA (zB 2) zI)))) (xC (.int 0)))) [some (zO n q),some (uD ps),some (uD os),some (nD ps.length),some (.adr f),some (nD k)] G2 (zFC q os (ps.getD k 0)):=by
   refine wK (zCt (x:=nD (mask q (ps.getD k 0) os)) (y:=nD 0) (zY (zF (zE rfl) (zF (zBv (zE rfl) (zE rfl) hk) (zF (zE rfl) zM))) fun u0 u0 u0 hh=>⟨n,q,_,os,rfl,hi,ho,hn,hol,hh⟩) yU rfl rfl ?_)
   rw[if_pos rfl,zC4,← zOB]
   simp
  cases hr:zFC q os (ps.getD k 0) with
  | false =>
   rw[hr] at t
   refine zB6 t ⟨.keep (.keep (.keep (.keep (.keep (.skip .nil))))),G2,.refl _,?_,h2⟩
   rw[zDZ,hr];simpa using h1
  | true =>
   rw[hr] at t
   refine zC2 t (zJR (zCU (d:=zt (k,ps.length)) rfl h1 (fun Q q'=>zF (yP (zF (zE rfl) (zF (zE rfl) zM)) (by simp)) zM _ (.refl _) _ q') (zJU hl (by (first|lia|omega))) ⟨.keep (.keep (.keep (.keep (.keep (.skip .nil))))),_,.refl _,?_,h2.put hf⟩))
   rw[zH,zDZ,hr];simp
 ·rintro G2 ⟨h1,h2⟩
  rw[List.length_map,List.length_range] at h1
  dsimp only
  have e1:ze (zP yJ (zB 3) (xC (.int 1))) [some (zO n q),some (uD ps),some (uD os),some (nD ps.length),some (.adr f),none] G2 (nD (ps.length+1)):=wk (i:=(ps.length:Int)) (j:=1) (zE rfl) yU
  exact zHj (d:=zO (ps.length+1) fun p=>decide (p∈ptL q ps os)) (yP (zF e1 (zF (zCa (n:=ps.length+1) (l:=ptL q ps os) (zE (d:=.adr f) rfl) (.inl h1) zF3 zMu (by (first|lia|omega))) zM)) (by simp)) ⟨G,h2,h⟩
noncomputable def wu:Sp2:=fun ds G R=>∃(n:Nat) (q:Nat×Nat→Bool) (ps:List Nat),ds=[zO n q,uD ps]∧n≤9∧ps.length≤8∧(∀ x∈ps,x<n)∧R (zO (ps.length+1) fun p=>decide (p∈ptL q ps (oth n ps))) G
noncomputable def zDa:yi:=(zX (zAK 2 (zf (iR1 (zA (zP zi (zB 0) (xC (.int 0))) zI)) wy (xB (zP (fIn true) (zB 6) (zB 1))) (zB 6))) (zX (zv (yA (zI3 (zA (zP zi (zK zBA (zA (zB 0) (zA (zB 1) zI))) (xC (.int 1))) zI))) (gN 3)) (zX (wV (zQy (zA (zB 1) zI)) (gNN 4 5) (xIf (xB (zP (fEq true) (yA (zf (iV (zB 2)) wy (xB (zP (fIn false) (yG (zA (zK ye (zA (zB 5) (zA (zB 6) zI))) (zA (zK yr (zA (zB 5) (zA (zB 6) zI))) zI))) (zP zi (zB 0) (xC (.int 1))))) (zB 6))) (yA (wS zI)))) (yk (zEm (zB 3) (zA (yG (zA (zB 4) (zA (zK yR (zA (zB 1) zI)) zI))) zI))) yH)) (zu (yG (zA (zP yJ (zK yR (zA (zB 1) zI)) (xC (.int 1))) (zA (zb zn (zBa (zA (zB 3) zI))) zI)))))))
end K
namespace K
open PySem PySem.Spec PyProof.Rows L2 L3
theorem zMv{xs:List D}:eqDs xs []=xs.isEmpty:=by cases xs<;>simp[eqDs]
theorem zKp{σ:S2}{G:Gp}{t u w:zo}{n:Nat}{q:Nat×Nat→Bool}{i j:Nat}(ht:ze t σ G (nD i))(hu:ze u σ G (nD j))(hw:ze w σ G (zO n q))(hi:i<n)(hj:j<n):ze (zP (fIn false) (yG (zA (zK ye (zA t (zA u zI))) (zA (zK yr (zA t (zA u zI))) zI))) (zP zi w (xC (.int 1)))) σ G (.bl (adj q i j)):=by
 refine zEs (x:=zt (min i j,max i j)) (yP (zF (zJS ht hu) (zF (zJT ht hu) zM)) (by simp)) (zCr hw) (zCI _) zDK ?_
 rw[if_neg (by simp),zEP,zEQ hi hj]
theorem zRC{ps:List Nat}{k:Nat}{x:D}(h:(enD (ps.map nD))[k]?=some x):k<ps.length∧x=.tup [nD k,nD (ps.getD k 0)]:=by
 unfold enD at h
 rw[List.getElem?_map,List.getElem?_zipIdx,List.getElem?_map] at h
 cases hk:ps[k]? with
 | none=>rw[hk] at h;simp at h
 | some y =>
  rw[hk] at h
  simp at h
  refine⟨(List.getElem?_eq_some_iff.mp hk).1,?_⟩
  rw[← h,List.getD_eq_getElem?_getD,hk]
  simp
theorem zMw(ds:List D)(G:Gp)(R:Q2)(h:wu ds G R):ds.length=2∧zDa (zd R) (zS ["web","side","rest","found","number","place"] ds) G:=by
 obtain⟨n,q,ps,rfl,hn,hl,hp,h⟩:=h
 refine⟨rfl,?_⟩
 unfold zDa
 refine zIb (σ:=[some (zO n q),some (uD ps),none,none,none,none]) (zGZ (n:=n) (q:=q) (ps:=ps) rfl (fun k=>zE rfl) (fun k=>rfl) (by (first|lia|omega))) fun r hr=>?_
 show zX _ _ _ [some (zO n q),some (uD ps),some (.adr r),none,none,none] _
 refine zFA (zOf (fun u0 u0 u0 z=>z) (zE rfl) (zE rfl) hp (by (first|lia|omega))) fun f hf=>?_
 show zX _ _ _ [some (zO n q),some (uD ps),some (.adr r),some (.adr f),none,none] _
 have nrf:r≠f:=fun z=>by rw[← z,zH] at hf;cases hf
 have gf0:G.m f=none:=by rw[zQ (Ne.symm nrf)] at hf;exact hf
 refine zDY (zA5 ((show PuA (zA (zB 1) zI) [some (zO n q),some (uD ps),some (.adr r),some (.adr f),none,none] _ [uD ps] from zF (zE rfl) zM) _ (.refl _) _ ?_))
 show zJx (enD (ps.map nD)) (fun u0=>True) _ _ _ _ _
 refine zAa (fun k G'=>G'.m f=some ((ptK q ps (oth n ps) k).map zt)∧G'.m r=some ((oth n ps).map nD)∧Sub G G') ⟨?_,?_,(Sub.new hr).trans (.new hf)⟩ (fun u0 u0 u0=>trivial) ?_ ?_
 ·rw[zH];unfold ptK;simp
 ·rw[zQ nrf];exact zH
 ·rintro k x hx G2 ⟨h1,h2,h3⟩
  obtain⟨hk,rfl⟩:=zRC hx
  have hi:=hp _ (getD_mem (ps:=ps) (i:=k) hk)
  generalize hpl:ps.getD k 0=pl at hi
  refine zOe (x:=nD k) (y:=nD pl) ?_
  show xIf _ _ _ _ [some (zO n q),some (uD ps),some (.adr r),some (.adr f),some (nD k),some (nD pl)] G2
  have cp:PuL (zf (iV (zB 2)) wy (xB (zP (fIn false) (yG (zA (zK ye (zA (zB 5) (zA (zB 6) zI))) (zA (zK yr (zA (zB 5) (zA (zB 6) zI))) zI))) (zP zi (zB 0) (xC (.int 1))))) (zB 6)) [some (zO n q),some (uD ps),some (.adr r),some (.adr f),some (nD k),some (nD pl)] G2 (((oth n ps).filter (adj q pl)).map nD):=by
   have c:=wa (σ:=[some (zO n q),some (uD ps),some (.adr r),some (.adr f),some (nD k),some (nD pl)]) (G:=G2) (bd:=wy) (tc:=xB (zP (fIn false) (yG (zA (zK ye (zA (zB 5) (zA (zB 6) zI))) (zA (zK yr (zA (zB 5) (zA (zB 6) zI))) zI))) (zP zi (zB 0) (xC (.int 1))))) (te:=zB 6) (fun d=>match d with | .int v=>adj q pl v.toNat | _=>false) (fun d=>d) (fun d=>[d]) (zBW (t:=zB 2) (a:=r) (zE rfl) (.inl h2)) fun x hx'=>by
    obtain⟨y,hy,rfl⟩:=List.mem_map.mp hx'
    exact⟨rfl,wK (zKp (n:=n) (q:=q) (zE rfl) (zE rfl) (zE rfl) hi (zC5 hy)),fun u0=>zE rfl⟩
   have e:List.map (fun d=>d) (List.filter (fun d=>match d with | .int v=>adj q pl v.toNat | _=>false) ((oth n ps).map nD))=((oth n ps).filter (adj q pl)).map nD:=by
    rw[List.map_id',List.filter_map]
    rfl
   rw[e] at c
   exact c
  refine zQp (zQE (zAL cp fun l1 n1=>zAL (ds:=[]) (fun G2 e R q=>⟨(show 0≤sizeLine by decide),q⟩) fun l2 n2=>?_))
  have n12:l1≠l2:=fun z=>by rw[← z,zH] at n2;cases n2
  have g2f:∀ {c:Addr} {xs:List D},G2.m c=some xs→(zR (zR G2 l1 (((oth n ps).filter (adj q pl)).map nD)) l2 []).m c=some xs:=fun {c xs} z=>((Sub.new n1).trans (.new n2)).m _ _ z
  refine⟨((oth n ps).filter (adj q pl)).map nD,[],.inl (by rw[zQ n12];exact zH),.inl zH,zDN _,(by intro d hd;cases hd),?_⟩
  rw[if_pos rfl,zMv]
  have er:(!(((oth n ps).filter (adj q pl)).map nD).isEmpty)=zFC q (oth n ps) pl:=by unfold zFC;simp
  rw[er]
  cases hrw:zFC q (oth n ps) pl with
  | false =>
   show if false=true then _ else _
   rw[if_neg (by simp)]
   refine⟨.keep (.keep (.keep (.keep (.skip (.skip .nil))))),G2,(Sub.new n1).trans (.new n2),?_,h2,h3⟩
   rw[zDZ,hpl,hrw];simpa using h1
  | true =>
   show if true=true then _ else _
   rw[if_pos rfl]
   refine zJR (zCU (d:=zt (k,ps.length)) rfl (g2f h1) (fun Q q'=>zF (yP (zF (zE rfl) (zF (zAb (zE rfl)) zM)) (by simp)) zM _ (.refl _) _ q') (zJU hl (by (first|lia|omega))) ⟨.keep (.keep (.keep (.keep (.skip (.skip .nil))))),_,.refl _,?_,?_,?_⟩)
   ·rw[zH,zDZ,hpl,hrw];simp
   ·rw[zQ nrf];exact g2f h2
   ·exact(h3.trans ((Sub.new n1).trans (.new n2))).put gf0
 ·rintro G2 ⟨h1,h2,h3⟩
  rw[zEX,List.length_map] at h1
  dsimp only
  have e1:ze (zP yJ (zK yR (zA (zB 1) zI)) (xC (.int 1))) [some (zO n q),some (uD ps),some (.adr r),some (.adr f),none,none] G2 (nD (ps.length+1)):=wk (i:=(ps.length:Int)) (j:=1) (zAb (zE rfl)) yU
  exact zHj (d:=zO (ps.length+1) fun p=>decide (p∈ptL q ps (oth n ps))) (yP (zF e1 (zF (zCa (n:=ps.length+1) (l:=ptL q ps (oth n ps)) (zE (d:=.adr f) rfl) (.inl h1) zF3 zMu (by (first|lia|omega))) zM)) (by simp)) ⟨G,h3,h⟩
noncomputable def zKq(n:Nat)(q:Nat×Nat→Bool)(ps:List Nat):D:=.tup [zO (ps.length+1) fun p=>decide (p∈ptL q ps (oth n ps)),zO ((oth n ps).length+1) fun p=>decide (p∈ptL q (oth n ps) ps)]
noncomputable def zBg:Sp2:=fun ds G R=>∃(n:Nat) (q:Nat×Nat→Bool) (ps:List Nat),ds=[zO n q,uD ps]∧n≤9∧zCL n ps∧zCl n q ps=true∧R (zKq n q ps) G
noncomputable def zAi:List D→Gp→(Gp→Prop)→Prop:=fun ds G E=>∃(n:Nat) (q:Nat×Nat→Bool) (ps:List Nat),ds=[zO n q,uD ps]∧n≤9∧zCL n ps∧zCl n q ps=false∧E G
noncomputable def zDb:yi:=(zX (xIf (wn (xB (zK yv (zA (zB 0) (zA (zB 1) zI))))) (fun u0 u0 u0=>False) yH) (zX (zv (zK yL (zA (zB 0) (zA (zB 1) zI))) (gN 2)) (zu (yG (zA (zK wl (zA (zB 0) (zA (zB 1) (zA (zB 2) zI)))) (zA (zK wl (zA (zB 0) (zA (zB 2) (zA (zB 1) zI)))) zI))))))
noncomputable def zCh:(Gp→Prop)→S2→Gp→Prop:=(fun E σ G=>(wn (xB (zK yv (zA (zB 0) (zA (zB 1) zI))))) σ G fun b G2=>b=true∧(fun E σ G=>(xC (.str "no side of a split")) σ G fun u0 G2=>E G2) E σ G2)
theorem zMx{σ:S2}{G:Gp}{t u:zo}{n:Nat}{q:Nat×Nat→Bool}{ps:List Nat}(h:ze t σ G (zO n q))(h':ze u σ G (uD ps))(hn:n≤9)(hs:zCL n ps):ze (zK yv (zA t (zA u zI))) σ G (.bl (zCl n q ps)) :=
 zY (zF h (zF h' zM)) fun u0 u0 u0 hh=>⟨n,q,ps,rfl,hn,hs.2,by have:=hs.len;(first|lia|omega),hs.1,hh⟩
theorem zJV{n:Nat}{q:Nat×Nat→Bool}{ps:List Nat}(hs:zCL n ps)(h:zCl n q ps=true):2≤ps.length∧ps.length+2≤n:=by
 unfold zCl at h
 simp only[Bool.and_eq_true,decide_eq_true_eq] at h
 (first|lia|omega)
theorem zOC{n:Nat}{ps:List Nat}(hs:zCL n ps):oth n (oth n ps)=ps:=by
 have h2:∀ x,x∈oth n (oth n ps)↔x∈ps:=fun x=>by
  unfold oth
  simp only[List.mem_filter,List.mem_range,Bool.not_eq_true',decide_eq_false_iff_not]
  constructor
  ·rintro⟨a,b⟩
   by_cases hx:x∈ps
   ·exact hx
   ·exact absurd ⟨a,hx⟩ b
  ·intro hx
   exact⟨hs.2 x hx,fun z=>z.2 hx⟩
 refine List.Perm.eq_of_pairwise (le:=(·<·)) (fun a b u0 u0 h1 h2=>by (first|lia|omega)) (zDT n _) hs.1 ?_
 exact(List.perm_ext_iff_of_nodup ((zDT n _).imp Nat.ne_of_lt) (hs.1.imp Nat.ne_of_lt)).mpr h2
theorem zHk{n:Nat}{ps:List Nat}(hs:zCL n ps):(oth n ps).length+ps.length=n:=by
 have:(oth n ps++ps).Perm (List.range n):=by
  refine(List.perm_ext_iff_of_nodup (List.nodup_append.mpr ⟨(zDT n ps).imp Nat.ne_of_lt,hs.1.imp Nat.ne_of_lt,fun a ha b hb e=>?_⟩) List.nodup_range).mpr fun x=>?_
  ·subst e
   have:=(List.mem_filter.mp ha).2
   simp[hb] at this
  ·rw[List.mem_append,List.mem_range]
   constructor
   ·rintro(h | h)
    ·exact zC5 h
    ·exact hs.2 x h
   ·intro h
    by_cases hx:x∈ps
    ·exact .inr hx
    ·exact .inl (List.mem_filter.mpr ⟨List.mem_range.mpr h,by simp[hx]⟩)
 have:=this.length_eq
 rw[List.length_append,List.length_range] at this
 exact this
theorem zMy(ds:List D)(G:Gp)(R:Q2)(h:zBg ds G R):ds.length=2∧zDb (zd R) (zS ["web","places","others"] ds) G:=by
 obtain⟨n,q,ps,rfl,hn,hs,hb,h⟩:=h
 obtain⟨l1,l2⟩:=zJV hs hb
 have l3:=zHk hs
 refine⟨rfl,?_⟩
 unfold zDb
 refine zGi (σ:=[some (zO n q),some (uD ps),none]) (zB6 (zBH (b:=true) (wK ?_)) ?_)
 ·rw[← hb];exact zMx (zE rfl) (zE rfl) hn hs
 ·unfold yH
  have e1:ze (zK yL (zA (zB 0) (zA (zB 1) zI))) [some (zO n q),some (uD ps),none] G (uD (oth n ps)):=zY (zF (zE rfl) (zF (zE rfl) zM)) fun u0 u0 u0 hh=>⟨n,q,ps,rfl,by (first|lia|omega),hh⟩
  refine wU (E:=zd R) e1 ?_
  show zu _ _ [some (zO n q),some (uD ps),some (uD (oth n ps))] G
  exact zHj (d:=zKq n q ps) (yP (zF (zY (zF (zE rfl) (zF (zE rfl) (zF (zE rfl) zM))) fun u0 u0 u0 hh=>⟨n,q,ps,oth n ps,rfl,hn,by (first|lia|omega),hs.2,fun x hx=>zC5 hx,by (first|lia|omega),hh⟩) (zF (zY (zF (zE rfl) (zF (zE rfl) (zF (zE rfl) zM))) fun u0 u0 u0 hh=>⟨n,q,oth n ps,ps,rfl,hn,by (first|lia|omega),fun x hx=>zC5 hx,hs.2,by (first|lia|omega),hh⟩) zM)) (by simp)) (FgR.of h)
theorem zKr(ds:List D)(G:Gp)(E:Gp→Prop)(h:zAi ds G E):ds.length=2∧zCh E (zS ["web","places","others"] ds) G:=by
 obtain⟨n,q,ps,rfl,hn,hs,hb,h⟩:=h
 refine⟨rfl,?_⟩
 unfold zCh
 refine(zBH (b:=false) (wK (G:=G) (σ:=[some (zO n q),some (uD ps),none]) ?_)) G (.refl G) _ ⟨rfl,h⟩
 rw[← hb];exact zMx (zE rfl) (zE rfl) hn hs
noncomputable def yg:Sp2:=fun ds G R=>∃(n:Nat) (q:Nat×Nat→Bool) (ps:List Nat),ds=[zO n q,uD ps]∧n≤9∧zCL n ps∧R (.bl true) G
noncomputable def zw:yi:=(zX (xIf (wn (xB (zK wA (zA (zB 0) (zA (zB 1) zI))))) (zu (zP (fEq false) (yA (zKm 2 zAi (zA (zB 0) (zA (zB 1) zI)))) (yA (wS (zA (xC (.int 2)) zI))))) yH) (zX (zv (zb zn (zf (iR1 (zA (zP zi (zB 0) (xC (.int 0))) zI)) wy (xB (zP (fIn true) (zB 3) (zB 1))) (zB 3))) (gN 2)) (zu (zK (zq 5) (zA (zK zBg (zA (zB 0) (zA (zB 1) zI))) (zA (yG (zA (zK wu (zA (zB 0) (zA (zB 1) zI))) (zA (zK wu (zA (zB 0) (zA (zB 2) zI))) zI))) zI))))))
theorem zMz{n:Nat}{q:Nat×Nat→Bool}{ps:List Nat}:zCu 5 (zKq n q ps)=true:=by
 show([zO (ps.length+1) fun p=>decide (p∈ptL q ps (oth n ps)),zO ((oth n ps).length+1) fun p=>decide (p∈ptL q (oth n ps) ps)]).all (zCu 4)=true
 simp only[List.all_cons,List.all_nil,Bool.and_true,Bool.and_eq_true]
 exact⟨zDy,zDy⟩
end K
namespace K
open PySem PySem.Spec PyProof.Rows L2 L3
theorem zD1(ds:List D)(G:Gp)(R:Q2)(h:yg ds G R):ds.length=2∧zw (zd R) (zS ["web","side","rest"] ds) G:=by
 obtain⟨n,q,ps,rfl,hn,hs,h⟩:=h
 refine⟨rfl,?_⟩
 unfold zw
 have hl:=hs.len
 have c:PuT (wn (xB (zK wA (zA (zB 0) (zA (zB 1) zI))))) [some (zO n q),some (uD ps),none] G (!zCl n q ps):=zBH (wK (zY (zF (zE rfl) (zF (zE rfl) zM)) fun u0 u0 u0 hh=>⟨n,q,ps,rfl,hn,hs.2,by (first|lia|omega),hh⟩))
 cases hb:zCl n q ps with
 | false =>
  rw[hb] at c
  refine zGi (σ:=[some (zO n q),some (uD ps),none]) (zC2 c ?_)
  show zP _ _ _ _ _ _
  exact zMs (ds:=[zO n q,uD ps]) (zF (zE rfl) (zF (zE rfl) zM)) (fun E hE=>⟨n,q,ps,rfl,hn,hs,hb,hE⟩) fun G' s=>⟨G,s,h⟩
 | true =>
  rw[hb] at c
  obtain⟨l1,l2⟩:=zJV hs hb
  have l3:=zHk hs
  refine zGi (σ:=[some (zO n q),some (uD ps),none]) (zB6 c ?_)
  unfold yH
  have e1:ze (zb zn (zf (iR1 (zA (zP zi (zB 0) (xC (.int 0))) zI)) wy (xB (zP (fIn true) (zB 3) (zB 1))) (zB 3))) [some (zO n q),some (uD ps),none] G (uD (oth n ps)):=zBV (zGZ (n:=n) (q:=q) rfl (fun k=>zE rfl) (fun k=>rfl) (by (first|lia|omega)))
  refine wU (E:=zd R) e1 ?_
  show zu _ _ [some (zO n q),some (uD ps),some (uD (oth n ps))] G
  have hf:ze (yG (zA (zK wu (zA (zB 0) (zA (zB 1) zI))) (zA (zK wu (zA (zB 0) (zA (zB 2) zI))) zI))) [some (zO n q),some (uD ps),some (uD (oth n ps))] G (zKq n q ps):=by
   refine yP (zF (zY (zF (zE rfl) (zF (zE rfl) zM)) fun u0 u0 u0 hh=>⟨n,q,ps,rfl,hn,by (first|lia|omega),hs.2,hh⟩) (zF (zY (zF (zE rfl) (zF (zE rfl) zM)) fun u0 u0 u0 hh=>⟨n,q,oth n ps,rfl,hn,by (first|lia|omega),fun x hx=>zC5 hx,?_⟩) zM)) (by simp)
   rw[zOC hs]
   exact hh
  exact zHj (d:=.bl true) (zY (ds:=[zKq n q ps,zKq n q ps]) (zF (zY (zF (zE rfl) (zF (zE rfl) zM)) fun u0 u0 u0 hh=>⟨n,q,ps,rfl,hn,hs,hb,hh⟩) (zF hf zM)) fun u0 u0 u0 hh=>⟨_,rfl,zMz,hh⟩) (FgR.of h)
theorem zD8{n:Nat}{q:Nat×Nat→Bool}(hn:1≤n):(List.range n).filter (adj q (n-1))=yM n q:=by
 have hr:(yM n q).Pairwise (·<·):=by
  unfold yM
  rw[List.pairwise_map]
  have nd:(((yj n).filter q).filter fun p=>decide (p.2=n-1)).Pairwise ltP:=((zHB n).filter _).filter _
  refine nd.imp_of_mem fun {a b} ha hb lt=>?_
  have h1:=of_decide_eq_true (List.mem_filter.mp ha).2
  have h2:=of_decide_eq_true (List.mem_filter.mp hb).2
  rcases lt with lt | ⟨u0,lt⟩
  ·exact lt
  ·(first|lia|omega)
 refine List.Perm.eq_of_pairwise (le:=(·<·)) (fun a b u0 u0 h1 h2=>by (first|lia|omega)) (List.pairwise_lt_range.sublist List.filter_sublist) hr ?_
 refine(List.perm_ext_iff_of_nodup (List.nodup_range.filter _) zBO).mpr fun x=>?_
 unfold yM
 rw[List.mem_filter,List.mem_range,List.mem_map]
 constructor
 ·rintro⟨h1,h2⟩
  unfold adj at h2
  simp only[Bool.and_eq_true,decide_eq_true_eq] at h2
  obtain⟨h2,h3⟩:=h2
  rw[show min (n-1) x=x by (first|lia|omega),show max (n-1) x=n-1 by (first|lia|omega)] at h3
  exact⟨(x,n-1),List.mem_filter.mpr ⟨List.mem_filter.mpr ⟨yZ.mpr ⟨by show x<n-1;(first|lia|omega),by show n-1<n;(first|lia|omega)⟩,h3⟩,by simp⟩,rfl⟩
 ·rintro⟨p,hp,rfl⟩
  obtain⟨h1,h2⟩:=List.mem_filter.mp hp
  obtain⟨h3,h4⟩:=List.mem_filter.mp h1
  have h5:=yZ.mp h3
  have h6:=of_decide_eq_true h2
  refine⟨by (first|lia|omega),?_⟩
  unfold adj
  rw[show min (n-1) p.1=p.1 by (first|lia|omega),show max (n-1) p.1=p.2 by (first|lia|omega)]
  simp only[Bool.and_eq_true,decide_eq_true_eq]
  exact⟨by (first|lia|omega),h4⟩
theorem zIc{σ:S2}{G:Gp}{te:zo}{E:yC}{u:yi}(h:te σ G fun u0 G1=>u E σ G1):zX (yk te) u E σ G:=h
noncomputable def yb:Sp2:=fun ds G R=>∃(n1:Nat) (q1:Nat×Nat→Bool) (n2:Nat) (q2:Nat×Nat→Bool),ds=[zO n1 q1,zO n2 q2]∧2≤n1∧2≤n2∧n1+n2≤11∧R (zO (n1+n2-2) fun p=>decide (p∈glF n1 q1 n2 q2)) G
noncomputable def yO:List D→Gp→(Gp→Prop)→Prop:=fun ds G E=>∃(n1:Nat) (q1:Nat×Nat→Bool) (n2:Nat) (q2:Nat×Nat→Bool),ds=[zO n1 q1,zO n2 q2]∧2≤n1∧2≤n2∧11<n1+n2∧E G
noncomputable def zAG:yi:=(zX (zv (zP (ya fun i j=>.int (i-j)) (zP zi (zB 0) (xC (.int 0))) (xC (.int 1))) (gN 2)) (zX (zv (zP (ya fun i j=>.int (i-j)) (zP yJ (zB 2) (zP zi (zB 1) (xC (.int 0)))) (xC (.int 1))) (gN 3)) (zX (yk (zK wR (zA (zB 3) (zA (xC (.int 9)) zI)))) (zX (zAK 4 (zf (iV (zP zi (zB 0) (xC (.int 1)))) wy (xB (zP (ya fun i j=>.bl (decide (i<j))) (zP zi (zB 6) (xC (.int 1))) (zB 2))) (zB 6))) (zX (yk (zJt (zB 4) (zf (iV (zP zi (zB 1) (xC (.int 1)))) wy (xB (zP (ya fun i j=>.bl (decide (i<j))) (zP zi (zB 6) (xC (.int 1))) (zP (ya fun i j=>.int (i-j)) (zP zi (zB 1) (xC (.int 0))) (xC (.int 1))))) (yG (zA (zP yJ (zP zi (zB 6) (xC (.int 0))) (zB 2)) (zA (zP yJ (zP zi (zB 6) (xC (.int 1))) (zB 2)) zI)))))) (zX (wV (iV (zK wG (zA (zB 0) (zA (zB 2) zI)))) (gN 5) (yk (zJt (zB 4) (zf (iV (zK wG (zA (zB 1) (zA (zP (ya fun i j=>.int (i-j)) (zP zi (zB 1) (xC (.int 0))) (xC (.int 1))) zI)))) wy zAB (yG (zA (zB 5) (zA (zP yJ (zB 6) (zB 2)) zI))))))) (zu (yG (zA (zB 3) (zA (zb zn (zBa (zA (zB 4) zI))) zI))))))))))
noncomputable def wb:(Gp→Prop)→S2→Gp→Prop:=(fun E σ G=>(zv (zP (ya fun i j=>.int (i-j)) (zP zi (zB 0) (xC (.int 0))) (xC (.int 1))) (gN 2)) { nx:=(fun E σ G=>(zv (zP (ya fun i j=>.int (i-j)) (zP yJ (zB 2) (zP zi (zB 1) (xC (.int 0)))) (xC (.int 1))) (gN 3)) { nx:=(fun E σ G=>(zA (zB 3) (zA (xC (.int 9)) zI)) σ G fun ds G2=>yn ds G2 E) E,rt:=fun u0 u0=>False } σ G) E,rt:=fun u0 u0=>False } σ G)
theorem zHl{σ:S2}{G:Gp}{n1 n2:Nat}{q2:Nat×Nat→Bool}{t u:zo}(h:ze t σ G (nD (n1-1)))(h':ze u σ G (zO n2 q2))(h1:2≤n1)(h2:2≤n2):ze (zP (ya fun i j=>.int (i-j)) (zP yJ t (zP zi u (xC (.int 0)))) (xC (.int 1))) σ G (nD (n1+n2-2)):=by
 have:=zBU (g:=fun i j=>.int (i-j)) (wk (i:=((n1-1:Nat):Int)) (j:=(n2:Int)) h (yu (n:=n2) (q:=q2) h')) (yU (d:=.int 1))
 rwa [show((n1-1:Nat):Int)+(n2:Int)-1=((n1+n2-2:Nat):Int) by (first|lia|omega)] at this
theorem zEH(ds:List D)(G:Gp)(E:Gp→Prop)(h:yO ds G E):ds.length=2∧wb E (zS ["one","two","ahead","many","ties","place"] ds) G:=by
 obtain⟨n1,q1,n2,q2,rfl,h1,h2,h3,h⟩:=h
 refine⟨rfl,?_⟩
 unfold wb
 have a1:ze (zP (ya fun i j=>.int (i-j)) (zP zi (zB 0) (xC (.int 0))) (xC (.int 1))) [some (zO n1 q1),some (zO n2 q2),none,none,none,none] G (nD (n1-1)):=zB2 (yu (zE rfl)) (by (first|lia|omega))
 refine zMt a1 ?_
 have a2:ze (zP (ya fun i j=>.int (i-j)) (zP yJ (zB 2) (zP zi (zB 1) (xC (.int 0)))) (xC (.int 1))) [some (zO n1 q1),some (zO n2 q2),some (nD (n1-1)),none,none,none] G (nD (n1+n2-2)):=zHl (q2:=q2) (zE rfl) (zE rfl) h1 h2
 unfold gN
 dsimp only
 show zv _ _ _ [some (zO n1 q1),some (zO n2 q2),some (nD (n1-1)),none,none,none] G
 refine zMt a2 ?_
 dsimp only
 show zA _ _ [some (zO n1 q1),some (zO n2 q2),some (nD (n1-1)),some (nD (n1+n2-2)),none,none] G _
 have a3:PuA (zA (zB 3) (zA (xC (.int 9)) zI)) [some (zO n1 q1),some (zO n2 q2),some (nD (n1-1)),some (nD (n1+n2-2)),none,none] G [nD (n1+n2-2),nD 9]:=zF (zE rfl) (zF yU zM)
 exact a3 G (.refl G) _ ⟨n1+n2-2,9,rfl,by (first|lia|omega),by (first|lia|omega),h⟩
theorem zHm{σ:S2}{G:Gp}{t u:zo}{a b:Nat}{c:Bool}(h:ze t σ G (nD a))(h':ze u σ G (nD b))(e:decide (a<b)=c):ze (zP (ya fun i j=>.bl (decide (i<j))) t u) σ G (.bl c):=by
 have:=zBU (g:=fun i j=>.bl (decide (i<j))) h h'
 have e2:decide ((a:Int)<(b:Int))=c:=by rw[← e];simp
 rw[e2] at this
 exact this
theorem zJW{σ:S2}{G:Gp}{l:List (Nat×Nat)}{t:zo}{tc:TT2}{te:zo}(p:Nat×Nat→Bool)(f:Nat×Nat→D)(h:ze t σ G (.tup (l.map zt)))(hx:∀ x∈l,PuT tc (σ++[some (zt x)]) G (p x)∧ze te (σ++[some (zt x)]) G (f x)):PuL (zf (iV t) wy tc te) σ G ((l.filter p).map f):=by
 have c:=wa (σ:=σ) (G:=G) (bd:=wy) (tc:=tc) (te:=te) (fun d=>match d with | .tup [.int a,.int b]=>p (a.toNat,b.toNat) | _=>false) (fun d=>match d with | .tup [.int a,.int b]=>f (a.toNat,b.toNat) | _=>.non) (fun d=>[d]) (zAQ h) fun x hx'=>by
  obtain⟨y,hy,rfl⟩:=List.mem_map.mp hx'
  exact⟨rfl,(hx y hy).1,fun u0=>(hx y hy).2⟩
 have e:List.map (fun d=>match d with | .tup [.int a,.int b]=>f (a.toNat,b.toNat) | _=>.non) (List.filter (fun d=>match d with | .tup [.int a,.int b]=>p (a.toNat,b.toNat) | _=>false) (l.map zt))=(l.filter p).map f:=by
  rw[List.filter_map,List.map_map];rfl
 rw[e] at c
 exact c
theorem zM0{n:Nat}{q:Nat×Nat→Bool}{x:Nat×Nat}(hx:x∈(yj n).filter q):decide (x.2<n-1)=!decide (x.2=n-1):=by
 have:=yZ.mp (List.mem_filter.mp hx).1
 rw[Bool.eq_iff_iff]
 simp
 (first|lia|omega)
theorem zFE(ds:List D)(G:Gp)(R:Q2)(h:yb ds G R):ds.length=2∧zAG (zd R) (zS ["one","two","ahead","many","ties","place"] ds) G:=by
 obtain⟨n1,q1,n2,q2,rfl,h1,h2,h3,h⟩:=h
 refine⟨rfl,?_⟩
 unfold zAG
 have a1:ze (zP (ya fun i j=>.int (i-j)) (zP zi (zB 0) (xC (.int 0))) (xC (.int 1))) [some (zO n1 q1),some (zO n2 q2),none,none,none,none] G (nD (n1-1)):=zB2 (yu (zE rfl)) (by (first|lia|omega))
 refine wU (E:=zd R) a1 ?_
 have a2:ze (zP (ya fun i j=>.int (i-j)) (zP yJ (zB 2) (zP zi (zB 1) (xC (.int 0)))) (xC (.int 1))) [some (zO n1 q1),some (zO n2 q2),some (nD (n1-1)),none,none,none] G (nD (n1+n2-2)):=zHl (q2:=q2) (zE rfl) (zE rfl) h1 h2
 refine wU (σ:=[some (zO n1 q1),some (zO n2 q2),some (nD (n1-1)),none,none,none]) (E:=zd R) a2 ?_
 show zX _ _ _ [some (zO n1 q1),some (zO n2 q2),some (nD (n1-1)),some (nD (n1+n2-2)),none,none] G
 refine zRA (d:=.non) (zY (ds:=[nD (n1+n2-2),nD 9]) (zF (zE rfl) (zF yU zM)) fun u0 u0 u0 q=>⟨n1+n2-2,9,rfl,by (first|lia|omega),q⟩) ?_
 have c1:=zJW (σ:=[some (zO n1 q1),some (zO n2 q2),some (nD (n1-1)),some (nD (n1+n2-2)),none,none]) (G:=G) (l:=(yj n1).filter q1) (tc:=(xB (zP (ya fun i j=>.bl (decide (i<j))) (zP zi (zB 6) (xC (.int 1))) (zB 2)))) (te:=zB 6) (fun p=>!decide (p.2=n1-1)) (fun p=>zt p) (zCr (zE (i:=0) rfl)) fun x hx=>⟨wK (zHm (a:=x.2) (b:=n1-1) (zG8 (zE rfl)) (zE rfl) (zM0 hx)),zE rfl⟩
 refine zIb c1 fun f hf=>?_
 show zX _ _ _ [some (zO n1 q1),some (zO n2 q2),some (nD (n1-1)),some (nD (n1+n2-2)),some (.adr f),none] (zR G f ((yN n1 q1).map zt))
 have gf:(zR G f ((yN n1 q1).map zt)).m f=some ((yN n1 q1).map zt):=zH
 have c2:=zJW (σ:=[some (zO n1 q1),some (zO n2 q2),some (nD (n1-1)),some (nD (n1+n2-2)),some (.adr f),none]) (G:=zR G f ((yN n1 q1).map zt)) (l:=(yj n2).filter q2) (tc:=(xB (zP (ya fun i j=>.bl (decide (i<j))) (zP zi (zB 6) (xC (.int 1))) (zP (ya fun i j=>.int (i-j)) (zP zi (zB 1) (xC (.int 0))) (xC (.int 1)))))) (te:=(yG (zA (zP yJ (zP zi (zB 6) (xC (.int 0))) (zB 2)) (zA (zP yJ (zP zi (zB 6) (xC (.int 1))) (zB 2)) zI)))) (fun p=>!decide (p.2=n2-1)) (fun p=>zt (p.1+(n1-1),p.2+(n1-1))) (zCr (zE (i:=1) rfl)) fun x hx=>⟨wK (zHm (a:=x.2) (b:=n2-1) (zG8 (zE rfl)) (zB2 (yu (n:=n2) (q:=q2) (zE rfl)) (by (first|lia|omega))) (zM0 hx)),yP (zF (wk (i:=(x.1:Int)) (j:=((n1-1:Nat):Int)) (zOS (zE rfl)) (zE rfl)) (zF (wk (i:=(x.2:Int)) (j:=((n1-1:Nat):Int)) (zG8 (zE rfl)) (zE rfl)) zM)) (by simp)⟩
 have e2:List.map (fun p=>zt (p.1+(n1-1),p.2+(n1-1))) (((yj n2).filter q2).filter fun p=>!decide (p.2=n2-1))=((yN n2 q2).map fun p=>(p.1+(n1-1),p.2+(n1-1))).map zt:=by
  rw[List.map_map];rfl
 rw[e2] at c2
 have fl1:(yN n1 q1).length≤36:=zBe (((ym n1).filter _).filter _) (fun p hp=>(by have:=zBP hp;(first|lia|omega):p.1<p.2∧p.2<n1)) (by (first|lia|omega))
 have fl2:(yN n2 q2).length≤36:=zBe (((ym n2).filter _).filter _) (fun p hp=>(by have:=zBP hp;(first|lia|omega):p.1<p.2∧p.2<n2)) (by (first|lia|omega))
 refine zIc (zGP rfl gf (fun Q q'=>c2 _ (.refl _) _ q') (by simp only[List.length_map];(first|lia|omega)) ?_)
 have m4:(zR (zR G f ((yN n1 q1).map zt)) f ((yN n1 q1).map zt++((yN n2 q2).map fun p=>(p.1+(n1-1),p.2+(n1-1))).map zt)).m f=some ((yN n1 q1++(yN n2 q2).map fun p=>(p.1+(n1-1),p.2+(n1-1))).map zt):=by rw[zH,List.map_append]
 have sb:Sub G (zR (zR G f ((yN n1 q1).map zt)) f ((yN n1 q1).map zt++((yN n2 q2).map fun p=>(p.1+(n1-1),p.2+(n1-1))).map zt)):=(Sub.new hf).put hf
 generalize zR (zR G f ((yN n1 q1).map zt)) f ((yN n1 q1).map zt++((yN n2 q2).map fun p=>(p.1+(n1-1),p.2+(n1-1))).map zt)=G3 at m4 sb
 clear c1 c2 e2 gf
 have gd:=zF0 (n1:=n1) (q1:=q1) (n2:=n2) (q2:=q2)
 have gi:=zMV (q1:=q1) (q2:=q2) h1 h2
 have nl1:=zCb (n:=n1) (q:=q1)
 have nl2:=zCb (n:=n2) (q:=q2)
 have fl:(yN n1 q1++(yN n2 q2).map fun p=>(p.1+(n1-1),p.2+(n1-1))).length≤72:=by rw[List.length_append,List.length_map];(first|lia|omega)
 have ar1:∀ {σ:S2} {G:Gp} {t u:zo},ze t σ G (zO n1 q1)→ze u σ G (nD (n1-1))→ze (zK wG (zA t (zA u zI))) σ G (.tup ((yM n1 q1).map nD)):=fun {σ G t u} k k'=>by
  rw[← zD8 (by (first|lia|omega))]
  exact zY (zF k (zF k' zM)) fun u0 u0 u0 q=>⟨n1,q1,n1-1,rfl,by (first|lia|omega),by (first|lia|omega),q⟩
 have ar2:∀ {σ:S2} {G:Gp} {t u:zo},ze t σ G (zO n2 q2)→ze u σ G (nD (n2-1))→ze (zK wG (zA t (zA u zI))) σ G (.tup ((yM n2 q2).map nD)):=fun {σ G t u} k k'=>by
  rw[← zD8 (by (first|lia|omega))]
  exact zY (zF k (zF k' zM)) fun u0 u0 u0 q=>⟨n2,q2,n2-1,rfl,by (first|lia|omega),by (first|lia|omega),q⟩
 unfold glF at gd gi h
 generalize (yN n1 q1++(yN n2 q2).map fun p=>(p.1+(n1-1),p.2+(n1-1)))=F at m4 fl gd gi h
 generalize yM n1 q1=N1 at *
 generalize yM n2 q2=N2 at *
 refine zDY (zA5 (zRa (ds:=N1.map nD) (ar1 (zE rfl) (zE rfl)) ?_))
 refine zAa (fun k G'=>G'.m f=some ((F++(N1.take k).flatMap fun a=>N2.map fun b=>(a,b+(n1-1))).map zt)∧Sub G G') ⟨by simpa using m4,sb⟩ (fun u0 u0 u0=>trivial) ?_ ?_
 ·rintro k x hx G' ⟨k1,k5⟩
  obtain⟨a,ha,rfl⟩:=zAZ hx
  show yk _ _ [some (zO n1 q1),some (zO n2 q2),some (nD (n1-1)),some (nD (n1+n2-2)),some (.adr f),some (nD a)] _
  have c3:=zBn (σ:=[some (zO n1 q1),some (zO n2 q2),some (nD (n1-1)),some (nD (n1+n2-2)),some (.adr f),some (nD a)]) (G:=G') (bd:=wy) (te:=(yG (zA (zB 5) (zA (zP yJ (zB 6) (zB 2)) zI)))) (fun d=>match d with | .int b=>zt (a,b.toNat+(n1-1)) | _=>.non) (fun d=>[d]) (wi:=(iV (zK wG (zA (zB 1) (zA (zP (ya fun i j=>.int (i-j)) (zP zi (zB 1) (xC (.int 0))) (xC (.int 1))) zI))))) (ds:=N2.map nD) (zAQ (ar2 (zE rfl) (zB2 (yu (n:=n2) (q:=q2) (zE rfl)) (by (first|lia|omega))))) fun x hx=>by
   obtain⟨b,hb,rfl⟩:=List.mem_map.mp hx
   exact⟨rfl,yP (zF (zE rfl) (zF (wk (i:=(b:Int)) (j:=((n1-1:Nat):Int)) (zE rfl) (zE rfl)) zM)) (by simp)⟩
  have e3:List.map (fun d=>match d with | .int b=>zt (a,b.toNat+(n1-1)) | _=>.non) (N2.map nD)=(N2.map fun b=>(a,b+(n1-1))).map zt:=by rw[List.map_map,List.map_map];rfl
  rw[e3] at c3
  have fl4:((N1.take k).flatMap fun a=>N2.map fun b=>(a,b+(n1-1))).length≤900:=by
   rw[List.length_flatMap]
   simp only[List.length_map]
   have:((N1.take k).map fun u0=>N2.length).sum=(N1.take k).length*N2.length:=zF1 _ _
   rw[this,List.length_take]
   exact Nat.le_trans (Nat.mul_le_mul (show min k N1.length≤11 by (first|lia|omega)) (show N2.length≤11 by (first|lia|omega))) (by decide)
  refine zJR (zGP rfl k1 (fun Q q'=>c3 _ (.refl _) _ q') (by simp only[List.length_map,List.length_append];(first|lia|omega)) ⟨.keep (.keep (.keep (.keep (.keep (.skip .nil))))),_,.refl _,?_,k5.put hf⟩)
  rw[zH,yl ha,List.flatMap_append,← List.map_append]
  simp
 ·rintro G' ⟨k1,k5⟩
  rw[List.length_map,List.take_length] at k1
  dsimp only
  generalize (F++N1.flatMap fun a=>N2.map fun b=>(a,b+(n1-1)))=FF at *
  exact zHj (d:=zO (n1+n2-2) fun p=>decide (p∈FF)) (yP (zF (zE rfl) (zF (zCa (zE (i:=4) rfl) (.inl k1) gd gi (by (first|lia|omega))) zM)) (by simp)) ⟨G,k5,h⟩
end K
namespace K
open PySem PySem.Spec PyProof.Rows L2 L3
noncomputable def zDc:yi:=(zX (wV (iR1 (zA (zK yr (zA (xC (.int 1)) (zA (zK ye (zA (zK yR (zA (zB 0) zI)) (zA (xC (.int 10)) zI))) zI))) zI)) (gN 1) (zX (zv (yA (yw yy (zA (zB 0) (zA (zB 1) zI)))) (gN 2)) (zX (zv (zK zA8 (zA (zB 2) (zA (xC (.int 6)) zI))) (gN 3)) (zX (zv (yA (wS zI)) (gN 4)) (zX (wV (iR1 (zA (xC (.int 12)) zI)) (gN 5) (yk (zEm (zB 4) (zA (zK zBf (zA (zB 2) (zA (zP zi (zB 3) (xC (.int 0))) zI))) zI)))) (zX (zAK 6 (zf (iV (zB 4)) wy (xB (zK wA (zA (zB 3) (zA (zB 10) zI)))) (zB 10))) (zX (wV (iF (zCo (yA (zCo (yA (zCX (zB 4) zCS (zFp (xC (.int 3))))) (yA (zCX (zB 6) zCS (zFp (xC (.int 6))))))) (yA (wS (zA (yG zI) (zA (zFo (zA (zP zi (zB 3) (xC (.int 0))) zI)) (zA (yG (zA (xC (.int 0)) zI)) zI))))))) (gN 7) (xIf (wn (xB (zK yg (zA (zB 3) (zA (zB 7) zI))))) (zu (xC (.bl false))) yH)) (zX (zv (yG (zA (zK wY (zA (zB 2) (zA (xC (.int 9)) zI))) (zA (zK wY (zA (zB 2) (zA (zP zi (yA (wS (zA (xC (.int 9)) (zA (xC (.int 4)) zI)))) (zK zy (zA (zB 2) (zA (xC (.int 2)) zI)))) zI))) zI))) (gNN 8 9)) (xIf (zB5 (xB (zP (ya fun i j=>.bl (decide (j<i))) (zP zi (zB 8) (xC (.int 0))) (xC (.int 1)))) (xB (zP (ya fun i j=>.bl (decide (j<i))) (zP zi (zB 9) (xC (.int 0))) (xC (.int 1))))) (xIf (xB (zP (ya fun i j=>.bl (decide (j<i))) (zP yJ (zP zi (zB 8) (xC (.int 0))) (zP zi (zB 9) (xC (.int 0)))) (xC (.int 11)))) (xIf (xB (zP (fEq true) (yA (zKm 0 yO (zA (zB 8) (zA (zB 9) zI)))) (yA (wS (zA (xC (.int 0)) zI))))) (zu (xC (.bl false))) yH) (xIf (wn (xB (zK (zq 5) (zA (zK yb (zA (zB 8) (zA (zB 9) zI))) (zA (zK wQ (zA (zB 8) (zA (zB 9) zI))) zI))))) (zu (xC (.bl false))) yH)) yH))))))))) (zu (xC (.bl true))))
noncomputable abbrev zM1:yi:=(xIf (zB5 (xB (zP (ya fun i j=>.bl (decide (j<i))) (zP zi (zB 8) (xC (.int 0))) (xC (.int 1)))) (xB (zP (ya fun i j=>.bl (decide (j<i))) (zP zi (zB 9) (xC (.int 0))) (xC (.int 1))))) (xIf (xB (zP (ya fun i j=>.bl (decide (j<i))) (zP yJ (zP zi (zB 8) (xC (.int 0))) (zP zi (zB 9) (xC (.int 0)))) (xC (.int 11)))) (xIf (xB (zP (fEq true) (yA (zKm 0 yO (zA (zB 8) (zA (zB 9) zI)))) (yA (wS (zA (xC (.int 0)) zI))))) (zu (xC (.bl false))) yH) (xIf (wn (xB (zK (zq 5) (zA (zK yb (zA (zB 8) (zA (zB 9) zI))) (zA (zK wQ (zA (zB 8) (zA (zB 9) zI))) zI))))) (zu (xC (.bl false))) yH)) yH)
theorem zOD{E:yC}{G:Gp}{σ:S2}{n1 n2:Nat}{q1 q2:Nat×Nat→Bool}(v8:ze (zB 8) σ G (zO n1 q1))(v9:ze (zB 9) σ G (zO n2 q2))(h:∀ G',Sub G G'→E.nx σ G'):zM1 E σ G:=by
 unfold zM1
 have g1:PuT (xB (zP (ya fun i j=>.bl (decide (j<i))) (zP zi (zB 8) (xC (.int 0))) (xC (.int 1)))) σ G (decide (1<n1)):=wK (zD0 (yu v8) (yU (d:=nD 1)) rfl)
 have g2:PuT (xB (zP (ya fun i j=>.bl (decide (j<i))) (zP zi (zB 9) (xC (.int 0))) (xC (.int 1)))) σ G (decide (1<n2)):=wK (zD0 (yu v9) (yU (d:=nD 1)) rfl)
 have g:=zNa g1 (fun u0=>g2)
 by_cases hc:1<n1∧1<n2
 ·rw[show(decide (1<n1)&&decide (1<n2))=true by simp[hc]] at g
  refine zC2 g ?_
  have hl:ze (zP yJ (zP zi (zB 8) (xC (.int 0))) (zP zi (zB 9) (xC (.int 0)))) σ G (nD (n1+n2)):=wk (i:=(n1:Int)) (j:=(n2:Int)) (yu v8) (yu v9)
  by_cases hc2:11<n1+n2
  ·refine zC2 (wK (zD0 hl (yU (d:=nD 11)) (by simp[hc2]))) ?_
   refine zQp (zMs (ds:=[zO n1 q1,zO n2 q2]) (zF v8 (zF v9 zM)) (fun E hE=>⟨n1,q1,n2,q2,rfl,by (first|lia|omega),by (first|lia|omega),hc2,hE⟩) fun G' s=>?_)
   show if (!true)=true then _ else _
   rw[if_neg (by simp)]
   exact h G' s
  ·refine zB6 (wK (zD0 hl (yU (d:=nD 11)) (by simp;(first|lia|omega)))) ?_
   refine zB6 (zMI (n:=5) (x:=zO (n1+n2-2) fun p=>decide (p∈glF n1 q1 n2 q2)) (zY (zF v8 (zF v9 zM)) fun u0 u0 u0 q=>⟨n1,q1,n2,q2,rfl,by (first|lia|omega),by (first|lia|omega),by (first|lia|omega),q⟩) (zY (zF v8 (zF v9 zM)) fun u0 u0 u0 q=>⟨n1,q1,n2,q2,rfl,by (first|lia|omega),by (first|lia|omega),by (first|lia|omega),q⟩) (zDy (n:=1))) ?_
   exact h G (.refl G)
 ·rw[show(decide (1<n1)&&decide (1<n2))=false by
   rw[Bool.and_eq_false_iff]
   simp
   (first|lia|omega)] at g
  exact zB6 g (h G (.refl G))
noncomputable def unu(us:List D):List Nat:=us.map fun x=>match x with | .int v=>v.toNat | _=>0
noncomputable def zKs(n:Nat)(q:Nat×Nat→Bool):D→Bool
 | .tup us=>zCl n q (unu us)
 | _=>false
theorem zOE{n:Nat}{q:Nat×Nat→Bool}{ps:List Nat}:zKs n q (uD ps)=zCl n q ps:=by
 show zCl n q (unu (ps.map nD))=_
 congr 1
 unfold unu
 rw[List.map_map]
 exact List.map_id _
theorem zM2{σ:S2}{G:Gp}{ta tb:zo}{R:List D→Gp→Prop}(h:ta σ G fun x G1=>tb σ G1 fun y G2=>match x,y with | D.adr l,D.adr m=>∃ xs ys,G2.m l=some xs∧G2.m m=some ys∧xs.length+ys.length≤1000000∧R (xs++ys) G2 | _,_=>False):zCo ta tb σ G R:=h
theorem zQF{σ:S2}{G:Gp}{t:wN}{R:Q2}(h:t σ G fun ds G1=>ds.length≤sizeLine∧R (.tup ds) G1):yG t σ G R:=h
theorem zJX{xs:List D}{lo hi:Option Int}{x:D}(h:x∈L3.cutD xs lo hi):x∈xs:=List.mem_of_mem_drop (List.mem_of_mem_take h)
theorem zJY{xs:List D}{lo hi:Option Int}:(L3.cutD xs lo hi).length≤xs.length:=by
 unfold L3.cutD
 rw[List.length_take,List.length_drop]
 (first|lia|omega)
theorem zM3{σ:S2}{G:Gp}{t:zo}{a:Addr}{xs:List D}{j:Int}(h:ze t σ G (.adr a))(hl:G.m a=some xs):PuL (zCX t zCS (zFp (xC (.int j)))) σ G (L3.cutD xs none (some j)):=fun G2 e R q=>h G2 e _ ⟨xs,e.ls (.inl hl),q⟩
theorem zQG{σ:S2}{G G':Gp}{t:TL2}{xs:List D}(h:PuL t σ G xs)(e:Ext G G'):PuL t σ G' xs:=fun G2 e2 R q=>h G2 (e.trans e2) R q
theorem zRD(ds:List D)(G:Gp)(R:Q2)(h:zFq ds G R):ds.length=1∧zDc (zd R) (zS ["script","k","state","web","sides","turn","good","side","one","two"] ds) G:=by
 obtain⟨a,ns,rfl,ha,u0,u0,h⟩:=h
 refine⟨rfl,?_⟩
 unfold zDc
 obtain⟨m,hm⟩:=zJ6 (σ:=zS ["script","k","state","web","sides","turn","good","side","one","two"] [.adr a]) (G:=G) (a:=a) (ns:=ns) (c:=10) (by (first|lia|omega)) rfl (.inr ha)
 refine zLd hm (fun x hx G1 e1=>?_) (fun G1 e1=>show FgR R (.bl true) G1 from⟨G,e1.sub,h⟩)
 obtain⟨k,u0,rfl⟩:=List.mem_map.mp hx
 refine zJ8 (σ:=[some (.adr a),some (nD k),none,none,none,none,none,none,none,none]) (i:=0) (j:=1) (x:=2) (ns:=ns) rfl rfl (e1.ls (.inr ha)) fun l s b hl ok=>?_
 simp only[List.set_cons_succ,List.set_cons_zero]
 have st0:zAR (zR G1 l [.int s,.bl b]) l:=⟨s,b,zH,ok⟩
 have sb0:L3.Sub G1 (zR G1 l [.int s,.bl b]):=.new hl
 generalize zR G1 l [.int s,.bl b]=G2 at st0 sb0
 have drS:∀ {G G':Gp},L3.Sub G1 G→Dr l G G'→L3.Sub G1 G':=fun {G G'} hs hd=>by
  obtain⟨s',b',rfl,u0⟩:=hd
  exact hs.put hl
 refine wZ (zC3 (zF (zE (d:=.adr l) rfl) (zF (yU (d:=.int 6)) zM)) ⟨l,6,rfl,st0,by (first|lia|omega),by (first|lia|omega),fun n q G3 n1' n9 d3=>?_⟩)
 simp only[gN,List.set_cons_succ,List.set_cons_zero]
 refine wZ (zAL (ds:=[]) (fun G2 e R q=>⟨(show 0≤sizeLine by decide),q⟩) fun f hf=>?_)
 simp only[gN,List.set_cons_succ,List.set_cons_zero]
 have sb3':=drS sb0 d3
 have gf1:G1.m f=none:=by
  cases e:G1.m f with
  | none=>rfl
  | some u=>have:=sb3'.m _ _ e;rw[hf] at this;cases this
 have st3:zAR (zR G3 f []) l:=d3.st.ext (.new hf)
 have sb3:L3.Sub G1 (zR G3 f []):=sb3'.trans (.new hf)
 have fl:f≠l:=d3.st.ne hf
 have gff:(zR G3 f []).m f=some []:=zH
 generalize zR G3 f []=G4 at st3 sb3 gff
 refine zDY (zGO (n:=12) (zF yU zM) (by (first|lia|omega)) ?_)
 refine zAa (fun i G'=>∃ pss:List (List Nat),G'.m f=some (pss.map uD)∧(∀ ps∈pss,zCL n ps)∧pss.length=i∧zAR G' l∧L3.Sub G1 G') ⟨[],gff,fun x hx=>(by cases hx),rfl,st3,sb3⟩ (fun u0 u0 u0=>trivial) ?_ ?_
 ·rintro i x hx G' ⟨pss,h1,h2,h3,h4,h5⟩
  obtain⟨rfl,hi⟩:=zFD hx
  show yk _ _ [some (.adr a),some (nD k),some (.adr l),some (zO n q),some (.adr f),some (nD i),none,none,none,none] G'
  refine zJR (zRB (l:=f) (zE rfl) h1 (zDt (zC3 (zF (zE (d:=.adr l) rfl) (zF (yu (n:=n) (q:=q) (zE rfl)) zM)) ⟨l,n,rfl,h4,by (first|lia|omega),fun ps G'' hps d=>zD5 ⟨pss.map uD,by rw[d.ne fl];exact h1,by rw[List.length_map];(first|lia|omega),?_⟩⟩)))
  refine⟨.keep (.keep (.keep (.keep (.keep (.skip (.keep (.keep (.keep (.keep .nil))))))))),_,.refl _,pss++[ps],?_,?_,by simp;(first|lia|omega),?_,(drS h5 d).put gf1⟩
  ·rw[zH,List.map_append];rfl
  ·intro x hx
   rcases List.mem_append.mp hx with hx | hx
   ·exact h2 x hx
   ·rw[List.mem_singleton.mp hx];exact hps
  ·obtain⟨s',b',z,o⟩:=d.st
   exact⟨s',b',by rw[zQ (Ne.symm fl)];exact z,o⟩
 ·rintro G' ⟨pss,h1,h2,h3,h4,h5⟩
  rw[List.length_map,List.length_range] at h3
  dsimp only
  have c:=wa (σ:=[some (.adr a),some (nD k),some (.adr l),some (zO n q),some (.adr f),none,none,none,none,none]) (G:=G') (bd:=wy) (tc:=xB (zK wA (zA (zB 3) (zA (zB 10) zI)))) (te:=zB 10) (zKs n q) (fun d=>d) (fun d=>[d]) (zBW (t:=zB 4) (a:=f) (zE rfl) (.inl h1)) fun x hx=>by
   obtain⟨ps,hp,rfl⟩:=List.mem_map.mp hx
   have:=(h2 ps hp).len
   rw[zOE]
   exact⟨rfl,wK (zY (zF (zE rfl) (zF (zE rfl) zM)) fun u0 u0 u0 hh=>⟨n,q,ps,rfl,n9,(h2 ps hp).2,by (first|lia|omega),hh⟩),fun u0=>zE rfl⟩
  have gl:(List.map (fun d=>d) (List.filter (zKs n q) (pss.map uD))).length≤12:=by
   rw[List.length_map]
   have:=List.length_filter_le (zKs n q) (pss.map uD)
   rw[List.length_map] at this
   (first|lia|omega)
  have gm:∀ x∈List.map (fun d=>d) (List.filter (zKs n q) (pss.map uD)),x∈pss.map uD:=fun x hx=>by
   rw[List.map_id'] at hx
   exact(List.mem_filter.mp hx).1
  generalize List.map (fun d=>d) (List.filter (zKs n q) (pss.map uD))=gd at c gl gm
  refine zIb c fun g hg=>?_
  have m2:(zR G' g gd).m g=some gd:=zH
  have s4:L3.Sub G' (zR G' g gd):=.new hg
  have m1:=s4.m _ _ h1
  have st4:=h4.ext s4
  have sb4:=h5.trans s4
  clear c hg s4
  show zX _ _ _ [some (.adr a),some (nD k),some (.adr l),some (zO n q),some (.adr f),none,some (.adr g),none,none,none] (zR G' g gd)
  generalize zR G' g gd=G5 at m1 m2 st4 sb4
  clear h1 h4 h5
  have pl:∀ {G:Gp},PuL (wS (zA (yG zI) (zA (zFo (zA (zP zi (zB 3) (xC (.int 0))) zI)) (zA (yG (zA (xC (.int 0)) zI)) zI)))) [some (.adr a),some (nD k),some (.adr l),some (zO n q),some (.adr f),none,some (.adr g),none,none,none] G ([[],List.range n,[0]].map uD):=fun {G} G2 e R q'=>zG9 (zF (d:=uD []) (yP zM (by simp)) (zF (d:=uD (List.range n)) (zNj (yu (n:=n) (q:=q) (zE rfl)) (by (first|lia|omega))) (zF (d:=uD [0]) (yP (zF yU zM) (by simp)) zM)) G2 e _ ⟨by rw[sizeLine_eq];simp,q'⟩)
  have sl1:PuL (zCX (zB 4) zCS (zFp (xC (.int 3)))) [some (.adr a),some (nD k),some (.adr l),some (zO n q),some (.adr f),none,some (.adr g),none,none,none] G5 (L3.cutD (pss.map uD) none (some 3)):=zM3 (zE rfl) m1
  have sl2:PuL (zCX (zB 6) zCS (zFp (xC (.int 6)))) [some (.adr a),some (nD k),some (.adr l),some (zO n q),some (.adr f),none,some (.adr g),none,none,none] G5 (L3.cutD gd none (some 6)):=zM3 (zE rfl) m2
  have k1:=zJY (xs:=pss.map uD) (lo:=none) (hi:=some 3)
  have k2:=zJY (xs:=gd) (lo:=none) (hi:=some 6)
  rw[List.length_map] at k1
  have ms:∀ x∈L3.cutD (pss.map uD) none (some 3)++L3.cutD gd none (some 6),∃ ps,x=uD ps∧zCL n ps:=fun x hx=>by
   have:x∈pss.map uD:=by
    rcases List.mem_append.mp hx with hx | hx
    ·exact zJX hx
    ·exact gm x (zJX hx)
   obtain⟨ps,hp,rfl⟩:=List.mem_map.mp this
   exact⟨ps,rfl,h2 ps hp⟩
  have kk:(L3.cutD (pss.map uD) none (some 3)).length+(L3.cutD gd none (some 6)).length≤24:=by (first|lia|omega)
  generalize L3.cutD (pss.map uD) none (some 3)=c1 at sl1 ms kk
  generalize L3.cutD gd none (some 6)=c2 at sl2 ms kk
  clear k1 k2 gm gl
  refine zDY (zA5 (zQq (zM2 (zHP (zM2 (zAL sl1 fun r1 hr1=>zAL (zQG sl2 (.new hr1)) fun r2 hr2=>?_))))))
  have n12:r1≠r2:=fun z=>by rw[← z,zH] at hr2;cases hr2
  refine⟨c1,c2,by rw[zQ n12];exact zH,zH,by (first|lia|omega),fun r3 hr3=>zAL pl fun r4 hr4=>?_⟩
  have n34:r3≠r4:=fun z=>by rw[← z,zH] at hr4;cases hr4
  refine⟨_,_,by rw[zQ n34];exact zH,zH,by simp;(first|lia|omega),fun r5 hr5=>?_⟩
  have s9:=(((((L3.Sub.new (o:=c1) hr1).trans (.new (o:=c2) hr2)).trans (.new (o:=c1++c2) hr3)).trans (.new (o:=[[],List.range n,[0]].map uD) hr4)).trans (.new (o:=(c1++c2)++[[],List.range n,[0]].map uD) hr5))
  have st9:=st4.ext s9
  have sb9:=sb4.trans s9
  refine zJ9 .own (fun x hx=>?_) ?_
  ·have hxr:∃ ps,x=uD ps∧zCL n ps:=by
    rcases List.mem_append.mp hx with hx | hx
    ·exact ms x hx
    ·obtain⟨ps,hp,rfl⟩:=List.mem_map.mp hx
     refine⟨ps,rfl,?_⟩
     simp only[List.mem_cons,List.not_mem_nil,or_false] at hp
     rcases hp with rfl | rfl | rfl
     ·exact .nil
     ·exact .all
     ·exact⟨by simp,fun x hx=>by rw[List.mem_singleton.mp hx];(first|lia|omega)⟩
   obtain⟨ps,rfl,sd⟩:=hxr
   simp only[gN,List.set_cons_succ,List.set_cons_zero]
   refine zB6 (zBH (b:=true) (wK (zY (zF (zE rfl) (zF (zE rfl) zM)) fun u0 u0 u0 hh=>⟨n,q,ps,rfl,n9,sd,hh⟩))) ?_
   exact⟨.keep (.keep (.keep (.keep (.keep (.keep (.keep (.skip (.keep (.keep .nil))))))))),.refl _⟩
  ·clear sl1 sl2 m1 m2 pl ms
   generalize zR (zR (zR (zR (zR G5 r1 c1) r2 c2) r3 (c1++c2)) r4 ([[],List.range n,[0]].map uD)) r5 ((c1++c2)++[[],List.range n,[0]].map uD)=G9 at st9 sb9
   dsimp only
   refine wZ (zQF (zDt ?_))
   refine zC3 (sp:=wY) (zF (zE (i:=2) (d:=.adr l) rfl) (zF (yU (d:=.int 9)) zM)) ⟨l,9,rfl,st9,by (first|lia|omega),by (first|lia|omega),fun n1 q1 G10 hn1 hn1' d10=>?_⟩
   refine zDt (zPd (zIH (zE (d:=.adr l) rfl) (zDt (zQE (zAL (ds:=[nD 9,nD 4]) (fun G2 e R q=>⟨(show 2≤sizeLine by decide),q⟩) fun l' hl'=>?_)))))
   refine zC3 (sp:=zy) (zF (zE (i:=2) (d:=.adr l) rfl) (zF (yU (d:=.int 2)) zM)) ⟨l,2,rfl,d10.st.ext (.new hl'),by (first|lia|omega),by (first|lia|omega),fun r G11 hr d11=>?_⟩
   have ll:l'≠l:=d10.st.ne hl'
   have g11:G11.m l'=some [nD 9,nD 4]:=by rw[d11.ne ll];exact zH
   obtain⟨m2,hm2,hat⟩:∃ m2:Nat,(m2=9∨m2=4)∧atI [nD 9,nD 4] (r:Int)=some (nD m2):=by
    match r,hr with
    | 0,_=>exact⟨9,.inl rfl,rfl⟩
    | 1,_=>exact⟨4,.inr rfl,rfl⟩
   refine⟨[nD 9,nD 4],nD m2,.inl g11,hat,?_⟩
   refine zD5 ⟨l,m2,rfl,d11.st,by (first|lia|omega),by (first|lia|omega),fun n2 q2 G12 hn2 hn2' d12=>zD5 ⟨by rw[sizeLine_eq];simp,?_⟩⟩
   refine zOe ?_
   show zM1 _ [some (.adr a),some (nD k),some (.adr l),some (zO n q),some (.adr f),none,some (.adr g),none,some (zO n1 q1),some (zO n2 q2)] G12
   refine zOD (zE rfl) (zE rfl) fun G' s'=>⟨.keep (.skip (.skip (.skip (.skip (.keep (.skip (.keep (.skip (.skip .nil))))))))),?_⟩
   exact(drS (drS ((drS sb9 d10).trans (.new hl')) d11) d12).trans s'
end K
namespace K
open PySem PySem.Spec PyProof.Rows L2 L3
noncomputable def top(i:Nat):Stmt:=PySem.Challenge.pw_chordwebs_k43_parted_and_put_together.main.body.getD i (.Pass ⟨0,0,0,0⟩)
noncomputable abbrev wv:Stmt:=top 9
theorem zDd:zZ ["thing"] ["thing"] (zG wv):=⟨rfl,rfl,rfl,by decide +kernel,rfl,by decide +kernel,by decide +kernel⟩
noncomputable abbrev wB:Stmt:=top 10
theorem zCv:zZ ["many","thing"] ["many","thing"] (zG wB):=⟨rfl,rfl,rfl,by decide +kernel,rfl,by decide +kernel,by decide +kernel⟩
noncomputable abbrev wC:Stmt:=top 11
theorem zCw:zZ ["things"] ["things"] (zG wC):=⟨rfl,rfl,rfl,by decide +kernel,rfl,by decide +kernel,by decide +kernel⟩
noncomputable abbrev zCi:Stmt:=top 12
theorem zHn:zZ ["many"] ["many"] (zG zCi):=⟨rfl,rfl,rfl,by decide +kernel,rfl,by decide +kernel,by decide +kernel⟩
noncomputable abbrev zAV:Stmt:=top 13
theorem zD9:zZ ["places","found","k","j"] ["places"] (zG zAV):=⟨rfl,rfl,rfl,by decide +kernel,rfl,by decide +kernel,by decide +kernel⟩
noncomputable abbrev yW:Stmt:=top 14
theorem zAH:zZ ["many","most"] ["many","most"] (zG yW):=⟨rfl,rfl,rfl,by decide +kernel,rfl,by decide +kernel,by decide +kernel⟩
noncomputable abbrev zD2:Stmt:=top 16
theorem zJZ:zZ ["web","one","other"] ["web","one","other"] (zG zD2):=⟨rfl,rfl,rfl,by decide +kernel,rfl,by decide +kernel,by decide +kernel⟩
noncomputable abbrev zBB:Stmt:=top 17
theorem zF4:zZ ["web","place"] ["web","place"] (zG zBB):=⟨rfl,rfl,rfl,by decide +kernel,rfl,by decide +kernel,by decide +kernel⟩
noncomputable abbrev zC7:Stmt:=top 18
theorem zJa:zZ ["web","places","many","ties"] ["web","places"] (zG zC7):=⟨rfl,rfl,rfl,by decide +kernel,rfl,by decide +kernel,by decide +kernel⟩
noncomputable abbrev wD:Stmt:=top 20
theorem zCx:zZ ["web","places"] ["web","places"] (zG wD):=⟨rfl,rfl,rfl,by decide +kernel,rfl,by decide +kernel,by decide +kernel⟩
noncomputable abbrev zAW:Stmt:=top 21
theorem zEA:zZ ["web","places","others","free","place","rest","row"] ["web","places"] (zG zAW):=⟨rfl,rfl,rfl,by decide +kernel,rfl,by decide +kernel,by decide +kernel⟩
noncomputable abbrev zBC:Stmt:=top 22
theorem zF5:zZ ["web","place","others"] ["web","place","others"] (zG zBC):=⟨rfl,rfl,rfl,by decide +kernel,rfl,by decide +kernel,by decide +kernel⟩
noncomputable abbrev zAX:Stmt:=top 23
theorem zEB:zZ ["web","places"] ["web","places"] (zG zAX):=⟨rfl,rfl,rfl,by decide +kernel,rfl,by decide +kernel,by decide +kernel⟩
noncomputable abbrev zAj:Stmt:=top 24
theorem zCj:zZ ["web","places","others"] ["web","places"] (zG zAj):=⟨rfl,rfl,rfl,by decide +kernel,rfl,by decide +kernel,by decide +kernel⟩
noncomputable abbrev zAv:Stmt:=top 25
theorem zFF:zZ ["web","side","others","last","ties","k"] ["web","side","others"] (zG zAv):=⟨rfl,rfl,rfl,by decide +kernel,rfl,by decide +kernel,by decide +kernel⟩
noncomputable abbrev zr:Stmt:=top 26
theorem wc:zZ ["one","two","ahead","many","ties","place"] ["one","two"] (zG zr):=⟨rfl,rfl,rfl,by decide +kernel,rfl,by decide +kernel,by decide +kernel⟩
noncomputable abbrev ww:Stmt:=top 28
theorem zDe:zZ ["script","k"] ["script","k"] (zG ww):=⟨rfl,rfl,rfl,by decide +kernel,rfl,by decide +kernel,by decide +kernel⟩
noncomputable abbrev zAw:Stmt:=top 29
theorem zFG:zZ ["script","k","cell"] ["script","k"] (zG zAw):=⟨rfl,rfl,rfl,by decide +kernel,rfl,by decide +kernel,by decide +kernel⟩
noncomputable abbrev zBh:Stmt:=top 30
theorem zF6:zZ ["state","many","found","mixed"] ["state","many"] (zG zBh):=⟨rfl,rfl,rfl,by decide +kernel,rfl,by decide +kernel,by decide +kernel⟩
noncomputable abbrev zAY:Stmt:=top 31
theorem zFH:zZ ["many","found","one"] ["many"] (zG zAY):=⟨rfl,rfl,rfl,by decide +kernel,rfl,by decide +kernel,by decide +kernel⟩
noncomputable abbrev zBQ:Stmt:=top 32
theorem zHo:zZ ["state","most","many","way","pairs_v","far"] ["state","most"] (zG zBQ):=⟨rfl,rfl,rfl,by decide +kernel,rfl,by decide +kernel,by decide +kernel⟩
noncomputable abbrev zBD:Stmt:=top 33
theorem zF7:zZ ["state","many","left"] ["state","many"] (zG zBD):=⟨rfl,rfl,rfl,by decide +kernel,rfl,by decide +kernel,by decide +kernel⟩
noncomputable abbrev wm:Stmt:=top 34
theorem zEC:zZ ["ring","many","found","one","other","some"] ["ring"] (zG wm):=⟨rfl,rfl,rfl,by decide +kernel,rfl,by decide +kernel,by decide +kernel⟩
noncomputable abbrev yo:Stmt:=top 35
theorem zD3:zZ ["found","due"] ["found","due"] (zG yo):=⟨rfl,rfl,rfl,by decide +kernel,rfl,by decide +kernel,by decide +kernel⟩
noncomputable abbrev yI:Stmt:=top 36
theorem zB4:zZ ["call","error","e","kinds"] ["call"] (zG yI):=⟨rfl,rfl,rfl,by decide +kernel,rfl,by decide +kernel,by decide +kernel⟩
noncomputable abbrev zAx:Stmt:=top 37
theorem zFI:zZ ["web","places","found","one","other","pair"] ["web","places"] (zG zAx):=⟨rfl,rfl,rfl,by decide +kernel,rfl,by decide +kernel,by decide +kernel⟩
noncomputable abbrev zAI:Stmt:=top 38
theorem zF8:zZ ["web","places","rest","span","found","place","row"] ["web","places"] (zG zAI):=⟨rfl,rfl,rfl,by decide +kernel,rfl,by decide +kernel,by decide +kernel⟩
noncomputable abbrev zAy:Stmt:=top 39
theorem zFJ:zZ ["web","places"] ["web","places"] (zG zAy):=⟨rfl,rfl,rfl,by decide +kernel,rfl,by decide +kernel,by decide +kernel⟩
noncomputable abbrev zBE:Stmt:=top 40
theorem zF9:zZ ["state","many"] ["state","many"] (zG zBE):=⟨rfl,rfl,rfl,by decide +kernel,rfl,by decide +kernel,by decide +kernel⟩
noncomputable abbrev wJ:Stmt:=top 41
theorem zFK:zZ ["one","two","more","near","found","a"] ["one","two"] (zG wJ):=⟨rfl,rfl,rfl,by decide +kernel,rfl,by decide +kernel,by decide +kernel⟩
noncomputable abbrev wx:Stmt:=top 42
theorem zFL:zZ ["state","most","one","two","web","left","order"] ["state","most"] (zG wx):=⟨rfl,rfl,rfl,by decide +kernel,rfl,by decide +kernel,by decide +kernel⟩
noncomputable abbrev zAk:Stmt:=top 43
theorem zGA:zZ ["web","side","rest","found","number","place"] ["web","side"] (zG zAk):=⟨rfl,rfl,rfl,by decide +kernel,rfl,by decide +kernel,by decide +kernel⟩
noncomputable abbrev yE:Stmt:=top 44
theorem zBR:zZ ["web","side","rest"] ["web","side"] (zG yE):=⟨rfl,rfl,rfl,by decide +kernel,rfl,by decide +kernel,by decide +kernel⟩
noncomputable abbrev zCN:Stmt:=top 45
theorem zM4:zZ ["script","k","state","web","sides","turn","good","side","one","two"] ["script"] (zG zCN):=⟨rfl,rfl,rfl,by decide +kernel,rfl,by decide +kernel,by decide +kernel⟩
section
variable {P:Program} {w:World} {K:PySem.W.Frag} {mg:Str→Option Value} {base:Heap}
theorem zOg:zMh yI ["call","error","e","kinds"] ((zW yI).drop 2):=⟨⟨_,_,_,_,_,_,_,_,_,_,_,_,_,rfl⟩,rfl,rfl,rfl,by decide +kernel,by decide +kernel,by decide +kernel,by decide +kernel⟩
theorem zJb{C0 C_TooMany C_NoTie C_NoSplit C_NoName C_BadNote f e:Addr}{cdv:Value}{A:Around}{outer:List Env}{s:Shared}{H:Hp}{oe:Obj}{b_TooMany b_NoTie b_NoSplit b_NoName b_BadNote:Bool}(b_isinstance:mg "isinstance"=none)(b_ValueError:mg "ValueError"=none)(b_range:mg "range"=none)(m_TooMany:mg "TooMany"=some (.ref C_TooMany))(m_NoTie:mg "NoTie"=some (.ref C_NoTie))(m_NoSplit:mg "NoSplit"=some (.ref C_NoSplit))(m_NoName:mg "NoName"=some (.ref C_NoName))(m_BadNote:mg "BadNote"=some (.ref C_BadNote))(xk:zEG K C0)(hcl:oe.cls=.ref C0)(q_TooMany:PySem.W.kitOne K (.ref C0) (.ref C_TooMany)=some b_TooMany)(q_NoTie:PySem.W.kitOne K (.ref C0) (.ref C_NoTie)=some b_NoTie)(q_NoSplit:PySem.W.kitOne K (.ref C0) (.ref C_NoSplit)=some b_NoSplit)(q_NoName:PySem.W.kitOne K (.ref C0) (.ref C_NoName)=some b_NoName)(q_BadNote:PySem.W.kitOne K (.ref C0) (.ref C_BadNote)=some b_BadNote)(qV:PySem.W.kitOne K (.ref C0) (.type "ValueError")=some true):Ps2 (zKh (zCD CX0 P w K mg base ["call","error","e","kinds"] "_law_refused" (zG yI) f cdv A outer s H E0).nox e oe) ((zW yI).drop 2) (zAu e b_TooMany b_NoTie b_NoSplit b_NoName b_BadNote):=by
 have nd:=(zB4).nd
 unfold zAu
 exact(zN (zx 3 nd (yD (zAJ (zC (zHf 1 xk List.mem_cons_self hcl rfl b_isinstance rfl m_TooMany q_TooMany) (zC (zHf 1 xk List.mem_cons_self hcl rfl b_isinstance rfl m_NoTie q_NoTie) (zC (zHf 1 xk List.mem_cons_self hcl rfl b_isinstance rfl m_NoSplit q_NoSplit) zJ)))))) (zN (zx 3 nd (yD (zFn (zD 3) (yD (zAJ (zC (zHf 1 xk List.mem_cons_self hcl rfl b_isinstance rfl m_NoName q_NoName) (zC (zHf 1 xk List.mem_cons_self hcl rfl b_isinstance rfl m_BadNote q_BadNote) zJ))))))) (zN (zAl (zD4 (zA1 (zP7 1 xk List.mem_cons_self hcl rfl b_isinstance rfl b_ValueError qV))) (zT (zp zQe)) yT) (zT (zp (yD (zBl "k" rfl (zg (osc:=zG yI) (N:=["call","error","e","kinds"]) (N0:=["!00","!01","!02","kinds"]) (own:=["k"]) (by decide +kernel)) (yY rfl b_range (zC zL zJ)) (fun u0 u0 u0 u0 u0=>(yx (zA1 (zm (zD 3) (zD 4))))) (fun u0 u0 u0 u0 u0=>(zD 4)))))))))
theorem zFM{f C_TooMany:Addr}{fd:FuncData}(F:Fun K "refuse_more" "refuse_more" yW f fd)(hm:mg "refuse_more"=some (.ref f))  (m_TooMany:mg "TooMany"=some (.ref C_TooMany))(x_TooMany:zEG K C_TooMany):Rz P w K mg base 1 "refuse_more" ["many","most"] yn C_TooMany:=by
 have nd:=(zAH).nd
 refine zMd zAF F zAH hm (F.binds fun u0 u0 u0 u0 u0 u0 us hl=>us2 us hl fun u0 u0=>rfl) (fun cdv A outer s H E hr=>?_) zFB
 unfold zAF
 exact(zQ4 zC6 (zJn (zD 0) (zD 1)) (x_raise zC6 rfl m_TooMany x_TooMany.ex0 (zP9 [1] (zMj (zP8 1 (zMj .nil))))))
theorem zKt{f C_NoSplit:Addr}{fd:FuncData}(F:Fun K "parted" "parted" zAj f fd)(hm:mg "parted"=some (.ref f))  (D_is_split:Df P w K mg base 4 "is_split" ["web","places"] yv)(D_other_side:Df P w K mg base 1 "other_side" ["web","places"] yL)(D_part_of:Df P w K mg base 4 "part_of" ["web","side","others"] wl)(m_NoSplit:mg "NoSplit"=some (.ref C_NoSplit))(x_NoSplit:zEG K C_NoSplit):Rz P w K mg base 5 "parted" ["web","places"] zAi C_NoSplit:=by
 have nd:=(zCj).nd
 refine zMd zCh F zCj hm (F.binds fun u0 u0 u0 u0 u0 u0 us hl=>us2 us hl fun u0 u0=>rfl) (fun cdv A outer s H E hr=>?_) zKr
 unfold zCh
 exact(zQ4 zC6 (zD4 (zA1 (za D_is_split hr (by decide) rfl (zC (zD 0) (zC (zD 1) zJ))))) (x_raise zC6 rfl m_NoSplit x_NoSplit.ex0 zQd))
theorem zEI{f C_TooMany:Addr}{fd:FuncData}(F:Fun K "put_together" "put_together" zr f fd)(hm:mg "put_together"=some (.ref f))(b_tuple:mg "tuple"=none)(b_sorted:mg "sorted"=none){gt_MOST_PLACES:Tok}(g_MOST_PLACES:mg "MOST_PLACES"=some (.int 9 gt_MOST_PLACES))(D_around:Df P w K mg base 2 "around" ["web","place"] wG)(Z_refuse_more:Rz P w K mg base 1 "refuse_more" ["many","most"] yn C_TooMany)(m_TooMany:mg "TooMany"=some (.ref C_TooMany))(x_TooMany:zEG K C_TooMany):Rz P w K mg base 3 "put_together" ["one","two"] yO C_TooMany:=by
 have nd:=(wc).nd
 refine zMd wb F wc hm (F.binds fun u0 u0 u0 u0 u0 u0 us hl=>us2 us hl fun u0 u0=>rfl) (fun cdv A outer s H E hr=>?_) zEH
 unfold wb
 exact(zOa zC6 (zx 2 nd (zA2 (zm (zD 0) zL) zL)) (zOa zC6 (zx 3 nd (zA2 (wM (zD 2) (zm (zD 1) zL)) zL)) (zP5 (zGg zC6 Z_refuse_more hr (by decide) rfl (zC (zD 3) (zC (zI5 rfl g_MOST_PLACES) zJ))))))
theorem zGj{f:Addr}{fd:FuncData}(F:Fun K "is_number" "is_number" wv f fd)(hm:mg "is_number"=some (.ref f))(b_isinstance:mg "isinstance"=none)(b_int:mg "int"=none)(b_bool:mg "bool"=none)   :Df P w K mg base 1 "is_number" ["thing"] yf:=by
 have nd:=(zDd).nd
 refine zz zBL F zDd hm (F.binds fun u0 u0 u0 u0 u0 u0 us hl=>us1 us hl fun u0=>rfl) (fun cdv A outer s H E hr=>?_) zHA
 unfold zBL
 exact(zT (zp (zFi (zDF (T:="int") rfl b_isinstance rfl b_int (by decide +kernel) (zD 0)) (zFh (zQj (zDF (T:="bool") rfl b_isinstance rfl b_bool (by decide +kernel) (zD 0)))))))
theorem zFX{f:Addr}{fd:FuncData}(F:Fun K "are_places" "are_places" wB f fd)(hm:mg "are_places"=some (.ref f))(b_isinstance:mg "isinstance"=none)(b_tuple:mg "tuple"=none)(b_all:mg "all"=none)   (D_is_number:Df P w K mg base 1 "is_number" ["thing"] yf):Df P w K mg base 2 "are_places" ["many","thing"] wH:=by
 have nd:=(zCv).nd
 refine zz zAp F zCv hm (F.binds fun u0 u0 u0 u0 u0 u0 us hl=>us2 us hl fun u0 u0=>rfl) (fun cdv A outer s H E hr=>?_) zGV
 unfold zAp
 exact(zT (zp (zFi (zDF (T:="tuple") rfl b_isinstance rfl b_tuple (by decide +kernel) (zD 1)) (zFh (zLf rfl rfl b_all (zBl "place" rfl (zg (osc:=zG wB) (N:=["many","thing"]) (N0:=["many","!01"]) (own:=["place"]) (by decide +kernel)) (wO (zD 1)) (fun u0 u0 u0 u0 u0=>zAP) (fun u0 u0 u0 u0 u0=>(zFi (za D_is_number hr (by decide) rfl (zC (zD 2) zJ)) (zFh (zLg zIo zGn (zAO fun u0 u0=>⟨rfl,rfl⟩) (zAO fun u0 u0=>⟨rfl,rfl⟩) zL (zD 2) (zD 0)))))))))))
theorem zFY{f:Addr}{fd:FuncData}(F:Fun K "is_rising" "is_rising" wC f fd)(hm:mg "is_rising"=some (.ref f))(b_all:mg "all"=none)(b_range:mg "range"=none)(b_len:mg "len"=none)   :Df P w K mg base 1 "is_rising" ["things"] wI:=by
 have nd:=(zCw).nd
 refine zz zAq F zCw hm (F.binds fun u0 u0 u0 u0 u0 u0 us hl=>us1 us hl fun u0=>rfl) (fun cdv A outer s H E hr=>?_) zGW
 unfold zAq
 exact(zT (zp (zLf rfl rfl b_all (zBl "k" rfl (zg (osc:=zG wC) (N:=["things"]) (N0:=["things"]) (own:=["k"]) (by decide +kernel)) (yY rfl b_range (zC (zA2 (wo rfl b_len (zC (zD 0) zJ)) zL) zJ)) (fun u0 u0 u0 u0 u0=>zAP) (fun u0 u0 u0 u0 u0=>(zQk (zm (zD 0) (zD 1)) (zm (zD 0) (wM (zD 1) zL))))))))
theorem zM5{f:Addr}{fd:FuncData}(F:Fun K "pairs" "pairs" zCi f fd)(hm:mg "pairs"=some (.ref f))(b_tuple:mg "tuple"=none)(b_range:mg "range"=none)   (D_pairs_of:Df P w K mg base 1 "pairs_of" ["places"] (spL yt)):Df P w K mg base 2 "pairs" ["many"] (spL zAC):=by
 have nd:=(zHn).nd
 refine zz zER F zHn hm (F.binds fun u0 u0 u0 u0 u0 u0 us hl=>us1 us hl fun u0=>rfl) (fun cdv A outer s H E hr=>?_) zNf
 unfold zER
 exact(zT (zp (yD (zDm D_pairs_of zFT hr (by decide) rfl (zC (zLa rfl rfl b_tuple rfl b_range (zC (zD 0) zJ)) zJ)))))
theorem zHp{f:Addr}{fd:FuncData}(F:Fun K "pairs_of" "pairs_of" zAV f fd)(hm:mg "pairs_of"=some (.ref f))(b_range:mg "range"=none)(b_len:mg "len"=none)   :Df P w K mg base 1 "pairs_of" ["places"] (spL yt):=by
 have nd:=(zD9).nd
 refine zz zBu F zD9 hm (F.binds fun u0 u0 u0 u0 u0 u0 us hl=>us1 us hl fun u0=>rfl) (fun cdv A outer s H E hr=>?_) zIE
 unfold zBu
 exact(zN (zx 1 nd (yD (zAJ zJ))) (zN (wj PassesOwn.never rfl (yY rfl b_range (zC (wo rfl b_len (zC (zD 0) zJ)) zJ)) (zAm 2 nd) (zT (wj PassesOwn.never rfl (zGs rfl b_range (zC (wM (zD 2) zL) (zC (wo rfl b_len (zC (zD 0) zJ)) zJ))) (zAm 3 nd) (zT (zA0 (zA4 (zD 1) (zC (yV (zC (zm (zD 0) (zD 2)) (zC (zm (zD 0) (zD 3)) zJ))) zJ))))))) (zT (zp (zD 1)))))
theorem zFN{f:Addr}{fd:FuncData}(F:Fun K "refuse_more" "refuse_more" yW f fd)(hm:mg "refuse_more"=some (.ref f))    :Df P w K mg base 1 "refuse_more" ["many","most"] wR:=by
 have nd:=(zAH).nd
 refine zz zAc F zAH hm (F.binds fun u0 u0 u0 u0 u0 u0 us hl=>us2 us hl fun u0 u0=>rfl) (fun cdv A outer s H E hr=>?_) zFW
 unfold zAc
 exact(zT (zAl (zJn (zD 0) (zD 1)) (zT zQz) yT))
theorem zOF{f:Addr}{fd:FuncData}(F:Fun K "tied" "tied" zD2 f fd)(hm:mg "tied"=some (.ref f))(b_min:mg "min"=none)(b_max:mg "max"=none)   :Df P w K mg base 1 "tied" ["web","one","other"] wT:=by
 have nd:=(zJZ).nd
 refine zz zGL F zJZ hm (F.binds fun u0 u0 u0 u0 u0 u0 us hl=>us3 us hl fun u0 u0 u0=>rfl) (fun cdv A outer s H E hr=>?_) zPa
 unfold zGL
 exact(zT (zp (zQl hr (yV (zC (zFk rfl rfl b_min (zC (zD 1) (zC (zD 2) zJ))) (zC (zGx rfl rfl b_max (zC (zD 1) (zC (zD 2) zJ))) zJ))) (zm (zD 0) zL))))
theorem zKu{f:Addr}{fd:FuncData}(F:Fun K "around" "around" zBB f fd)(hm:mg "around"=some (.ref f))(b_tuple:mg "tuple"=none)(b_range:mg "range"=none)   (D_tied:Df P w K mg base 1 "tied" ["web","one","other"] wT):Df P w K mg base 2 "around" ["web","place"] wG:=by
 have nd:=(zF4).nd
 refine zz zDL F zF4 hm (F.binds fun u0 u0 u0 u0 u0 u0 us hl=>us2 us hl fun u0 u0=>rfl) (fun cdv A outer s H E hr=>?_) zLh
 unfold zDL
 exact(zT (zp (wg rfl b_tuple (zBl "other" rfl (zg (osc:=zG zBB) (N:=["web","place"]) (N0:=["web","place"]) (own:=["other"]) (by decide +kernel)) (yY rfl b_range (zC (zm (zD 0) zL) zJ)) (fun u0 u0 u0 u0 u0=>(yx (zA1 (za D_tied hr (by decide) rfl (zC (zD 0) (zC (zD 1) (zC (zD 2) zJ))))))) (fun u0 u0 u0 u0 u0=>(zD 2))))))
theorem zOG{f:Addr}{fd:FuncData}(F:Fun K "kept" "kept" zC7 f fd)(hm:mg "kept"=some (.ref f))(b_len:mg "len"=none)(b_tuple:mg "tuple"=none)   (D_pairs:Df P w K mg base 2 "pairs" ["many"] (spL zAC))(D_tied:Df P w K mg base 1 "tied" ["web","one","other"] wT):Df P w K mg base 3 "kept" ["web","places"] zCW:=by
 have nd:=(zJa).nd
 refine zz zGQ F zJa hm (F.binds fun u0 u0 u0 u0 u0 u0 us hl=>us2 us hl fun u0 u0=>rfl) (fun cdv A outer s H E hr=>?_) zPf
 unfold zGQ
 exact(zN (zx 2 nd (wo rfl b_len (zC (zD 1) zJ))) (zN (zBm 3 "pair" rfl (zg (osc:=zG zC7) (N:=["web","places","many","ties"]) (N0:=["web","places","!02","!03"]) (own:=["pair"]) (by decide +kernel)) (zI0 (zDm D_pairs zEq hr (by decide) rfl (zC (zD 2) zJ))) (fun u0 u0 u0 u0 u0=>(yx (zA1 (za D_tied hr (by decide) rfl (zC (zD 0) (zC (zm (zD 1) (zm (zD 4) zL)) (zC (zm (zD 1) (zm (zD 4) zL)) zJ))))))) (fun u0 u0 u0 u0 u0=>(zD 4)) nd) (zT (zp (yV (zC (zD 2) (zC (zGJ rfl b_tuple (zC (zD 3) zJ)) zJ)))))))
theorem zFZ{f:Addr}{fd:FuncData}(F:Fun K "other_side" "other_side" wD f fd)(hm:mg "other_side"=some (.ref f))(b_tuple:mg "tuple"=none)(b_range:mg "range"=none)   :Df P w K mg base 1 "other_side" ["web","places"] yL:=by
 have nd:=(zCx).nd
 refine zz zAr F zCx hm (F.binds fun u0 u0 u0 u0 u0 u0 us hl=>us2 us hl fun u0 u0=>rfl) (fun cdv A outer s H E hr=>?_) zGa
 unfold zAr
 exact(zT (zp (wg rfl b_tuple (zBl "place" rfl (zg (osc:=zG wD) (N:=["web","places"]) (N0:=["!00","places"]) (own:=["place"]) (by decide +kernel)) (yY rfl b_range (zC (zm (zD 0) zL) zJ)) (fun u0 u0 u0 u0 u0=>(yx (zDE hr (zD 2) (zD 1)))) (fun u0 u0 u0 u0 u0=>(zD 2))))))
theorem zHq{f:Addr}{fd:FuncData}(F:Fun K "cut_rank" "cut_rank" zAW f fd)(hm:mg "cut_rank"=some (.ref f))(b_min:mg "min"=none)(b_len:mg "len"=none)   (D_other_side:Df P w K mg base 1 "other_side" ["web","places"] yL)(D_row_of:Df P w K mg base 2 "row_of" ["web","place","others"] wq):Df P w K mg base 3 "cut_rank" ["web","places"] wt:=by
 have nd:=(zEA).nd
 refine zz zB0 F zEA hm (F.binds fun u0 u0 u0 u0 u0 u0 us hl=>us2 us hl fun u0 u0=>rfl) (fun cdv A outer s H E hr=>?_) zIW
 unfold zB0
 exact(zN (zx 2 nd (za D_other_side hr (by decide) rfl (zC (zD 0) (zC (zD 1) zJ)))) (zN (zx 3 nd (yD (zAJ zJ))) (zN (wj PassesOwn.never rfl (wO (zD 1)) (zAm 4 nd) (zN (zx 5 nd (za D_row_of hr (by decide) rfl (zC (zD 0) (zC (zD 4) (zC (zD 2) zJ))))) (zN (wj PassesOwn.never rfl (wO (zD 3)) (zAm 6 nd) (zT (zx 5 nd (zFk rfl rfl b_min (zC (zD 5) (zC (zOX (zD 5) (zD 6)) zJ)))))) (zT (zAl (zEi hr (zD 5) zL) (zT (zA0 (zA4 (zD 3) (zC (zD 5) zJ)))) yT))))) (zT (zp (wo rfl b_len (zC (zD 3) zJ)))))))
theorem zKv{f:Addr}{fd:FuncData}(F:Fun K "row_of" "row_of" zBC f fd)(hm:mg "row_of"=some (.ref f))(b_sum:mg "sum"=none)   (D_tied:Df P w K mg base 1 "tied" ["web","one","other"] wT):Df P w K mg base 2 "row_of" ["web","place","others"] wq:=by
 have nd:=(zF5).nd
 refine zz zDU F zF5 hm (F.binds fun u0 u0 u0 u0 u0 u0 us hl=>us3 us hl fun u0 u0 u0=>rfl) (fun cdv A outer s H E hr=>?_) zMO
 unfold zDU
 exact(zT (zp (zNw rfl rfl b_sum (zBl "other" rfl (zg (osc:=zG zBC) (N:=["web","place","others"]) (N0:=["web","place","!02"]) (own:=["other"]) (by decide +kernel)) (wO (zD 2)) (fun u0 u0 u0 u0 u0=>(yx (zA1 (za D_tied hr (by decide) rfl (zC (zD 0) (zC (zD 1) (zC (zD 3) zJ))))))) (fun u0 u0 u0 u0 u0=>(zQ2 zL (zD 3)))))))
theorem zHr{f:Addr}{fd:FuncData}(F:Fun K "is_split" "is_split" zAX f fd)(hm:mg "is_split"=some (.ref f))(b_len:mg "len"=none)   (D_are_places:Df P w K mg base 2 "are_places" ["many","thing"] wH)(D_is_risingN:Df P w K mg base 1 "is_rising" ["things"] wI)(D_cut_rank:Df P w K mg base 3 "cut_rank" ["web","places"] wt):Df P w K mg base 4 "is_split" ["web","places"] yv:=by
 have nd:=(zEB).nd
 refine zz zB1 F zEB hm (F.binds fun u0 u0 u0 u0 u0 u0 us hl=>us2 us hl fun u0 u0=>rfl) (fun cdv A outer s H E hr=>?_) zIX
 unfold zB1
 exact(zN (zAl (W2.test (w_or (zD4 (zA1 (za D_are_places hr (by decide) rfl (zC (zm (zD 0) zL) (zC (zD 1) zJ))))) (zI1 (zD4 (zA1 (za D_is_risingN hr (by decide) rfl (zC (zD 1) zJ))))))) (zT (zp zGG)) yT) (zT (zp (zFi (zLg zIo zIo (zAO fun u0 u0=>⟨rfl,rfl⟩) (zAO fun u0 u0=>⟨rfl,rfl⟩) zL (wo rfl b_len (zC (zD 1) zJ)) (zA2 (zm (zD 0) zL) zL)) (zFh (zRV (za D_cut_rank hr (by decide) rfl (zC (zD 0) (zC (zD 1) zJ))) zL))))))
theorem zKw{f:Addr}{fd:FuncData}(F:Fun K "parted" "parted" zAj f fd)(hm:mg "parted"=some (.ref f))    (D_is_split:Df P w K mg base 4 "is_split" ["web","places"] yv)(D_other_side:Df P w K mg base 1 "other_side" ["web","places"] yL)(D_part_of:Df P w K mg base 4 "part_of" ["web","side","others"] wl):Df P w K mg base 5 "parted" ["web","places"] zBg:=by
 have nd:=(zCj).nd
 refine zz zDb F zCj hm (F.binds fun u0 u0 u0 u0 u0 u0 us hl=>us2 us hl fun u0 u0=>rfl) (fun cdv A outer s H E hr=>?_) zMy
 unfold zDb
 exact(zN (zAl (zD4 (zA1 (za D_is_split hr (by decide) rfl (zC (zD 0) (zC (zD 1) zJ))))) (zT zQz) yT) (zN (zx 2 nd (za D_other_side hr (by decide) rfl (zC (zD 0) (zC (zD 1) zJ)))) (zT (zp (yV (zC (za D_part_of hr (by decide) rfl (zC (zD 0) (zC (zD 1) (zC (zD 2) zJ)))) (zC (za D_part_of hr (by decide) rfl (zC (zD 0) (zC (zD 2) (zC (zD 1) zJ)))) zJ)))))))
theorem zId{f:Addr}{fd:FuncData}(F:Fun K "part_of" "part_of" zAv f fd)(hm:mg "part_of"=some (.ref f))(b_len:mg "len"=none)(b_list:mg "list"=none)(b_range:mg "range"=none)(b_tuple:mg "tuple"=none)(b_sorted:mg "sorted"=none)   (D_kept:Df P w K mg base 3 "kept" ["web","places"] zCW)(D_row_of:Df P w K mg base 2 "row_of" ["web","place","others"] wq):Df P w K mg base 4 "part_of" ["web","side","others"] wl:=by
 have nd:=(zFF).nd
 refine zz zCg F zFF hm (F.binds fun u0 u0 u0 u0 u0 u0 us hl=>us3 us hl fun u0 u0 u0=>rfl) (fun cdv A outer s H E hr=>?_) zKo
 unfold zCg
 exact(zN (zx 3 nd (wo rfl b_len (zC (zD 1) zJ))) (zN (zx 4 nd (yD (zLZ rfl b_list (zC (zm (za D_kept hr (by decide) rfl (zC (zD 0) (zC (zD 1) zJ))) zL) zJ)))) (zN (wj PassesOwn.never rfl (yY rfl b_range (zC (zD 3) zJ)) (zAm 5 nd) (zT (zAl (zEi hr (za D_row_of hr (by decide) rfl (zC (zD 0) (zC (zm (zD 1) (zD 5)) (zC (zD 2) zJ)))) zL) (zT (zA0 (zA4 (zD 4) (zC (yV (zC (zD 5) (zC (zD 3) zJ))) zJ)))) yT))) (zT (zp (yV (zC (wM (zD 3) zL) (zC (wg rfl b_tuple (zCY rfl b_sorted (zC (zD 4) zJ))) zJ))))))))
theorem zEJ{f:Addr}{fd:FuncData}(F:Fun K "put_together" "put_together" zr f fd)(hm:mg "put_together"=some (.ref f))(b_tuple:mg "tuple"=none)(b_sorted:mg "sorted"=none){gt_MOST_PLACES:Tok}(g_MOST_PLACES:mg "MOST_PLACES"=some (.int 9 gt_MOST_PLACES))  (D_refuse_more:Df P w K mg base 1 "refuse_more" ["many","most"] wR)(D_around:Df P w K mg base 2 "around" ["web","place"] wG):Df P w K mg base 3 "put_together" ["one","two"] yb:=by
 have nd:=(wc).nd
 refine zz zAG F wc hm (F.binds fun u0 u0 u0 u0 u0 u0 us hl=>us2 us hl fun u0 u0=>rfl) (fun cdv A outer s H E hr=>?_) zFE
 unfold zAG
 exact(zN (zx 2 nd (zA2 (zm (zD 0) zL) zL)) (zN (zx 3 nd (zA2 (wM (zD 2) (zm (zD 1) zL)) zL)) (zN (zA0 (za D_refuse_more hr (by decide) rfl (zC (zD 3) (zC (zI5 rfl g_MOST_PLACES) zJ)))) (zN (zBm 4 "tie" rfl (zg (osc:=zG zr) (N:=["one","two","ahead","many","ties","place"]) (N0:=["!00","!01","ahead","!03","!04","!05"]) (own:=["tie"]) (by decide +kernel)) (wO (zm (zD 0) zL)) (fun u0 u0 u0 u0 u0=>(yx (zLP (zm (zD 6) zL) (zD 2)))) (fun u0 u0 u0 u0 u0=>(zD 6)) nd) (zN (zA0 (zEn (zD 4) (zBl "tie" rfl (zg (osc:=zG zr) (N:=["one","two","ahead","many","ties","place"]) (N0:=["!00","two","ahead","!03","!04","!05"]) (own:=["tie"]) (by decide +kernel)) (wO (zm (zD 1) zL)) (fun u0 u0 u0 u0 u0=>(yx (zLP (zm (zD 6) zL) (zA2 (zm (zD 1) zL) zL)))) (fun u0 u0 u0 u0 u0=>(yV (zC (wM (zm (zD 6) zL) (zD 2)) (zC (wM (zm (zD 6) zL) (zD 2)) zJ))))))) (zN (wj PassesOwn.never rfl (wO (za D_around hr (by decide) rfl (zC (zD 0) (zC (zD 2) zJ)))) (zAm 5 nd) (zT (zA0 (zEn (zD 4) (zBl "other" rfl (zg (osc:=zG zr) (N:=["one","two","ahead","many","ties","place"]) (N0:=["!00","!01","ahead","!03","!04","place"]) (own:=["other"]) (by decide +kernel)) (wO (za D_around hr (by decide) rfl (zC (zD 1) (zC (zA2 (zm (zD 1) zL) zL) zJ)))) (fun u0 u0 u0 u0 u0=>zAP) (fun u0 u0 u0 u0 u0=>(yV (zC (zD 5) (zC (wM (zD 6) (zD 2)) zJ))))))))) (zT (zp (yV (zC (zD 3) (zC (wg rfl b_tuple (zCY rfl b_sorted (zC (zD 4) zJ))) zJ)))))))))))
theorem zGk{f:Addr}{fd:FuncData}(F:Fun K "_law_cell_at" "_law_cell_at" ww f fd)(hm:mg "_law_cell_at"=some (.ref f))(b_len:mg "len"=none)   :Df P w K mg base 1 "_law_cell_at" ["script","k"] zAE:=by
 have nd:=(zDe).nd
 refine zz zBJ F zDe hm (F.binds fun u0 u0 u0 u0 u0 u0 us hl=>us2 us hl fun u0 u0=>rfl) (fun cdv A outer s H E hr=>?_) zG6
 unfold zBJ
 exact(zN (zAl (zLP (zD 1) (wo rfl b_len (zC (zD 0) zJ))) (zT (zp (zm (zD 0) (zD 1)))) yT) (zT (zp zL)))
theorem zIe{f:Addr}{fd:FuncData}(F:Fun K "_law_state" "_law_state" zAw f fd)(hm:mg "_law_state"=some (.ref f))    (D_l_cell_at:Df P w K mg base 1 "_law_cell_at" ["script","k"] zAE):Df P w K mg base 2 "_law_state" ["script","k"] (spL yy):=by
 have nd:=(zFG).nd
 refine zz zCT F zFG hm (F.binds fun u0 u0 u0 u0 u0 u0 us hl=>us2 us hl fun u0 u0=>rfl) (fun cdv A outer s H E hr=>?_) zJ1
 unfold zCT
 exact(zN (zx 2 nd (za D_l_cell_at hr (by decide) rfl (zC (zD 0) (zC (zD 1) zJ)))) (zN (zAl (zRW (zD 2) (zOM zL zL)) (zT (zp (yD (zAJ (zC (zA2 (zD 2) (zOM zL zL)) (zC zGG zJ)))))) yT) (zT (zp (yD (zAJ (zC (zEf (zD 2) zL) (zC zGG zJ))))))))
theorem zKx{f:Addr}{fd:FuncData}(F:Fun K "_law_take" "_law_take" zBh f fd)(hm:mg "_law_take"=some (.ref f))    :Df P w K mg base 1 "_law_take" ["state","many"] zy:=by
 have nd:=(zF6).nd
 refine zz zDM F zF6 hm (F.binds fun u0 u0 u0 u0 u0 u0 us hl=>us2 us hl fun u0 u0=>rfl) (fun cdv A outer s H E hr=>?_) zLj
 unfold zDM
 exact(zN (zAl (zA1 (zm (zD 0) zL)) (zN (zx 2 nd (zEf (zm (zD 0) zL) (zD 1))) (zN (zLK (zH0 (zm (zD 0) zL) (zD 1)) (zQf (zD 0) zL)) (zT (zp (zD 2))))) yT) (zN (zLK (zEf (wM (zDo (zm (zD 0) zL) zL) zL) zL) (zQf (zD 0) zL)) (zN (zx 3 nd (zEf (wM (wM (zDo (zm (zD 0) zL) (zm (zD 0) zL)) (zDo zL (zm (zD 0) zL))) zL) zL)) (zN (zx 3 nd (zEf (wM (zDo (zD 3) (zD 3)) (zDo zL (zD 3))) zL)) (zT (zp (zEf (zH0 (zD 3) zL) (zD 1))))))))
theorem zIf{f:Addr}{fd:FuncData}(F:Fun K "_law_pairs" "_law_pairs" zAY f fd)(hm:mg "_law_pairs"=some (.ref f))(b_range:mg "range"=none)   :Df P w K mg base 1 "_law_pairs" ["many"] (spL yQ):=by
 have nd:=(zFH).nd
 refine zz zCV F zFH hm (F.binds fun u0 u0 u0 u0 u0 u0 us hl=>us1 us hl fun u0=>rfl) (fun cdv A outer s H E hr=>?_) zJ3
 unfold zCV
 exact(zN (zx 1 nd (yD (zAJ zJ))) (zN (wj PassesOwn.never rfl (yY rfl b_range (zC (zD 0) zJ)) (zAm 2 nd) (zT (zA0 (zEn (zD 1) (zBl "other" rfl (zg (osc:=zG zAY) (N:=["many","found","one"]) (N0:=["!00","!01","one"]) (own:=["other"]) (by decide +kernel)) (zGs rfl b_range (zC (wM (zD 2) zL) (zC (zD 0) zJ))) (fun u0 u0 u0 u0 u0=>zAP) (fun u0 u0 u0 u0 u0=>(yV (zC (zD 2) (zC (zD 3) zJ))))))))) (zT (zp (zD 1)))))
theorem zM6{f:Addr}{fd:FuncData}(F:Fun K "_law_web" "_law_web" zBQ f fd)(hm:mg "_law_web"=some (.ref f))(b_tuple:mg "tuple"=none)   (D_l_take:Df P w K mg base 1 "_law_take" ["state","many"] zy)(D_l_pairs:Df P w K mg base 1 "_law_pairs" ["many"] (spL yQ))(D_l_ring:Df P w K mg base 2 "_law_ring" ["state","many"] zBY)(D_l_web_of:Df P w K mg base 2 "_law_web_of" ["ring"] zAg):Df P w K mg base 3 "_law_web" ["state","most"] wY:=by
 have nd:=(zHo).nd
 refine zz zES F zHo hm (F.binds fun u0 u0 u0 u0 u0 u0 us hl=>us2 us hl fun u0 u0=>rfl) (fun cdv A outer s H E hr=>?_) zNi
 unfold zES
 exact(zN (zx 2 nd (wM zL (za D_l_take hr (by decide) rfl (zC (zD 0) (zC (zD 1) zJ))))) (zN (zx 3 nd (za D_l_take hr (by decide) rfl (zC (zD 0) (zC zL zJ)))) (zN (zx 4 nd (yD (zDm D_l_pairs zBt hr (by decide) rfl (zC (zD 2) zJ)))) (zN (zAl (zH3 hr (zD 3) zL) (zT (zp (za D_l_web_of hr (by decide) rfl (zC (za D_l_ring hr (by decide) rfl (zC (zD 0) (zC (zD 2) zJ))) zJ)))) yT) (zN (zAl (zH3 hr (zD 3) zL) (zT (zp (yV (zC (zD 2) (zC (wg rfl b_tuple (zBl "pair" rfl (zg (osc:=zG zBQ) (N:=["state","most","many","way","pairs_v","far"]) (N0:=["state","!01","!02","!03","!04","!05"]) (own:=["pair"]) (by decide +kernel)) (wO (zD 4)) (fun u0 u0 u0 u0 u0=>(yx (W2.test (w_or (zH3 hr (zm (zD 6) zL) (wM (zm (zD 6) zL) zL)) (zI1 (zH3 hr (za D_l_take hr (by decide) rfl (zC (zD 0) (zC zL zJ))) zL)))))) (fun u0 u0 u0 u0 u0=>(zD 6)))) zJ))))) yT) (zN (zx 5 nd (zm (yD (zAJ (zC zL (zC zL (zC zL zJ))))) (zA2 (zD 3) zL))) (zT (zp (yV (zC (zD 2) (zC (wg rfl b_tuple (zBl "pair" rfl (zg (osc:=zG zBQ) (N:=["state","most","many","way","pairs_v","far"]) (N0:=["state","!01","!02","!03","!04","far"]) (own:=["pair"]) (by decide +kernel)) (wO (zD 4)) (fun u0 u0 u0 u0 u0=>(yx (zH3 hr (za D_l_take hr (by decide) rfl (zC (zD 0) (zC (zD 5) zJ))) zL))) (fun u0 u0 u0 u0 u0=>(zD 6)))) zJ)))))))))))
theorem zKy{f:Addr}{fd:FuncData}(F:Fun K "_law_ring" "_law_ring" zBD f fd)(hm:mg "_law_ring"=some (.ref f))(b_list:mg "list"=none)(b_range:mg "range"=none)(b_tuple:mg "tuple"=none)(b_len:mg "len"=none)   (D_l_take:Df P w K mg base 1 "_law_take" ["state","many"] zy):Df P w K mg base 2 "_law_ring" ["state","many"] zBY:=by
 have nd:=(zF7).nd
 refine zz zDO F zF7 hm (F.binds fun u0 u0 u0 u0 u0 u0 us hl=>us2 us hl fun u0 u0=>rfl) (fun cdv A outer s H E hr=>?_) zLm
 unfold zDO
 exact(zN (zx 2 nd (yD (zQm (yD (zI2 rfl rfl b_list rfl b_range (zC (zD 1) zJ))) zL))) (zT (zp (wg rfl b_tuple (zBl "k" rfl (zg (osc:=zG zBD) (N:=["state","many","left"]) (N0:=["state","!01","left"]) (own:=["k"]) (by decide +kernel)) (yY rfl b_range (zC (zDo zL (zD 1)) zJ)) (fun u0 u0 u0 u0 u0=>zAP) (fun u0 u0 u0 u0 u0=>(zOO (zD 2) (zC (za D_l_take hr (by decide) rfl (zC (zD 0) (zC (wo rfl b_len (zC (zD 2) zJ)) zJ))) zJ))))))))
theorem zHs{f:Addr}{fd:FuncData}(F:Fun K "_law_web_of" "_law_web_of" wm f fd)(hm:mg "_law_web_of"=some (.ref f))(b_len:mg "len"=none)(b_tuple:mg "tuple"=none)   (D_l_pairs:Df P w K mg base 1 "_law_pairs" ["many"] (spL yQ)):Df P w K mg base 2 "_law_web_of" ["ring"] zAg:=by
 have nd:=(zEC).nd
 refine zz zBx F zEC hm (F.binds fun u0 u0 u0 u0 u0 u0 us hl=>us1 us hl fun u0=>rfl) (fun cdv A outer s H E hr=>?_) zIF
 unfold zBx
 exact(zN (zx 1 nd (zH0 (wo rfl b_len (zC (zD 0) zJ)) zL)) (zN (zx 2 nd (yD (zAJ zJ))) (zN (wj PassesOwn.never rfl (zI0 (zDm D_l_pairs zBt hr (by decide) rfl (zC (zD 1) zJ))) (zIz 3 4 rfl nd) (zN (zBm 5 "place" rfl (zg (osc:=zG wm) (N:=["ring","many","found","one","other","some"]) (N0:=["!00","!01","!02","one","other","!05"]) (own:=["place"]) (by decide +kernel)) (wO (zD 0)) (fun u0 u0 u0 u0 u0=>(yx (zPV hr (zD 6) (yV (zC (zD 3) (zC (zD 4) zJ)))))) (fun u0 u0 u0 u0 u0=>(zD 6)) nd) (zT (zAl (W2.test (w_and (zEi hr (zm (zD 5) zL) (zm (zD 5) zL)) (zLO (zEi hr (zm (zD 5) zL) (zm (zD 5) zL))))) (zT (zA0 (zA4 (zD 2) (zC (yV (zC (zD 3) (zC (zD 4) zJ))) zJ)))) yT)))) (zT (zp (yV (zC (zD 1) (zC (zGJ rfl b_tuple (zC (zD 2) zJ)) zJ))))))))
theorem zIg{k:Nat}{f:Addr}{fd:FuncData}(F:Fun K "_law_same" "_law_same" yo f fd)(hm:mg "_law_same"=some (.ref f)):Df P w K mg base (k+1) "_law_same" ["found","due"] (zq 0):=by
 refine zz (fun u0 u0 u0=>False) F zD3 hm (F.binds fun u0 u0 u0 u0 u0 u0 us hl=>us2 us hl fun u0 u0=>rfl) (fun cdv A outer s H E hr=>?_) (fun u0 u0 u0 h=>(zKS h).elim)
 exact zQs
theorem zBi{k d:Nat}{f:Addr}{fd:FuncData}(F:Fun K "_law_same" "_law_same" yo f fd)(hm:mg "_law_same"=some (.ref f))(b_isinstance:mg "isinstance"=none)(b_tuple:mg "tuple"=none)(b_list:mg "list"=none)(b_len:mg "len"=none)(b_all:mg "all"=none)(b_zip:mg "zip"=none)(b_bool:mg "bool"=none)(D_l_same:Df P w K mg base k "_law_same" ["found","due"] (zq d)):Df P w K mg base (k+1) "_law_same" ["found","due"] (zq (d+1)):=by
 have nd:=(zD3).nd
 refine zz (zBd d) F zD3 hm (F.binds fun u0 u0 u0 u0 u0 u0 us hl=>us2 us hl fun u0 u0=>rfl) (fun cdv A outer s H E hr=>?_) (zMH d)
 unfold zBd
 exact(zN (zAl (zA1 (zPm rfl b_isinstance rfl b_tuple rfl b_list (zD 1))) (zN (zAl (W2.test (w_or (zEi hr (zDF (T:="tuple") rfl b_isinstance rfl b_tuple (by decide +kernel) (zD 0)) (zDF (T:="tuple") rfl b_isinstance rfl b_tuple (by decide +kernel) (zD 1))) (zI1 (zEi hr (zDF (T:="list") rfl b_isinstance rfl b_list (by decide +kernel) (zD 0)) (zDF (T:="list") rfl b_isinstance rfl b_list (by decide +kernel) (zD 1)))))) (zT (zp zGG)) yT) (zN (zAl (zEi hr (wo rfl b_len (zC (zD 0) zJ)) (wo rfl b_len (zC (zD 1) zJ))) (zT (zp zGG)) yT) (zT (zp (zLf rfl rfl b_all (zLW "one" "other" rfl (zg (osc:=zG yo) (N:=["found","due"]) (N0:=["!00","!01"]) (own:=["one","other"]) (by decide +kernel)) (zOV rfl b_zip (zC (zD 0) (zC (zD 1) zJ))) (fun u0 u0 u0 u0 u0=>zAP) (fun u0 u0 u0 u0 u0=>(za D_l_same hr (by (first|lia|omega)) rfl (zC (zD 2) (zC (zD 3) zJ)))))))))) yT) (zT (zp (zFi (zPU hr (zD 0) (zD 1)) (zFh (zPU hr (zDF (T:="bool") rfl b_isinstance rfl b_bool (by decide +kernel) (zD 0)) (zDF (T:="bool") rfl b_isinstance rfl b_bool (by decide +kernel) (zD 1))))))))
theorem zIh{f:Addr}{fd:FuncData}(F:Fun K "_law_kept" "_law_kept" zAx f fd)(hm:mg "_law_kept"=some (.ref f))(b_len:mg "len"=none)(b_min:mg "min"=none)(b_max:mg "max"=none)(b_tuple:mg "tuple"=none)   (D_l_pairs:Df P w K mg base 1 "_law_pairs" ["many"] (spL yQ)):Df P w K mg base 2 "_law_kept" ["web","places"] zBA:=by
 have nd:=(zFI).nd
 refine zz zCf F zFI hm (F.binds fun u0 u0 u0 u0 u0 u0 us hl=>us2 us hl fun u0 u0=>rfl) (fun cdv A outer s H E hr=>?_) zKn
 unfold zCf
 exact(zN (zx 2 nd (yD (zAJ zJ))) (zN (wj PassesOwn.never rfl (zI0 (zDm D_l_pairs zBt hr (by decide) rfl (zC (wo rfl b_len (zC (zD 1) zJ)) zJ))) (zIz 3 4 rfl nd) (zN (zx 5 nd (yV (zC (zFk rfl rfl b_min (zC (zm (zD 1) (zD 3)) (zC (zm (zD 1) (zD 4)) zJ))) (zC (zGx rfl rfl b_max (zC (zm (zD 1) (zD 3)) (zC (zm (zD 1) (zD 4)) zJ))) zJ)))) (zT (zAl (zPV hr (zD 5) (zm (zD 0) zL)) (zT (zA0 (zA4 (zD 2) (zC (yV (zC (zD 3) (zC (zD 4) zJ))) zJ)))) yT)))) (zT (zp (yV (zC (wo rfl b_len (zC (zD 1) zJ)) (zC (zGJ rfl b_tuple (zC (zD 2) zJ)) zJ)))))))
theorem zKz{f:Addr}{fd:FuncData}(F:Fun K "_law_rank" "_law_rank" zAI f fd)(hm:mg "_law_rank"=some (.ref f))(b_range:mg "range"=none)(b_len:mg "len"=none)(b_tuple:mg "tuple"=none)(b_int:mg "int"=none)(b_min:mg "min"=none)(b_max:mg "max"=none)(b_zip:mg "zip"=none)   :Df P w K mg base 1 "_law_rank" ["web","places"] zAt:=by
 have nd:=(zF8).nd
 refine zz zDV F zF8 hm (F.binds fun u0 u0 u0 u0 u0 u0 us hl=>us2 us hl fun u0 u0=>rfl) (fun cdv A outer s H E hr=>?_) zMS
 unfold zDV
 exact(zN (zBm 2 "place" rfl (zg (osc:=zG zAI) (N:=["web","places","rest","span","found","place","row"]) (N0:=["!00","places","!02","!03","!04","!05","!06"]) (own:=["place"]) (by decide +kernel)) (yY rfl b_range (zC (zm (zD 0) zL) zJ)) (fun u0 u0 u0 u0 u0=>(yx (zDE hr (zD 7) (zD 1)))) (fun u0 u0 u0 u0 u0=>(zD 7)) nd) (zN (zx 3 nd (yD (zAJ (zC (zPy (yV (zC zL zJ)) (wo rfl b_len (zC (zD 2) zJ))) zJ)))) (zN (zx 4 nd zL) (zN (wj PassesOwn.never rfl (wO (zD 1)) (zAm 5 nd) (zN (zx 6 nd (wg rfl b_tuple (zBl "other" rfl (zg (osc:=zG zAI) (N:=["web","places","rest","span","found","place","row"]) (N0:=["web","!01","!02","!03","!04","place","!06"]) (own:=["other"]) (by decide +kernel)) (wO (zD 2)) (fun u0 u0 u0 u0 u0=>zAP) (fun u0 u0 u0 u0 u0=>(zPo rfl b_int (zC (zQl hr (yV (zC (zFk rfl rfl b_min (zC (zD 5) (zC (zD 7) zJ))) (zC (zGx rfl rfl b_max (zC (zD 5) (zC (zD 7) zJ))) zJ))) (zm (zD 0) zL)) zJ)))))) (zT (zAl (zDE hr (zD 6) (zD 3)) (zN (zx 3 nd (yD (zFn (zD 3) (yD (zBl "some" rfl (zg (osc:=zG zAI) (N:=["web","places","rest","span","found","place","row"]) (N0:=["!00","!01","!02","!03","!04","!05","row"]) (own:=["some"]) (by decide +kernel)) (wO (zD 3)) (fun u0 u0 u0 u0 u0=>zAP) (fun u0 u0 u0 u0 u0=>(wg rfl b_tuple (zLW "one" "more" rfl (zHO (N:=["!00","!01","!02","!03","!04","!05","row","some"]) (N0:=["!10","!11","!12","!13","!14","!15","!16","!17"]) (own:=["one","more"]) (by kernel_rfl)) (zOV rfl b_zip (zC (zD 6) (zC (zD 7) zJ))) (fun u0 u0 u0 u0 u0=>zAP) (fun u0 u0 u0 u0 u0=>(zEf (wM (zD 8) (zD 9)) zL)))))))))) (zT (zx 4 nd (wM (zD 4) zL)))) yT)))) (zT (zp (zD 4)))))))
theorem zIi{f:Addr}{fd:FuncData}(F:Fun K "_law_split" "_law_split" zAy f fd)(hm:mg "_law_split"=some (.ref f))(b_len:mg "len"=none)   (D_l_rank:Df P w K mg base 1 "_law_rank" ["web","places"] zAt):Df P w K mg base 2 "_law_split" ["web","places"] wA:=by
 have nd:=(zFJ).nd
 refine zz zCe F zFJ hm (F.binds fun u0 u0 u0 u0 u0 u0 us hl=>us2 us hl fun u0 u0=>rfl) (fun cdv A outer s H E hr=>?_) zKc
 unfold zCe
 exact(zT (zp (zFi (zLg zGn zGn (zAO fun u0 u0=>⟨rfl,rfl⟩) (zAO fun u0 u0=>⟨rfl,rfl⟩) zL (wo rfl b_len (zC (zD 1) zJ)) (zA2 (zm (zD 0) zL) zL)) (zFh (zQk (za D_l_rank hr (by decide) rfl (zC (zD 0) (zC (zD 1) zJ))) zL)))))
theorem zK0{f:Addr}{fd:FuncData}(F:Fun K "_law_side" "_law_side" zBE f fd)(hm:mg "_law_side"=some (.ref f))(b_tuple:mg "tuple"=none)(b_range:mg "range"=none)   (D_l_take:Df P w K mg base 1 "_law_take" ["state","many"] zy):Df P w K mg base 2 "_law_side" ["state","many"] zBf:=by
 have nd:=(zF9).nd
 refine zz zDX F zF9 hm (F.binds fun u0 u0 u0 u0 u0 u0 us hl=>us2 us hl fun u0 u0=>rfl) (fun cdv A outer s H E hr=>?_) zMa
 unfold zDX
 exact(zT (zp (wg rfl b_tuple (zBl "place" rfl (zg (osc:=zG zBE) (N:=["state","many"]) (N0:=["state","!01"]) (own:=["place"]) (by decide +kernel)) (yY rfl b_range (zC (zD 1) zJ)) (fun u0 u0 u0 u0 u0=>(yx (zH3 hr (za D_l_take hr (by decide) rfl (zC (zD 0) (zC zL zJ))) zL))) (fun u0 u0 u0 u0 u0=>(zD 2))))))
theorem zIj{f:Addr}{fd:FuncData}(F:Fun K "_law_glued" "_law_glued" wJ f fd)(hm:mg "_law_glued"=some (.ref f))(b_tuple:mg "tuple"=none)(b_sorted:mg "sorted"=none)   :Df P w K mg base 1 "_law_glued" ["one","two"] wQ:=by
 have nd:=(zFK).nd
 refine zz zCc F zFK hm (F.binds fun u0 u0 u0 u0 u0 u0 us hl=>us2 us hl fun u0 u0=>rfl) (fun cdv A outer s H E hr=>?_) zKZ
 unfold zCc
 exact(zN (zx 2 nd (zA2 (zm (zD 0) zL) zL)) (zN (zN6 3 "web" rfl (zKY (osc:=zG wJ) (N:=["one","two","more","near","found","a"]) (N0:=["!00","!01","!02","!03","!04","a"]) (z:="web") (by decide +kernel) (fun u0 u0=>rfl) (fun u0=>rfl)) (wO (yV (zC (zD 0) (zC (zD 1) zJ)))) (fun u0 u0 u0 u0 u0=>zAP) (fun u0 u0 u0 u0 u0=>(yD (zLW "a" "b" rfl (zHO (N:=["!00","!01","!02","!03","!04","a","web"]) (N0:=["!10","!11","!12","!13","!14","!15","web"]) (own:=["a","b"]) (by kernel_rfl)) (wO (zm (zD 6) zL)) (fun u0 u0 u0 u0 u0=>(yx (zH3 hr (zD 8) (zA2 (zm (zD 6) zL) zL)))) (fun u0 u0 u0 u0 u0=>(zD 7))))) nd) (zN (zBm 4 "tie" rfl (zg (osc:=zG wJ) (N:=["one","two","more","near","found","a"]) (N0:=["!00","!01","more","!03","!04","!05"]) (own:=["tie"]) (by decide +kernel)) (wO (zm (zD 0) zL)) (fun u0 u0 u0 u0 u0=>(yx (zEi hr (zm (zD 6) zL) (zD 2)))) (fun u0 u0 u0 u0 u0=>(zD 6)) nd) (zN (zx 4 nd (yD (zFn (zD 4) (yD (zLW "a" "b" rfl (zg (osc:=zG wJ) (N:=["one","two","more","near","found","a"]) (N0:=["!00","two","more","!03","!04","!05"]) (own:=["a","b"]) (by decide +kernel)) (wO (zm (zD 1) zL)) (fun u0 u0 u0 u0 u0=>(yx (zEi hr (zD 7) (zA2 (zm (zD 1) zL) zL)))) (fun u0 u0 u0 u0 u0=>(yV (zC (wM (zD 6) (zD 2)) (zC (wM (zD 7) (zD 2)) zJ))))))))) (zN (wj PassesOwn.never rfl (wO (zm (zD 3) zL)) (zAm 5 nd) (zT (zx 4 nd (yD (zFn (zD 4) (yD (zBl "b" rfl (zg (osc:=zG wJ) (N:=["one","two","more","near","found","a"]) (N0:=["!00","!01","more","!03","!04","a"]) (own:=["b"]) (by decide +kernel)) (wO (zm (zD 3) zL)) (fun u0 u0 u0 u0 u0=>zAP) (fun u0 u0 u0 u0 u0=>(yV (zC (zD 5) (zC (wM (zD 6) (zD 2)) zJ))))))))))) (zT (zp (yV (zC (zA2 (wM (zD 2) (zm (zD 1) zL)) zL) (zC (wg rfl b_tuple (zCY rfl b_sorted (zC (zD 4) zJ))) zJ))))))))))
theorem zIk{f:Addr}{fd:FuncData}(F:Fun K "_law_loose" "_law_loose" wx f fd)(hm:mg "_law_loose"=some (.ref f))(b_list:mg "list"=none)(b_range:mg "range"=none)(b_len:mg "len"=none)(b_tuple:mg "tuple"=none)(b_sorted:mg "sorted"=none)   (D_l_web:Df P w K mg base 3 "_law_web" ["state","most"] wY)(D_l_glued:Df P w K mg base 1 "_law_glued" ["one","two"] wQ)(D_l_take:Df P w K mg base 1 "_law_take" ["state","many"] zy):Df P w K mg base 4 "_law_loose" ["state","most"] zA8:=by
 have nd:=(zFL).nd
 refine zz zCd F zFL hm (F.binds fun u0 u0 u0 u0 u0 u0 us hl=>us2 us hl fun u0 u0=>rfl) (fun cdv A outer s H E hr=>?_) zKb
 unfold zCd
 exact(zN (zQr 2 3 rfl nd (zC (za D_l_web hr (by decide) rfl (zC (zD 0) (zC (zD 1) zJ))) (zC (za D_l_web hr (by decide) rfl (zC (zD 0) (zC (zD 1) zJ))) zJ))) (zN (zAl (W2.test (w_or (zLP (zm (zD 2) zL) zL) (w_or (zLP (zm (zD 3) zL) zL) (zI1 (zJn (wM (zm (zD 2) zL) (zm (zD 3) zL)) zL))))) (zT (zp (zD 2))) yT) (zN (zx 4 nd (za D_l_glued hr (by decide) rfl (zC (zD 2) (zC (zD 3) zJ)))) (zN (zx 5 nd (yD (zI2 rfl rfl b_list rfl b_range (zC (zm (zD 4) zL) zJ)))) (zN (zx 6 nd (yD (zBl "k" rfl (zg (osc:=zG wx) (N:=["state","most","one","two","web","left","order"]) (N0:=["state","!01","!02","!03","!04","left","!06"]) (own:=["k"]) (by decide +kernel)) (yY rfl b_range (zC (zm (zD 4) zL) zJ)) (fun u0 u0 u0 u0 u0=>zAP) (fun u0 u0 u0 u0 u0=>(zOO (zD 5) (zC (za D_l_take hr (by decide) rfl (zC (zD 0) (zC (wo rfl b_len (zC (zD 5) zJ)) zJ))) zJ)))))) (zT (zp (yV (zC (zm (zD 4) zL) (zC (wg rfl b_tuple (zIM rfl b_sorted (zLW "a" "b" rfl (zg (osc:=zG wx) (N:=["state","most","one","two","web","left","order"]) (N0:=["!00","!01","!02","!03","!04","!05","order"]) (own:=["a","b"]) (by decide +kernel)) (wO (zm (zD 4) zL)) (fun u0 u0 u0 u0 u0=>zAP) (fun u0 u0 u0 u0 u0=>(wg rfl b_tuple (zJs rfl b_sorted (zAJ (zC (zm (zD 6) (zD 7)) (zC (zm (zD 6) (zD 8)) zJ))))))))) zJ))))))))))
theorem zK1{f:Addr}{fd:FuncData}(F:Fun K "_law_half" "_law_half" zAk f fd)(hm:mg "_law_half"=some (.ref f))(b_range:mg "range"=none)(b_list:mg "list"=none)(b_enumerate:mg "enumerate"=none)(b_min:mg "min"=none)(b_max:mg "max"=none)(b_len:mg "len"=none)(b_tuple:mg "tuple"=none)(b_sorted:mg "sorted"=none)   (D_l_kept2:Df P w K mg base 2 "_law_kept" ["web","places"] zBA):Df P w K mg base 3 "_law_half" ["web","side"] wu:=by
 have nd:=(zGA).nd
 refine zz zDa F zGA hm (F.binds fun u0 u0 u0 u0 u0 u0 us hl=>us2 us hl fun u0 u0=>rfl) (fun cdv A outer s H E hr=>?_) zMw
 unfold zDa
 exact(zN (zBm 2 "place" rfl (zg (osc:=zG zAk) (N:=["web","side","rest","found","number","place"]) (N0:=["!00","side","!02","!03","!04","!05"]) (own:=["place"]) (by decide +kernel)) (yY rfl b_range (zC (zm (zD 0) zL) zJ)) (fun u0 u0 u0 u0 u0=>(yx (zDE hr (zD 6) (zD 1)))) (fun u0 u0 u0 u0 u0=>(zD 6)) nd) (zN (zx 3 nd (yD (zLZ rfl b_list (zC (zm (za D_l_kept2 hr (by decide) rfl (zC (zD 0) (zC (zD 1) zJ))) zL) zJ)))) (zN (wj PassesOwn.never rfl (zPv rfl b_enumerate (zC (zD 1) zJ)) (zIz 4 5 rfl nd) (zT (zAl (zEi hr (yD (zBl "other" rfl (zg (osc:=zG zAk) (N:=["web","side","rest","found","number","place"]) (N0:=["web","!01","!02","!03","!04","place"]) (own:=["other"]) (by decide +kernel)) (wO (zD 2)) (fun u0 u0 u0 u0 u0=>(yx (zPV hr (yV (zC (zFk rfl rfl b_min (zC (zD 5) (zC (zD 6) zJ))) (zC (zGx rfl rfl b_max (zC (zD 5) (zC (zD 6) zJ))) zJ))) (zm (zD 0) zL)))) (fun u0 u0 u0 u0 u0=>(zD 6)))) (yD (zAJ zJ))) (zT (zA0 (zA4 (zD 3) (zC (yV (zC (zD 4) (zC (wo rfl b_len (zC (zD 1) zJ)) zJ))) zJ)))) yT))) (zT (zp (yV (zC (wM (wo rfl b_len (zC (zD 1) zJ)) zL) (zC (wg rfl b_tuple (zCY rfl b_sorted (zC (zD 3) zJ))) zJ))))))))
theorem zDf{f:Addr}{fd:FuncData}(F:Fun K "_law_parted_right" "_law_parted_right" yE f fd)(hm:mg "_law_parted_right"=some (.ref f))(b_tuple:mg "tuple"=none)(b_range:mg "range"=none)(b_isinstance:mg "isinstance"=none)(b_ValueError:mg "ValueError"=none)   (D_l_split:Df P w K mg base 2 "_law_split" ["web","places"] wA)(D_parted:Df P w K mg base 5 "parted" ["web","places"] zBg)(D_l_half:Df P w K mg base 3 "_law_half" ["web","side"] wu)(D_l_same:Df P w K mg base 6 "_law_same" ["found","due"] (zq 5)){C_ChordError C_TooMany C_NoTie C_NoSplit C_NoName C_BadNote:Addr}(m_ChordError:mg "ChordError"=some (.ref C_ChordError))(m_TooMany:mg "TooMany"=some (.ref C_TooMany))(m_NoTie:mg "NoTie"=some (.ref C_NoTie))(m_NoSplit:mg "NoSplit"=some (.ref C_NoSplit))(m_NoName:mg "NoName"=some (.ref C_NoName))(m_BadNote:mg "BadNote"=some (.ref C_BadNote)){fR:Addr}{fdR:FuncData}(FR:Fun K "_law_refused" "_law_refused" yI fR fdR)(mR:mg "_law_refused"=some (.ref fR))(bR:Binds K fdR ["call"] []){tc tP:Addr}(hco:fd.code=.ref tc)(hCH:PySem.W.CodeHd base tc tP)(hBA:BMn base mg)(hTB:PySem.W.tabIn K "_law_parted_right"=some (tc,tP))(x_NoSplit:zEG K C_NoSplit)(xm_NoSplit:PySem.W.exmOne K (.ref C_NoSplit) (.ref C_ChordError)=some true)(q_NoSplit_TooMany:PySem.W.kitOne K (.ref C_NoSplit) (.ref C_TooMany)=some false)(q_NoSplit_NoTie:PySem.W.kitOne K (.ref C_NoSplit) (.ref C_NoTie)=some false)(q_NoSplit_NoSplit:PySem.W.kitOne K (.ref C_NoSplit) (.ref C_NoSplit)=some true)(q_NoSplit_NoName:PySem.W.kitOne K (.ref C_NoSplit) (.ref C_NoName)=some false)(q_NoSplit_BadNote:PySem.W.kitOne K (.ref C_NoSplit) (.ref C_BadNote)=some false)(qV_NoSplit:PySem.W.kitOne K (.ref C_NoSplit) (.type "ValueError")=some true)(Z_parted:Rz P w K mg base 5 "parted" ["web","places"] zAi C_NoSplit) :Df P w K mg base 8 "_law_parted_right" ["web","side"] yg:=by
 have nd:=(zBR).nd
 have hbb:=(F.binds (ps:=["web","side"]) fun u0 u0 u0 u0 u0 u0 us hl=>us2 us hl fun u0 u0=>rfl)
 refine⟨f,fd,zMm zw F zBR (fun cdv A outer s H E hcd hr=>?_) zD1,hm,F.kp,hbb⟩
 unfold zw
 exact(zN (zAl (zD4 (zA1 (za D_l_split hr (by decide) rfl (zC (zD 0) (zC (zD 1) zJ))))) (zT (zp (zPU hr (yD (zOd (k:=5) FR zB4 mR bR (hr.mono (by decide)) rfl zOg m_ChordError xm_NoSplit (fun cdv A outer s H e oe u0 hcl=>zJb b_isinstance b_ValueError b_range m_TooMany m_NoTie m_NoSplit m_NoName m_BadNote x_NoSplit hcl q_NoSplit_TooMany q_NoSplit_NoTie q_NoSplit_NoSplit q_NoSplit_NoName q_NoSplit_BadNote qV_NoSplit) zHi (zOc (osc:=zG yE) (by decide +kernel) (hcd.symm.trans hco) hCH hBA hTB (by decide) rfl rfl (fun u0 u0 u0 u0 u0=>rfl)) (fun g cv A outer s H hr2=>zGg zJQ Z_parted hr2 (by decide) rfl (zC (zD 0) (zC (zD 1) zJ))))) (yD (zAJ (zC zL zJ)))))) yT) (zN (zx 2 nd (wg rfl b_tuple (zBl "place" rfl (zg (osc:=zG yE) (N:=["web","side","rest"]) (N0:=["!00","side","!02"]) (own:=["place"]) (by decide +kernel)) (yY rfl b_range (zC (zm (zD 0) zL) zJ)) (fun u0 u0 u0 u0 u0=>(yx (zDE hr (zD 3) (zD 1)))) (fun u0 u0 u0 u0 u0=>(zD 3))))) (zT (zp (za D_l_same hr (by decide) rfl (zC (za D_parted hr (by decide) rfl (zC (zD 0) (zC (zD 1) zJ))) (zC (yV (zC (za D_l_half hr (by decide) rfl (zC (zD 0) (zC (zD 1) zJ))) (zC (za D_l_half hr (by decide) rfl (zC (zD 0) (zC (zD 2) zJ))) zJ))) zJ)))))))
theorem zQH{f:Addr}{fd:FuncData}(F:Fun K "law" "law" zCN f fd)(b_range:mg "range"=none)(b_max:mg "max"=none)(b_min:mg "min"=none)(b_len:mg "len"=none)(b_tuple:mg "tuple"=none)(b_isinstance:mg "isinstance"=none)(b_ValueError:mg "ValueError"=none)   (D_l_state:Df P w K mg base 2 "_law_state" ["script","k"] (spL yy))(D_l_loose:Df P w K mg base 4 "_law_loose" ["state","most"] zA8)(D_l_side:Df P w K mg base 2 "_law_side" ["state","many"] zBf)(D_l_split:Df P w K mg base 2 "_law_split" ["web","places"] wA)(D_l_parted_right:Df P w K mg base 8 "_law_parted_right" ["web","side"] yg)(D_l_web:Df P w K mg base 3 "_law_web" ["state","most"] wY)(D_l_take:Df P w K mg base 1 "_law_take" ["state","many"] zy)(D_put_together:Df P w K mg base 3 "put_together" ["one","two"] yb)(D_l_glued:Df P w K mg base 1 "_law_glued" ["one","two"] wQ)(D_l_same:Df P w K mg base 6 "_law_same" ["found","due"] (zq 5)){C_ChordError C_TooMany C_NoTie C_NoSplit C_NoName C_BadNote:Addr}(m_ChordError:mg "ChordError"=some (.ref C_ChordError))(m_TooMany:mg "TooMany"=some (.ref C_TooMany))(m_NoTie:mg "NoTie"=some (.ref C_NoTie))(m_NoSplit:mg "NoSplit"=some (.ref C_NoSplit))(m_NoName:mg "NoName"=some (.ref C_NoName))(m_BadNote:mg "BadNote"=some (.ref C_BadNote)){fR:Addr}{fdR:FuncData}(FR:Fun K "_law_refused" "_law_refused" yI fR fdR)(mR:mg "_law_refused"=some (.ref fR))(bR:Binds K fdR ["call"] []){tc tP:Addr}(hco:fd.code=.ref tc)(hCH:PySem.W.CodeHd base tc tP)(hBA:BMn base mg)(hTB:PySem.W.tabIn K "law"=some (tc,tP))(x_TooMany:zEG K C_TooMany)(xm_TooMany:PySem.W.exmOne K (.ref C_TooMany) (.ref C_ChordError)=some true)(q_TooMany_TooMany:PySem.W.kitOne K (.ref C_TooMany) (.ref C_TooMany)=some true)(q_TooMany_NoTie:PySem.W.kitOne K (.ref C_TooMany) (.ref C_NoTie)=some false)(q_TooMany_NoSplit:PySem.W.kitOne K (.ref C_TooMany) (.ref C_NoSplit)=some false)(q_TooMany_NoName:PySem.W.kitOne K (.ref C_TooMany) (.ref C_NoName)=some false)(q_TooMany_BadNote:PySem.W.kitOne K (.ref C_TooMany) (.ref C_BadNote)=some false)(qV_TooMany:PySem.W.kitOne K (.ref C_TooMany) (.type "ValueError")=some true)(Z_put_together:Rz P w K mg base 3 "put_together" ["one","two"] yO C_TooMany) :zDB P w K mg base CX0 9 f fd ["script"] (lSp K zFq):=by
 have nd:=zM4.nd
 refine zMm zDc F zM4 (fun cdv A outer s H E hcd hr=>?_) zRD
 unfold zDc
 exact(zN (wj PassesOwn.never rfl (yY rfl b_range (zC (zGx rfl rfl b_max (zC zL (zC (zFk rfl rfl b_min (zC (wo rfl b_len (zC (zD 0) zJ)) (zC zL zJ))) zJ))) zJ)) (zAm 1 nd) (zN (zx 2 nd (yD (zDm D_l_state zGM hr (by decide) rfl (zC (zD 0) (zC (zD 1) zJ))))) (zN (zx 3 nd (za D_l_loose hr (by decide) rfl (zC (zD 2) (zC zL zJ)))) (zN (zx 4 nd (yD (zAJ zJ))) (zN (wj PassesOwn.never rfl (yY rfl b_range (zC zL zJ)) (zAm 5 nd) (zT (zA0 (zA4 (zD 4) (zC (za D_l_side hr (by decide) rfl (zC (zD 2) (zC (zm (zD 3) zL) zJ))) zJ))))) (zN (zBm 6 "side" rfl (zg (osc:=zG zCN) (N:=["script","k","state","web","sides","turn","good","side","one","two"]) (N0:=["!00","!01","!02","web","!04","!05","!06","!07","!08","!09"]) (own:=["side"]) (by decide +kernel)) (wO (zD 4)) (fun u0 u0 u0 u0 u0=>(yx (zA1 (za D_l_split hr (by decide) rfl (zC (zD 3) (zC (zD 10) zJ)))))) (fun u0 u0 u0 u0 u0=>(zD 10)) nd) (zN (wj PassesOwn.never rfl (zI0 (zFn (yD (zFn (yD (zI8 (zD 4) zLb (zLc zL))) (yD (zI8 (zD 6) zLb (zLc zL))))) (yD (zAJ (zC (yV zJ) (zC (zLa rfl rfl b_tuple rfl b_range (zC (zm (zD 3) zL) zJ)) (zC (yV (zC zL zJ)) zJ))))))) (zAm 7 nd) (zT (zAl (zD4 (zA1 (za D_l_parted_right hr (by decide) rfl (zC (zD 3) (zC (zD 7) zJ))))) (zT (zp zGG)) yT))) (zN (zLK (yV (zC (za D_l_web hr (by decide) rfl (zC (zD 2) (zC zL zJ))) (zC (za D_l_web hr (by decide) rfl (zC (zD 2) (zC (zm (yD (zAJ (zC zL (zC zL zJ)))) (za D_l_take hr (by decide) rfl (zC (zD 2) (zC zL zJ)))) zJ))) zJ))) (zIz 8 9 rfl nd)) (zT (zAl (W2.test (w_and (zJn (zm (zD 8) zL) zL) (zLO (zJn (zm (zD 9) zL) zL)))) (zT (zAl (zJn (wM (zm (zD 8) zL) (zm (zD 9) zL)) zL) (zT (zAl (zEi hr (yD (zOd (k:=3) FR zB4 mR bR (hr.mono (by decide)) rfl zOg m_ChordError xm_TooMany (fun cdv A outer s H e oe u0 hcl=>zJb b_isinstance b_ValueError b_range m_TooMany m_NoTie m_NoSplit m_NoName m_BadNote x_TooMany hcl q_TooMany_TooMany q_TooMany_NoTie q_TooMany_NoSplit q_TooMany_NoName q_TooMany_BadNote qV_TooMany) zHh (zOc (osc:=zG zCN) (by decide +kernel) (hcd.symm.trans hco) hCH hBA hTB (by decide) rfl rfl (fun u0 u0 u0 u0 u0=>rfl)) (fun g cv A outer s H hr2=>zGg zJQ Z_put_together hr2 (by decide) rfl (zC (zD 8) (zC (zD 9) zJ))))) (yD (zAJ (zC zL zJ)))) (zT (zp zGG)) yT)) (zT (zAl (zD4 (zA1 (za D_l_same hr (by decide) rfl (zC (za D_put_together hr (by decide) rfl (zC (zD 8) (zC (zD 9) zJ))) (zC (za D_l_glued hr (by decide) rfl (zC (zD 8) (zC (zD 9) zJ))) zJ))))) (zT (zp zGG)) yT)))) yT)))))))))) (zT (zp zGG)))
end
theorem zQI{l:PySem.W.OpenLaw}{w:World}{K:PySem.W.Frag}{h:Heap}{mg:Str→Option Value}{fa:Addr}(X:K.In h)(G:h.Ns mainGlobals mg)(hfa:mg "law"=some (.ref fa))
  {f0:Addr} {od0 an0:Option Addr} {sl0:Array (Option Value)} {oc0 kV0 dc0 pm0 cd0 ct0:Value} {f1:Addr} {od1 an1:Option Addr} {sl1:Array (Option Value)} {oc1 kV1 dc1 pm1 cd1 ct1:Value} {f2:Addr} {od2 an2:Option Addr} {sl2:Array (Option Value)} {oc2 kV2 dc2 pm2 cd2 ct2:Value} {f3:Addr} {od3 an3:Option Addr} {sl3:Array (Option Value)} {oc3 kV3 dc3 pm3 cd3 ct3:Value} {f4:Addr} {od4 an4:Option Addr} {sl4:Array (Option Value)} {oc4 kV4 dc4 pm4 cd4 ct4:Value} {f5:Addr} {od5 an5:Option Addr} {sl5:Array (Option Value)} {oc5 kV5 dc5 pm5 cd5 ct5:Value} {f6:Addr} {od6 an6:Option Addr} {sl6:Array (Option Value)} {oc6 kV6 dc6 pm6 cd6 ct6:Value} {f7:Addr} {od7 an7:Option Addr} {sl7:Array (Option Value)} {oc7 kV7 dc7 pm7 cd7 ct7:Value} {f8:Addr} {od8 an8:Option Addr} {sl8:Array (Option Value)} {oc8 kV8 dc8 pm8 cd8 ct8:Value} {f9:Addr} {od9 an9:Option Addr} {sl9:Array (Option Value)} {oc9 kV9 dc9 pm9 cd9 ct9:Value} {f10:Addr} {od10 an10:Option Addr} {sl10:Array (Option Value)} {oc10 kV10 dc10 pm10 cd10 ct10:Value} {f11:Addr} {od11 an11:Option Addr} {sl11:Array (Option Value)} {oc11 kV11 dc11 pm11 cd11 ct11:Value} {f12:Addr} {od12 an12:Option Addr} {sl12:Array (Option Value)} {oc12 kV12 dc12 pm12 cd12 ct12:Value} {f13:Addr} {od13 an13:Option Addr} {sl13:Array (Option Value)} {oc13 kV13 dc13 pm13 cd13 ct13:Value} {f14:Addr} {od14 an14:Option Addr} {sl14:Array (Option Value)} {oc14 kV14 dc14 pm14 cd14 ct14:Value} {f15:Addr} {od15 an15:Option Addr} {sl15:Array (Option Value)} {oc15 kV15 dc15 pm15 cd15 ct15:Value} {f16:Addr} {od16 an16:Option Addr} {sl16:Array (Option Value)} {oc16 kV16 dc16 pm16 cd16 ct16:Value} {f17:Addr} {od17 an17:Option Addr} {sl17:Array (Option Value)} {oc17 kV17 dc17 pm17 cd17 ct17:Value} {f18:Addr} {od18 an18:Option Addr} {sl18:Array (Option Value)} {oc18 kV18 dc18 pm18 cd18 ct18:Value} {f19:Addr} {od19 an19:Option Addr} {sl19:Array (Option Value)} {oc19 kV19 dc19 pm19 cd19 ct19:Value} {f20:Addr} {od20 an20:Option Addr} {sl20:Array (Option Value)} {oc20 kV20 dc20 pm20 cd20 ct20:Value} {f21:Addr} {od21 an21:Option Addr} {sl21:Array (Option Value)} {oc21 kV21 dc21 pm21 cd21 ct21:Value} {f22:Addr} {od22 an22:Option Addr} {sl22:Array (Option Value)} {oc22 kV22 dc22 pm22 cd22 ct22:Value} {f23:Addr} {od23 an23:Option Addr} {sl23:Array (Option Value)} {oc23 kV23 dc23 pm23 cd23 ct23:Value} {f24:Addr} {od24 an24:Option Addr} {sl24:Array (Option Value)} {oc24 kV24 dc24 pm24 cd24 ct24:Value} {f25:Addr} {od25 an25:Option Addr} {sl25:Array (Option Value)} {oc25 kV25 dc25 pm25 cd25 ct25:Value} {f26:Addr} {od26 an26:Option Addr} {sl26:Array (Option Value)} {oc26 kV26 dc26 pm26 cd26 ct26:Value} {f27:Addr} {od27 an27:Option Addr} {sl27:Array (Option Value)} {oc27 kV27 dc27 pm27 cd27 ct27:Value} {f28:Addr} {od28 an28:Option Addr} {sl28:Array (Option Value)} {oc28 kV28 dc28 pm28 cd28 ct28:Value} {f29:Addr} {od29 an29:Option Addr} {sl29:Array (Option Value)} {oc29 kV29 dc29 pm29 cd29 ct29:Value} {f30:Addr} {od30 an30:Option Addr} {sl30:Array (Option Value)} {oc30 kV30 dc30 pm30 cd30 ct30:Value} {f31:Addr} {od31 an31:Option Addr} {sl31:Array (Option Value)} {oc31 kV31 dc31 pm31 cd31 ct31:Value} {f32:Addr} {od32 an32:Option Addr} {sl32:Array (Option Value)} {oc32 kV32 dc32 pm32 cd32 ct32:Value} {f33:Addr} {od33 an33:Option Addr} {sl33:Array (Option Value)} {oc33 kV33 dc33 pm33 cd33 ct33:Value} {gt_MOST_PLACES:Tok} {C_ChordError C_TooMany C_NoTie C_NoSplit C_NoName C_BadNote:Addr} {tc_l_parted_right tP_l_parted_right:Addr} {tc_law tP_law:Addr}
  (a0:PySem.W.nsIn K mainGlobals "is_number"=some (some (.ref f0))) (l0:K.lookup f0=some ⟨oc0,od0,.func (PySem.W.fnOf "is_number" "is_number" (zc wv) (zW wv) (zG wv) .none kV0 dc0 pm0 an0 cd0 ct0),sl0⟩) (c0:PySem.W.codeIn K cd0 "is_number"=true) (k0:PySem.W.keepIn K (.ref f0)=true)
  (a1:PySem.W.nsIn K mainGlobals "are_places"=some (some (.ref f1))) (l1:K.lookup f1=some ⟨oc1,od1,.func (PySem.W.fnOf "are_places" "are_places" (zc wB) (zW wB) (zG wB) .none kV1 dc1 pm1 an1 cd1 ct1),sl1⟩) (c1:PySem.W.codeIn K cd1 "are_places"=true) (k1:PySem.W.keepIn K (.ref f1)=true)
  (a2:PySem.W.nsIn K mainGlobals "is_rising"=some (some (.ref f2))) (l2:K.lookup f2=some ⟨oc2,od2,.func (PySem.W.fnOf "is_rising" "is_rising" (zc wC) (zW wC) (zG wC) .none kV2 dc2 pm2 an2 cd2 ct2),sl2⟩) (c2:PySem.W.codeIn K cd2 "is_rising"=true) (k2:PySem.W.keepIn K (.ref f2)=true)
  (a3:PySem.W.nsIn K mainGlobals "pairs"=some (some (.ref f3))) (l3:K.lookup f3=some ⟨oc3,od3,.func (PySem.W.fnOf "pairs" "pairs" (zc zCi) (zW zCi) (zG zCi) .none kV3 dc3 pm3 an3 cd3 ct3),sl3⟩) (c3:PySem.W.codeIn K cd3 "pairs"=true) (k3:PySem.W.keepIn K (.ref f3)=true)
  (a4:PySem.W.nsIn K mainGlobals "pairs_of"=some (some (.ref f4))) (l4:K.lookup f4=some ⟨oc4,od4,.func (PySem.W.fnOf "pairs_of" "pairs_of" (zc zAV) (zW zAV) (zG zAV) .none kV4 dc4 pm4 an4 cd4 ct4),sl4⟩) (c4:PySem.W.codeIn K cd4 "pairs_of"=true) (k4:PySem.W.keepIn K (.ref f4)=true)
  (a5:PySem.W.nsIn K mainGlobals "refuse_more"=some (some (.ref f5))) (l5:K.lookup f5=some ⟨oc5,od5,.func (PySem.W.fnOf "refuse_more" "refuse_more" (zc yW) (zW yW) (zG yW) .none kV5 dc5 pm5 an5 cd5 ct5),sl5⟩) (c5:PySem.W.codeIn K cd5 "refuse_more"=true) (k5:PySem.W.keepIn K (.ref f5)=true)
  (a6:PySem.W.nsIn K mainGlobals "tied"=some (some (.ref f6))) (l6:K.lookup f6=some ⟨oc6,od6,.func (PySem.W.fnOf "tied" "tied" (zc zD2) (zW zD2) (zG zD2) .none kV6 dc6 pm6 an6 cd6 ct6),sl6⟩) (c6:PySem.W.codeIn K cd6 "tied"=true) (k6:PySem.W.keepIn K (.ref f6)=true)
  (a7:PySem.W.nsIn K mainGlobals "around"=some (some (.ref f7))) (l7:K.lookup f7=some ⟨oc7,od7,.func (PySem.W.fnOf "around" "around" (zc zBB) (zW zBB) (zG zBB) .none kV7 dc7 pm7 an7 cd7 ct7),sl7⟩) (c7:PySem.W.codeIn K cd7 "around"=true) (k7:PySem.W.keepIn K (.ref f7)=true)
  (a8:PySem.W.nsIn K mainGlobals "kept"=some (some (.ref f8))) (l8:K.lookup f8=some ⟨oc8,od8,.func (PySem.W.fnOf "kept" "kept" (zc zC7) (zW zC7) (zG zC7) .none kV8 dc8 pm8 an8 cd8 ct8),sl8⟩) (c8:PySem.W.codeIn K cd8 "kept"=true) (k8:PySem.W.keepIn K (.ref f8)=true)
  (a9:PySem.W.nsIn K mainGlobals "other_side"=some (some (.ref f9))) (l9:K.lookup f9=some ⟨oc9,od9,.func (PySem.W.fnOf "other_side" "other_side" (zc wD) (zW wD) (zG wD) .none kV9 dc9 pm9 an9 cd9 ct9),sl9⟩) (c9:PySem.W.codeIn K cd9 "other_side"=true) (k9:PySem.W.keepIn K (.ref f9)=true)
  (a10:PySem.W.nsIn K mainGlobals "cut_rank"=some (some (.ref f10))) (l10:K.lookup f10=some ⟨oc10,od10,.func (PySem.W.fnOf "cut_rank" "cut_rank" (zc zAW) (zW zAW) (zG zAW) .none kV10 dc10 pm10 an10 cd10 ct10),sl10⟩) (c10:PySem.W.codeIn K cd10 "cut_rank"=true) (k10:PySem.W.keepIn K (.ref f10)=true)
  (a11:PySem.W.nsIn K mainGlobals "row_of"=some (some (.ref f11))) (l11:K.lookup f11=some ⟨oc11,od11,.func (PySem.W.fnOf "row_of" "row_of" (zc zBC) (zW zBC) (zG zBC) .none kV11 dc11 pm11 an11 cd11 ct11),sl11⟩) (c11:PySem.W.codeIn K cd11 "row_of"=true) (k11:PySem.W.keepIn K (.ref f11)=true)
  (a12:PySem.W.nsIn K mainGlobals "is_split"=some (some (.ref f12))) (l12:K.lookup f12=some ⟨oc12,od12,.func (PySem.W.fnOf "is_split" "is_split" (zc zAX) (zW zAX) (zG zAX) .none kV12 dc12 pm12 an12 cd12 ct12),sl12⟩) (c12:PySem.W.codeIn K cd12 "is_split"=true) (k12:PySem.W.keepIn K (.ref f12)=true)
  (a13:PySem.W.nsIn K mainGlobals "parted"=some (some (.ref f13))) (l13:K.lookup f13=some ⟨oc13,od13,.func (PySem.W.fnOf "parted" "parted" (zc zAj) (zW zAj) (zG zAj) .none kV13 dc13 pm13 an13 cd13 ct13),sl13⟩) (c13:PySem.W.codeIn K cd13 "parted"=true) (k13:PySem.W.keepIn K (.ref f13)=true)
  (a14:PySem.W.nsIn K mainGlobals "part_of"=some (some (.ref f14))) (l14:K.lookup f14=some ⟨oc14,od14,.func (PySem.W.fnOf "part_of" "part_of" (zc zAv) (zW zAv) (zG zAv) .none kV14 dc14 pm14 an14 cd14 ct14),sl14⟩) (c14:PySem.W.codeIn K cd14 "part_of"=true) (k14:PySem.W.keepIn K (.ref f14)=true)
  (a15:PySem.W.nsIn K mainGlobals "put_together"=some (some (.ref f15))) (l15:K.lookup f15=some ⟨oc15,od15,.func (PySem.W.fnOf "put_together" "put_together" (zc zr) (zW zr) (zG zr) .none kV15 dc15 pm15 an15 cd15 ct15),sl15⟩) (c15:PySem.W.codeIn K cd15 "put_together"=true) (k15:PySem.W.keepIn K (.ref f15)=true)
  (a16:PySem.W.nsIn K mainGlobals "_law_cell_at"=some (some (.ref f16))) (l16:K.lookup f16=some ⟨oc16,od16,.func (PySem.W.fnOf "_law_cell_at" "_law_cell_at" (zc ww) (zW ww) (zG ww) .none kV16 dc16 pm16 an16 cd16 ct16),sl16⟩) (c16:PySem.W.codeIn K cd16 "_law_cell_at"=true) (k16:PySem.W.keepIn K (.ref f16)=true)
  (a17:PySem.W.nsIn K mainGlobals "_law_state"=some (some (.ref f17))) (l17:K.lookup f17=some ⟨oc17,od17,.func (PySem.W.fnOf "_law_state" "_law_state" (zc zAw) (zW zAw) (zG zAw) .none kV17 dc17 pm17 an17 cd17 ct17),sl17⟩) (c17:PySem.W.codeIn K cd17 "_law_state"=true) (k17:PySem.W.keepIn K (.ref f17)=true)
  (a18:PySem.W.nsIn K mainGlobals "_law_take"=some (some (.ref f18))) (l18:K.lookup f18=some ⟨oc18,od18,.func (PySem.W.fnOf "_law_take" "_law_take" (zc zBh) (zW zBh) (zG zBh) .none kV18 dc18 pm18 an18 cd18 ct18),sl18⟩) (c18:PySem.W.codeIn K cd18 "_law_take"=true) (k18:PySem.W.keepIn K (.ref f18)=true)
  (a19:PySem.W.nsIn K mainGlobals "_law_pairs"=some (some (.ref f19))) (l19:K.lookup f19=some ⟨oc19,od19,.func (PySem.W.fnOf "_law_pairs" "_law_pairs" (zc zAY) (zW zAY) (zG zAY) .none kV19 dc19 pm19 an19 cd19 ct19),sl19⟩) (c19:PySem.W.codeIn K cd19 "_law_pairs"=true) (k19:PySem.W.keepIn K (.ref f19)=true)
  (a20:PySem.W.nsIn K mainGlobals "_law_web"=some (some (.ref f20))) (l20:K.lookup f20=some ⟨oc20,od20,.func (PySem.W.fnOf "_law_web" "_law_web" (zc zBQ) (zW zBQ) (zG zBQ) .none kV20 dc20 pm20 an20 cd20 ct20),sl20⟩) (c20:PySem.W.codeIn K cd20 "_law_web"=true) (k20:PySem.W.keepIn K (.ref f20)=true)
  (a21:PySem.W.nsIn K mainGlobals "_law_ring"=some (some (.ref f21))) (l21:K.lookup f21=some ⟨oc21,od21,.func (PySem.W.fnOf "_law_ring" "_law_ring" (zc zBD) (zW zBD) (zG zBD) .none kV21 dc21 pm21 an21 cd21 ct21),sl21⟩) (c21:PySem.W.codeIn K cd21 "_law_ring"=true) (k21:PySem.W.keepIn K (.ref f21)=true)
  (a22:PySem.W.nsIn K mainGlobals "_law_web_of"=some (some (.ref f22))) (l22:K.lookup f22=some ⟨oc22,od22,.func (PySem.W.fnOf "_law_web_of" "_law_web_of" (zc wm) (zW wm) (zG wm) .none kV22 dc22 pm22 an22 cd22 ct22),sl22⟩) (c22:PySem.W.codeIn K cd22 "_law_web_of"=true) (k22:PySem.W.keepIn K (.ref f22)=true)
  (a23:PySem.W.nsIn K mainGlobals "_law_same"=some (some (.ref f23))) (l23:K.lookup f23=some ⟨oc23,od23,.func (PySem.W.fnOf "_law_same" "_law_same" (zc yo) (zW yo) (zG yo) .none kV23 dc23 pm23 an23 cd23 ct23),sl23⟩) (c23:PySem.W.codeIn K cd23 "_law_same"=true) (k23:PySem.W.keepIn K (.ref f23)=true)
  (a24:PySem.W.nsIn K mainGlobals "_law_refused"=some (some (.ref f24))) (l24:K.lookup f24=some ⟨oc24,od24,.func (PySem.W.fnOf "_law_refused" "_law_refused" (zc yI) (zW yI) (zG yI) .none kV24 dc24 pm24 an24 cd24 ct24),sl24⟩) (c24:PySem.W.codeIn K cd24 "_law_refused"=true) (k24:PySem.W.keepIn K (.ref f24)=true)
  (a25:PySem.W.nsIn K mainGlobals "_law_kept"=some (some (.ref f25))) (l25:K.lookup f25=some ⟨oc25,od25,.func (PySem.W.fnOf "_law_kept" "_law_kept" (zc zAx) (zW zAx) (zG zAx) .none kV25 dc25 pm25 an25 cd25 ct25),sl25⟩) (c25:PySem.W.codeIn K cd25 "_law_kept"=true) (k25:PySem.W.keepIn K (.ref f25)=true)
  (a26:PySem.W.nsIn K mainGlobals "_law_rank"=some (some (.ref f26))) (l26:K.lookup f26=some ⟨oc26,od26,.func (PySem.W.fnOf "_law_rank" "_law_rank" (zc zAI) (zW zAI) (zG zAI) .none kV26 dc26 pm26 an26 cd26 ct26),sl26⟩) (c26:PySem.W.codeIn K cd26 "_law_rank"=true) (k26:PySem.W.keepIn K (.ref f26)=true)
  (a27:PySem.W.nsIn K mainGlobals "_law_split"=some (some (.ref f27))) (l27:K.lookup f27=some ⟨oc27,od27,.func (PySem.W.fnOf "_law_split" "_law_split" (zc zAy) (zW zAy) (zG zAy) .none kV27 dc27 pm27 an27 cd27 ct27),sl27⟩) (c27:PySem.W.codeIn K cd27 "_law_split"=true) (k27:PySem.W.keepIn K (.ref f27)=true)
  (a28:PySem.W.nsIn K mainGlobals "_law_side"=some (some (.ref f28))) (l28:K.lookup f28=some ⟨oc28,od28,.func (PySem.W.fnOf "_law_side" "_law_side" (zc zBE) (zW zBE) (zG zBE) .none kV28 dc28 pm28 an28 cd28 ct28),sl28⟩) (c28:PySem.W.codeIn K cd28 "_law_side"=true) (k28:PySem.W.keepIn K (.ref f28)=true)
  (a29:PySem.W.nsIn K mainGlobals "_law_glued"=some (some (.ref f29))) (l29:K.lookup f29=some ⟨oc29,od29,.func (PySem.W.fnOf "_law_glued" "_law_glued" (zc wJ) (zW wJ) (zG wJ) .none kV29 dc29 pm29 an29 cd29 ct29),sl29⟩) (c29:PySem.W.codeIn K cd29 "_law_glued"=true) (k29:PySem.W.keepIn K (.ref f29)=true)
  (a30:PySem.W.nsIn K mainGlobals "_law_loose"=some (some (.ref f30))) (l30:K.lookup f30=some ⟨oc30,od30,.func (PySem.W.fnOf "_law_loose" "_law_loose" (zc wx) (zW wx) (zG wx) .none kV30 dc30 pm30 an30 cd30 ct30),sl30⟩) (c30:PySem.W.codeIn K cd30 "_law_loose"=true) (k30:PySem.W.keepIn K (.ref f30)=true)
  (a31:PySem.W.nsIn K mainGlobals "_law_half"=some (some (.ref f31))) (l31:K.lookup f31=some ⟨oc31,od31,.func (PySem.W.fnOf "_law_half" "_law_half" (zc zAk) (zW zAk) (zG zAk) .none kV31 dc31 pm31 an31 cd31 ct31),sl31⟩) (c31:PySem.W.codeIn K cd31 "_law_half"=true) (k31:PySem.W.keepIn K (.ref f31)=true)
  (a32:PySem.W.nsIn K mainGlobals "_law_parted_right"=some (some (.ref f32))) (l32:K.lookup f32=some ⟨oc32,od32,.func (PySem.W.fnOf "_law_parted_right" "_law_parted_right" (zc yE) (zW yE) (zG yE) .none kV32 dc32 pm32 an32 cd32 ct32),sl32⟩) (c32:PySem.W.codeIn K cd32 "_law_parted_right"=true) (k32:PySem.W.keepIn K (.ref f32)=true)
  (a33:PySem.W.nsIn K mainGlobals "law"=some (some (.ref f33))) (l33:K.lookup f33=some ⟨oc33,od33,.func (PySem.W.fnOf "law" "law" (zc zCN) (zW zCN) (zG zCN) .none kV33 dc33 pm33 an33 cd33 ct33),sl33⟩) (c33:PySem.W.codeIn K cd33 "law"=true) (k33:PySem.W.keepIn K (.ref f33)=true)
  (y_MOST_PLACES:PySem.W.nsIn K mainGlobals "MOST_PLACES"=some (some (.int 9 gt_MOST_PLACES)))
  (z_isinstance:PySem.W.nsIn K mainGlobals "isinstance"=some none)
  (z_int:PySem.W.nsIn K mainGlobals "int"=some none)
  (z_bool:PySem.W.nsIn K mainGlobals "bool"=some none)
  (z_tuple:PySem.W.nsIn K mainGlobals "tuple"=some none)
  (z_all:PySem.W.nsIn K mainGlobals "all"=some none)
  (z_range:PySem.W.nsIn K mainGlobals "range"=some none)
  (z_len:PySem.W.nsIn K mainGlobals "len"=some none)
  (z_min:PySem.W.nsIn K mainGlobals "min"=some none)
  (z_max:PySem.W.nsIn K mainGlobals "max"=some none)
  (z_sum:PySem.W.nsIn K mainGlobals "sum"=some none)
  (z_list:PySem.W.nsIn K mainGlobals "list"=some none)
  (z_sorted:PySem.W.nsIn K mainGlobals "sorted"=some none)
  (z_zip:PySem.W.nsIn K mainGlobals "zip"=some none)
  (z_ValueError:PySem.W.nsIn K mainGlobals "ValueError"=some none)
  (z_enumerate:PySem.W.nsIn K mainGlobals "enumerate"=some none)
  (v_ChordError:PySem.W.nsIn K mainGlobals "ChordError"=some (some (.ref C_ChordError)))
  (v_TooMany:PySem.W.nsIn K mainGlobals "TooMany"=some (some (.ref C_TooMany)))
  (v_NoTie:PySem.W.nsIn K mainGlobals "NoTie"=some (some (.ref C_NoTie)))
  (v_NoSplit:PySem.W.nsIn K mainGlobals "NoSplit"=some (some (.ref C_NoSplit)))
  (v_NoName:PySem.W.nsIn K mainGlobals "NoName"=some (some (.ref C_NoName)))
  (v_BadNote:PySem.W.nsIn K mainGlobals "BadNote"=some (some (.ref C_BadNote)))
  (e_TooMany_0:PySem.W.excIn K C_TooMany bmV "ValueError.__new__"=true)
  (e_TooMany_1:(PySem.W.clsIn K C_TooMany).isSome=true)
  (e_TooMany_2:PySem.W.findIn K (.ref C_TooMany) "__getattribute__"=some (some (.builtin "BaseException.__getattribute__")))
  (e_TooMany_3:PySem.W.findIn K (.ref C_TooMany) "__getattr__"=some none)
  (e_TooMany_4:PySem.W.findIn K (.ref C_TooMany) "__class__"=some (some (.builtin "object.__class__")))
  (e_TooMany_5:PySem.W.specialIn K (.builtin "object.__class__") "__get__"=some (some (.builtin "getset_descriptor.__get__")))
  (e_TooMany_6:PySem.W.takesIn K (.builtin "object.__class__")=some true)
  (e_TooMany_7:PySem.W.mroIn K C_TooMany (.type "object")=some true)
  (e_TooMany_8:PySem.W.mroIn K C_TooMany (.type "BaseException")=some true)
  (xm_TooMany:PySem.W.exmOne K (.ref C_TooMany) (.ref C_ChordError)=some true)
  (q_TooMany_TooMany:PySem.W.kitOne K (.ref C_TooMany) (.ref C_TooMany)=some true)
  (q_TooMany_NoTie:PySem.W.kitOne K (.ref C_TooMany) (.ref C_NoTie)=some false)
  (q_TooMany_NoSplit:PySem.W.kitOne K (.ref C_TooMany) (.ref C_NoSplit)=some false)
  (q_TooMany_NoName:PySem.W.kitOne K (.ref C_TooMany) (.ref C_NoName)=some false)
  (q_TooMany_BadNote:PySem.W.kitOne K (.ref C_TooMany) (.ref C_BadNote)=some false)
  (qV_TooMany:PySem.W.kitOne K (.ref C_TooMany) (.type "ValueError")=some true)
  (e_NoSplit_0:PySem.W.excIn K C_NoSplit bmV "ValueError.__new__"=true)
  (e_NoSplit_1:(PySem.W.clsIn K C_NoSplit).isSome=true)
  (e_NoSplit_2:PySem.W.findIn K (.ref C_NoSplit) "__getattribute__"=some (some (.builtin "BaseException.__getattribute__")))
  (e_NoSplit_3:PySem.W.findIn K (.ref C_NoSplit) "__getattr__"=some none)
  (e_NoSplit_4:PySem.W.findIn K (.ref C_NoSplit) "__class__"=some (some (.builtin "object.__class__")))
  (e_NoSplit_5:PySem.W.specialIn K (.builtin "object.__class__") "__get__"=some (some (.builtin "getset_descriptor.__get__")))
  (e_NoSplit_6:PySem.W.takesIn K (.builtin "object.__class__")=some true)
  (e_NoSplit_7:PySem.W.mroIn K C_NoSplit (.type "object")=some true)
  (e_NoSplit_8:PySem.W.mroIn K C_NoSplit (.type "BaseException")=some true)
  (xm_NoSplit:PySem.W.exmOne K (.ref C_NoSplit) (.ref C_ChordError)=some true)
  (q_NoSplit_TooMany:PySem.W.kitOne K (.ref C_NoSplit) (.ref C_TooMany)=some false)
  (q_NoSplit_NoTie:PySem.W.kitOne K (.ref C_NoSplit) (.ref C_NoTie)=some false)
  (q_NoSplit_NoSplit:PySem.W.kitOne K (.ref C_NoSplit) (.ref C_NoSplit)=some true)
  (q_NoSplit_NoName:PySem.W.kitOne K (.ref C_NoSplit) (.ref C_NoName)=some false)
  (q_NoSplit_BadNote:PySem.W.kitOne K (.ref C_NoSplit) (.ref C_BadNote)=some false)
  (qV_NoSplit:PySem.W.kitOne K (.ref C_NoSplit) (.type "ValueError")=some true)
  (zw:PySem.W.tabIn K "_law_parted_right"=some (tc_l_parted_right,tP_l_parted_right)) (u_l_parted_right:zB3 K tc_l_parted_right tP_l_parted_right=true)
  (zDc:PySem.W.tabIn K "law"=some (tc_law,tP_law)) (u_law:zB3 K tc_law tP_law=true) :
  ∃ fd:FuncData,(∀(s:Shared) (v:Value),BindsTo s fd ⟨[v],[]⟩ [("script",v)])∧∀ base:Heap,K.In base→base.Ns mainGlobals mg→BMn base mg→zDB l.prog w K mg base CX0 9 fa fd ["script"] (lSp K zFq):=by
 have e:=hfa.symm.trans (PySem.W.mg_of X G a33)
 cases e
 have g_MOST_PLACES:=PySem.W.mg_of X G y_MOST_PLACES
 have b_isinstance:=PySem.W.mg_none_of X G z_isinstance
 have b_int:=PySem.W.mg_none_of X G z_int
 have b_bool:=PySem.W.mg_none_of X G z_bool
 have b_tuple:=PySem.W.mg_none_of X G z_tuple
 have b_all:=PySem.W.mg_none_of X G z_all
 have b_range:=PySem.W.mg_none_of X G z_range
 have b_len:=PySem.W.mg_none_of X G z_len
 have b_min:=PySem.W.mg_none_of X G z_min
 have b_max:=PySem.W.mg_none_of X G z_max
 have b_sum:=PySem.W.mg_none_of X G z_sum
 have b_list:=PySem.W.mg_none_of X G z_list
 have b_sorted:=PySem.W.mg_none_of X G z_sorted
 have b_zip:=PySem.W.mg_none_of X G z_zip
 have b_ValueError:=PySem.W.mg_none_of X G z_ValueError
 have b_enumerate:=PySem.W.mg_none_of X G z_enumerate
 refine⟨PySem.W.fnOf "law" "law" (zc zCN) (zW zCN) (zG zCN) .none kV33 dc33 pm33 an33 cd33 ct33,fun s v=>.of_eq rfl,fun base kb u0 hBA=>?_⟩
 have m_ChordError:=PySem.W.mg_of X G v_ChordError
 have m_TooMany:=PySem.W.mg_of X G v_TooMany
 have m_NoTie:=PySem.W.mg_of X G v_NoTie
 have m_NoSplit:=PySem.W.mg_of X G v_NoSplit
 have m_NoName:=PySem.W.mg_of X G v_NoName
 have m_BadNote:=PySem.W.mg_of X G v_BadNote
 have x_TooMany:zEG K C_TooMany:=⟨e_TooMany_0,e_TooMany_1,e_TooMany_2,e_TooMany_3,e_TooMany_4,e_TooMany_5,e_TooMany_6,e_TooMany_7,e_TooMany_8⟩
 have x_NoSplit:zEG K C_NoSplit:=⟨e_NoSplit_0,e_NoSplit_1,e_NoSplit_2,e_NoSplit_3,e_NoSplit_4,e_NoSplit_5,e_NoSplit_6,e_NoSplit_7,e_NoSplit_8⟩
 have FR:=zk (st:=yI) l24 c24 k24
 have mR:=PySem.W.mg_of X G a24
 have bR:=FR.binds (ps:=["call"]) fun u0 u0 u0 u0 u0 u0 us hl=>us1 us hl fun u0=>rfl
 have D_is_number:Df l.prog w K mg base 1 "is_number" ["thing"] yf:=zGj (zk (st:=wv) l0 c0 k0) (PySem.W.mg_of X G a0) b_isinstance b_int b_bool
 have D_is_risingN:Df l.prog w K mg base 1 "is_rising" ["things"] wI:=zFY (zk (st:=wC) l2 c2 k2) (PySem.W.mg_of X G a2) b_all b_range b_len
 have D_pairs_of:Df l.prog w K mg base 1 "pairs_of" ["places"] (spL yt):=zHp (zk (st:=zAV) l4 c4 k4) (PySem.W.mg_of X G a4) b_range b_len
 have Z_refuse_more:Rz l.prog w K mg base 1 "refuse_more" ["many","most"] yn C_TooMany:=zFM (zk (st:=yW) l5 c5 k5) (PySem.W.mg_of X G a5) m_TooMany x_TooMany
 have D_refuse_more:Df l.prog w K mg base 1 "refuse_more" ["many","most"] wR:=zFN (zk (st:=yW) l5 c5 k5) (PySem.W.mg_of X G a5) 
 have D_tied:Df l.prog w K mg base 1 "tied" ["web","one","other"] wT:=zOF (zk (st:=zD2) l6 c6 k6) (PySem.W.mg_of X G a6) b_min b_max
 have D_other_side:Df l.prog w K mg base 1 "other_side" ["web","places"] yL:=zFZ (zk (st:=wD) l9 c9 k9) (PySem.W.mg_of X G a9) b_tuple b_range
 have D_l_cell_at:Df l.prog w K mg base 1 "_law_cell_at" ["script","k"] zAE:=zGk (zk (st:=ww) l16 c16 k16) (PySem.W.mg_of X G a16) b_len
 have D_l_take:Df l.prog w K mg base 1 "_law_take" ["state","many"] zy:=zKx (zk (st:=zBh) l18 c18 k18) (PySem.W.mg_of X G a18) 
 have D_l_pairs:Df l.prog w K mg base 1 "_law_pairs" ["many"] (spL yQ):=zIf (zk (st:=zAY) l19 c19 k19) (PySem.W.mg_of X G a19) b_range
 have D_l_rank:Df l.prog w K mg base 1 "_law_rank" ["web","places"] zAt:=zKz (zk (st:=zAI) l26 c26 k26) (PySem.W.mg_of X G a26) b_range b_len b_tuple b_int b_min b_max b_zip
 have D_l_glued:Df l.prog w K mg base 1 "_law_glued" ["one","two"] wQ:=zIj (zk (st:=wJ) l29 c29 k29) (PySem.W.mg_of X G a29) b_tuple b_sorted
 have D_are_places:Df l.prog w K mg base 2 "are_places" ["many","thing"] wH:=zFX (zk (st:=wB) l1 c1 k1) (PySem.W.mg_of X G a1) b_isinstance b_tuple b_all D_is_number
 have D_pairs:Df l.prog w K mg base 2 "pairs" ["many"] (spL zAC):=zM5 (zk (st:=zCi) l3 c3 k3) (PySem.W.mg_of X G a3) b_tuple b_range D_pairs_of
 have D_around:Df l.prog w K mg base 2 "around" ["web","place"] wG:=zKu (zk (st:=zBB) l7 c7 k7) (PySem.W.mg_of X G a7) b_tuple b_range D_tied
 have D_row_of:Df l.prog w K mg base 2 "row_of" ["web","place","others"] wq:=zKv (zk (st:=zBC) l11 c11 k11) (PySem.W.mg_of X G a11) b_sum D_tied
 have D_l_state:Df l.prog w K mg base 2 "_law_state" ["script","k"] (spL yy):=zIe (zk (st:=zAw) l17 c17 k17) (PySem.W.mg_of X G a17) D_l_cell_at
 have D_l_ring:Df l.prog w K mg base 2 "_law_ring" ["state","many"] zBY:=zKy (zk (st:=zBD) l21 c21 k21) (PySem.W.mg_of X G a21) b_list b_range b_tuple b_len D_l_take
 have D_l_web_of:Df l.prog w K mg base 2 "_law_web_of" ["ring"] zAg:=zHs (zk (st:=wm) l22 c22 k22) (PySem.W.mg_of X G a22) b_len b_tuple D_l_pairs
 have D_l_kept2:Df l.prog w K mg base 2 "_law_kept" ["web","places"] zBA:=zIh (zk (st:=zAx) l25 c25 k25) (PySem.W.mg_of X G a25) b_len b_min b_max b_tuple D_l_pairs
 have D_l_split:Df l.prog w K mg base 2 "_law_split" ["web","places"] wA:=zIi (zk (st:=zAy) l27 c27 k27) (PySem.W.mg_of X G a27) b_len D_l_rank
 have D_l_side:Df l.prog w K mg base 2 "_law_side" ["state","many"] zBf:=zK0 (zk (st:=zBE) l28 c28 k28) (PySem.W.mg_of X G a28) b_tuple b_range D_l_take
 have D_kept:Df l.prog w K mg base 3 "kept" ["web","places"] zCW:=zOG (zk (st:=zC7) l8 c8 k8) (PySem.W.mg_of X G a8) b_len b_tuple D_pairs D_tied
 have D_cut_rank:Df l.prog w K mg base 3 "cut_rank" ["web","places"] wt:=zHq (zk (st:=zAW) l10 c10 k10) (PySem.W.mg_of X G a10) b_min b_len D_other_side D_row_of
 have Z_put_together:Rz l.prog w K mg base 3 "put_together" ["one","two"] yO C_TooMany:=zEI (zk (st:=zr) l15 c15 k15) (PySem.W.mg_of X G a15) b_tuple b_sorted g_MOST_PLACES D_around Z_refuse_more m_TooMany x_TooMany
 have D_put_together:Df l.prog w K mg base 3 "put_together" ["one","two"] yb:=zEJ (zk (st:=zr) l15 c15 k15) (PySem.W.mg_of X G a15) b_tuple b_sorted g_MOST_PLACES D_refuse_more D_around
 have D_l_web:Df l.prog w K mg base 3 "_law_web" ["state","most"] wY:=zM6 (zk (st:=zBQ) l20 c20 k20) (PySem.W.mg_of X G a20) b_tuple D_l_take D_l_pairs D_l_ring D_l_web_of
 have D_l_half:Df l.prog w K mg base 3 "_law_half" ["web","side"] wu:=zK1 (zk (st:=zAk) l31 c31 k31) (PySem.W.mg_of X G a31) b_range b_list b_enumerate b_min b_max b_len b_tuple b_sorted D_l_kept2
 have D_is_split:Df l.prog w K mg base 4 "is_split" ["web","places"] yv:=zHr (zk (st:=zAX) l12 c12 k12) (PySem.W.mg_of X G a12) b_len D_are_places D_is_risingN D_cut_rank
 have D_part_of:Df l.prog w K mg base 4 "part_of" ["web","side","others"] wl:=zId (zk (st:=zAv) l14 c14 k14) (PySem.W.mg_of X G a14) b_len b_list b_range b_tuple b_sorted D_kept D_row_of
 have D_l_loose:Df l.prog w K mg base 4 "_law_loose" ["state","most"] zA8:=zIk (zk (st:=wx) l30 c30 k30) (PySem.W.mg_of X G a30) b_list b_range b_len b_tuple b_sorted D_l_web D_l_glued D_l_take
 have Z_parted:Rz l.prog w K mg base 5 "parted" ["web","places"] zAi C_NoSplit:=zKt (zk (st:=zAj) l13 c13 k13) (PySem.W.mg_of X G a13) D_is_split D_other_side D_part_of m_NoSplit x_NoSplit
 have D_parted:Df l.prog w K mg base 5 "parted" ["web","places"] zBg:=zKw (zk (st:=zAj) l13 c13 k13) (PySem.W.mg_of X G a13) D_is_split D_other_side D_part_of
 have D0_l_same:Df l.prog w K mg base 1 "_law_same" ["found","due"] (zq 0):=zIg (zk (st:=yo) l23 c23 k23) (PySem.W.mg_of X G a23)
 have D1_l_same:Df l.prog w K mg base 2 "_law_same" ["found","due"] (zq 1):=zBi (zk (st:=yo) l23 c23 k23) (PySem.W.mg_of X G a23) b_isinstance b_tuple b_list b_len b_all b_zip b_bool D0_l_same
 have D2_l_same:Df l.prog w K mg base 3 "_law_same" ["found","due"] (zq 2):=zBi (zk (st:=yo) l23 c23 k23) (PySem.W.mg_of X G a23) b_isinstance b_tuple b_list b_len b_all b_zip b_bool D1_l_same
 have D3_l_same:Df l.prog w K mg base 4 "_law_same" ["found","due"] (zq 3):=zBi (zk (st:=yo) l23 c23 k23) (PySem.W.mg_of X G a23) b_isinstance b_tuple b_list b_len b_all b_zip b_bool D2_l_same
 have D4_l_same:Df l.prog w K mg base 5 "_law_same" ["found","due"] (zq 4):=zBi (zk (st:=yo) l23 c23 k23) (PySem.W.mg_of X G a23) b_isinstance b_tuple b_list b_len b_all b_zip b_bool D3_l_same
 have D_l_same:Df l.prog w K mg base 6 "_law_same" ["found","due"] (zq 5):=zBi (zk (st:=yo) l23 c23 k23) (PySem.W.mg_of X G a23) b_isinstance b_tuple b_list b_len b_all b_zip b_bool D4_l_same
 have D_l_parted_right:Df l.prog w K mg base 8 "_law_parted_right" ["web","side"] yg:=zDf (zk (st:=yE) l32 c32 k32) (PySem.W.mg_of X G a32) b_tuple b_range b_isinstance b_ValueError D_l_split D_parted D_l_half D_l_same m_ChordError m_TooMany m_NoTie m_NoSplit m_NoName m_BadNote FR mR bR (zHg zw a32 l32) (zDz kb u_l_parted_right).1 hBA zw x_NoSplit xm_NoSplit q_NoSplit_TooMany q_NoSplit_NoTie q_NoSplit_NoSplit q_NoSplit_NoName q_NoSplit_BadNote qV_NoSplit Z_parted 
 exact zQH (zk (st:=zCN) l33 c33 k33) b_range b_max b_min b_len b_tuple b_isinstance b_ValueError D_l_state D_l_loose D_l_side D_l_split D_l_parted_right D_l_web D_l_take D_put_together D_l_glued D_l_same m_ChordError m_TooMany m_NoTie m_NoSplit m_NoName m_BadNote FR mR bR (zHg zDc a33 l33) (zDz kb u_law).1 hBA zDc x_TooMany xm_TooMany q_TooMany_TooMany q_TooMany_NoTie q_TooMany_NoSplit q_TooMany_NoName q_TooMany_BadNote qV_TooMany Z_put_together 
end K
open PySem PySem.W PyProof.Rows
set_option maxRecDepth 100000 in
set_option maxHeartbeats 0 in
theorem PySem.Challenge.cw_chordwebs_k43_parted_and_put_together_holds : PySem.Challenge.rw_chordwebs_k43_parted_and_put_together.Holds := by
 w_on;o_law;k_head;(case hw=>w_witness2)
 k_fill
 refine L3.zKl (l:=PySem.Challenge.rw_chordwebs_k43_parted_and_put_together) (k:=9) rfl rfl ⟨rfl,by decide,by decide⟩ ?T ?F
 case T =>
  intro w
  refine' L2.zQ6 (x:="_law_parted_right") (x':="law") ⟨_,_,_,_,?e1,?e2,?e3,?e4,?e5,?e6⟩ ?hy ?ho
  (case e1=>rfl)
  (case e2=>rfl)
  (case e3=>rfl)
  (case e4=>rfl)
  (case e5=>decide)
  (case e6=>first | exact Or.inl rfl | exact Or.inr rfl)
  (case hy=>intro y hy;unfold L2.zBj at hy;simp only[List.mem_cons,List.not_mem_nil,or_false] at hy;first | (subst hy;first | exact Or.inl rfl | exact Or.inr (Or.inl rfl) | exact Or.inr rfl | exact Or.inr (Or.inr rfl)) | (rcases hy with rfl | rfl<;>first | exact Or.inl rfl | exact Or.inr (Or.inl rfl) | exact Or.inr rfl | exact Or.inr (Or.inr rfl)))
  (case ho=>decide)
 case F =>
  intro w mg fa h KX G hmg
  refine' K.zQI KX G hmg ?a0 ?l0 ?c0 ?k0 ?a1 ?l1 ?c1 ?k1 ?a2 ?l2 ?c2 ?k2 ?a3 ?l3 ?c3 ?k3 ?a4 ?l4 ?c4 ?k4 ?a5 ?l5 ?c5 ?k5 ?a6 ?l6 ?c6 ?k6 ?a7 ?l7 ?c7 ?k7 ?a8 ?l8 ?c8 ?k8 ?a9 ?l9 ?c9 ?k9 ?a10 ?l10 ?c10 ?k10 ?a11 ?l11 ?c11 ?k11 ?a12 ?l12 ?c12 ?k12 ?a13 ?l13 ?c13 ?k13 ?a14 ?l14 ?c14 ?k14 ?a15 ?l15 ?c15 ?k15 ?a16 ?l16 ?c16 ?k16 ?a17 ?l17 ?c17 ?k17 ?a18 ?l18 ?c18 ?k18 ?a19 ?l19 ?c19 ?k19 ?a20 ?l20 ?c20 ?k20 ?a21 ?l21 ?c21 ?k21 ?a22 ?l22 ?c22 ?k22 ?a23 ?l23 ?c23 ?k23 ?a24 ?l24 ?c24 ?k24 ?a25 ?l25 ?c25 ?k25 ?a26 ?l26 ?c26 ?k26 ?a27 ?l27 ?c27 ?k27 ?a28 ?l28 ?c28 ?k28 ?a29 ?l29 ?c29 ?k29 ?a30 ?l30 ?c30 ?k30 ?a31 ?l31 ?c31 ?k31 ?a32 ?l32 ?c32 ?k32 ?a33 ?l33 ?c33 ?k33 ?y_MOST_PLACES ?z_isinstance ?z_int ?z_bool ?z_tuple ?z_all ?z_range ?z_len ?z_min ?z_max ?z_sum ?z_list ?z_sorted ?z_zip ?z_ValueError ?z_enumerate ?v_ChordError ?v_TooMany ?v_NoTie ?v_NoSplit ?v_NoName ?v_BadNote ?e_TooMany_0 ?e_TooMany_1 ?e_TooMany_2 ?e_TooMany_3 ?e_TooMany_4 ?e_TooMany_5 ?e_TooMany_6 ?e_TooMany_7 ?e_TooMany_8 ?xm_TooMany ?q_TooMany_TooMany ?q_TooMany_NoTie ?q_TooMany_NoSplit ?q_TooMany_NoName ?q_TooMany_BadNote ?qV_TooMany ?e_NoSplit_0 ?e_NoSplit_1 ?e_NoSplit_2 ?e_NoSplit_3 ?e_NoSplit_4 ?e_NoSplit_5 ?e_NoSplit_6 ?e_NoSplit_7 ?e_NoSplit_8 ?xm_NoSplit ?q_NoSplit_TooMany ?q_NoSplit_NoTie ?q_NoSplit_NoSplit ?q_NoSplit_NoName ?q_NoSplit_BadNote ?qV_NoSplit ?zw ?u_l_parted_right ?zDc ?u_law
  (case a0=>k_is)
  (case l0=>k_is)
  (case c0=>k_is)
  (case k0=>k_is)
  (case a1=>k_is)
  (case l1=>k_is)
  (case c1=>k_is)
  (case k1=>k_is)
  (case a2=>k_is)
  (case l2=>k_is)
  (case c2=>k_is)
  (case k2=>k_is)
  (case a3=>k_is)
  (case l3=>k_is)
  (case c3=>k_is)
  (case k3=>k_is)
  (case a4=>k_is)
  (case l4=>k_is)
  (case c4=>k_is)
  (case k4=>k_is)
  (case a5=>k_is)
  (case l5=>k_is)
  (case c5=>k_is)
  (case k5=>k_is)
  (case a6=>k_is)
  (case l6=>k_is)
  (case c6=>k_is)
  (case k6=>k_is)
  (case a7=>k_is)
  (case l7=>k_is)
  (case c7=>k_is)
  (case k7=>k_is)
  (case a8=>k_is)
  (case l8=>k_is)
  (case c8=>k_is)
  (case k8=>k_is)
  (case a9=>k_is)
  (case l9=>k_is)
  (case c9=>k_is)
  (case k9=>k_is)
  (case a10=>k_is)
  (case l10=>k_is)
  (case c10=>k_is)
  (case k10=>k_is)
  (case a11=>k_is)
  (case l11=>k_is)
  (case c11=>k_is)
  (case k11=>k_is)
  (case a12=>k_is)
  (case l12=>k_is)
  (case c12=>k_is)
  (case k12=>k_is)
  (case a13=>k_is)
  (case l13=>k_is)
  (case c13=>k_is)
  (case k13=>k_is)
  (case a14=>k_is)
  (case l14=>k_is)
  (case c14=>k_is)
  (case k14=>k_is)
  (case a15=>k_is)
  (case l15=>k_is)
  (case c15=>k_is)
  (case k15=>k_is)
  (case a16=>k_is)
  (case l16=>k_is)
  (case c16=>k_is)
  (case k16=>k_is)
  (case a17=>k_is)
  (case l17=>k_is)
  (case c17=>k_is)
  (case k17=>k_is)
  (case a18=>k_is)
  (case l18=>k_is)
  (case c18=>k_is)
  (case k18=>k_is)
  (case a19=>k_is)
  (case l19=>k_is)
  (case c19=>k_is)
  (case k19=>k_is)
  (case a20=>k_is)
  (case l20=>k_is)
  (case c20=>k_is)
  (case k20=>k_is)
  (case a21=>k_is)
  (case l21=>k_is)
  (case c21=>k_is)
  (case k21=>k_is)
  (case a22=>k_is)
  (case l22=>k_is)
  (case c22=>k_is)
  (case k22=>k_is)
  (case a23=>k_is)
  (case l23=>k_is)
  (case c23=>k_is)
  (case k23=>k_is)
  (case a24=>k_is)
  (case l24=>k_is)
  (case c24=>k_is)
  (case k24=>k_is)
  (case a25=>k_is)
  (case l25=>k_is)
  (case c25=>k_is)
  (case k25=>k_is)
  (case a26=>k_is)
  (case l26=>k_is)
  (case c26=>k_is)
  (case k26=>k_is)
  (case a27=>k_is)
  (case l27=>k_is)
  (case c27=>k_is)
  (case k27=>k_is)
  (case a28=>k_is)
  (case l28=>k_is)
  (case c28=>k_is)
  (case k28=>k_is)
  (case a29=>k_is)
  (case l29=>k_is)
  (case c29=>k_is)
  (case k29=>k_is)
  (case a30=>k_is)
  (case l30=>k_is)
  (case c30=>k_is)
  (case k30=>k_is)
  (case a31=>k_is)
  (case l31=>k_is)
  (case c31=>k_is)
  (case k31=>k_is)
  (case a32=>k_is)
  (case l32=>k_is)
  (case c32=>k_is)
  (case k32=>k_is)
  (case a33=>k_is)
  (case l33=>k_is)
  (case c33=>k_is)
  (case k33=>k_is)
  (case y_MOST_PLACES=>k_is)
  (case z_isinstance=>k_is)
  (case z_int=>k_is)
  (case z_bool=>k_is)
  (case z_tuple=>k_is)
  (case z_all=>k_is)
  (case z_range=>k_is)
  (case z_len=>k_is)
  (case z_min=>k_is)
  (case z_max=>k_is)
  (case z_sum=>k_is)
  (case z_list=>k_is)
  (case z_sorted=>k_is)
  (case z_zip=>k_is)
  (case z_ValueError=>k_is)
  (case z_enumerate=>k_is)
  (case v_ChordError=>k_is)
  (case v_TooMany=>k_is)
  (case v_NoTie=>k_is)
  (case v_NoSplit=>k_is)
  (case v_NoName=>k_is)
  (case v_BadNote=>k_is)
  (case e_TooMany_0=>first | kernel_rfl | k_is)
  (case e_TooMany_1=>first | kernel_rfl | k_is)
  (case e_TooMany_2=>first | kernel_rfl | k_is)
  (case e_TooMany_3=>first | kernel_rfl | k_is)
  (case e_TooMany_4=>first | kernel_rfl | k_is)
  (case e_TooMany_5=>first | kernel_rfl | k_is)
  (case e_TooMany_6=>first | kernel_rfl | k_is)
  (case e_TooMany_7=>first | kernel_rfl | k_is)
  (case e_TooMany_8=>first | kernel_rfl | k_is)
  (case xm_TooMany=>first | kernel_rfl | k_is)
  (case q_TooMany_TooMany=>first | kernel_rfl | k_is)
  (case q_TooMany_NoTie=>first | kernel_rfl | k_is)
  (case q_TooMany_NoSplit=>first | kernel_rfl | k_is)
  (case q_TooMany_NoName=>first | kernel_rfl | k_is)
  (case q_TooMany_BadNote=>first | kernel_rfl | k_is)
  (case qV_TooMany=>first | kernel_rfl | k_is)
  (case e_NoSplit_0=>first | kernel_rfl | k_is)
  (case e_NoSplit_1=>first | kernel_rfl | k_is)
  (case e_NoSplit_2=>first | kernel_rfl | k_is)
  (case e_NoSplit_3=>first | kernel_rfl | k_is)
  (case e_NoSplit_4=>first | kernel_rfl | k_is)
  (case e_NoSplit_5=>first | kernel_rfl | k_is)
  (case e_NoSplit_6=>first | kernel_rfl | k_is)
  (case e_NoSplit_7=>first | kernel_rfl | k_is)
  (case e_NoSplit_8=>first | kernel_rfl | k_is)
  (case xm_NoSplit=>first | kernel_rfl | k_is)
  (case q_NoSplit_TooMany=>first | kernel_rfl | k_is)
  (case q_NoSplit_NoTie=>first | kernel_rfl | k_is)
  (case q_NoSplit_NoSplit=>first | kernel_rfl | k_is)
  (case q_NoSplit_NoName=>first | kernel_rfl | k_is)
  (case q_NoSplit_BadNote=>first | kernel_rfl | k_is)
  (case qV_NoSplit=>first | kernel_rfl | k_is)
  (case zw=>rfl)
  (case u_l_parted_right=>rfl)
  (case zDc=>rfl)
  (case u_law=>rfl)
#print axioms PySem.Challenge.cw_chordwebs_k43_parted_and_put_together_holds
