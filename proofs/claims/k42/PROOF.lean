import PyProof.Rows.All
import Wide.All
import OpenK.AllK
import Wide.FinOn
import Lean
import PyProof.EqAt
import PyProof.EqKinds
import PyProof.TupleCall
import PyProof.NeKinds
import KE.KRevIter
import PyProof.Rows.Range3
import PyProof.ZipIter
import PyProof.Rows.SortRunsK
import PyProof.Rows.SortShell
import PyProof.Rows.IntRules
import PyProof.Dict
import PyProof.Conv_int_bool
import PyProof.Rows.DictRows
import PyProof.DictTable
import PyProof.SetKind
import PyProof.Rows.SetFrom
import PyProof.Rows.SortPure
import PyProof.FactsAll.set_1
import PyProof.SetRoads
import PyProof.Walks
import PyProof.CollectWalk
import PyProof.ListRange
import PyProof.TupleKey
import PyProof.IsRules
import PyProof.WalksMore
import PyProof.EnumStmt
import PyProof.Rows.EnumRows
import PyProof.SeqI3
import PySem.Challenge.RW_chordwebs_k42_all_splits
set_option Elab.async false
set_option linter.all false
set_option maxRecDepth 100000
namespace L2
open PySem PySem.Spec PyProof.Rows
abbrev Key:=Sum Int Str
def zLh:Key→Value→Bool
 | .inl k,v=>Value.isInt k v
 | .inr x,v=>Value.isStrOf x v
def zOE(w:World):Key→Int
 | .inl k=>hashInt k
 | .inr x=>hashStr w x
theorem yF:∀ {k:Key} {v:Value},zLh k v=true→(∃ i t,k=Sum.inl i∧v=Value.int i t)∨(∃ x t,k=Sum.inr x∧v=Value.str x t)
 | .inl i,v,h=>by
  obtain⟨t,e⟩:=Value.isInt_shape (k:=i) (v:=v) h
  exact .inl ⟨i,t,rfl,e⟩
 | .inr x,v,h=>by
  obtain⟨t,e⟩:=Value.isStrOf_shape (x:=x) (v:=v) h
  exact .inr ⟨x,t,rfl,e⟩
theorem zL0(a b:Int):decide ((Sum.inl a:Key)=Sum.inl b)=(a==b):=by
 by_cases e:a=b
 ·subst e;simp
 ·have h:¬ (Sum.inl a:Key)=Sum.inl b:=fun q=>e (Sum.inl.inj q)
  rw[decide_eq_false h]
  exact(beq_eq_false_iff_ne.mpr e).symm
theorem zL1(a b:Str):decide ((Sum.inr a:Key)=Sum.inr b)=decide (a=b):=by
 by_cases e:a=b
 ·subst e;simp
 ·have h:¬ (Sum.inr a:Key)=Sum.inr b:=fun q=>e (Sum.inr.inj q)
  rw[decide_eq_false h,decide_eq_false e]
theorem zL2(a:Int)(b:Str):decide ((Sum.inl a:Key)=Sum.inr b)=false:=decide_eq_false (fun q=>nomatch q)
theorem zL3(a:Str)(b:Int):decide ((Sum.inr a:Key)=Sum.inl b)=false:=decide_eq_false (fun q=>nomatch q)
def zHA(prog:Program)(w:World):PySem.KeyKind prog w Key where
 is:=zLh
 hash:=zOE w
 inj:=fun v a b ha hb=>by
  rcases yF ha with ⟨i,t,rfl,rfl⟩ | ⟨x,t,rfl,rfl⟩
  ·rcases yF hb with ⟨j,u,rfl,e⟩ | ⟨y,u,rfl,e⟩
   ·injection e with e1 _;rw[e1]
   ·exact nomatch e
  ·rcases yF hb with ⟨j,u,rfl,e⟩ | ⟨y,u,rfl,e⟩
   ·exact nomatch e
   ·injection e with e1 _;rw[e1]
 byValue:=fun k v h=>by
  rcases yF h with ⟨i,t,rfl,rfl⟩ | ⟨x,t,rfl,rfl⟩<;>rfl
 pyHash:=fun hv h=>by
  rcases yF hv with ⟨i,t,rfl,rfl⟩ | ⟨x,t,rfl,rfl⟩
  ·exact wpAny_pyHash_int h
  ·exact wpAny_pyHash_str h
 eqBool:=fun hu hv h=>by
  rcases yF hu with ⟨i,t,rfl,rfl⟩ | ⟨x,t,rfl,rfl⟩
  ·rcases yF hv with ⟨j,u,rfl,rfl⟩ | ⟨y,u,rfl,rfl⟩
   ·rw[zL0] at h;exact wpAny_eqBool_int h
   ·rw[zL2] at h;exact SeqAt.EqAt.int_str i t y u _ _ _ _ h
  ·rcases yF hv with ⟨j,u,rfl,rfl⟩ | ⟨y,u,rfl,rfl⟩
   ·rw[zL3] at h;exact SeqAt.EqAt.str_int x t j u _ _ _ _ h
   ·rw[zL1] at h;exact wpAny_eqBool_str h
 «strs»:=fun k x t v h=>by
  rcases yF h with ⟨i,u,rfl,e⟩ | ⟨y,u,rfl,e⟩
  ·exact nomatch e
  ·injection e with e1 _
   subst e1
   cases v<;>rfl
end L2
namespace L2
open PySem PySem.Spec PyProof.Rows
inductive V where
 | non | bl (b:Bool) | int (i:Int) | str (x:Str) | byt (b:Array UInt8) | flt (b:UInt64) | ref (a:Addr) | ty (n:String)
 deriving DecidableEq
def RelV:V→Value→Prop
 | .non,u=>u=Value.none
 | .bl b,u=>u=Value.bool b
 | .int i,u=>∃ t,u=Value.int i t
 | .str x,u=>∃ t,u=Value.str x t
 | .byt b,u=>∃ t,u=Value.bytes b t
 | .flt b,u=>∃ t,u=Value.float b t
 | .ref a,u=>u=Value.ref a
 | .ty n,u=>u=Value.type n
abbrev zW:List V→List Value→Prop:=Paired RelV
theorem zW.length{xs:List V}{us:List Value}(r:zW xs us):xs.length=us.length:=Paired.length r
theorem zW.get:∀ {xs:List V} {us:List Value} {i:Nat} {x:V},zW xs us→xs[i]?=some x→∃ u,us[i]?=some u∧RelV x u
 | _,_,_,_,.nil,e=>by simp at e
 | _,_,0,_,.cons r _,e=>by simp at e;subst e;exact⟨_,rfl,r⟩
 | _,_,i+1,x,.cons _ t,e=>by
  obtain⟨u,h1,h2⟩:=zW.get (i:=i) (x:=x) t (by simpa using e)
  exact⟨u,by simpa using h1,h2⟩
theorem zW.set{x:V}{u:Value}(r:RelV x u):∀ {xs:List V} {us:List Value} (i:Nat),zW xs us→zW (xs.set i x) (us.set i u)
 | _,_,_,.nil=>.nil
 | _,_,0,.cons _ t=>.cons r t
 | _,_,i+1,.cons q t=>.cons q (zW.set r i t)
theorem zW.append:∀ {xs ys:List V} {us ws:List Value},zW xs us→zW ys ws→zW (xs++ys) (us++ws)
 | _,_,_,_,.nil,s=>s
 | _,_,_,_,.cons r t,s=>.cons r (zW.append t s)
theorem zW.take:∀ {xs:List V} {us:List Value} (n:Nat),zW xs us→zW (xs.take n) (us.take n)
 | _,_,0,_=>.nil
 | _,_,_+1,.nil=>.nil
 | _,_,n+1,.cons r t=>.cons r (zW.take n t)
theorem zW.drop:∀ {xs:List V} {us:List Value} (n:Nat),zW xs us→zW (xs.drop n) (us.drop n)
 | _,_,0,r=>r
 | _,_,_+1,.nil=>.nil
 | _,_,n+1,.cons _ t=>zW.drop n t
def zL4:Option V→Option Value→Prop
 | some v,some u=>RelV v u
 | none,none=>True
 | _,_=>False
def KV{κ:Type}:List (κ×V)→List (κ×Value)→Prop:=Paired fun(p:κ×V) (q:κ×Value)=>p.1=q.1∧RelV p.2 q.2
def kV:Key→V
 | .inl i=>.int i
 | .inr x=>.str x
inductive HO where
 /-- a list -/
 | lst (xs:List V)
 /-- a tuple (never changes) -/
 | tup (xs:List V)
 /-- a dict whose keys are ints and texts;one whose keys are tuples of ints and texts (the empty one is both) -/
 | dK (kvs:List (Key×V)) | dT (kvs:List (List Key×V))
 /-- a set of ints: its members,its size -/
 | set (S:Int→Bool) (n:Nat)
 /-- an instance of the class at C,its dict at dx,its attributes -/
 | ins (C dx:Addr) (fs:List (Str×V))
 /-- the dict of the instance at x -/
 | own (x:Addr)
 /-- the dict of an exception -/
 | xd (fs:List (Str×V))
 /-- a bound method,f of x -/
 | met (f x:Addr)
 /-- a range object lo,lo+1,.. below hi -/
 | rng (lo hi:Int)
 /-- a thing that is known to the object (the script;a dict while a loop walks it): read,never written while it is so -/
 | frz (o:Obj) (u:HO)
 /-- a code object's table -/
 | tbl (ps:Array Value)
 /-- any other thing,by what is true of its one object (a def of one's own: SetO a S n:=HO.ext fun h=>..) -/
 | ext (φ:Heap→Prop)
abbrev Hp:=Addr→Option HO
def yc(H:Hp)(a:Addr)(o:HO):Hp:=fun b=>if b=a then some o else H b
theorem zi{H:Hp}{a:Addr}{o:HO}:yc H a o a=some o:=by unfold yc;rw[if_pos rfl]
theorem zu{H:Hp}{a b:Addr}{o:HO}(h:b≠a):yc H a o b=H b:=by unfold yc;rw[if_neg h]
theorem zLi{H:Hp}{a b:Addr}{o u:HO}(h:H a=some o)(h':H b=some u)(d:o≠u):a≠b:=by
 intro e;subst e;rw[h] at h';exact d (Option.some.inj h')
theorem yP{H:Hp}{a b:Addr}{o:HO}(h:H a=some o)(h':H b=none):a≠b:=by
 intro e;subst e;rw[h] at h';cases h'
def zCQ(h:Heap)(a:Addr)(items:Array Value):Prop:=∃ o,h.get? a=some o∧o.cls=.type "tuple"∧(∃ n,o.data=.seq items n)∧o.dict=none
theorem zCQ.isTup{h:Heap}{a:Addr}{items:Array Value}(x:zCQ h a items):IsTup h a items:=let ⟨o,h1,h2,h3,_⟩:=x;⟨o,h1,h2,h3⟩
theorem zCQ.lt{h:Heap}{a:Addr}{items:Array Value}(x:zCQ h a items):a<h.objs.size:=x.isTup.lt
theorem zCQ.new(h:Heap)(items:Array Value):zCQ (h.push { cls:=.type "tuple",data:=.seq items }) h.objs.size items:=⟨_,Heap.get?_push_size _ rfl,rfl,⟨_,rfl⟩,rfl⟩
section
variable (P:Program) (w:World)
def yx(H:Hp)(h:Heap)(a:Addr):HO→Prop
 | .lst xs=>xs.length≤sizeLine∧∃(its:List Value) (n:Nat),zW xs its∧h.get? a=some { cls:=.type "list",data:=.seq its.toArray n }
 | .tup xs=>xs.length≤sizeLine∧∃ its:List Value,zW xs its∧zCQ h a its.toArray
 | .dK kvs=>kvs.length≤sizeLine∧(a==sysModules)=false∧∃ vs,KV kvs vs∧h.DictOf (zHA P w) a vs
 | .dT kvs=>kvs.length≤sizeLine∧(a==sysModules)=false∧∃ xs:List (List Key×Addr×Value),
   Paired (fun(p:List Key×V) (q:List Key×Addr×Value)=>p.1=q.1∧H q.2.1=some (.tup (p.1.map kV))∧RelV p.2 q.2.2) kvs xs ∧
   ∃ o es ep,h.get? a=some o∧o.ExactDict∧o.data=.dict es ep∧es.toList=xs.map (entryOfKey (tupleKind (zHA P w)))∧(xs.map (·.1)).Nodup
 | .set S n=>h.SetOf (intKind P w) a S n
 | .ins C dx fs=>H dx=some (.own a)∧fs.length≤1000∧dx≠a∧h.get? a=some (PySem.W.instObj C dx) ∧
   ∃ mA,h.Ns1 dx mA∧(∀ f,zL4 (fs.lookup f) (mA f))∧PySem.Within mA (fs.map (·.1))
 | .own _=>∃ o,h.get? a=some o
 | .xd fs=>∃ mA,h.Ns1 a mA∧∀ f,zL4 (fs.lookup f) (mA f)
 | .rng lo hi=>∃ t u v,h.get? a=some { cls:=.type "range",data:=.fields #[.int lo t,.int hi u,.int 1 v] }
 | .frz o u=>h.get? a=some o∧yx H h a u
 | .tbl ps=>∃(q:Str) (t:Tok) (vs:Array Value),ps=#[.str q t]∧h.get? a=some (PySem.W.tabObj vs)∧TriplesOk vs.toList∧∀(pos:Pos) (cv:Value),codeAmong pos vs.toList=some cv →
   ∃(c:Addr) (o:Obj) (us:Array Value) (t':Tok),cv=.ref c∧H c=some (.frz o (.own 0))∧o.data=.fields us∧us[1]?=some (.str q t')
 | .met f x=>h.get? a=some (PySem.W.methodObj (.ref f) (.ref x))
 | .ext φ=>φ h∧(∃ o,h.get? a=some o)∧∀ h1 h2:Heap,φ h1→(∀ o,h1.get? a=some o→h2.get? a=some o)→φ h2
def HOk(H:Hp)(h:Heap):Prop:=∀ a o,H a=some o→yx P w H h a o
end
section
variable {P:Program} {w:World} {H H':Hp} {h h':Heap} {a:Addr} {o:HO}
theorem yx.lt(x:yx P w H h a o):a<h.objs.size:=by
 cases o with
 | lst xs=>obtain⟨_,_,_,_,e⟩:=x;exact Heap.lt_size e
 | tup xs=>obtain⟨_,_,_,p⟩:=x;exact p.lt
 | dK kvs=>obtain⟨_,_,_,_,o,_,_,e,_⟩:=x;exact Heap.lt_size e
 | dT kvs=>obtain⟨_,_,_,_,o,_,_,e,_⟩:=x;exact Heap.lt_size e
 | set S n=>obtain⟨o,_,_,_,e,_⟩:=x;exact Heap.lt_size e
 | ins C dx fs=>obtain⟨_,_,_,e,_⟩:=x;exact Heap.lt_size e
 | own y=>obtain⟨_,e⟩:=x;exact Heap.lt_size e
 | xd fs=>obtain⟨_,⟨_,_,_,e,_⟩,_⟩:=x;exact Heap.lt_size e
 | rng lo hi=>obtain⟨_,_,_,e⟩:=x;exact Heap.lt_size e
 | frz ob u=>obtain⟨e,_⟩:=x;exact Heap.lt_size e
 | tbl ps=>obtain⟨_,_,_,_,e,_⟩:=x;exact Heap.lt_size e
 | met f y=>exact Heap.lt_size (show h.get? a=some _ from x)
 | ext φ=>obtain⟨_,⟨_,e⟩,_⟩:=x;exact Heap.lt_size e
theorem Paired.mapP{α β:Type}{F G:α→β→Prop}:∀ {l₁:List α} {l₂:List β},Paired F l₁ l₂→(∀ a b,F a b→G a b)→Paired G l₁ l₂
 | _,_,.nil,_=>.nil
 | _,_,.cons r t,f=>.cons (f _ _ r) (Paired.mapP t f)
theorem yx.stay(x:yx P w H h a o)(k:∀ b u,(b=a∨H b=some (.own a))→h.get? b=some u→h'.get? b=some u)
  (ho:∀ b,H b=some (.own a)→H' b=some (.own a)) (ht:∀ b xs,H b=some (.tup xs)→H' b=some (.tup xs)) (hz:∀ b o u,H b=some (.frz o u)→H' b=some (.frz o u)):yx P w H' h' a o:=by
 induction o with
 | lst xs=>obtain⟨z,its,n,r,e⟩:=x;exact⟨z,its,n,r,k _ _ (.inl rfl) e⟩
 | tup xs=>obtain⟨z,its,r,ob,e,c⟩:=x;exact⟨z,its,r,ob,k _ _ (.inl rfl) e,c⟩
 | dK kvs=>obtain⟨z,y,vs,r,ob,es,ep,e,c⟩:=x;exact⟨z,y,vs,r,ob,es,ep,k _ _ (.inl rfl) e,c⟩
 | dT kvs =>
  obtain⟨z,y,xs,r,ob,es,ep,e,c⟩:=x
  exact⟨z,y,xs,Paired.mapP r fun p q z=>⟨z.1,ht _ _ z.2.1,z.2.2⟩,ob,es,ep,k _ _ (.inl rfl) e,c⟩
 | set S n=>obtain⟨ob,es,ep,t,e,c⟩:=x;exact⟨ob,es,ep,t,k _ _ (.inl rfl) e,c⟩
 | ins C dx fs =>
  obtain⟨d,z,ne,e,mA,⟨od,es,ep,e2,c⟩,r⟩:=x
  exact⟨ho _ d,z,ne,k _ _ (.inl rfl) e,mA,⟨od,es,ep,k _ _ (.inr d) e2,c⟩,r⟩
 | own y=>obtain⟨ob,e⟩:=x;exact⟨ob,k _ _ (.inl rfl) e⟩
 | xd fs=>obtain⟨mA,⟨od,es,ep,e,c⟩,r⟩:=x;exact⟨mA,⟨od,es,ep,k _ _ (.inl rfl) e,c⟩,r⟩
 | rng lo hi=>obtain⟨t,u,v,e⟩:=x;exact⟨t,u,v,k _ _ (.inl rfl) e⟩
 | frz ob u ih=>obtain⟨e,q⟩:=x;exact⟨k _ _ (.inl rfl) e,ih q⟩
 | tbl ps =>
  obtain⟨q,t,vs,e0,e,e1,e2⟩:=x
  refine⟨q,t,vs,e0,k _ _ (.inl rfl) e,e1,fun pos cv z=>?_⟩
  obtain⟨c,oc,us,t',z1,z2,z3⟩:=e2 pos cv z
  exact⟨c,oc,us,t',z1,hz _ _ _ z2,z3⟩
 | met f y =>
  have e:h.get? a=some (PySem.W.methodObj (.ref f) (.ref y)):=x
  show h'.get? a=some (PySem.W.methodObj (.ref f) (.ref y))
  exact k a _ (.inl rfl) e
 | ext φ=>obtain⟨p,⟨o,e⟩,st⟩:=x;exact⟨st _ _ p fun o q=>k _ _ (.inl rfl) q,⟨o,k _ _ (.inl rfl) e⟩,st⟩
theorem HOk.lt(x:HOk P w H h)(e:H a=some o):a<h.objs.size:=(x a o e).lt
theorem HOk.fresh(x:HOk P w H h)(e:h.objs.size≤a):H a=none:=by
 cases q:H a with
 | none=>rfl
 | some u=>exact absurd (Nat.lt_of_lt_of_le (x.lt q) e) (Nat.lt_irrefl _)
theorem HOk.kept(x:HOk P w H h)(k:∀ b u,h.get? b=some u→h'.get? b=some u):HOk P w H h':=fun a o e =>
 (x a o e).stay (fun b u _ q=>k b u q) (fun _ q=>q) (fun _ _ q=>q) fun _ _ _ q=>q
theorem HOk.laid(x:HOk P w H h)(k:∀ b u,h.get? b=some u→h'.get? b=some u)(hp:h.objs.size≤a)(new:yx P w (yc H a o) h' a o):HOk P w (yc H a o) h':=fun b u e=>by
 have hn:=x.fresh hp
 by_cases hb:b=a
 ·subst hb;rw[zi] at e;cases e;exact new
 ·rw[zu hb] at e
  exact(x b u e).stay (fun c v _ q=>k c v q) (fun c q=>by rw[zu (yP q hn)];exact q) (fun c xs q=>by rw[zu (yP q hn)];exact q) fun c oo u q=>by rw[zu (yP q hn)];exact q
end
def Rd(H:Hp)(a:Addr)(u:HO):Prop:=H a=some u∨∃ o,H a=some (.frz o u)
theorem Rd.of{H:Hp}{a:Addr}{u:HO}(h:H a=some u):Rd H a u:=.inl h
theorem Rd.ok{P:Program}{w:World}{H:Hp}{h:Heap}{a:Addr}{u:HO}(r:Rd H a u)(x:HOk P w H h):yx P w H h a u:=by
 rcases r with r | ⟨o,r⟩
 ·exact x a u r
 ·obtain⟨_,q⟩:=x a _ r
  exact q
def Mut:Option HO→Prop
 | some (.lst _)=>True
 | some (.dK _)=>True
 | some (.dT _)=>True
 | some (.set _ _)=>True
 | some (.ins _ _ _)=>True
 | some (.ext _)=>True
 | _=>False
section
variable {P:Program} {w:World} {H:Hp} {h h':Heap} {x e:Addr} {o':HO}
theorem HOk.write(ok:HOk P w H h)(mu:Mut (H x))(he:e=x∨H e=some (.own x))(k:∀ b u,b≠e→h.get? b=some u→h'.get? b=some u)(heo:∃ u,h'.get? e=some u)
  (new:yx P w (yc H x o') h' x o'):HOk P w (yc H x o') h':=fun b u q=>by
 have nown:∀ c y,H c=some (.own y)→c≠x:=fun c y r z=>by subst z;rw[r] at mu;exact mu
 have ntup:∀ c xs,H c=some (.tup xs)→c≠x:=fun c xs r z=>by subst z;rw[r] at mu;exact mu
 have nfrz:∀ c oo u,H c=some (.frz oo u)→c≠x:=fun c oo u r z=>by subst z;rw[r] at mu;exact mu
 by_cases hb:b=x
 ·subst hb;rw[zi] at q;cases q;exact new
 ·rw[zu hb] at q
  by_cases hbe:b=e
  ·have q':H b=some (.own x):=by
    rcases he with z | z
    ·exact absurd (hbe.trans z) hb
    ·rw[hbe];exact z
   rw[q] at q';cases q'
   obtain⟨v,hv⟩:=heo
   exact⟨v,by rw[hbe];exact hv⟩
  ·refine(ok b u q).stay (fun c v hc r=>k c v ?_ r) (fun c r=>by rw[zu (nown c b r)];exact r) (fun c xs r=>by rw[zu (ntup c xs r)];exact r) fun c oo u r=>by rw[zu (nfrz c oo u r)];exact r
   rcases hc with rfl | hc
   ·exact hbe
   ·rintro rfl
    rcases he with z | z
    ·exact nown c b hc z
    ·rw[hc] at z;cases z;exact hb rfl
end
structure Un (fs ex:List Addr) (H H':Hp) (h h':Heap):Prop where
 keep:∀ b o,h.get? b=some o→H b=none→b∉fs→b∉ex→h'.get? b=some o
 slot:∀ b o,h.get? b=some o→H b=none→b∈fs→b∉ex→∃ sl,h'.get? b=some { o with slots:=sl }
 free:∀ b o,h.get? b=some o→H b=none→b∉ex→H' b=none
 there:∀ b o,h.get? b=some o→b∉ex→∃ o',h'.get? b=some o'
 tups:∀ b xs,H b=some (.tup xs)→H' b=some (.tup xs)
 frzs:∀ b o u,H b=some (.frz o u)→H' b=some (.frz o u)
 tbls:∀ b ps,H b=some (.tbl ps)→H' b=some (.tbl ps)
section
variable {fs fs' ex ex':List Addr} {H H1 H2:Hp} {h h1 h2 h':Heap} {a x e:Addr} {o:HO}
theorem Un.any(u:Un fs ex H H1 h h1){b:Addr}{ob:Obj}(q:h.get? b=some ob)(n:H b=none)(hx:b∉ex):∃ sl,h1.get? b=some { ob with slots:=sl }:=by
 by_cases hb:b∈fs
 ·exact u.slot b ob q n hb hx
 ·exact⟨ob.slots,u.keep b ob q n hb hx⟩
theorem Un.trans(a:Un fs ex H H1 h h1)(b:Un fs ex H1 H2 h1 h2):Un fs ex H H2 h h2 where
 keep:=fun c ob q n hc hx=>b.keep c ob (a.keep c ob q n hc hx) (a.free c ob q n hx) hc hx
 slot:=fun c ob q n hc hx=>by
  obtain⟨sl,e1⟩:=a.slot c ob q n hc hx
  obtain⟨sl',e2⟩:=b.slot c _ e1 (a.free c ob q n hx) hc hx
  exact⟨sl',e2⟩
 free:=fun c ob q n hx=>by
  obtain⟨o',e1⟩:=a.there c ob q hx
  exact b.free c o' e1 (a.free c ob q n hx) hx
 there:=fun c ob q hx=>by
  obtain⟨o',e1⟩:=a.there c ob q hx
  exact b.there c o' e1 hx
 tups:=fun c xs q=>b.tups c xs (a.tups c xs q)
 frzs:=fun c ob xs q=>b.frzs c ob xs (a.frzs c ob xs q)
 tbls:=fun c ps q=>b.tbls c ps (a.tbls c ps q)
theorem Un.kept(k:∀ b u,h.get? b=some u→h'.get? b=some u):Un fs ex H H h h' :=
 ⟨fun b ob q _ _ _=>k b ob q,fun b ob q _ _ _=>⟨ob.slots,k b ob q⟩,fun _ _ _ n _=>n,fun b ob q _=>⟨ob,k b ob q⟩,fun _ _ q=>q,fun _ _ _ q=>q,fun _ _ q=>q⟩
theorem Un.refl:Un fs ex H H h h:=Un.kept fun _ _ q=>q
theorem Un.laid(k:∀ b u,h.get? b=some u→h'.get? b=some u)(hp:h.objs.size≤a)(hn:H a=none):Un fs ex H (yc H a o) h h' where
 keep:=fun b u q _ _ _=>k b u q
 slot:=fun b u q _ _ _=>⟨u.slots,k b u q⟩
 free:=fun b u q n _=>by rw[zu (Nat.ne_of_lt (Nat.lt_of_lt_of_le (Heap.lt_size q) hp))];exact n
 there:=fun b u q _=>⟨u,k b u q⟩
 tups:=fun b xs q=>by rw[zu (yP q hn)];exact q
 frzs:=fun b u xs q=>by rw[zu (yP q hn)];exact q
 tbls:=fun b ps q=>by rw[zu (yP q hn)];exact q
theorem Un.write(mu:Mut (H x))(he:e=x∨H e=some (.own x))(k:∀ b u,b≠e→h.get? b=some u→h'.get? b=some u)(heo:∃ u,h'.get? e=some u):Un fs ex H (yc H x o) h h':=by
 have hx:∀ b,H b=none→b≠x:=fun b n z=>by subst z;rw[n] at mu;exact mu
 have hb:∀ b,H b=none→b≠e:=fun b n z=>by
  subst z
  rcases he with r | r
  ·exact hx b n r
  ·rw[n] at r;cases r
 have hm:∀ b u,H b=some u→¬ Mut (some u)→b≠x:=fun b u q nm z=>by subst z;rw[q] at mu;exact nm mu
 refine⟨fun b u q n _ _=>k b u (hb b n) q,fun b u q n _ _=>⟨u.slots,k b u (hb b n) q⟩,fun b u q n _=>by rw[zu (hx b n)];exact n,fun b u q _=>?_,
  fun b xs q=>by rw[zu (hm b _ q fun z=>z)];exact q,fun b u xs q=>by rw[zu (hm b _ q fun z=>z)];exact q,fun b ps q=>by rw[zu (hm b _ q fun z=>z)];exact q⟩
 by_cases hbe:b=e
 ·subst hbe;exact heo
 ·exact⟨u,k b u hbe q⟩
theorem Un.mono(u:Un fs ex H H1 h h1)(hs:∀ b∈fs,b∈fs')(hx:∀ b∈ex,b∈ex'):Un fs' ex' H H1 h h1 :=
 ⟨fun b ob q n hb he=>u.keep b ob q n (fun z=>hb (hs b z)) fun z=>he (hx b z),fun _ _ q n _ he=>u.any q n fun z=>he (hx _ z),fun b ob q n he=>u.free b ob q n fun z=>he (hx b z),fun b ob q he=>u.there b ob q fun z=>he (hx b z),u.tups,u.frzs,u.tbls⟩
end
def trk(h:Heap)(H:Hp):List Addr:=(List.range h.objs.size).filter fun a=>(H a).isSome
def zEd(h:Heap)(H:Hp):Heap:=PySem.W.hideAll h (trk h H)
theorem zHu(h:Heap)(H:Hp):(zEd h H).objs.size=h.objs.size:=PySem.W.hideAll_size _ _
theorem zI1{h:Heap}{H:Hp}{b:Addr}{o:Obj}(e:h.get? b=some o)(n:H b=none):(zEd h H).get? b=some o :=
 PySem.W.hideAll_get _ e fun hm=>by
  have q:(H b).isSome=true:=(List.mem_filter.mp hm).2
  rw[n] at q;simp at q
theorem zKb{h:Heap}{H:Hp}{b:Addr}{o:Obj}(e:(zEd h H).get? b=some o):h.get? b=some o∧H b=none:=by
 have e':h.get? b=some o:=PySem.W.of_hideAll (trk h H) e
 refine⟨e',?_⟩
 cases q:H b with
 | none=>rfl
 | some x =>
  have hm:b∈trk h H:=List.mem_filter.mpr ⟨List.mem_range.mpr (Heap.lt_size e'),by simp[q]⟩
  have z:(zEd h H).get? b=none:=PySem.W.hideAll_none (trk h H) hm
  rw[z] at e;cases e
def zKc(g h:Heap)(L:Addr):List (Addr×Obj):=(List.range h.objs.size).filterMap fun a=>if a=L∨(g.get? a).isSome=true then none else (h.get? a).map fun o=>(a,o)
def rest(g h:Heap)(L d:Addr):List (Addr×Obj):=(zKc g h L).filter fun p=>decide (p.1≠d)
end L2
namespace L2
open PySem PySem.Spec PyProof.Rows
structure Mod (K:PySem.W.Frag) (mg:Str→Option Value) (base:Heap):Prop where
 kin:K.In base
 glob:base.Ns mainGlobals mg
 blt:∃ mb,base.Ns builtinsNs mb∧∀ x:Str,x≠"__name__"→mb x=bootBuiltins x
 nolimit:base.NoLimit
structure Cx where
 prog:Program
 w:World
 K:PySem.W.Frag
 mg:Str→Option Value
 base:Heap
 A:Around
 N:List Str
 s₀:Shared
 H₀:Hp
 env:Env
 outer:List Env
 stack:List Env
 ex:List Addr
 fn:Str→Bool
 calm:Bool
 pn:List (Addr×Obj)
 xe:Value→Shared→Prop
def frs(l:List Env):List Addr:=l.filterMap (·.frame)
abbrev Cx.fs(X:Cx):List Addr:=frs X.outer
def Vis(sc:Scope)(x:Str):Prop:=sc.names.lookup x=some .local∨sc.names.lookup x=some .cell∨sc.names.lookup x=some .free
def Loc(sc:Scope)(x:Str):Prop:=sc.names.lookup x=some .local∨sc.names.lookup x=some .cell
def Look(env:Env)(h:Heap)(m:Str→Option Value)(x:Str)(u:Value):Prop :=
 (env.kindOf x=some .local∧m x=some u)∨((env.kindOf x=some .cell∨env.kindOf x=some .free)∧∃ c,env.cells.lookup x=some c∧h.IsCell c (some u))
def zHB:List Str:=[]
def TabsOk(K:PySem.W.Frag)(H:Hp):Prop:=∀ x∈zHB,∀ c b,PySem.W.tabIn K x=some (c,b)→∃ t,H b=some (.tbl #[.str (x++".<locals>.<lambda>") t])
structure Cx.Ok (X:Cx):Prop where
 mod:Mod X.K X.mg X.base
 kind:X.env.scope.kind=.function
 glob:X.env.globals=mainGlobals
 blt:X.env.builtins=builtinsNs
 above:X.s₀.heap.objs.size≤X.env.locals
 inj:∀ x y c,X.env.cells.lookup x=some c→X.env.cells.lookup y=some c→x=y
 has:∀ x,(X.env.kindOf x=some .cell∨X.env.kindOf x=some .free)→∃ c,X.env.cells.lookup x=some c
 cab:∀ x c,X.fn x=true→X.env.cells.lookup x=some c→X.s₀.heap.objs.size≤c
 hd:X.calm=true→X.A.handled=none
 frames:X.A.frames=some X.stack
 stk:X.stack=X.outer∨(X.stack=X.env::X.outer∧X.env.frame=some X.env.locals)
 exf:∀ b∈X.ex,b≠X.env.locals∧∀ x c,X.env.cells.lookup x=some c→c≠b
 bs:∀ b o,X.base.get? b=some o→X.s₀.heap.get? b=some o∧X.H₀ b=none
 bsz:X.base.objs.size≤X.s₀.heap.objs.size
 noex:∀ b o,X.base.get? b=some o→b∉X.ex
 exfs:∀ b∈X.ex,b∉X.fs
 funs:X.s₀.heap.FunFrames X.base X.outer
 frf:∀ b∈X.fs,X.H₀ b=none
 tb:TabsOk X.K X.H₀
structure zU (X:Cx) (pins:List (Addr×Obj)) (σ:List (Option V)) (H:Hp) (s:Shared):Prop where
 ok:X.Ok
 os:s.os=X.s₀.os
 bare:AllBare s.gens
 base:Un X.fs X.ex X.H₀ H X.s₀.heap s.heap
 loc:∃ m,s.heap.Ns X.env.locals m∧∀(i:Nat) (x:Str) (v:V),X.N[i]?=some x→σ[i]?=some (some v)→Vis X.env.scope x→∃ u,RelV v u∧Look X.env s.heap m x u
 cell:∀ x c,X.env.cells.lookup x=some c→∃ v,s.heap.IsCell c v
 free:H X.env.locals=none
 freeC:∀ x c,X.env.cells.lookup x=some c→H c=none
 pin:∀ p∈X.pn++pins,s.heap.get? p.1=some p.2∧H p.1=none∧p.1≠X.env.locals∧p.1∉X.fs∧∀ v,p.2.data≠.cell v
 hok:HOk X.prog X.w H s.heap
 len:σ.length=X.N.length
section
variable {X:Cx} {pins:List (Addr×Obj)} {σ:List (Option V)} {H H':Hp} {s:Shared} {h':Heap}
theorem Cx.Ok.nofr(ok:X.Ok){b:Addr}{o:Obj}(e:X.base.get? b=some o):b∉X.fs:=fun hb=>by
 have:=(ok.funs.mem hb).1
 rw[e] at this;cases this
theorem zU.bs(I:zU X pins σ H s):∀ b o,X.base.get? b=some o→s.heap.get? b=some o∧H b=none:=fun b o e =>
 ⟨I.base.keep b o (I.ok.bs b o e).1 (I.ok.bs b o e).2 (I.ok.nofr e) (I.ok.noex b o e),I.base.free b o (I.ok.bs b o e).1 (I.ok.bs b o e).2 (I.ok.noex b o e)⟩
theorem zU.bk(I:zU X pins σ H s):∀ b o,X.base.get? b=some o→s.heap.get? b=some o:=fun b o e=>(I.bs b o e).1
theorem zU.mod(I:zU X pins σ H s):Mod X.K X.mg X.base:=I.ok.mod
theorem zU.tabs(I:zU X pins σ H s):TabsOk X.K H:=fun x hx c b e=>by
 obtain⟨t,q⟩:=I.ok.tb x hx c b e
 exact⟨t,I.base.tbls b _ q⟩
theorem zU.kIn(I:zU X pins σ H s):X.K.In s.heap:=I.ok.mod.kin.keeps I.bk
theorem zU.nolimit(I:zU X pins σ H s):s.heap.NoLimit:=I.ok.mod.nolimit.keeps I.bk
theorem zU.fr(I:zU X pins σ H s):∃ m,Fr X.base X.env.locals s.heap m :=
 let ⟨m,hn,_⟩:=I.loc
 ⟨m,hn,I.bk,Nat.le_trans I.ok.bsz I.ok.above⟩
theorem zU.lt(I:zU X pins σ H s):X.env.locals<s.heap.objs.size:=let ⟨_,hn,_⟩:=I.loc;hn.lt
theorem zU.sz(I:zU X pins σ H s):X.s₀.heap.objs.size≤s.heap.objs.size:=Nat.le_trans I.ok.above (Nat.le_of_lt I.lt)
theorem zU.nofs(I:zU X pins σ H s){a:Addr}(h:s.heap.objs.size≤a):a∉X.fs:=fun hb=>by
 obtain⟨_,o,ho,_⟩:=I.ok.funs.mem hb
 exact absurd (Nat.lt_of_lt_of_le (Heap.lt_size ho) (Nat.le_trans I.sz h)) (Nat.lt_irrefl _)
theorem zU.cne(I:zU X pins σ H s):∀ x c,X.env.cells.lookup x=some c→c≠X.env.locals:=fun x c e z=>by
 obtain⟨v,o,ho,hd⟩:=I.cell x c e
 obtain⟨m,⟨o',es,ep,ho',hd',_⟩,_⟩:=I.loc
 rw[z,ho'] at ho;cases ho;rw[hd'] at hd;cases hd
theorem zU.funs(I:zU X pins σ H s):s.heap.FunFrames X.base X.outer:=by
 have all:∀(l:List Env),(∀ b∈frs l,b∈X.fs)→X.s₀.heap.FunFrames X.base l→s.heap.FunFrames X.base l:=by
  intro l
  induction l with
  | nil=>intro _ _;trivial
  | cons env r ih =>
   intro hs hl
   obtain⟨hk,⟨L,o,hf,hn,ho,hd⟩,hr⟩:=hl
   have hL:L∈X.fs:=hs L (by unfold frs;rw[List.filterMap_cons,hf];exact List.mem_cons_self)
   obtain⟨sl,e⟩:=I.base.slot L o ho (I.ok.frf L hL) hL fun z=>I.ok.exfs L z hL
   exact⟨hk,⟨L,_,hf,hn,e,hd⟩,ih (fun b hb=>hs b (by unfold frs;rw[List.filterMap_cons,hf];exact List.mem_cons_of_mem _ hb)) hr⟩
 exact all X.outer (fun _ hb=>hb) I.ok.funs
theorem zU.stack(I:zU X pins σ H s):s.heap.FunFrames X.base X.stack:=by
 rcases I.ok.stk with e | ⟨e,hf⟩
 ·rw[e];exact I.funs
 ·rw[e]
  obtain⟨m,hn,_⟩:=I.loc
  refine .cons (by rw[I.ok.kind];decide) hf hn ?_ I.funs
  exact Heap.get?_none_of_le (Nat.le_trans I.ok.bsz I.ok.above)
theorem zU.stkSub(I:zU X pins σ H s):∀ b∈frs X.stack,b∈X.env.locals::X.fs:=fun b hb=>by
 rcases I.ok.stk with e | ⟨e,hf⟩
 ·rw[e] at hb;exact List.mem_cons_of_mem _ hb
 ·rw[e] at hb
  unfold frs at hb
  rw[List.filterMap_cons,hf] at hb
  exact hb
theorem zU.stkFree(I:zU X pins σ H s):∀ b∈frs X.stack,H b=none:=fun b hb=>by
 rcases List.mem_cons.mp (I.stkSub b hb) with e | hb
 ·rw[e];exact I.free
 ·obtain⟨_,o,ho,_⟩:=I.ok.funs.mem hb
  exact I.base.free b o ho (I.ok.frf b hb) fun z=>I.ok.exfs b z hb
theorem zU.step{g':Array GenState}{t':Nat}{d':Drawn}{ch:List Addr}(I:zU X pins σ H s)
  (hch:∀ b∈ch,(b∈X.ex∨X.s₀.heap.objs.size≤b)∧b≠X.env.locals∧(∀ x c,X.env.cells.lookup x=some c→c≠b)∧∀ p∈X.pn++pins,p.1≠b)
  (keep:∀ b o,b≠X.env.locals→b∉X.fs→b∉ch→s.heap.get? b=some o→H b=none→h'.get? b=some o)
  (slot:∀ b o,b≠X.env.locals→b∈X.fs→b∉ch→s.heap.get? b=some o→H b=none→∃ sl,h'.get? b=some { o with slots:=sl }) (free:∀ b o,b∉ch→s.heap.get? b=some o→H b=none→H' b=none)
  (there:∀ b o,b∉ch→s.heap.get? b=some o→∃ o',h'.get? b=some o')
  (tups:∀ b xs,H b=some (.tup xs)→H' b=some (.tup xs)) (frzs:∀ b o u,H b=some (.frz o u)→H' b=some (.frz o u)) (tbls:∀ b ps,H b=some (.tbl ps)→H' b=some (.tbl ps))
  (ns:∀ m,s.heap.Ns X.env.locals m→h'.Ns X.env.locals m) (hok:HOk X.prog X.w H' h') (hg:AllBare g') :
  zU X pins σ H' { s with heap:=h',gens:=g',drawn:=d',toks:=t' }:=by
 have neL:∀ b o,X.s₀.heap.get? b=some o→b≠X.env.locals:=fun b o e=>Nat.ne_of_lt (Nat.lt_of_lt_of_le (Heap.lt_size e) I.ok.above)
 have neC:∀ b o,X.s₀.heap.get? b=some o→b∉X.ex→b∉ch:=fun b o e hx hb=>by
  rcases(hch b hb).1 with z | z
  ·exact hx z
  ·exact absurd (Nat.lt_of_lt_of_le (Heap.lt_size e) z) (Nat.lt_irrefl _)
 have cellK:∀ x c,X.env.cells.lookup x=some c→∀ v,s.heap.IsCell c v→h'.IsCell c v:=fun x c e v ⟨o,ho,hd⟩=>by
  have nch:c∉ch:=fun z=>(hch c z).2.2.1 x c e rfl
  by_cases hc:c∈X.fs
  ·obtain⟨sl,q⟩:=slot c o (I.cne x c e) hc nch ho (I.freeC x c e)
   exact⟨_,q,hd⟩
  ·exact⟨o,keep c o (I.cne x c e) hc nch ho (I.freeC x c e),hd⟩
 refine⟨I.ok,I.os,hg,⟨fun b o e n hb hx=>?_,fun b o e n hb hx=>?_,fun b o e n hx=>?_,fun b o e hx=>?_,fun b xs e=>tups b xs (I.base.tups b xs e),fun b o xs e=>frzs b o xs (I.base.frzs b o xs e),fun b ps e=>?_⟩,?_,fun x c e=>?_,?_,fun x c e=>?_,fun p hp=>?_,hok,I.len⟩
 ·exact keep b o (neL b o e) hb (neC b o e hx) (I.base.keep b o e n hb hx) (I.base.free b o e n hx)
 ·obtain⟨sl,e1⟩:=I.base.slot b o e n hb hx
  obtain⟨sl',e2⟩:=slot b _ (neL b o e) hb (neC b o e hx) e1 (I.base.free b o e n hx)
  exact⟨sl',e2⟩
 ·obtain⟨o',e1⟩:=I.base.there b o e hx
  exact free b o' (neC b o e hx) e1 (I.base.free b o e n hx)
 ·obtain⟨o',e1⟩:=I.base.there b o e hx
  exact there b o' (neC b o e hx) e1
 ·exact tbls b _ (I.base.tbls b ps e)
 ·obtain⟨m,hn,hl⟩:=I.loc
  refine⟨m,ns m hn,fun i x v e1 e2 e3=>?_⟩
  obtain⟨u,r,l⟩:=hl i x v e1 e2 e3
  refine⟨u,r,?_⟩
  rcases l with l | ⟨k,c,e,z⟩
  ·exact .inl l
  ·exact .inr ⟨k,c,e,cellK x c e _ z⟩
 ·obtain⟨v,z⟩:=I.cell x c e
  exact⟨v,cellK x c e v z⟩
 ·obtain⟨m,⟨o,_,_,ho,_⟩,_⟩:=I.loc
  exact free _ o (fun z=>(hch _ z).2.1 rfl) ho I.free
 ·obtain⟨v,o,ho,hd⟩:=I.cell x c e
  exact free c o (fun z=>(hch c z).2.2.1 x c e rfl) ho (I.freeC x c e)
 ·obtain⟨e,n,ne,nf,d⟩:=I.pin p hp
  have nch:p.1∉ch:=fun z=>(hch p.1 z).2.2.2 p hp rfl
  exact⟨keep p.1 p.2 ne nf nch e n,free p.1 p.2 nch e n,ne,nf,d⟩
theorem zU.un{t':Nat}(I:zU X pins σ H s)(u:Un X.fs [] H H' s.heap h')(hok:HOk X.prog X.w H' h'):zU X pins σ H' { s with heap:=h',toks:=t' }:=by
 obtain⟨m,⟨o,es,ep,ho,r⟩,_⟩:=id I.loc
 obtain⟨sl,hL⟩:=u.any ho I.free (by simp)
 exact I.step (g':=s.gens) (d':=s.drawn) (ch:=[]) (fun _ z=>nomatch z) (fun b o _ hb _ e n=>u.keep b o e n hb (by simp)) (fun b o _ hb _ e n=>u.slot b o e n hb (by simp)) (fun b o _ e n=>u.free b o e n (by simp)) (fun b o _ e=>u.there b o e (by simp)) u.tups u.frzs u.tbls (fun m' hm=>by
  obtain⟨o',es',ep',ho',r'⟩:=hm
  rw[ho] at ho';cases ho'
  exact⟨_,es',ep',hL,r'⟩) hok I.bare
theorem zU.call{g':Array GenState}{t':Nat}{d':Drawn}{ch:List Addr}(I:zU X pins σ H s)(u:Un (frs X.stack) ch H H' s.heap h')(hok:HOk X.prog X.w H' h')(hg:AllBare g')
  (hch:∀ b∈ch,(b∈X.ex∨X.s₀.heap.objs.size≤b)∧b≠X.env.locals∧(∀ x c,X.env.cells.lookup x=some c→c≠b)∧∀ p∈X.pn++pins,p.1≠b) :
  zU X pins σ H' { s with heap:=h',gens:=g',drawn:=d',toks:=t' }:=by
 obtain⟨m,⟨o,es,ep,ho,r⟩,_⟩:=id I.loc
 obtain⟨sl,hL⟩:=u.any ho I.free fun z=>(hch _ z).2.1 rfl
 exact I.step (ch:=ch) hch (fun b o hL hb hc e n=>u.keep b o e n (fun z=>(List.mem_cons.mp (I.stkSub b z)).elim hL hb) hc) (fun b o _ _ hc e n=>u.any e n hc) (fun b o hc e n=>u.free b o e n hc) (fun b o hc e=>u.there b o e hc) u.tups u.frzs u.tbls (fun m' hm=>by
  obtain⟨o',es',ep',ho',r'⟩:=hm
  rw[ho] at ho';cases ho'
  exact⟨_,es',ep',hL,r'⟩) hok hg
theorem zU.turned{t':Nat}{it:Addr}(I:zU X pins σ H s)(k:∀ b o,b≠it→s.heap.get? b=some o→h'.get? b=some o)(hn:H it=none)(hL:it≠X.env.locals)
  (h1:it∈X.ex∨X.s₀.heap.objs.size≤it) (h2:∀ x c,X.env.cells.lookup x=some c→c≠it) (h3:∀ p∈X.pn++pins,p.1≠it):zU X pins σ H { s with heap:=h',toks:=t' }:=by
 have nit:∀ b u,H b=some u→b≠it:=fun b u e z=>by rw[z,hn] at e;cases e
 refine I.step (g':=s.gens) (d':=s.drawn) (ch:=[it]) (fun b hb=>?_) (fun b o _ _ hc e _=>k b o (fun z=>hc (by simp[z])) e) (fun b o _ _ hc e _=>⟨o.slots,k b o (fun z=>hc (by simp[z])) e⟩) (fun _ _ _ _ n=>n)
  (fun b o hc e=>⟨o,k b o (fun z=>hc (by simp[z])) e⟩) (fun _ _ e=>e) (fun _ _ _ e=>e) (fun _ _ e=>e) (fun m hm=>?_) (fun b u e=>?_) I.bare
 ·have e:b=it:=by simpa using hb
  subst e
  exact⟨h1,hL,h2,h3⟩
 ·obtain⟨o,es,ep,ho,r⟩:=hm
  exact⟨o,es,ep,k _ o (Ne.symm hL) ho,r⟩
 ·refine(I.hok b u e).stay (fun c v hc q=>k c v ?_ q) (fun _ q=>q) (fun _ _ q=>q) fun _ _ _ q=>q
  rcases hc with z | z
  ·rw[z];exact nit b u e
  ·exact nit c _ z
theorem zU.tok(I:zU X pins σ H s)(t:Nat):zU X pins σ H { s with toks:=t }:=I.un (h':=s.heap) (t':=t) Un.refl I.hok
theorem zU.kept{t':Nat}(I:zU X pins σ H s)(k:∀ b u,s.heap.get? b=some u→h'.get? b=some u):zU X pins σ H { s with heap:=h',toks:=t' }:=I.un (Un.kept k) (I.hok.kept k)
theorem zU.laid{a:Addr}{o:HO}{t':Nat}(I:zU X pins σ H s)(k:∀ b u,s.heap.get? b=some u→h'.get? b=some u)(hp:s.heap.objs.size≤a)(new:yx X.prog X.w (yc H a o) h' a o) :
  zU X pins σ (yc H a o) { s with heap:=h',toks:=t' }:=I.un (Un.laid k hp (I.hok.fresh hp)) (I.hok.laid k hp new)
theorem zU.write{x e:Addr}{o:HO}{t':Nat}(I:zU X pins σ H s)(mu:Mut (H x))(he:e=x∨H e=some (.own x))(k:∀ b u,b≠e→s.heap.get? b=some u→h'.get? b=some u)(heo:∃ u,h'.get? e=some u)
  (new:yx X.prog X.w (yc H x o) h' x o):zU X pins σ (yc H x o) { s with heap:=h',toks:=t' }:=I.un (Un.write mu he k heo) (I.hok.write mu he k heo new)
theorem zU.weak{σ':List (Option V)}(I:zU X pins σ H s)(hl:σ'.length=σ.length)(w:∀(i:Nat) v,σ'[i]?=some (some v)→σ[i]?=some (some v)):zU X pins σ' H s :=
 ⟨I.ok,I.os,I.bare,I.base,let ⟨m,hn,hl'⟩:=I.loc;⟨m,hn,fun i x v e1 e2 e3=>hl' i x v e1 (w i v e2) e3⟩,I.cell,I.free,I.freeC,I.pin,I.hok,hl.trans I.len⟩
theorem zU.pins_of{pins':List (Addr×Obj)}(I:zU X pins σ H s)(h:∀ p∈pins',s.heap.get? p.1=some p.2∧H p.1=none∧p.1≠X.env.locals∧p.1∉X.fs∧∀ v,p.2.data≠.cell v):zU X pins' σ H s :=
 ⟨I.ok,I.os,I.bare,I.base,I.loc,I.cell,I.free,I.freeC,fun p hp=>(List.mem_append.mp hp).elim (fun z=>I.pin p (List.mem_append_left _ z)) (h p),I.hok,I.len⟩
theorem zFE{N:List Str}(hN:N.Nodup){i j:Nat}{x:Str}(a:N[i]?=some x)(b:N[j]?=some x):i=j:=by
 obtain⟨h1,e1⟩:=List.getElem?_eq_some_iff.mp a
 obtain⟨h2,e2⟩:=List.getElem?_eq_some_iff.mp b
 exact(List.getElem_inj hN).mp (e1.trans e2.symm)
theorem zCR{M:Model}{A:Around}{E:Value→Shared→Prop}{i:Nat}{x:Str}{v:V}{u:Value}{Q:Unit→Shared→Prop}(I:zU X pins σ H s)(hN:X.N.Nodup)(hi:X.N[i]?=some x)(hx:Loc X.env.scope x)(r:RelV v u)
  (h:∀ s',zU X pins (σ.set i (some v)) H s'→(∃ a,Heap.SameBut a s.heap s'.heap∧(a=X.env.locals∨X.env.cells.lookup x=some a))→Q () s') (hf:X.fn x=true∨X.env.scope.names.lookup x=some .local:=by first | exact .inl rfl | exact .inr rfl | assumption):wpAny M A (storeName X.env x u) Q E s:=by
 obtain⟨m,hn,hl⟩:=id I.loc
 have hcls:(X.env.scope.kind==.class||(X.env.scope.kind==.module&&X.env.locals != X.env.globals))=false:=by rw[I.ok.kind];rfl
 have hiσ:i<σ.length:=by rw[I.len];exact(List.getElem?_eq_some_iff.mp hi).1
 have cne:=I.cne
 have tracked:∀ {a:Addr} {h':Heap},(∃ o,s.heap.get? a=some o∧H a=none)→Heap.SameBut a s.heap h'→HOk X.prog X.w H h':=fun {a h'} ha hs b ob e=>by
  obtain⟨_,_,hfree⟩:=ha
  refine(I.hok b ob e).stay (fun c w' hc q=>(hs.2 c ?_).trans q) (fun _ q=>q) (fun _ _ q=>q) fun _ _ _ q=>q
  rintro rfl
  rcases hc with rfl | hc
  ·rw[hfree] at e;cases e
  ·rw[hfree] at hc;cases hc
 rcases hx with hk | hk
 ·refine wpAny_storeName_local hk hn (fun h' hn' hs=>?_) hcls
  obtain⟨oL,_,_,hoL,_⟩:=id hn
  refine h _ ⟨I.ok,I.os,I.bare,⟨fun b o e n hb hx=>?_,fun b o e n hb hx=>?_,I.base.free,fun b o e hx=>?_,I.base.tups,I.base.frzs,I.base.tbls⟩,⟨_,hn',fun j y v' e1 e2 e3=>?_⟩,fun y c e=>?_,I.free,I.freeC,fun p hp=>?_,tracked ⟨oL,hoL,I.free⟩ hs,by simpa using I.len⟩ ⟨_,hs,.inl rfl⟩
  ·exact(hs.2 b (Nat.ne_of_lt (Nat.lt_of_lt_of_le (Heap.lt_size e) I.ok.above))).trans (I.base.keep b o e n hb hx)
  ·obtain⟨sl,e1⟩:=I.base.slot b o e n hb hx
   exact⟨sl,(hs.2 b (Nat.ne_of_lt (Nat.lt_of_lt_of_le (Heap.lt_size e) I.ok.above))).trans e1⟩
  ·obtain⟨o',e1⟩:=I.base.there b o e hx
   exact⟨o',(hs.2 b (Nat.ne_of_lt (Nat.lt_of_lt_of_le (Heap.lt_size e) I.ok.above))).trans e1⟩
  ·by_cases hj:j=i
   ·subst hj
    rw[hi] at e1;cases e1
    rw[List.getElem?_set_self hiσ] at e2
    cases e2
    exact⟨u,r,.inl ⟨hk,by simp⟩⟩
   ·rw[List.getElem?_set_ne (Ne.symm hj)] at e2
    obtain⟨u',r',q⟩:=hl j y v' e1 e2 e3
    refine⟨u',r',?_⟩
    rcases q with ⟨k,e⟩ | ⟨k,c,e,z⟩
    ·refine .inl ⟨k,?_⟩
     have:y≠x:=fun e=>hj (zFE hN e1 (e▸hi))
     simp[this,e]
    ·exact .inr ⟨k,c,e,z.sameBut hs (cne y c e)⟩
  ·obtain⟨w',z⟩:=I.cell y c e
   exact⟨w',z.sameBut hs (cne y c e)⟩
  ·obtain⟨e,n,ne,nf,d⟩:=I.pin p hp
   exact⟨(hs.2 p.1 ne).trans e,n,ne,nf,d⟩
 ·have hfn:X.fn x=true:=by
   rcases hf with z | z
   ·exact z
   ·rw[z] at hk;cases hk
  obtain⟨c,hc⟩:=I.ok.has x (.inl hk)
  obtain⟨w',z⟩:=I.cell x c hc
  refine wpAny_storeName_cell I.ok.kind hk hc z (fun h' hc' hs=>?_)
  obtain⟨oc,hoc,hocd⟩:=id z
  refine h { s with heap:=h' } ⟨I.ok,I.os,I.bare,⟨fun b o e n hb hx=>?_,fun b o e n hb hx=>?_,I.base.free,fun b o e hx=>?_,I.base.tups,I.base.frzs,I.base.tbls⟩,⟨m,hn.sameBut hs (Ne.symm (cne x c hc)),fun j y v' e1 e2 e3=>?_⟩,fun y c' e=>?_,I.free,I.freeC,fun p hp=>?_,tracked ⟨oc,hoc,I.freeC x c hc⟩ hs,by simpa using I.len⟩ ⟨c,hs,.inr hc⟩
  ·exact(hs.2 b (Nat.ne_of_lt (Nat.lt_of_lt_of_le (Heap.lt_size e) (I.ok.cab x c hfn hc)))).trans (I.base.keep b o e n hb hx)
  ·obtain⟨sl,e1⟩:=I.base.slot b o e n hb hx
   exact⟨sl,(hs.2 b (Nat.ne_of_lt (Nat.lt_of_lt_of_le (Heap.lt_size e) (I.ok.cab x c hfn hc)))).trans e1⟩
  ·obtain⟨o',e1⟩:=I.base.there b o e hx
   exact⟨o',(hs.2 b (Nat.ne_of_lt (Nat.lt_of_lt_of_le (Heap.lt_size e) (I.ok.cab x c hfn hc)))).trans e1⟩
  ·by_cases hj:j=i
   ·subst hj
    rw[hi] at e1;cases e1
    rw[List.getElem?_set_self hiσ] at e2
    cases e2
    exact⟨u,r,.inr ⟨.inl hk,c,hc,hc'⟩⟩
   ·rw[List.getElem?_set_ne (Ne.symm hj)] at e2
    obtain⟨u',r',q⟩:=hl j y v' e1 e2 e3
    refine⟨u',r',?_⟩
    rcases q with q | ⟨k,c',e,z'⟩
    ·exact .inl q
    ·refine .inr ⟨k,c',e,z'.sameBut hs ?_⟩
     rintro rfl
     exact hj (zFE hN e1 (I.ok.inj _ _ _ e hc▸hi))
  ·by_cases hcc:c'=c
   ·subst hcc;exact⟨_,hc'⟩
   ·obtain⟨w2,z2⟩:=I.cell y c' e
    exact⟨w2,z2.sameBut hs hcc⟩
  ·obtain⟨e,n,ne,nf,d⟩:=I.pin p hp
   refine⟨(hs.2 p.1 ?_).trans e,n,ne,nf,d⟩
   intro q
   rw[q,hoc] at e
   have q':oc=p.2:=Option.some.inj e
   exact d w' (by rw[← q'];exact hocd)
theorem zBu{M:Model}{A:Around}{E:Value→Shared→Prop}{i:Nat}{x:Str}{v:V}{u:Value}{Q:Unit→Shared→Prop}(I:zU X pins σ H s)(hN:X.N.Nodup)(hi:X.N[i]?=some x)(hx:Loc X.env.scope x)(r:RelV v u)
  (h:∀ s',zU X pins (σ.set i (some v)) H s'→Q () s') (hf:X.fn x=true∨X.env.scope.names.lookup x=some .local:=by first | exact .inl rfl | exact .inr rfl | assumption):wpAny M A (storeName X.env x u) Q E s :=
 zCR I hN hi hx r (fun s' I' _=>h s' I') hf
theorem zU.call'{s':Shared}{ch:List Addr}(I:zU X pins σ H s)(ho:s'.os=s.os)(u:Un (frs X.stack) ch H H' s.heap s'.heap)(hok:HOk X.prog X.w H' s'.heap)(hg:AllBare s'.gens)
  (hch:∀ b∈ch,(b∈X.ex∨X.s₀.heap.objs.size≤b)∧b≠X.env.locals∧(∀ x c,X.env.cells.lookup x=some c→c≠b)∧∀ p∈X.pn++pins,p.1≠b):zU X pins σ H' s':=by
 obtain⟨h',g',d',t',o'⟩:=s'
 have e:o'=s.os:=ho
 subst e
 exact I.call (g':=g') (t':=t') (d':=d') u hok hg hch
end
abbrev XK:=Value→Option Addr→Hp→Prop
abbrev St:=List (Option V)
abbrev VK:=V→Hp→Prop
abbrev TE:=St→Hp→VK→Prop
abbrev TT:=St→Hp→(Bool→Hp→Prop)→Prop
abbrev TA:=St→Hp→(List V→Hp→Prop)→Prop
structure Ends where
 nx:St→Hp→Prop
 rt:VK
 bk:St→Hp→Prop:=fun _ _=>False
 ct:St→Hp→Prop:=fun _ _=>False
abbrev TS:=Ends→St→Hp→Prop
def EP(X:Cx)(pins:List (Addr×Obj))(σ:St)(Q:VK)(u:Value)(s':Shared):Prop:=∃ v H',zU X pins σ H' s'∧RelV v u∧Q v H'
def TP(X:Cx)(pins:List (Addr×Obj))(σ:St)(Q:Bool→Hp→Prop)(b:Bool)(s':Shared):Prop:=∃ H',zU X pins σ H' s'∧Q b H'
def AP(X:Cx)(pins:List (Addr×Obj))(σ:St)(Q:List V→Hp→Prop)(us:List Value)(s':Shared):Prop:=∃ vs H',zU X pins σ H' s'∧zW vs us∧Q vs H'
def SP(X:Cx)(pins:List (Addr×Obj))(D:Ends)(f:Flow)(s':Shared):Prop :=
 match f with
 | .next=>∃ σ' H',zU X pins σ' H' s'∧D.nx σ' H'
 | .brk=>∃ σ' H',zU X pins σ' H' s'∧D.bk σ' H'
 | .cont=>∃ σ' H',zU X pins σ' H' s'∧D.ct σ' H'
 | .ret u=>∃ v σ' H',zU X pins σ' H' s'∧RelV v u∧D.rt v H'
def PE(X:Cx)(e:Expr)(t:TE):Prop :=
 ∀(pins:List (Addr×Obj)) (s:Shared) (σ:St) (H:Hp) (Q:VK),zU X pins σ H s→t σ H Q→wpAny (model X.prog X.w) X.A (eval e X.env) (EP X pins σ Q) X.xe s
def PT(X:Cx)(e:Expr)(t:TT):Prop :=
 ∀(pins:List (Addr×Obj)) (s:Shared) (σ:St) (H:Hp) (Q:Bool→Hp→Prop),zU X pins σ H s→t σ H Q→wpAny (model X.prog X.w) X.A (isTrue e X.env (eval e X.env)) (TP X pins σ Q) X.xe s
def PW(X:Cx)(e:Expr)(t:TT):Prop :=
 ∀(whole:Sem Value) (pins:List (Addr×Obj)) (s:Shared) (σ:St) (H:Hp) (Q:Bool→Hp→Prop),zU X pins σ H s→t σ H Q→wpAny (model X.prog X.w) X.A (isTrue e X.env whole) (TP X pins σ Q) X.xe s
theorem PW.pt{X:Cx}{e:Expr}{t:TT}(h:PW X e t):PT X e t:=h _
def PA(X:Cx)(es:List Expr)(t:TA):Prop :=
 ∀(pos:Pos) (pins:List (Addr×Obj)) (s:Shared) (σ:St) (H:Hp) (Q:List V→Hp→Prop),zU X pins σ H s→t σ H Q→wpAny (model X.prog X.w) X.A (spliced (backTo pos (starEach es X.env))) (AP X pins σ Q) X.xe s
def PS(X:Cx)(st:Stmt)(t:TS):Prop :=
 ∀(pins:List (Addr×Obj)) (s:Shared) (σ:St) (H:Hp) (D:Ends),zU X pins σ H s→t D σ H→wpAny (model X.prog X.w) X.A (exec st X.env) (SP X pins D) X.xe s
def PSs(X:Cx)(st:List Stmt)(t:TS):Prop :=
 ∀(pins:List (Addr×Obj)) (s:Shared) (σ:St) (H:Hp) (D:Ends),zU X pins σ H s→t D σ H→wpAny (model X.prog X.w) X.A (execs st X.env) (SP X pins D) X.xe s
theorem yV{α:Type}{t:Sem α}{Q Q':α→Shared→Prop}{M:Model}{A:Around}{E:Value→Shared→Prop}{s:Shared}(h:wpAny M A t Q E s)(hQ:∀ a s,Q a s→Q' a s):wpAny M A t Q' E s:=wpAny_mono h hQ fun _ _ x=>x
end L2
namespace L2
open PySem PySem.Spec PyProof.Rows
section
variable {X:Cx}
def zOF(i:Nat):TE:=fun σ H Q=>∃ v,σ[i]?=some (some v)∧Q v H
def tC(v:V):TE:=fun _ H Q=>Q v H
theorem zL5{i:Nat}{x:Str}{pos:Pos}(hN:X.N[i]?=some x)(hv:Vis X.env.scope x)(hd:(x==("__debug__":Str))=false:=by decide)(hcd:(x==("__classdict__":Str))=false:=by decide):PE X (.Name x pos) (zOF i):=by
 intro pins s σ H Q I h
 obtain⟨v,e,h⟩:=h
 obtain⟨m,hn,hl⟩:=I.loc
 obtain⟨u,r,l⟩:=hl i x v hN e hv
 have fin:EP X pins σ Q u s:=⟨v,H,I,r,h⟩
 rcases l with ⟨hk,hm⟩ | ⟨hk,c,hc,hcell⟩
 ·exact wpAny_Name (wpAny_loadName_local I.ok.kind hk hn hm fin) hd
 ·rcases hk with hk | hk
  ·exact wpAny_Name (wpAny_loadName_cell I.ok.kind hk hc hcell fin) hd
  ·exact wpAny_Name (wpAny_loadName_free I.ok.kind hk hc hcell fin hcd) hd
theorem zL6{i j pos}:PE X (.Constant (.int i) j pos) (tC (.int i)):=fun _ _ _ H _ I h=>wpAny_Constant_int ⟨.int i,H,I.tok _,⟨_,rfl⟩,h⟩
theorem zNT{b j pos}:PE X (.Constant (.bool b) j pos) (tC (.bl b)):=fun _ _ _ H _ I h=>Constant_bool ⟨.bl b,H,I,rfl,h⟩
def Gl(X:Cx)(x:Str):Prop:=X.env.kindOf x=some .globalImplicit
theorem zKd{E:Value→Shared→Prop}{pins:List (Addr×Obj)}{s:Shared}{σ:St}{H:Hp}{x:Str}{u:Value}{pos:Pos}{Q:Value→Shared→Prop}(I:zU X pins σ H s)(hg:Gl X x)(hm:X.mg x=some u)(h:Q u s)
  (hd:(x==("__debug__":Str))=false:=by decide):wpAny (model X.prog X.w) X.A (eval (.Name x pos) X.env) Q E s :=
 Calls.Name_function_global I.ok.kind hg (Calls.loadGlobal_global (by rw[I.ok.glob];exact I.mod.glob.keeps I.bk) hm h) hd
theorem zBE{E:Value→Shared→Prop}{pins:List (Addr×Obj)}{s:Shared}{σ:St}{H:Hp}{x:Str}{u:Value}{pos:Pos}{Q:Value→Shared→Prop}(I:zU X pins σ H s)(hg:Gl X x)(hm:X.mg x=none)(hv:bootBuiltins x=some u)(h:Q u s)
  (hn:x≠"__name__":=by decide) (hd:(x==("__debug__":Str))=false:=by decide):wpAny (model X.prog X.w) X.A (eval (.Name x pos) X.env) Q E s:=by
 obtain⟨mb,h1,h2⟩:=I.mod.blt
 exact Calls.Name_function_global I.ok.kind hg (Calls.loadGlobal_builtin (by rw[I.ok.glob];exact I.mod.glob.keeps I.bk) hm (by rw[I.ok.blt];exact h1.keeps I.bk) ((h2 x hn).trans hv) h) hd
theorem zEe{x:Str}{v:V}{u:Value}{pos:Pos}(hg:Gl X x)(hm:X.mg x=none)(hv:bootBuiltins x=some u)(r:RelV v u)(hn:x≠"__name__":=by decide)(hd:(x==("__debug__":Str))=false:=by decide):PE X (.Name x pos) (tC v) :=
 fun _ _ _ H _ I h=>zBE I hg hm hv ⟨v,H,I,r,h⟩ hn hd
variable {a b:Expr} {ta tb:TE} {pos:Pos}
def tB(t:TE):TT:=fun σ H Q=>t σ H fun x H1=>∃ c,x=.bl c∧Q c H1
theorem zL7{e:Expr}{t:TE}(h:PE X e t)(he:∀ whole,isTrue e X.env whole=(do let v ← whole;standAt e.pos;holding [v] (truthy v)):=by intro _;rfl):PT X e (tB t):=by
 intro pins s σ H Q I hw
 refine isTrue_plain (yV (h pins s σ H _ I hw) fun v s1 ⟨x,H1,I1,r1,q1⟩=>?_) (he _)
 obtain⟨d,rfl,q⟩:=q1
 cases r1
 exact wpAny_truthy_bool ⟨H1,I1,q⟩
variable {tA tB':TT} {rest:List Expr}
def zOG(t u:TT):TT:=fun σ H Q=>t σ H fun c H1=>if c=true then u σ H1 Q else Q false H1
def tOr(t u:TT):TT:=fun σ H Q=>t σ H fun c H1=>if c=true then Q true H1 else u σ H1 Q
def zOH(t:TT):TT:=fun σ H Q=>t σ H fun c H1=>Q (!c) H1
theorem zKe(ha:PT X a tA):PW X (.BoolOp .And [a] pos) tA:=by
 intro wh pins s σ H Q I h
 refine isTrue_and (yV (ha pins s σ H Q I h) fun c s1 e=>?_)
 cases c with
 | true=>exact isTrue_and_nil e
 | false=>exact e
theorem zL8(ha:PT X a tA):PW X (.BoolOp .Or [a] pos) tA:=by
 intro wh pins s σ H Q I h
 refine isTrue_or (yV (ha pins s σ H Q I h) fun c s1 e=>?_)
 cases c with
 | false=>exact isTrue_or_nil e
 | true=>exact e
theorem zL9(ha:PT X a tA)(hb:PW X (.BoolOp .And (b::rest) pos) tB'):PW X (.BoolOp .And (a::b::rest) pos) (zOG tA tB'):=by
 intro wh pins s σ H Q I h
 refine isTrue_and (yV (ha pins s σ H _ I h) fun c s1 ⟨H1,I1,q1⟩=>?_)
 cases c with
 | true=>exact hb wh pins s1 σ H1 Q I1 q1
 | false=>exact⟨H1,I1,q1⟩
theorem zNU(ha:PT X a tA)(hb:PW X (.BoolOp .Or (b::rest) pos) tB'):PW X (.BoolOp .Or (a::b::rest) pos) (tOr tA tB'):=by
 intro wh pins s σ H Q I h
 refine isTrue_or (yV (ha pins s σ H _ I h) fun c s1 ⟨H1,I1,q1⟩=>?_)
 cases c with
 | true=>exact⟨H1,I1,q1⟩
 | false=>exact hb wh pins s1 σ H1 Q I1 q1
theorem zMA(ha:PT X a tA):PT X (.UnaryOp .Not a pos) (zOH tA):=by
 intro pins s σ H Q I h
 exact isTrue_not (ha pins s σ H (fun c H1=>Q (!c) H1) I h)
def zNV(ta tb:TE):TE:=fun σ H Q=>ta σ H fun x H1=>∃ c,x=.bl c∧if c=true then tb σ H1 Q else Q (.bl false) H1
def zNW(ta:TE):TE:=fun σ H Q=>ta σ H fun x H1=>∃ c,x=.bl c∧Q (.bl (!c)) H1
theorem zMB{op}{t:TE}(h:PE X a t):PE X (.BoolOp op [a] pos) t:=fun pins s σ H Q I hw=>BoolOp_one (h pins s σ H Q I hw)
theorem zMC(ha:PE X a ta)(hb:PE X (.BoolOp .And (b::rest) pos) tb):PE X (.BoolOp .And (a::b::rest) pos) (zNV ta tb):=by
 intro pins s σ H Q I h
 refine BoolOp_and (yV (ha pins s σ H _ I h) fun v s1 ⟨x,H1,I1,r1,q1⟩=>?_)
 obtain⟨c,rfl,q1⟩:=q1
 cases r1
 refine wpAny_truthy_bool ?_
 cases c with
 | true=>exact hb pins s1 σ H1 Q I1 q1
 | false=>exact⟨.bl false,H1,I1,rfl,q1⟩
theorem zMD(ha:PE X a ta):PE X (.UnaryOp .Not a pos) (zNW ta):=by
 intro pins s σ H Q I h
 refine UnaryOp_ (yV (ha pins s σ H _ I h) fun v s1 ⟨x,H1,I1,r1,q1⟩=>?_)
 obtain⟨c,rfl,q1⟩:=q1
 cases r1
 exact not_of (wpAny_truthy_bool ⟨.bl (!c),H1,I1,rfl,q1⟩)
end
end L2
namespace L2
open PySem PySem.Spec PyProof.Rows
def SqL(K:PySem.W.Frag)(H:Hp)(a:Addr)(xs:List V):Prop :=
 Rd H a (.lst xs) ∨
  ∃(o:Obj) (its:Array Value) (n:Nat),K.lookup a=some o∧o.cls=.type "list"∧o.dict=none∧o.data=.seq its n∧its.size≤sizeLine∧zW xs its.toList
def SqT(K:PySem.W.Frag)(H:Hp)(a:Addr)(xs:List V):Prop :=
 Rd H a (.tup xs) ∨
  ∃(o:Obj) (its:Array Value) (n:Nat),K.lookup a=some o∧o.cls=.type "tuple"∧o.data=.seq its n∧its.size≤sizeLine∧zW xs its.toList∧o.dict=none
def zOI:Value→Option V
 | .none=>some .non
 | .bool b=>some (.bl b)
 | .int i _=>some (.int i)
 | .str x _=>some (.str x)
 | .bytes b _=>some (.byt b)
 | .float b _=>some (.flt b)
 | .ref a=>some (.ref a)
 | .type n=>some (.ty n)
 | _=>none
theorem RelV.abs{x:V}{u:Value}(r:RelV x u):zOI u=some x:=by
 cases x with
 | non=>cases r;rfl
 | bl _=>cases r;rfl
 | int _=>obtain⟨t,rfl⟩:=r;rfl
 | str _=>obtain⟨t,rfl⟩:=r;rfl
 | byt _=>obtain⟨t,rfl⟩:=r;rfl
 | flt _=>obtain⟨t,rfl⟩:=r;rfl
 | ref _=>cases r;rfl
 | ty _=>cases r;rfl
theorem RelV.inj{x y:V}{u:Value}(r:RelV x u)(q:RelV y u):x=y:=Option.some.inj (r.abs.symm.trans q.abs)
theorem zW.inj:∀ {xs ys:List V} {us:List Value},zW xs us→zW ys us→xs=ys
 | _,_,_,.nil,.nil=>rfl
 | _,_,_,.cons r t,.cons r' t'=>by rw[r.inj r',zW.inj t t']
section
variable {X:Cx} {pins:List (Addr×Obj)} {σ:St} {H:Hp} {s:Shared} {a:Addr} {xs ys:List V}
theorem SqL.of{K:PySem.W.Frag}(h:H a=some (.lst xs)):SqL K H a xs:=.inl (.inl h)
theorem SqT.of{K:PySem.W.Frag}(h:H a=some (.tup xs)):SqT K H a xs:=.inl (.inl h)
theorem zU.list(I:zU X pins σ H s)(h:SqL X.K H a xs):∃ its:List Value,zW xs its∧PlainL s.heap a its.toArray∧xs.length≤sizeLine:=by
 rcases h with h | ⟨o,its,n,hk,hc,hd,hs,hz,r⟩
 ·obtain⟨z,its,n,r,e⟩:=h.ok I.hok
  exact⟨its,r,⟨_,n,e,rfl,rfl,rfl⟩,z⟩
 ·refine⟨its.toList,r,⟨o,n,I.kIn a o hk,hc,hd,by simpa using hs⟩,?_⟩
  have e:=r.length
  simp only[Array.length_toList] at e
  omega
theorem zU.tuple(I:zU X pins σ H s)(h:SqT X.K H a xs):∃ its:List Value,zW xs its∧IsTup s.heap a its.toArray∧xs.length≤sizeLine:=by
 rcases h with h | ⟨o,its,n,hk,hc,hs,hz,r,_⟩
 ·obtain⟨z,its,r,p⟩:=h.ok I.hok
  exact⟨its,r,p.isTup,z⟩
 ·refine⟨its.toList,r,⟨o,I.kIn a o hk,hc,n,by simpa using hs⟩,?_⟩
  have e:=r.length
  simp only[Array.length_toList] at e
  omega
theorem zU.noDict(I:zU X pins σ H s)(h:SqT X.K H a xs):s.TypeIs (.ref a) "tuple"∧∃ ob,s.heap.get? a=some ob∧ob.dict=none:=by
 rcases h with h | ⟨o,its,n,hk,hc,hs,hz,r,hd⟩
 ·obtain⟨z,its,r,o,h1,h2,h3,h4⟩:=h.ok I.hok
  exact⟨⟨o,h1,h2⟩,o,h1,h4⟩
 ·exact⟨⟨o,I.kIn a o hk,hc⟩,o,I.kIn a o hk,hd⟩
theorem zU.list_inj(I:zU X pins σ H s)(h:SqL X.K H a xs)(h':SqL X.K H a ys):xs=ys:=by
 obtain⟨its,r,⟨o,n,e,_,_,d⟩,_⟩:=I.list h
 obtain⟨its',r',⟨o',n',e',_,_,d'⟩,_⟩:=I.list h'
 rw[e] at e';cases e'
 rw[d] at d'
 injection d' with d1 _
 have:its=its':=by simpa using congrArg Array.toList d1
 subst this
 exact r.inj r'
theorem zU.tuple_inj(I:zU X pins σ H s)(h:SqT X.K H a xs)(h':SqT X.K H a ys):xs=ys:=by
 obtain⟨its,r,⟨o,e,_,n,d⟩,_⟩:=I.tuple h
 obtain⟨its',r',⟨o',e',_,n',d'⟩,_⟩:=I.tuple h'
 rw[e] at e';cases e'
 rw[d] at d'
 injection d' with d1 _
 have:its=its':=by simpa using congrArg Array.toList d1
 subst this
 exact r.inj r'
end
abbrev Cx.wish(X:Cx)(E:Value→Shared→Prop):Cx:={ X with xe:=E }
abbrev Cx.nox(X:Cx):Cx:=X.wish fun _ _=>False
theorem Cx.Ok.wish{X:Cx}(ok:X.Ok)(E:Value→Shared→Prop):(X.wish E).Ok :=
 ⟨ok.mod,ok.kind,ok.glob,ok.blt,ok.above,ok.inj,ok.has,ok.cab,ok.hd,ok.frames,ok.stk,ok.exf,ok.bs,ok.bsz,ok.noex,ok.exfs,ok.funs,ok.frf,ok.tb⟩
theorem Cx.Ok.unwish{X:Cx}{E:Value→Shared→Prop}(ok:(X.wish E).Ok):X.Ok :=
 ⟨ok.mod,ok.kind,ok.glob,ok.blt,ok.above,ok.inj,ok.has,ok.cab,ok.hd,ok.frames,ok.stk,ok.exf,ok.bs,ok.bsz,ok.noex,ok.exfs,ok.funs,ok.frf,ok.tb⟩
section
variable {X:Cx} {pins:List (Addr×Obj)} {σ:St} {H:Hp} {s:Shared} {E:Value→Shared→Prop}
theorem zU.wish(I:zU X pins σ H s)(E:Value→Shared→Prop):zU (X.wish E) pins σ H s:=⟨I.ok.wish E,I.os,I.bare,I.base,I.loc,I.cell,I.free,I.freeC,I.pin,I.hok,I.len⟩
theorem zU.unwish(I:zU (X.wish E) pins σ H s):zU X pins σ H s:=⟨I.ok.unwish,I.os,I.bare,I.base,I.loc,I.cell,I.free,I.freeC,I.pin,I.hok,I.len⟩
theorem SP.unwish{D:Ends}{f:Flow}{s':Shared}(h:SP (X.wish E) pins D f s'):SP X pins D f s':=by
 cases f with
 | next=>obtain⟨σ',H',I,q⟩:=h;exact⟨σ',H',I.unwish,q⟩
 | brk=>obtain⟨σ',H',I,q⟩:=h;exact⟨σ',H',I.unwish,q⟩
 | cont=>obtain⟨σ',H',I,q⟩:=h;exact⟨σ',H',I.unwish,q⟩
 | ret u=>obtain⟨v,σ',H',I,r,q⟩:=h;exact⟨v,σ',H',I.unwish,r,q⟩
theorem PSs.nox{st:List Stmt}{t:TS}(h:PSs X.nox st t):PSs X st t:=fun pins s σ H D I hw =>
 wpAny_mono (h pins s σ H D (I.wish _) hw) (fun _ _ q=>q.unwish) fun _ _ z=>False.elim z
end
section
variable {X:Cx} {st:Stmt} {rest:List Stmt} {t u:TS} {e:Expr} {te:TE} {pos:Pos}
def zNX:TS:=fun D σ H=>D.nx σ H
def zOJ(t u:TS):TS:=fun D σ H=>t { D with nx:=u D } σ H
theorem zKf:PSs X [] zNX:=fun _ _ σ H _ I h=>wpAny_execs_nil ⟨σ,H,I,h⟩
theorem zI2(h1:PS X st t)(h2:PSs X rest u):PSs X (st::rest) (zOJ t u):=by
 intro pins s σ H D I h
 refine wpAny_execs_cons (yV (h1 pins s σ H { D with nx:=u D } I h) fun f s1 q=>?_)
 cases f with
 | next =>
  obtain⟨σ',H',I',q⟩:=q
  exact h2 pins s1 σ' H' D I' q
 | ret v=>exact q
 | brk=>exact q
 | cont=>exact q
theorem zKg(h1:PS X st t):PSs X [st] t:=by
 intro pins s σ H D I h
 refine wpAny_execs_cons (yV (h1 pins s σ H D I h) fun f s1 q=>?_)
 cases f with
 | next=>exact wpAny_execs_nil q
 | ret v=>exact q
 | brk=>exact q
 | cont=>exact q
theorem zU.quiet{pins:List (Addr×Obj)}{σ:St}{H:Hp}{s:Shared}(I:zU X pins σ H s):interactive X.env=false:=by simp[interactive,I.ok.kind]
def zNY(te:TE):TS:=fun D σ H=>te σ H fun _ H1=>D.nx σ H1
theorem zKh(he:PE X e te)(hs:swapsWith e none pos.line X.env=pure false:=by rfl):PS X (.Expr e pos) (zNY te):=by
 intro pins s σ H D I h
 exact wpAny_Expr_any (yV (he pins s σ H _ I h) fun v s1 ⟨x,H1,I1,r1,q1⟩=>⟨σ,H1,I1,q1⟩) I.quiet hs
def zOK(te:TE):TS:=fun D σ H=>te σ H D.rt
theorem zME(he:PE X e te):PS X (.Return (some e) pos) (zOK te):=by
 intro pins s σ H D I h
 exact wpAny_Return_some (yV (he pins s σ H _ I h) fun v s1 ⟨x,H1,I1,r1,q1⟩=>⟨x,σ,H1,I1,r1,q1⟩)
def zOL(c:TT)(t u:TS):TS:=fun D σ H=>c σ H fun b H1=>if b=true then t D σ H1 else u D σ H1
theorem zNZ{c:Expr}{a b:List Stmt}{tc:TT}(hc:PT X c tc)(ha:PSs X a t)(hb:PSs X b u):PS X (.If c a b pos) (zOL tc t u):=by
 intro pins s σ H D I h
 refine wpAny_If (yV (hc pins s σ H _ I h) fun d s1 ⟨H1,I1,q1⟩=>?_)
 cases d with
 | true=>exact ha pins s1 σ H1 D I1 q1
 | false=>exact hb pins s1 σ H1 D I1 q1
end
abbrev TG:=V→St→Hp→(St→Hp→Prop)→Prop
abbrev TGs:=List V→St→Hp→(St→Hp→Prop)→Prop
def PG(X:Cx)(target:Expr)(t:TG):Prop :=
 ∀(pins:List (Addr×Obj)) (s:Shared) (σ:St) (H:Hp) (v:V) (u:Value) (Q:St→Hp→Prop),zU X pins σ H s→RelV v u→t v σ H Q →
  wpAny (model X.prog X.w) X.A (assign target X.env u) (fun _ s'=>∃ σ' H',zU X pins σ' H' s'∧Q σ' H') X.xe s
def PGs(X:Cx)(ts:List Expr)(t:TGs):Prop :=
 ∀(pins:List (Addr×Obj)) (s:Shared) (σ:St) (H:Hp) (vs:List V) (us:List Value) (Q:St→Hp→Prop),zU X pins σ H s→zW vs us→t vs σ H Q →
  wpAny (model X.prog X.w) X.A (assignInOrder ((assignEach ts X.env).map (·.2)) us) (fun _ s'=>∃ σ' H',zU X pins σ' H' s'∧Q σ' H') X.xe s
abbrev zMF:=V→V→V→Hp→(Hp→Prop)→Prop
def zNa(X:Cx)(t:zMF):Prop :=
 ∀(pins:List (Addr×Obj)) (s:Shared) (σ:St) (H:Hp) (o i v:V) (ov iv u:Value) (Q:Hp→Prop),zU X pins σ H s→RelV o ov→RelV i iv→RelV v u→t o i v H Q →
  wpAny (model X.prog X.w) X.A (setItem ov iv u) (fun _ s'=>∃ H',zU X pins σ H' s'∧Q H') X.xe s
section
variable {X:Cx} {pos:Pos}
def zBg(i:Nat):TG:=fun v σ H Q=>Q (σ.set i (some v)) H
theorem zAU{i:Nat}{x:Str}(hN:X.N.Nodup)(hi:X.N[i]?=some x)(hx:Loc X.env.scope x)(hf:X.fn x=true∨X.env.scope.names.lookup x=some .local:=by first | exact .inl rfl | exact .inr rfl | assumption):PG X (.Name x pos) (zBg i):=by
 intro pins s σ H v u Q I r h
 exact wpAny_assign_Name (zBu I hN hi hx r (fun s' I'=>⟨_,H,I',h⟩) hf)
def zMG:TGs:=fun vs σ H Q=>vs=[]∧Q σ H
def zFF(t:TG)(u:TGs):TGs:=fun vs σ H Q=>∃ v r,vs=v::r∧t v σ H fun σ' H'=>u r σ' H' Q
theorem zHC:PGs X [] zMG:=by
 intro pins s σ H vs us Q I r h
 obtain⟨e,h⟩:=h
 subst e
 cases r
 exact assignInOrder_nil ⟨σ,H,I,h⟩
theorem zBv{e:Expr}{es:List Expr}{t:TG}{u:TGs}(h1:PG X e t)(h2:PGs X es u)
  (hs:(assignEach (e::es) X.env).map (·.2)=assign e X.env::(assignEach es X.env).map (·.2):=by rfl):PGs X (e::es) (zFF t u):=by
 intro pins s σ H vs us Q I r h
 obtain⟨v,vr,e1,h⟩:=h
 subst e1
 cases r with
 | cons r rr =>
  rw[hs]
  refine assignInOrder_cons (yV (h1 pins s σ H _ _ _ I r h) fun _ s1 ⟨σ1,H1,I1,q1⟩=>?_)
  exact h2 pins s1 σ1 H1 _ _ Q I1 rr q1
def zMH(K:PySem.W.Frag)(n:Nat)(t:TGs):TG:=fun v σ H Q=>∃ a xs,v=.ref a∧SqT K H a xs∧xs.length=n∧t xs σ H Q
theorem zI3{es:List Expr}{k:Nat}{t:TGs}{n:Nat}(hc:X.calm=true)(h:PGs X es t)
  (hn:(assignEach es X.env).length=n:=by rfl) (hst:(assignEach es X.env).findIdx? (·.1)=none:=by rfl):PG X (.Tuple es k pos) (zMH X.K n t):=by
 intro pins s σ H v u Q I r hw
 obtain⟨a,xs,e1,hq,hl,hw⟩:=hw
 subst e1
 cases r
 obtain⟨its,rv,ht,hz⟩:=I.tuple hq
 refine assign_Tuple_tuple (I.ok.hd hc) ht (by simp[hn,← hl,rv.length]) hst fun h' hx=>?_
 have I1:zU X pins σ H { s with heap:=h' }:=I.kept (t':=s.toks) fun b o e=>hx b o (Nat.ne_of_lt (Heap.lt_size e)) e
 exact h pins _ σ H xs _ Q I1 (by simpa using rv) hw
def zOM(to ti:TE)(t:zMF):TG:=fun v σ H Q=>to σ H fun o H1=>ti σ H1 fun i H2=>t o i v H2 fun H3=>Q σ H3
theorem zMI{o i:Expr}{to ti:TE}{t:zMF}(ho:PE X o to)(hi:PE X i ti)(hs:zNa X t)
  (ha:∀ v,assign (.Subscript o i pos) X.env v=(do
   let ov ← holding [v] (eval o X.env)
   let iv ← holding [v,ov] (eval i X.env)
   standAt pos
   holding [v,ov,iv] (setItem ov iv v)
   release [v,ov,iv] []):=by intro _;rfl):PG X (.Subscript o i pos) (zOM to ti t):=by
 intro pins s σ H v u Q I r h
 rw[ha]
 refine wpAny_bind (wpAny_holding (yV (ho pins s σ H _ I h) fun ov s1 ⟨x,H1,I1,r1,q1⟩=>?_))
 refine wpAny_bind (wpAny_holding (yV (hi pins s1 σ H1 _ I1 q1) fun iv s2 ⟨y,H2,I2,r2,q2⟩=>?_))
 refine wpAny_bind (wpAny_standAt (wpAny_bind (wpAny_holding (yV (hs pins s2 σ H2 x y v ov iv u _ I2 r1 r2 r q2) fun _ s3 ⟨H3,I3,q3⟩=>?_))))
 exact wpAny_release ⟨σ,H3,I3,q3⟩
def zMJ(te:TE)(g:TG):TS:=fun D σ H=>te σ H fun x H1=>g x σ H1 D.nx
theorem zMK{tg e:Expr}{te:TE}{g:TG}(he:PE X e te)(hg:PG X tg g)(hs:swapsWithSole [tg] e pos.line X.env=pure false:=by rfl)(hw:swappedStores [tg] e X.env=pure none:=by rfl)
  (h1:(assignEach [tg] X.env).map (·.2)=[assign tg X.env]:=by rfl):PS X (.Assign [tg] e pos) (zMJ te g):=by
 intro pins s σ H D I h
 refine wpAny_Assign_stores (yV (he pins s σ H _ I h) fun v s1 ⟨x,H1,I1,r1,q1⟩=>?_) hs hw
 rw[h1]
 exact yV (hg pins s1 σ H1 x v _ I1 r1 q1) fun _ s2 q=>q
theorem zML{i:Nat}{x:Str}{e:Expr}{te:TE}{pos':Pos}(hN:X.N.Nodup)(hi:X.N[i]?=some x)(hx:Loc X.env.scope x)(he:PE X e te)(hs:swapsWith e (some (.Name x pos')) pos.line X.env=pure false:=by rfl)(hf:X.fn x=true∨X.env.scope.names.lookup x=some .local:=by first | exact .inl rfl | exact .inr rfl | assumption) :
  PS X (.Assign [.Name x pos'] e pos) (zMJ te (zBg i)):=by
 intro pins s σ H D I h
 refine wpAny_Assign_Name (yV (he pins s σ H _ I h) fun v s1 ⟨y,H1,I1,r1,q1⟩=>?_) hs
 exact zBu I1 hN hi hx r1 (fun s2 I2=>⟨_,H1,I2,q1⟩) hf
def zON(i j:Nat)(ta:TA):TS:=fun D σ H=>ta σ H fun vs H1=>∃ v w,vs=[v,w]∧D.nx ((σ.set i (some v)).set j (some w)) H1
theorem zMM{i j:Nat}{x y:Str}{a b:Expr}{ta:TA}{px py pt:Pos}{kt k2 pt2}(hc:X.calm=true)(hN:X.N.Nodup)(hi:X.N[i]?=some x)(hj:X.N[j]?=some y)(hij:i≠j)
  (hx:X.env.scope.names.lookup x=some .local) (hy:X.env.scope.names.lookup y=some .local) (ha:PA X [a,b] ta)
  (hw:swappedStores [.Tuple [.Name x px,.Name y py] kt pt] (.Tuple [a,b] k2 pt2) X.env=pure (some [x,y]))
  (hs:swapsWithSole [.Tuple [.Name x px,.Name y py] kt pt] (.Tuple [a,b] k2 pt2) pos.line X.env=pure false:=by rfl) :
  PS X (.Assign [.Tuple [.Name x px,.Name y py] kt pt] (.Tuple [a,b] k2 pt2) pos) (zON i j ta):=by
 intro pins s σ H D I h
 rw[exec_Assign_arm]
 refine wpAny_bind (wpAny_standAt ?_)
 rw[hs]
 refine wpAny_bind (wpAny_pure ?_)
 rw[if_neg (by decide)]
 refine wpAny_bind (Tuple_ (yV (ha _ pins s σ H _ I h) fun us s1 ⟨vs,H1,I1,r1,q1⟩=>?_))
 obtain⟨v,w,e1,q1⟩:=q1
 subst e1
 obtain⟨u1,u2,rfl,rv,rw'⟩:∃ u1 u2,us=[u1,u2]∧RelV v u1∧RelV w u2:=by
  cases r1 with
  | cons p q =>
   cases q with
   | cons p' q' =>
    cases q'
    exact⟨_,_,rfl,p,p'⟩
 refine wpAny_newObj_type ?_ (by show 2≤sizeLine;decide)
 have I2:zU X pins σ H1 { s1 with heap:=s1.heap.push { cls:=.type "tuple",data:=.seq [u1,u2].toArray } }:=I1.kept (t':=s1.toks) fun b o e=>Heap.get?_push_of_some _ e
 rw[hw]
 refine wpAny_bind (wpAny_pure ?_)
 show wpAny (model X.prog X.w) X.A (do rule "assign.swapped-stores";let items ← unpackItems (.ref s1.heap.objs.size) 2 none;assignInOrder [fun v=>bindName X.env y v,fun v=>bindName X.env x v] items.reverse;pure Flow.next) _ _ _
 refine wpAny_bind (wpAny_rule (wpAny_bind (unpackItems_tuple (items:=#[u1,u2]) (I.ok.hd hc) (IsTup.new s1.heap _) fun h' hx'=>?_)))
 have I3:=I2.kept (h':=h') (t':=s1.toks) fun b o e=>hx' b o (Nat.ne_of_lt (Heap.lt_size e)) e
 show wpAny _ _ (assignInOrder [fun v=>bindName X.env y v,fun v=>bindName X.env x v] [u2,u1]>>=fun _=>pure Flow.next) _ _ _
 refine wpAny_bind (assignInOrder_cons (wpAny_bindName (zBu I3 hN hj (.inl hy) rw' (fun s2 I4=>?_) (.inr hy))))
 refine assignInOrder_cons (wpAny_bindName (zBu I4 hN hi (.inl hx) rv (fun s3 I5=>assignInOrder_nil (wpAny_pure ?_)) (.inr hx)))
 rw[List.set_comm _ _ (Ne.symm hij)] at I5
 exact⟨_,H1,I5,q1⟩
end
section
variable {X:Cx} {pos:Pos}
end
structure It where
 go:Nat→Hp→Prop
 yld:Nat→Hp→V→Hp→Prop
 stop:Nat→Hp→Prop
def zBC(X:Cx)(pins:List (Addr×Obj))(H:Hp)(b:Addr):Prop :=
 H b=none∧b≠X.env.locals∧b∉X.fs∧(b∈X.ex∨X.s₀.heap.objs.size≤b)∧(∀ x c,X.env.cells.lookup x=some c→c≠b)∧∀ p∈X.pn++pins,p.1≠b
theorem zU.fpOk{X:Cx}{pins:List (Addr×Obj)}{σ:St}{H H':Hp}{s:Shared}{b:Addr}(I:zU X pins σ H s)(hb:s.heap.objs.size≤b)(hn:H' b=none):zBC X pins H' b:=by
 refine⟨hn,Nat.ne_of_gt (Nat.lt_of_lt_of_le I.lt hb),I.nofs hb,.inr (Nat.le_trans I.sz hb),fun x c e z=>?_,fun p hp z=>?_⟩
 ·obtain⟨v,q⟩:=I.cell x c e
  exact absurd (Nat.lt_of_lt_of_le q.lt (by rw[z];exact hb)) (Nat.lt_irrefl _)
 ·exact absurd (Nat.lt_of_lt_of_le (Heap.lt_size (I.pin p hp).1) (by rw[z];exact hb)) (Nat.lt_irrefl _)
structure Turn (P:Program) (w:World) (K:PySem.W.Frag) (tg:Expr) (J:It) (fp:List Addr) (it:Addr) (tn:Nat→Heap→Prop):Prop where
 mem:it∈fp
 obj:∀ i h,tn i h→∀ b∈fp,∃ o,h.get? b=some o∧∀ v,o.data≠.cell v
 keep:∀ i h h',tn i h→(∀ b∈fp,∀ o,h.get? b=some o→h'.get? b=some o)→tn i h'
 item:∀(X:Cx),X.prog=P→X.w=w→X.K=K→X.calm=true→∀(i:Nat) (pins:List (Addr×Obj)) (s:Shared) (σ:St) (H:Hp) (E:Value→Shared→Prop),zU X pins σ H s→(∀ b∈fp,zBC X pins H b)→tn i s.heap→J.go i H →
  wpAny (model P w) X.A (pyNext (.ref it)) (fun r s1=>∃ u,r=some u ∧
   wpAny (model P w) X.A (letOwnedTupleGo tg (.ref it) u) (fun _ s2=>∃ x H',zU X pins σ H' s2∧RelV x u∧J.yld i H x H'∧tn (i+1) s2.heap∧∀ b∈fp,H' b=none) E s1) E s
 done:∀(X:Cx),X.prog=P→X.w=w→X.K=K→X.calm=true→∀(i:Nat) (pins:List (Addr×Obj)) (s:Shared) (σ:St) (H:Hp) (E:Value→Shared→Prop),zU X pins σ H s→(∀ b∈fp,zBC X pins H b)→tn i s.heap→J.stop i H →
  wpAny (model P w) X.A (pyNext (.ref it)) (fun r s1=>r=none∧zU X pins σ H s1) E s
 self:∀(A:Around) (i:Nat) (s:Shared) (Q:Value→Shared→Prop) (E:Value→Shared→Prop),tn i s.heap→Q (.ref it) s→wpAny (model P w) A (pyIter (.ref it)) Q E s
abbrev TI:=St→Hp→(It→Hp→Prop)→Prop
def PIE(X:Cx)(pins:List (Addr×Obj))(σ:St)(tg:Expr)(R:It→Hp→Prop)(itv:Value)(s2:Shared):Prop :=
 ∃(it:Addr) (fp:List Addr) (tn:Nat→Heap→Prop) (J:It) (H':Hp),itv=.ref it∧zU X pins σ H' s2∧Turn X.prog X.w X.K tg J fp it tn∧tn 0 s2.heap∧(∀ b∈fp,zBC X pins H' b)∧R J H'
def PI(X:Cx)(tg iter:Expr)(wi:TI):Prop :=
 ∀(pins:List (Addr×Obj)) (s:Shared) (σ:St) (H:Hp) (R:It→Hp→Prop),zU X pins σ H s→wi σ H R →
  wpAny (model X.prog X.w) X.A (eval iter X.env) (fun v s1=>wpAny (model X.prog X.w) X.A (pyIter v) (PIE X pins σ tg R) X.xe s1) X.xe s
theorem zI4{M:Model}{A:Around}{E:Value→Shared→Prop}{s:Shared}{tg:Expr}{it:Addr}{u:Value}{o:Obj}{n:String}{vs:Array Value}{Q:Unit→Shared→Prop}(ho:s.heap.get? it=some o)(hc:o.cls=.type n)(hd:o.data=.fields vs)
    (hn:["enumerate","zip","dict_itemiterator","dict_reverseitemiterator","odict_iterator","itertools.zip_longest","itertools.pairwise"].contains n=false) (hQ:Q () s):wpAny M A (letOwnedTupleGo tg (.ref it) u) Q E s:=by
  unfold letOwnedTupleGo
  cases tg<;>first
    | exact wpAny_pure hQ
    | (cases u<;>first
        | exact wpAny_pure hQ
        | (refine wpAny_bind (wpAny_load ho ?_)
           rw[hc,hd]
           show wpAny M A (if (["enumerate","zip","dict_itemiterator","dict_reverseitemiterator","odict_iterator","itertools.zip_longest","itertools.pairwise"].contains n&&vs[0]?==some (rawInt _))=true then _ else _) Q E s
           rw[if_neg (by intro h;rw[hn,Bool.false_and] at h;cases h)]
           exact wpAny_pure hQ))
def Itl(K:PySem.W.Frag)(a:Addr):It :=
 ⟨fun i H=>∃ xs x,SqL K H a xs∧xs[i]?=some x,fun i H x H'=>H'=H∧∀ xs,SqL K H a xs→xs[i]?=some x,fun i H=>∃ xs,SqL K H a xs∧xs.length≤i⟩
def Itt(K:PySem.W.Frag)(a:Addr):It :=
 ⟨fun i H=>∃ xs x,SqT K H a xs∧xs[i]?=some x,fun i H x H'=>H'=H∧∀ xs,SqT K H a xs→xs[i]?=some x,fun i H=>∃ xs,SqT K H a xs∧xs.length≤i⟩
def Itr(lo:Int)(n:Nat):It:=⟨fun i _=>i<n,fun i H x H'=>H'=H∧x=.int (lo+i),fun i _=>n≤i⟩
theorem zHv{P:Program}{w:World}{K:PySem.W.Frag}{tg:Expr}(a it:Addr):Turn P w K tg (Itl K a) [it] it (fun i h=>h.IsListIter it a i) where
 mem:=by simp
 obj:=fun i h st b hb=>by
  have e:b=it:=by simpa using hb
  subst e
  obtain⟨o,e,c,d⟩:=st
  exact⟨o,e,fun v z=>by rw[d] at z;cases z⟩
 keep:=fun i h h' st k=>st.at fun o e=>k it (by simp) o e
 item:=by
  intro X hP hw hK hc i pins s σ H E I hf st hg
  subst hP hw hK
  obtain⟨xs,x,hq,hx⟩:=hg
  obtain⟨its,rv,p,hz⟩:=I.list hq
  obtain⟨u,hu,ru⟩:=rv.get hx
  obtain⟨f0,f1,f2,f3,f4,f5⟩:=hf it (by simp)
  refine wpAny_pyNext_list_item st p.isList (x:=u) (by simpa using hu) fun h' st' sb=>?_
  have I1:zU X pins σ H { s with heap:=h' }:=I.turned (t':=s.toks) (fun b o hb e=>(sb.2 b hb).trans e) f0 f1 f3 f4 f5
  obtain⟨o,e,c,d⟩:=id st'
  exact⟨u,rfl,zI4 (s:={ s with heap:=h' }) e c d (by decide) ⟨x,H,I1,ru,⟨rfl,fun ys hy=>by rw[I.list_inj hy hq];exact hx⟩,st',fun b hb=>(hf b hb).1⟩⟩
 done:=by
  intro X hP hw hK hc i pins s σ H E I hf st hg
  subst hP hw hK
  obtain⟨xs,hq,hx⟩:=hg
  obtain⟨its,rv,p,hz⟩:=I.list hq
  obtain⟨f0,f1,f2,f3,f4,f5⟩:=hf it (by simp)
  have hl:=rv.length
  exact wpAny_pyNext_list_end (I.ok.hd hc) st p.isList (by simp;omega) fun h' eb=>⟨rfl,I.turned (t':=s.toks) (fun b o hb e=>eb b o hb e) f0 f1 f3 f4 f5⟩
 self:=fun _ _ _ _ _ st h=>wpAny_pyIter_listiter st h
theorem zGG{P:Program}{w:World}{K:PySem.W.Frag}{tg:Expr}(a it:Addr):Turn P w K tg (Itt K a) [it] it (fun i h=>h.IsTupleIter it a i) where
 mem:=by simp
 obj:=fun i h st b hb=>by
  have e:b=it:=by simpa using hb
  subst e
  obtain⟨o,e,c,d⟩:=st
  exact⟨o,e,fun v z=>by rw[d] at z;cases z⟩
 keep:=fun i h h' st k=>st.at fun o e=>k it (by simp) o e
 item:=by
  intro X hP hw hK hc i pins s σ H E I hf st hg
  subst hP hw hK
  obtain⟨xs,x,hq,hx⟩:=hg
  obtain⟨its,rv,p,hz⟩:=I.tuple hq
  obtain⟨u,hu,ru⟩:=rv.get hx
  obtain⟨f0,f1,f2,f3,f4,f5⟩:=hf it (by simp)
  refine wpAny_pyNext_tuple_item st (show s.heap.IsTuple a its.toArray from p) (x:=u) (by simpa using hu) fun h' st' sb=>?_
  have I1:zU X pins σ H { s with heap:=h' }:=I.turned (t':=s.toks) (fun b o hb e=>(sb.2 b hb).trans e) f0 f1 f3 f4 f5
  obtain⟨o,e,c,d⟩:=id st'
  exact⟨u,rfl,zI4 (s:={ s with heap:=h' }) e c d (by decide) ⟨x,H,I1,ru,⟨rfl,fun ys hy=>by rw[I.tuple_inj hy hq];exact hx⟩,st',fun b hb=>(hf b hb).1⟩⟩
 done:=by
  intro X hP hw hK hc i pins s σ H E I hf st hg
  subst hP hw hK
  obtain⟨xs,hq,hx⟩:=hg
  obtain⟨its,rv,p,hz⟩:=I.tuple hq
  obtain⟨f0,f1,f2,f3,f4,f5⟩:=hf it (by simp)
  have hl:=rv.length
  exact wpAny_pyNext_tuple_end (I.ok.hd hc) st (show s.heap.IsTuple a its.toArray from p) (by simp;omega) fun h' eb=>⟨rfl,I.turned (t':=s.toks) (fun b o hb e=>eb b o hb e) f0 f1 f3 f4 f5⟩
 self:=fun _ _ _ _ _ st h=>wpAny_pyIter_tupleiter st h
theorem zGH{P:Program}{w:World}{K:PySem.W.Frag}{tg:Expr}(it:Addr)(lo:Int)(n:Nat):Turn P w K tg (Itr lo n) [it] it (fun i h=>IsRangeIter h it (lo+(i:Nat)*1) ((n:Int)-(i:Nat)) 1) where
 mem:=by simp
 obj:=fun i h st b hb=>by
  have e:b=it:=by simpa using hb
  subst e
  exact⟨_,st,fun v z=>by
   have z':Data.fields _=Data.cell v:=z
   cases z'⟩
 keep:=fun i h h' st k=>k it (by simp) _ st
 item:=by
  intro X hP hw hK hc i pins s σ H E I hf st hg
  subst hP hw hK
  obtain⟨f0,f1,f2,f3,f4,f5⟩:=hf it (by simp)
  have W:=Walks.range (prog:=X.prog) (w:=X.w) (I.ok.hd hc) it lo 1 n
  refine W.item i s _ _ hg st fun v h' tk hv st' kk=>?_
  obtain⟨t,rfl⟩:=hv
  have I1:zU X pins σ H { s with heap:=h',toks:=tk }:=I.turned (fun b o hb e=>kk b o (by simpa using hb) e) f0 f1 f3 f4 f5
  refine⟨_,rfl,zI4 (s:={ s with heap:=h',toks:=tk }) (n:="range_iterator") st' rfl rfl (by decide) ⟨.int (lo+i),H,I1,⟨t,?_⟩,⟨rfl,rfl⟩,st',fun b hb=>(hf b hb).1⟩⟩
  rw[Int.mul_one]
 done:=by
  intro X hP hw hK hc i pins s σ H E I hf st hg
  subst hP hw hK
  obtain⟨f0,f1,f2,f3,f4,f5⟩:=hf it (by simp)
  exact wpAny_pyNext_range_end (I.ok.hd hc) st (by have:n≤i:=hg;omega) fun h' eb=>⟨rfl,I.turned (t':=s.toks) (fun b o hb e=>eb b o hb e) f0 f1 f3 f4 f5⟩
 self:=fun _ _ _ _ _ st h=>wpAny_pyIter_rangeiter st h
end L2
namespace L2
open PySem PySem.Spec PyProof.Rows
section
variable {X:Cx} {tg:Expr}
theorem zFG{pins:List (Addr×Obj)}{σ:St}{H:Hp}{s:Shared}{R:It→Hp→Prop}{E:Value→Shared→Prop}{lo hi:Int}{t u v:Tok}{tk:Nat}(I:zU X pins σ H s)(h1:-(2 ^ 62)≤lo)(h2:lo<2 ^ 62)(h3:-(2 ^ 62)≤hi)(h4:hi<2 ^ 62)
  (q:R (Itr lo (hi-lo).toNat) H):wpAny (model X.prog X.w) X.A (pyIter (.ref s.heap.objs.size)) (PIE X pins σ tg R) E { s with heap:=s.heap.push { cls:=.type "range",data:=.fields #[.int lo t,.int hi u,.int 1 v] },toks:=tk }:=by
 refine wpAny_pyIter_range (IsRange.new ..) (small_one h1 h2 h3 h4) ?_
 have I1:zU X pins σ H { s with heap:=s.heap.push { cls:=.type "range",data:=.fields #[.int lo t,.int hi u,.int 1 v] },toks:=tk }:=I.kept fun b o e=>Heap.get?_push_of_some _ e
 refine⟨(s.heap.push { cls:=.type "range",data:=.fields #[.int lo t,.int hi u,.int 1 v] }).objs.size,[(s.heap.push { cls:=.type "range",data:=.fields #[.int lo t,.int hi u,.int 1 v] }).objs.size],_,_,H,rfl,
  I1.kept (t':=tk) fun b o e=>Heap.get?_push_of_some _ e,zGH _ lo (hi-lo).toNat,?_,fun b hb=>?_,q⟩
 ·have e1:lo+((0:Nat):Int)*1=lo:=by simp
  have e2:(((hi-lo).toNat:Nat):Int)-((0:Nat):Int)=Builtin.Range.rangeSize lo hi 1:=by rw[rangeSize_one];split<;>omega
  show IsRangeIter _ _ (lo+((0:Nat):Int)*1) ((((hi-lo).toNat:Nat):Int)-((0:Nat):Int)) 1
  rw[e1,e2]
  exact Heap.get?_push_size _ rfl
 ·have e:b=(s.heap.push { cls:=.type "range",data:=.fields #[.int lo t,.int hi u,.int 1 v] }).objs.size:=by simpa using hb
  subst e
  exact I1.fpOk (Nat.le_refl _) (I1.hok.fresh (Nat.le_refl _))
def zNb(ta:TA):TI:=fun σ H R=>ta σ H fun vs H1=>∃ j:Int,vs=[.int j]∧-(2 ^ 62)≤j∧j<2 ^ 62∧R (Itr 0 j.toNat) H1
def zNc(ta:TA):TI:=fun σ H R=>ta σ H fun vs H1=>∃ i j:Int,vs=[.int i,.int j]∧(-(2 ^ 62)≤i∧i<2 ^ 62∧-(2 ^ 62)≤j∧j<2 ^ 62)∧R (Itr i (j-i).toNat) H1
theorem zHw{a:Expr}{ta:TA}{p pos:Pos}(hg:Gl X "range")(hm:X.mg "range"=none)(ha:PA X [a] ta)(hs:starEach [a] X.env=[(false,eval a X.env)]:=by rfl):PI X tg (.Call (.Name "range" p) [a] [] pos) (zNb ta):=by
 intro pins s σ H R I h
 refine Call_ (zBE I hg hm boot_range (PyProof.Rows.callWith_type1 (yV (ha pos pins s σ H _ I h) fun us s1 ⟨vs,H1,I1,r1,q1⟩=>?_) hs rfl))
 obtain⟨j,e,q1,q2,q⟩:=q1
 subst e
 cases r1 with
 | cons r rr =>
  cases rr
  obtain⟨t,rfl⟩:=r
  exact call_range_1 (zFG I1 (by omega) (by omega) q1 q2 (by simpa using q))
theorem zHx{a b:Expr}{ta:TA}{p pos:Pos}(hg:Gl X "range")(hm:X.mg "range"=none)(ha:PA X [a,b] ta)(hs:starEach [a,b] X.env=[(false,eval a X.env),(false,eval b X.env)]:=by rfl)(hs2:starEach [b] X.env=[(false,eval b X.env)]:=by rfl) :
  PI X tg (.Call (.Name "range" p) [a,b] [] pos) (zNc ta):=by
 intro pins s σ H R I h
 refine Call_ (zBE I hg hm boot_range (PyProof.Rows.callWith_type1 (yV (ha pos pins s σ H _ I h) fun us s1 ⟨vs,H1,I1,r1,q1⟩=>?_) (by rw[hs,hs2]) (by rw[hs2];rfl)))
 obtain⟨i,j,e,⟨q1,q2,q3,q4⟩,q⟩:=q1
 subst e
 cases r1 with
 | cons r rr =>
  cases rr with
  | cons r' rr =>
   cases rr
   obtain⟨t,rfl⟩:=r
   obtain⟨t',rfl⟩:=r'
   exact call_range_2 (zFG I1 q1 q2 q3 q4 q)
def zOO(wi:TI)(g:TG)(tb:TS):TS:=fun D σ H=>wi σ H fun J H1=>∃ W:Nat→Nat→St→Hp→Prop,(∃ m,W 0 m σ H1)∧∀ i m σ H,W i m σ H →
 (J.stop i H∧D.nx σ H)∨(J.go i H∧∃ N:St→Hp→Prop,(∀ σ' H',N σ' H'→∃ m',m'<m∧W (i+1) m' σ' H')∧∀ x H',J.yld i H x H'→g x σ H' fun σ2 H2=>tb { D with nx:=N,ct:=N,bk:=D.nx } σ2 H2)
def zCS(fp:List Addr)(h:Heap):List (Addr×Obj):=fp.filterMap fun b=>(h.get? b).map fun o=>(b,o)
theorem wV{fp:List Addr}{h:Heap}{b:Addr}{o:Obj}(hb:b∈fp)(e:h.get? b=some o):(b,o)∈zCS fp h:=List.mem_filterMap.mpr ⟨b,hb,by rw[e];rfl⟩
theorem zHy{fp:List Addr}{h:Heap}{p:Addr×Obj}(hp:p∈zCS fp h):p.1∈fp∧h.get? p.1=some p.2:=by
 obtain⟨b,hb,e⟩:=List.mem_filterMap.mp hp
 cases q:h.get? b with
 | none=>rw[q] at e;cases e
 | some o =>
  rw[q] at e
  have e':(b,o)=p:=Option.some.inj e
  subst e'
  exact⟨hb,q⟩
theorem zU.pinned{pins:List (Addr×Obj)}{σ:St}{H:Hp}{s:Shared}{fp:List Addr}(I:zU X pins σ H s)(hf:∀ b∈fp,zBC X pins H b)(ho:∀ b∈fp,∃ o,s.heap.get? b=some o∧∀ v,o.data≠.cell v):zU X (pins++zCS fp s.heap) σ H s :=
 I.pins_of fun p hp=>(List.mem_append.mp hp).elim (fun z=>I.pin p (List.mem_append_right _ z)) fun z=>by
  obtain⟨hb,e⟩:=zHy z
  obtain⟨f0,f1,f2,_⟩:=hf p.1 hb
  obtain⟨o,e',d⟩:=ho p.1 hb
  rw[e] at e';cases e'
  exact⟨e,f0,f1,f2,d⟩
theorem zU.unpinned{pins pl:List (Addr×Obj)}{σ:St}{H:Hp}{s:Shared}(I:zU X (pins++pl) σ H s):zU X pins σ H s:=I.pins_of fun p hp=>I.pin p (List.mem_append_right _ (List.mem_append_left _ hp))
theorem zMN{iter:Expr}{body:List Stmt}{wi:TI}{g:TG}{tb:TS}{pos:Pos}(hp:PassesOwn (model X.prog X.w) X.A X.env X.xe)(hc:X.calm=true)(hi:PI X tg iter wi)(hg:PG X tg g)(hb:PSs X body tb)
  (hs:∀ x,foldedSetIterable iter X.env x=pure x:=by intro _;rfl):PS X (.For tg iter body [] pos) (zOO wi g tb):=by
 intro pins s σ H D I h
 refine wpAny_For (yV (hi pins s σ H _ I h) fun v s1 h1=>yV h1 fun itv s2 h2=>?_) hs
 obtain⟨it,fp,tn,J,H2,e,I2,T,st2,f2,W,⟨m0,w0⟩,turn⟩:=h2
 subst e
 -- what stays true of the iterator's objects through the loop
 have stat:∀ {H':Hp},(∀ b∈fp,H' b=none)→∀ b∈fp,zBC X pins H' b:=fun hn b hb=>⟨hn b hb,(f2 b hb).2⟩
 refine codeAny_forLoop_any (fun n s'=>∃ i σ' H',zU X pins σ' H' s'∧tn i s'.heap∧(∀ b∈fp,H' b=none)∧W i n σ' H') ?_ m0 ⟨0,σ,H2,I2,st2,fun b hb=>(f2 b hb).1,w0⟩
 rintro n s3 ⟨i,σ3,H3,I3,st3,fr3,w3⟩
 rcases turn i n σ3 H3 w3 with ⟨stop,qn⟩ | ⟨go,N,hN,step⟩
 ·refine wpAny_passesOwn hp (yV (T.done X rfl rfl rfl hc i pins s3 σ3 H3 X.xe I3 (stat fr3) st3 stop) fun r s4 ⟨hr,I4⟩=>?_)
  subst hr
  exact wpAny_execs_nil ⟨σ3,H3,I4,qn⟩
 ·refine wpAny_passesOwn hp (yV (T.item X rfl rfl rfl hc i pins s3 σ3 H3 X.xe I3 (stat fr3) st3 go) fun r s4 ⟨u,hr,h4⟩=>?_)
  subst hr
  refine wpAny_passesOwn hp (yV h4 fun _ s5 ⟨x,H5,I5,r5,y5,st5,fr5⟩=>?_)
  have I5':=I5.pinned (stat fr5) (T.obj _ _ st5)
  refine wpAny_passesOwn hp (yV (hg _ s5 σ3 H5 x u _ I5' r5 (step x H5 y5)) fun _ s6 ⟨σ6,H6,I6,q6⟩=>?_)
  refine wpAny_passesOwn hp (yV (hb _ s6 σ6 H6 _ I6 q6) fun f s7 q7=>?_)
  have again:∀ {σ7:St} {H7:Hp},zU X (pins++zCS fp s5.heap) σ7 H7 s7→N σ7 H7→∃ m,m<n∧∃ i σ' H',zU X pins σ' H' s7∧tn i s7.heap∧(∀ b∈fp,H' b=none)∧W i m σ' H':=fun {σ7 H7} I7 n7=>by
   obtain⟨m',hm,w7⟩:=hN σ7 H7 n7
   refine⟨m',hm,i+1,σ7,H7,I7.unpinned,T.keep _ _ _ st5 fun b hb o e=>(I7.pin (b,o) (List.mem_append_right _ (List.mem_append_right _ (wV hb e)))).1,fun b hb=>?_,w7⟩
   obtain⟨o,e,d⟩:=T.obj _ _ st5 b hb
   exact(I7.pin (b,o) (List.mem_append_right _ (List.mem_append_right _ (wV hb e)))).2.1
  cases f with
  | next=>obtain⟨σ7,H7,I7,n7⟩:=q7;exact again I7 n7
  | cont=>obtain⟨σ7,H7,I7,n7⟩:=q7;exact again I7 n7
  | brk=>obtain⟨σ7,H7,I7,q7⟩:=q7;exact⟨σ7,H7,I7.unpinned,q7⟩
  | ret v=>obtain⟨x7,σ7,H7,I7,r7,q7⟩:=q7;exact⟨x7,σ7,H7,I7.unpinned,r7,q7⟩
end
end L2
namespace L2
open PySem PySem.Spec PyProof.Rows
abbrev R2:=V→V→Hp→VK→Prop
def OpR(X:Cx)(f:Value→Value→Sem Value)(r:R2):Prop :=
 ∀(pins:List (Addr×Obj)) (s:Shared) (σ:St) (H:Hp) (x y:V) (v u:Value) (Q:VK),zU X pins σ H s→RelV x v→RelV y u→r x y H Q →
  wpAny (model X.prog X.w) X.A (f v u) (EP X pins σ Q) X.xe s
def yk(X:Cx)(f:Value)(r:List V→Hp→VK→Prop):Prop :=
 ∀(pins:List (Addr×Obj)) (s:Shared) (σ:St) (H:Hp) (xs:List V) (us:List Value) (Q:VK),zU X pins σ H s→zW xs us→r xs H Q →
  wpAny (model X.prog X.w) X.A (call f us) (EP X pins σ Q) X.xe s
def tOp(r:R2)(ta tb:TE):TE:=fun σ H Q=>ta σ H fun x H1=>tb σ H1 fun y H2=>r x y H2 Q
def rI(C:Int→Int→Prop)(g:Int→Int→V):R2:=fun x y H Q=>∃ i j,x=.int i∧y=.int j∧C i j∧Q (g i j) H
def rI0(g:Int→Int→V):R2:=fun x y H Q=>∃ i j,x=.int i∧y=.int j∧Q (g i j) H
section
variable {X:Cx} {a b c:Expr} {ta tb tc:TE} {pos:Pos}
theorem zMO(ha:PE X a ta)(hb:PE X b tb){pins:List (Addr×Obj)}{s:Shared}{σ:St}{H:Hp}{R:V→V→Hp→Prop}(I:zU X pins σ H s)
  (h:ta σ H fun x H1=>tb σ H1 fun y H2=>R x y H2) {Q:Value→Shared→Prop} {f:Value→Value→Sem Value}
  (hf:∀ v u s2 x y H2,zU X pins σ H2 s2→RelV x v→RelV y u→R x y H2→wpAny (model X.prog X.w) X.A (f v u) Q X.xe s2) :
  wpAny (model X.prog X.w) X.A (eval a X.env) (fun v s₁=>wpAny (model X.prog X.w) X.A (eval b X.env) (fun u s₂=>wpAny (model X.prog X.w) X.A (f v u) Q X.xe s₂) X.xe s₁) X.xe s:=by
 refine yV (ha pins s σ H _ I h) fun v s1 ⟨x,H1,I1,r1,q1⟩=>?_
 refine yV (hb pins s1 σ H1 _ I1 q1) fun u s2 ⟨y,H2,I2,r2,q2⟩=>?_
 exact hf v u s2 x y H2 I2 r1 r2 q2
theorem zI5{op:Operator}{r:R2}(ho:OpR X (binaryOp op) r)(ha:PE X a ta)(hb:PE X b tb):PE X (.BinOp a op b pos) (tOp r ta tb):=by
 intro pins s σ H Q I h
 exact wpAny_BinOp (zMO ha hb I h fun v u s2 x y H2 I2 rx ry q=>ho pins s2 σ H2 x y v u Q I2 rx ry q)
theorem opI{f:Value→Value→Sem Value}{C:Int→Int→Prop}{g:Int→Int→Int}
  (rule:∀(i j:Int) (t u:Tok) (s:Shared) (Q:Value→Shared→Prop) (E:Value→Shared→Prop),C i j→Q (.int (g i j) s.toks) { s with toks:=s.toks+1 }→wpAny (model X.prog X.w) X.A (f (.int i t) (.int j u)) Q E s) :
  OpR X f (rI C fun i j=>.int (g i j)):=by
 intro pins s σ H x y v u Q I rx ry h
 obtain⟨i,j,rfl,rfl,hc,q⟩:=h
 obtain⟨t,rfl⟩:=rx
 obtain⟨t',rfl⟩:=ry
 exact rule i j t t' s _ _ hc ⟨.int (g i j),H,I.tok _,⟨_,rfl⟩,q⟩
theorem zMP{f:Value→Value→Sem Value}{g:Int→Int→Int}
  (rule:∀(i j:Int) (t u:Tok) (s:Shared) (Q:Value→Shared→Prop) (E:Value→Shared→Prop),Q (.int (g i j) s.toks) { s with toks:=s.toks+1 }→wpAny (model X.prog X.w) X.A (f (.int i t) (.int j u)) Q E s) :
  OpR X f (rI0 fun i j=>.int (g i j)):=by
 intro pins s σ H x y v u Q I rx ry h
 obtain⟨i,j,rfl,rfl,q⟩:=h
 obtain⟨t,rfl⟩:=rx
 obtain⟨t',rfl⟩:=ry
 exact rule i j t t' s _ _ ⟨.int (g i j),H,I.tok _,⟨_,rfl⟩,q⟩
theorem zKi{f:Value→Value→Sem Value}{g:Int→Int→Bool}
  (rule:∀(i j:Int) (t u:Tok) (s:Shared) (Q:Value→Shared→Prop) (E:Value→Shared→Prop),Q (.bool (g i j)) s→wpAny (model X.prog X.w) X.A (f (.int i t) (.int j u)) Q E s) :
  OpR X f (rI0 fun i j=>.bl (g i j)):=by
 intro pins s σ H x y v u Q I rx ry h
 obtain⟨i,j,rfl,rfl,q⟩:=h
 obtain⟨t,rfl⟩:=rx
 obtain⟨t',rfl⟩:=ry
 exact rule i j t t' s _ _ ⟨.bl (g i j),H,I,rfl,q⟩
def zI6(i j:Int):Prop:=0<j∧j<1073741824
def zDB(i j:Int):Prop:=0≤j∧j≤1000000∧i.natAbs<2 ^ 64
def zDz(i j:Int):Prop:=(-(2 ^ 64)<i∧i<2 ^ 64)∨(-(2 ^ 64)<j∧j<2 ^ 64)
theorem zDz.ok{i j:Int}(h:zDz i j):IntMulOk i j:=by
 rcases h with ⟨h1,h2⟩ | ⟨h1,h2⟩
 ·exact .of_left (intBits_le_64 h1 h2)
 ·exact .of_right (intBits_le_64 h1 h2)
theorem zMQ:OpR X (binaryOp .Add) (rI0 fun i j=>.int (i+j)):=zMP fun _ _ _ _ _ _ _ q=>add_int q
theorem zMR:OpR X (binaryOp .Sub) (rI0 fun i j=>.int (i-j)):=zMP fun _ _ _ _ _ _ _ q=>sub_int q
theorem zMS:OpR X (binaryOp .Mult) (rI zDz fun i j=>.int (i*j)):=opI fun _ _ _ _ _ _ _ hc q=>mul_int q hc.ok
theorem zKj:OpR X (binaryOp .FloorDiv) (rI zI6 fun i j=>.int (i / j)):=opI fun i j _ _ _ _ _ hc q=>by
 have h1:(0:Int)<j:=hc.1
 have h2:j<1073741824:=hc.2
 exact floordiv_int (by omega) (by rw[Int.fdiv_eq_ediv_of_nonneg i (by omega)];exact q) (.inl (PyProof.noPylong_small (by omega)))
theorem zMT:OpR X (binaryOp .Mod) (rI (fun _ j=>0<j) fun i j=>.int (i%j)):=opI fun i j _ _ _ _ _ hc q=>by
 have h1:(0:Int)<j:=hc
 exact mod_int' (by omega) (by rw[Int.fmod_eq_emod_of_nonneg i (by omega)];exact q)
theorem zMU:OpR X (binaryOp .Pow) (rI zDB fun i j=>.int (i ^ j.toNat)):=opI fun _ _ _ _ _ _ _ hc q=>pow_int_small hc.1 hc.2.1 hc.2.2 q
theorem zMV:OpR X (binaryOp .LShift) (rI zDB fun i j=>.int (i*2 ^ j.toNat)):=opI fun _ _ _ _ _ _ _ hc q=>lshift_int_small hc.1 hc.2.1 hc.2.2 q
theorem zMW:OpR X (binaryOp .BitXor) (rI0 fun i j=>.int (Builtin.bitXor i j)):=zMP fun _ _ _ _ _ _ _ q=>xor_int q
end
section
variable {X:Cx} {a b c:Expr} {ta tb tc:TE} {pos:Pos}
theorem zFH:OpR X (compareOp .Lt) (rI0 fun i j=>.bl (decide (i<j))):=zKi fun _ _ _ _ _ _ _ q=>lt_int q
theorem zHD:OpR X (compareOp .LtE) (rI0 fun i j=>.bl (decide (i≤j))):=zKi fun _ _ _ _ _ _ _ q=>le_int q
theorem zNd:OpR X (compareOp .Gt) (rI0 fun i j=>.bl (decide (j<i))):=zKi fun _ _ _ _ _ _ _ q=>gt_int q
theorem zNe:OpR X (compareOp .GtE) (rI0 fun i j=>.bl (decide (j≤i))):=zKi fun _ _ _ _ _ _ _ q=>ge_int q
theorem OpR.or{f:Value→Value→Sem Value}{r r':R2}(h:OpR X f r)(h':OpR X f r'):OpR X f (fun x y H Q=>r x y H Q∨r' x y H Q):=by
 intro pins s σ H x y v u Q I rx ry q
 rcases q with q | q
 ·exact h pins s σ H x y v u Q I rx ry q
 ·exact h' pins s σ H x y v u Q I rx ry q
theorem zBF(b:Expr){op:CmpOp}(h:op≠.In:=by decide)(h2:op≠.NotIn:=by decide):behindInMarks op b=false:=by
 have e1:(op==CmpOp.In)=false:=by cases op<;>first | rfl | exact absurd rfl h
 have e2:(op==CmpOp.NotIn)=false:=by cases op<;>first | rfl | exact absurd rfl h2
 cases b<;>simp[behindInMarks,e1,e2]
theorem zKk{op:CmpOp}{r:R2}(ho:OpR X (compareOp op) r)(ha:PE X a ta)(hb:PE X b tb)(hm:behindInMarks op b=false):PE X (.Compare a [op] [b] pos) (tOp r ta tb):=by
 intro pins s σ H Q I h
 exact wpAny_Compare1 (zMO ha hb I h fun v u s2 x y H2 I2 rx ry q=>ho pins s2 σ H2 x y v u Q I2 rx ry q) hm
def zNf(t:TE):TT:=fun σ H Q=>t σ H fun x H'=>∃ k,x=.bl k∧Q k H'
theorem zKl{op:CmpOp}{r:R2}(ho:OpR X (compareOp op) r)(ha:PE X a ta)(hb:PE X b tb)(hm:behindInMarks op b=false):PT X (.Compare a [op] [b] pos) (zNf (tOp r ta tb)):=by
 intro pins s σ H Q I h
 refine wpAny_isTrue_Compare1 (yV (ha pins s σ H _ I h) fun v s1 ⟨x,H1,I1,r1,q1⟩=>yV (hb pins s1 σ H1 _ I1 q1) fun u s2 ⟨y,H2,I2,r2,q2⟩ =>
  yV (ho pins s2 σ H2 x y v u _ I2 r1 r2 q2) fun c s3 ⟨z,H3,I3,r3,k,e,q3⟩=>?_) hm
 subst e
 cases r3
 exact wpAny_truthy_bool ⟨H3,I3,q3⟩
def zI7(r r':R2)(ta tb tc:TE):TE:=fun σ H Q=>ta σ H fun x H1=>tb σ H1 fun y H2=>r x y H2 fun z H3=>∃ k,z=.bl k ∧
 (if k=true then tc σ H3 fun w' H4=>r' y w' H4 Q else Q (.bl false) H3)
theorem zI8{op op':CmpOp}{r r':R2}(ho:OpR X (compareOp op) r)(ho':OpR X (compareOp op') r')(ha:PE X a ta)(hb:PE X b tb)(hc:PE X c tc)
  (hm:lastMarks [op,op'] [b,c]=false:=by with_unfolding_all rfl):PE X (.Compare a [op,op'] [b,c] pos) (zI7 r r' ta tb tc):=by
 intro pins s σ H Q I h
 refine Compare_chain (yV (ha pins s σ H _ I h) fun v s1 ⟨x,H1,I1,r1,q1⟩=>chain_link (yV (hb pins s1 σ H1 _ I1 q1) fun u s2 ⟨y,H2,I2,r2,q2⟩ =>
  yV (ho pins s2 σ H2 x y v u _ I2 r1 r2 q2) fun d s3 ⟨z,H3,I3,r3,k,e,q3⟩=>?_)) hm
 subst e
 cases r3
 refine wpAny_truthy_bool ?_
 cases k with
 | false=>exact ite_ff ⟨.bl false,H3,I3,rfl,q3⟩
 | true=>exact ite_tt (chain_last (yV (hc pins s3 σ H3 _ I3 q3) fun w' s4 ⟨z',H4,I4,r4,q4⟩=>ho' pins s4 σ H4 y z' u w' Q I4 r2 r4 q4))
theorem zEf:(sizeLine:Nat)<2 ^ 63:=by rw[sizeLine_eq];decide
theorem vals1{x:V}{us:List Value}(r:zW [x] us):∃ u,us=[u]∧RelV x u:=by
 cases r with
 | cons r1 r2=>cases r2;exact⟨_,rfl,r1⟩
theorem vals2{x y:V}{us:List Value}(r:zW [x,y] us):∃ u w',us=[u,w']∧RelV x u∧RelV y w':=by
 cases r with
 | cons r1 r2 =>
  cases r2 with
  | cons r3 r4=>cases r4;exact⟨_,_,rfl,r1,r3⟩
theorem zHz(hc:X.calm=true):yk X (.builtin "max") (fun xs H Q=>∃ i j,xs=[.int i,.int j]∧Q (.int (if j>i then j else i)) H):=by
 intro pins s σ H xs us Q I r h
 obtain⟨i,j,rfl,q⟩:=h
 obtain⟨u,w',rfl,⟨t,rfl⟩,⟨t',rfl⟩⟩:=vals2 r
 refine max_two_ints (I.ok.hd hc) fun h' tk k=>⟨_,H,I.kept k,?_,q⟩
 by_cases hj:j>i
 ·rw[if_pos hj,if_pos hj];exact⟨_,rfl⟩
 ·rw[if_neg hj,if_neg hj];exact⟨_,rfl⟩
theorem zH0(hc:X.calm=true):yk X (.builtin "min") (fun xs H Q=>∃ i j,xs=[.int i,.int j]∧Q (.int (if j<i then j else i)) H):=by
 intro pins s σ H xs us Q I r h
 obtain⟨i,j,rfl,q⟩:=h
 obtain⟨u,w',rfl,⟨t,rfl⟩,⟨t',rfl⟩⟩:=vals2 r
 refine min_two_ints (I.ok.hd hc) fun h' tk k=>⟨_,H,I.kept k,?_,q⟩
 by_cases hj:j<i
 ·rw[if_pos hj,if_pos hj];exact⟨_,rfl⟩
 ·rw[if_neg hj,if_neg hj];exact⟨_,rfl⟩
end
end L2
namespace L2
open PySem PySem.Spec PyProof.Rows
structure zKm (h:Heap) (x dx C:Addr) (mA:Str→Option Value):Prop where
 obj:h.get? x=some (PySem.W.instObj C dx)
 ns:h.Ns1 dx mA
 ne:dx≠x
theorem zH1{h:Heap}{dx:Addr}{mA:Str→Option Value}(n:h.Ns1 dx mA):∃ od,h.get? dx=some od∧∀ name,PySem.W.lookIn name od=some (mA name):=by
 obtain⟨o,es,ep,ho,hd,hk,_,hm⟩:=n
 refine⟨o,ho,fun name=>?_⟩
 have e:=hm name
 unfold nsFind findBy at e
 rw[← Array.find?_toList] at e
 unfold PySem.W.lookIn
 rw[hd]
 dsimp only
 split
 ·rename_i y q
  rw[q] at e
  exact congrArg some e
 ·rename_i q
  rw[q] at e
  have a:es.toList.any (·.refKey)=false:=by
   rw[List.any_eq_false]
   intro y hy
   obtain⟨z,t,hkey⟩:=hk y (Array.mem_toList_iff.mp hy)
   simp[DictEntry.refKey,hkey]
  have a':¬ es.toList.any (·.refKey)=true:=by rw[a];exact Bool.false_ne_true
  rw[if_neg a']
  exact congrArg some e
theorem zKm.look{h:Heap}{x dx C:Addr}{mA:Str→Option Value}(I:zKm h x dx C mA):∃ od,PySem.W.InstAt h x (PySem.W.instObj C dx) C (some od)∧∀ name,PySem.W.lookIn name od=some (mA name) :=
 let ⟨od,ho,hl⟩:=zH1 I.ns
 ⟨od,⟨I.obj,rfl,rfl,ho⟩,hl⟩
section
variable {prog:Program} {w:World} {A:Around} {E:Value→Shared→Prop} {s:Shared} {K:PySem.W.Frag} {x dx C f:Addr} {mA:Str→Option Value} {name:Str} {v:Value}
theorem zAo{expr:Bool}{Q:Value→Shared→Prop}(X:K.In s.heap)(I:zKm s.heap x dx C mA)(hg:PySem.W.plainGet K C name=true)(hh:PySem.W.hasDictIn K C=true)
  (ha:PySem.W.findIn K (.ref C) name=some none) (hv:mA name=some v) (hv':PySem.W.handedIn v=true) (h:Q v { s with toks:=s.toks+1 }) :
  wpAny (model prog w) A (getAttr (.ref x) name expr) Q E s:=by
 obtain⟨od,J,hl⟩:=I.look
 exact PySem.W.get_value X J (PySem.W.plainGet_of hg).1 (PySem.W.findObj_own hh ha rfl (by rw[hl,hv])) hv' h
end
section
variable {P:Program} {w:World} {H H':Hp} {h h':Heap} {a C dx:Addr} {fs fs':List (Str×V)}
theorem zKn(hok:HOk P w H h)(e:H a=some (.ins C dx fs)):∃ mA,zKm h a dx C mA∧(∀ f,zL4 (fs.lookup f) (mA f))∧PySem.Within mA (fs.map (·.1))∧fs.length≤1000∧H dx=some (.own a):=by
 obtain⟨d,z,ne,ob,mA,n,r,q⟩:=(show yx P w H h a (.ins C dx fs) from hok a _ e)
 exact⟨mA,⟨ob,n,ne⟩,r,q,z,d⟩
end
structure Cls (K:PySem.W.Frag) (C:Addr):Prop where
 pg:PySem.W.plainGet K C Str.empty=true
 hd:PySem.W.hasDictIn K C=true
 po:PySem.W.plainOver K C=true
 sa:PySem.W.findIn K (.ref C) "__setattr__"=some (some (.builtin "object.__setattr__"))
theorem Cls.get{K:PySem.W.Frag}{C:Addr}(c:Cls K C)(f:Str):PySem.W.plainGet K C f=true:=c.pg
structure Con (K:PySem.W.Frag) (C:Addr) (f:Str) (v:V) (u:Value):Prop where
 at_:PySem.W.findIn K (.ref C) f=some (some u)
 rel:RelV v u
 get:PySem.W.specialIn K u "__get__"=some none
 cp:PySem.W.copiedNames.contains f=false
structure zOd (K:PySem.W.Frag) (C:Addr) (m:Str) (f:Addr):Prop where
 at_:PySem.W.findIn K (.ref C) m=some (some (.ref f))
 fn:PySem.W.isFn K (.ref f)=true
 kp:PySem.W.keepIn K (.ref f)=true
section
variable {X:Cx} {pins:List (Addr×Obj)} {σ:St} {H:Hp} {s:Shared} {a C dx:Addr} {fs:List (Str×V)} {f:Str} {v:V} {A:Around} {E:Value→Shared→Prop}
end
section
variable {X:Cx} {o e value:Expr} {f:Str} {pos pos' tpos:Pos} {ta tv:TE}
end
section
variable {X:Cx} {pins:List (Addr×Obj)} {σ:St} {H:Hp} {s:Shared} {A:Around} {E:Value→Shared→Prop} {Q:Value→Shared→Prop} {c:Value} {b:Bool}
inductive zCw (K:PySem.W.Frag) (H:Hp):V→Value→Prop where
 | non:zCw K H .non (.type "NoneType")
 | bl (x:Bool):zCw K H (.bl x) (.type "bool")
 | int (i:Int):zCw K H (.int i) (.type "int")
 | str (x:Str):zCw K H (.str x) (.type "str")
 | flt (x:UInt64):zCw K H (.flt x) (.type "float")
 | lst {a:Addr} {xs:List V} (e:H a=some (.lst xs)):zCw K H (.ref a) (.type "list")
 | frz {a:Addr} {o:Obj} {xs:List V} (e:H a=some (.frz o (.lst xs))):zCw K H (.ref a) (.type "list")
 | tup {a:Addr} {xs:List V} (e:H a=some (.tup xs)):zCw K H (.ref a) (.type "tuple")
 | dK {a:Addr} {kvs:List (Key×V)} (e:H a=some (.dK kvs)):zCw K H (.ref a) (.type "dict")
 | dT {a:Addr} {kvs:List (List Key×V)} (e:H a=some (.dT kvs)):zCw K H (.ref a) (.type "dict")
 | ins {a C dx:Addr} {fs:List (Str×V)} (e:H a=some (.ins C dx fs)) (cl:Cls K C) (ha:PySem.W.findIn K (.ref C) "__class__"=some (some (.builtin "object.__class__")))
   (hn:PySem.W.specialIn K (.builtin "object.__class__") "__get__"=some (some (.builtin "getset_descriptor.__get__"))) (htk:PySem.W.takesIn K (.builtin "object.__class__")=some true)
   (hm:PySem.W.mroIn K C (.type "object")=some true):zCw K H (.ref a) (.ref C)
theorem zBT{x:V}{u t:Value}(I:zU X pins σ H s)(rx:RelV x u)(ty:zCw X.K H x t)(e:PySem.W.kitOne X.K t c=some b)(h:∀ tk,Q (.bool b) { s with toks:=tk }) :
  wpAny (model X.prog X.w) A (call (.builtin "isinstance") [u,c]) Q E s:=by
 cases ty with
 | non=>cases (show u=Value.none from rx);exact PySem.W.kia_one PySem.W.kitx_none I.kIn True.intro e (fun z=>nomatch z) h
 | bl y=>cases (show u=Value.bool y from rx);exact PySem.W.kia_one PySem.W.kitx_bool I.kIn True.intro e (fun z=>nomatch z) h
 | int i=>obtain⟨t,q⟩:=(show ∃ t,u=Value.int i t from rx);cases q;exact PySem.W.kia_one PySem.W.kitx_int I.kIn True.intro e (fun z=>nomatch z) h
 | str y=>obtain⟨t,q⟩:=(show ∃ t,u=Value.str y t from rx);cases q;exact PySem.W.kia_one PySem.W.kitx_str I.kIn True.intro e (fun z=>nomatch z) h
 | flt y=>obtain⟨t,q⟩:=(show ∃ t,u=Value.float y t from rx);cases q;exact PySem.W.kia_one PySem.W.kitx_float I.kIn True.intro e (fun z=>nomatch z) h
 | @lst a xs ea =>
  cases (show u=Value.ref a from rx)
  obtain⟨_,_,n,_,h1⟩:=(show yx X.prog X.w H s.heap a (.lst xs) from I.hok a _ ea)
  exact PySem.W.kia_one PySem.W.kitx_list I.kIn ⟨_,h1,rfl⟩ e (fun z=>nomatch z) h
 | @frz a ob xs ea =>
  cases (show u=Value.ref a from rx)
  obtain⟨_,_,_,n,_,h1⟩:=(show yx X.prog X.w H s.heap a (.frz ob (.lst xs)) from I.hok a _ ea)
  exact PySem.W.kia_one PySem.W.kitx_list I.kIn ⟨_,h1,rfl⟩ e (fun z=>nomatch z) h
 | @tup a xs ea =>
  cases (show u=Value.ref a from rx)
  obtain⟨_,_,_,p⟩:=(show yx X.prog X.w H s.heap a (.tup xs) from I.hok a _ ea)
  obtain⟨o,h1,h2,_⟩:=p
  exact PySem.W.kia_one PySem.W.kitx_tuple I.kIn ⟨o,h1,h2⟩ e (fun z=>nomatch z) h
 | @dK a kvs ea =>
  cases (show u=Value.ref a from rx)
  obtain⟨_,_,vs,_,p⟩:=(show yx X.prog X.w H s.heap a (.dK kvs) from I.hok a _ ea)
  obtain⟨o,es,ep,h1,h2,_⟩:=p
  exact PySem.W.kia_one PySem.W.kitx_dict I.kIn ⟨o,h1,h2.1⟩ e (fun z=>nomatch z) h
 | @dT a kvs ea =>
  cases (show u=Value.ref a from rx)
  obtain⟨_,_,xs,_,o,es,ep,h1,h2,_⟩:=(show yx X.prog X.w H s.heap a (.dT kvs) from I.hok a _ ea)
  exact PySem.W.kia_one PySem.W.kitx_dict I.kIn ⟨o,h1,h2.1⟩ e (fun z=>nomatch z) h
 | @ins a C dx fs ea cl ha hn htk hm =>
  cases (show u=Value.ref a from rx)
  obtain⟨mA,O,_⟩:=zKn I.hok ea
  obtain⟨od,J,_⟩:=O.look
  exact PySem.W.kia_one (PySem.W.kitx_own (cl.get _) cl.hd ha hn htk hm) I.kIn J e (fun z=>nomatch z) h
end
end L2
namespace L2
open PySem PySem.Spec PyProof.Rows
structure yo (k:Nat) (A:Around):Prop where
 hd:A.handled=none
 dp:A.depth+3*k+5<recursionLimit
 un:A.units+16*k+200<cLine
theorem yo.mono{j k:Nat}{A:Around}(r:yo k A)(h:j≤k):yo j A:=⟨r.hd,by have:=r.dp;omega,by have:=r.un;omega⟩
theorem yo.deeper{k:Nat}{A:Around}(r:yo (k+1) A)(env:Env):yo k (A.deeper env) :=
 ⟨r.hd,by have:=r.dp;show A.depth+1+3*k+5<_;omega,by have:=r.un;show A.units+3+16*k+200<_;omega⟩
theorem yo.in1{k:Nat}{A:Around}(r:yo (k+1) A):yo k A.in1 :=
 ⟨r.hd,by have:=r.dp;show A.depth+3*k+5<_;omega,by have:=r.un;show A.units+1+16*k+200<_;omega⟩
theorem yo.depth{k:Nat}{A:Around}(r:yo k A):A.depth<recursionLimit:=by have:=r.dp;omega
theorem yo.units{k:Nat}{A:Around}(r:yo k A):A.units+64<cLine:=by have:=r.un;omega
def zNg:TA:=fun _ H Q=>Q [] H
def zLj(ta:TE)(tr:TA):TA:=fun σ H Q=>ta σ H fun x H1=>tr σ H1 fun xs H2=>Q (x::xs) H2
section
variable {X:Cx} {e:Expr} {es:List Expr} {te:TE} {t:TA} {pos:Pos}
theorem zAd:PA X [] zNg:=fun _ _ _ _ H Q I h=>Calls.spliced_nil ⟨[],H,I,.nil,h⟩
theorem yi(ha:PE X e te)(hr:PA X es t)(hs:starEach (e::es) X.env=(false,eval e X.env)::starEach es X.env:=by rfl):PA X (e::es) (zLj te t):=by
 intro pos pins s σ H Q I h
 rw[hs]
 show wpAny _ _ (spliced ((false,eval e X.env)::backTo pos (starEach es X.env))) _ _ s
 refine Calls.spliced_cons (yV (ha pins s σ H _ I h) fun u s1 ⟨x,H1,I1,r1,q1⟩=>?_)
 exact yV (hr pos pins s1 σ H1 _ I1 q1) fun us s2 ⟨xs,H2,I2,r2,q2⟩=>⟨x::xs,H2,I2,.cons r1 r2,q2⟩
def zOP(t:TA):TE:=fun σ H Q=>t σ H fun xs H1=>xs.length≤sizeLine∧∀ p,H1 p=none→Q (.ref p) (yc H1 p (.tup xs))
def zOQ(t:TA):TE:=fun σ H Q=>t σ H fun xs H1=>xs.length≤sizeLine∧∀ p,H1 p=none→Q (.ref p) (yc H1 p (.lst xs))
theorem zI9{x1}(h:PA X es t):PE X (.Tuple es x1 pos) (zOP t):=by
 intro pins s σ H Q I hq
 refine wpAny_Tuple_spliced (yV (h pos pins s σ H _ I hq) fun us s1 ⟨xs,H1,I1,r,z,q⟩=>⟨by rw[← r.length];exact z,?_⟩)
 have hf:H1 s1.heap.objs.size=none:=I1.hok.fresh (Nat.le_refl _)
 refine⟨.ref s1.heap.objs.size,yc H1 s1.heap.objs.size (.tup xs),I1.laid (t':=s1.toks) (fun b u e=>Heap.get?_push_of_some _ e) (Nat.le_refl _) ?_,rfl,q _ hf⟩
 exact⟨z,us,r,⟨_,Heap.get?_push_size _ rfl,rfl,⟨_,rfl⟩,rfl⟩⟩
theorem zMX(h:PA X es t):PE X (.List es pos) (zOQ t):=by
 intro pins s σ H Q I hq
 refine wpAny_List_spliced (yV (h pos pins s σ H _ I hq) fun us s1 ⟨xs,H1,I1,r,z,q⟩=>⟨by rw[← r.length];exact z,?_⟩)
 have hf:H1 s1.heap.objs.size=none:=I1.hok.fresh (Nat.le_refl _)
 refine⟨.ref s1.heap.objs.size,yc H1 s1.heap.objs.size (.lst xs),I1.laid (t':=s1.toks) (fun b u e=>Heap.get?_push_of_some _ e) (Nat.le_refl _) ?_,rfl,q _ hf⟩
 exact⟨z,us,0,r,Heap.get?_push_size _ rfl⟩
end
abbrev Sp:=List V→Hp→VK→XK→Prop
abbrev CXT:=List Env→Hp→Shared→XK→Value→Shared→Prop
structure zGI (P:Program) (w:World) (K:PySem.W.Frag) (mg:Str→Option Value) (base:Heap) (A:Around) (outer:List Env) (s:Shared) (H:Hp):Prop where
 frames:A.frames=some outer
 mod:Mod K mg base
 bs:∀ b o,base.get? b=some o→s.heap.get? b=some o∧H b=none
 bsz:base.objs.size≤s.heap.objs.size
 funs:s.heap.FunFrames base outer
 frf:∀ b∈frs outer,H b=none
 hok:HOk P w H s.heap
 bare:AllBare s.gens
 tb:TabsOk K H
def CE(outer:List Env)(P:Program)(w:World)(H:Hp)(s:Shared)(Q:VK)(u:Value)(s':Shared):Prop :=
 ∃ v H',s'.os=s.os∧AllBare s'.gens∧Un (frs outer) [] H H' s.heap s'.heap∧HOk P w H' s'.heap∧RelV v u∧Q v H'
def CR(CX:CXT)(outer:List Env)(P:Program)(w:World)(H:Hp)(s:Shared)(Q:VK)(E:XK)(r:Result)(s':Shared):Prop :=
 match r with
 | .ok (.ret u)=>CE outer P w H s Q u s'
 | .ok _=>False
 | .error e=>CX outer H s E e s'
structure zBG (P:Program) (w:World) (K:PySem.W.Frag) (mg:Str→Option Value) (base:Heap) (CX:CXT) (k:Nat) (f:Addr) (fd:FuncData) (ps:List Str) (sp:Sp):Prop where
 len:∀ vs H Q E,sp vs H Q E→vs.length=ps.length
 run:∀(A:Around) (outer:List Env) (s:Shared) (H:Hp) (args:Args) (us:List Value) (vs:List V) (Q:VK) (E:XK),yo k A→zGI P w K mg base A outer s H→BindsTo s fd args (ps.zip us)→zW vs us→sp vs H Q E →
  codeAny (model P w) A (.call (.ref f) args) (CR CX outer P w H s Q E) s
theorem zBG.mono{P:Program}{w:World}{K:PySem.W.Frag}{mg:Str→Option Value}{base:Heap}{CX:CXT}{j k:Nat}{f:Addr}{fd:FuncData}{ps:List Str}{sp:Sp}(F:zBG P w K mg base CX j f fd ps sp)(h:j≤k) :
  zBG P w K mg base CX k f fd ps sp:=⟨F.len,fun A outer s H args us vs Q E hr=>F.run A outer s H args us vs Q E (hr.mono h)⟩
theorem zBG.imp{P:Program}{w:World}{K:PySem.W.Frag}{mg:Str→Option Value}{base:Heap}{CX:CXT}{k:Nat}{f:Addr}{fd:FuncData}{ps:List Str}{sp sp':Sp}(F:zBG P w K mg base CX k f fd ps sp)
  (h:∀ vs H Q E,sp' vs H Q E→sp vs H Q E):zBG P w K mg base CX k f fd ps sp' :=
 ⟨fun vs H Q E q=>F.len vs H Q E (h _ _ _ _ q),fun A outer s H args us vs Q E hr he hb hv hs=>F.run A outer s H args us vs Q E hr he hb hv (h _ _ _ _ hs)⟩
theorem zGI.in1{P:Program}{w:World}{K:PySem.W.Frag}{mg:Str→Option Value}{base:Heap}{A:Around}{outer:List Env}{s:Shared}{H:Hp}(e:zGI P w K mg base A outer s H) :
  zGI P w K mg base A.in1 outer s H:=⟨e.frames,e.mod,e.bs,e.bsz,e.funs,e.frf,e.hok,e.bare,e.tb⟩
section
variable {X:Cx} {pins:List (Addr×Obj)} {σ:St} {H:Hp} {s s':Shared}
theorem zU.env0(I:zU X pins σ H s):zGI X.prog X.w X.K X.mg X.base X.A X.stack s H :=
 ⟨I.ok.frames,I.ok.mod,I.bs,Nat.le_trans I.ok.bsz I.sz,I.stack,I.stkFree,I.hok,I.bare,I.tabs⟩
theorem zU.after{Q:VK}{u:Value}(I:zU X pins σ H s)(h:CE X.stack X.prog X.w H s Q u s'):EP X pins σ Q u s':=by
 obtain⟨v,H',os,bare,un,hok,r,q⟩:=h
 obtain⟨hh,g,d,t,os'⟩:=s'
 obtain rfl:os'=s.os:=os
 exact⟨v,H',I.call (h':=hh) (g':=g) (d':=d) (t':=t) (ch:=[]) un hok bare (fun b z=>absurd z (by simp)),r,q⟩
end
def zNh(sp:Sp)(dvs:List V)(E:XK)(t:TA):TE:=fun σ H Q=>t σ H fun vs H1=>sp (vs++dvs) H1 Q E
def Binds(K:PySem.W.Frag)(fd:FuncData)(ps:List Str)(ds:List Value):Prop :=
 ∀(s:Shared) (us:List Value),K.In s.heap→(us++ds).length=ps.length→BindsTo s fd ⟨us,[]⟩ (ps.zip (us++ds))
theorem Binds.all{K:PySem.W.Frag}{fd:FuncData}{ps:List Str}(h:∀ us:List Value,us.length=ps.length→bindArgs fd ⟨us,[]⟩=pure (ps.zip us)):Binds K fd ps []:=fun s us _ hl=>by
 rw[List.append_nil] at hl ⊢
 exact .of_eq (h us hl)
def zGJ(CX:CXT)(X:Cx)(E:XK):Prop:=∀(pins:List (Addr×Obj)) (σ:St) (H:Hp) (s:Shared) (e:Value) (s':Shared),zU X pins σ H s→CX X.stack H s E e s'→X.xe e s'
section
variable {X:Cx} {CX:CXT} {k:Nat} {f C:Addr} {fd:FuncData} {ps:List Str} {sp:Sp} {dvs:List V} {ds:List Value} {E:XK} {x m:Str} {p pos apos:Pos} {e o:Expr} {es:List Expr} {ta:TE} {t:TA}
theorem zMY{pins:List (Addr×Obj)}{σ:St}{H:Hp}{s:Shared}{Q:VK}{us:List Value}{vs:List V}(F:zBG X.prog X.w X.K X.mg X.base CX k f fd ps sp)(hr:yo k X.A)(hb:Binds X.K fd ps ds)(hd:zW dvs ds)(hx:zGJ CX X E)
  (I:zU X pins σ H s) (r:zW vs us) (h:sp (vs++dvs) H Q E):wpAny (model X.prog X.w) X.A (call (.ref f) us) (EP X pins σ Q) X.xe s:=by
 have r2:zW (vs++dvs) (us++ds):=r.append hd
 have hl:(us++ds).length=ps.length:=by rw[← r2.length];exact F.len _ _ _ _ h
 refine wpAny_call (codeAny_mono (F.run X.A X.stack s H ⟨us,[]⟩ (us++ds) (vs++dvs) Q E hr I.env0 (hb s us I.kIn hl) r2 h) fun r s' hq=>?_)
 cases r with
 | error e=>exact hx pins σ H s e s' I hq
 | ok fl =>
  cases fl with
  | ret u=>exact I.after hq
  | next=>exact False.elim hq
  | brk=>exact False.elim hq
  | cont=>exact False.elim hq
theorem zHE(F:zBG X.prog X.w X.K X.mg X.base CX k f fd ps sp)(hr:yo k X.A)(hg:Gl X x)(hm:X.mg x=some (.ref f))(hk:PySem.W.keepIn X.K (.ref f)=true)(hb:Binds X.K fd ps ds)(hd:zW dvs ds)(hx:zGJ CX X E)
  (ha:PA X (e::es) t) (hdb:(x==("__debug__":Str))=false:=by decide) (he:starEach (e::es) X.env=(false,eval e X.env)::starEach es X.env:=by rfl) (hpl:(backTo pos (starEach es X.env)).any (·.1)=false:=by rfl) :
  PE X (.Call (.Name x p) (e::es) [] pos) (zNh sp dvs E t):=by
 intro pins s σ H Q I h
 refine wpAny_Call_Name_kw (zKd I hg hm ?_ hdb)
 refine PySem.W.callWith_K (h₀:=X.base) I.ok.mod.kin hk (yV (ha pos pins s σ H _ I h) fun us s1 ⟨vs,H1,I1,r,q⟩=>⟨I1.kIn,?_⟩) he hpl
 exact zMY F hr hb hd hx I1 r q
structure Mk (K:PySem.W.Frag) (C f:Addr):Prop where
 makes:PySem.W.makesIn K C=true
 init:PySem.W.findIn K (.ref C) "__init__"=some (some (.ref f))
 fn:PySem.W.isFn K (.ref f)=true
 kp:PySem.W.keepIn K (.ref C)=true
end
section
variable {X:Cx} {CX:CXT} {k:Nat} {f C:Addr} {fd:FuncData} {ps ks:List Str} {sp:Sp} {E:XK} {x m:Str} {p pos apos kpos:Pos} {e o:Expr} {es:List Expr} {kws:List Keyword} {te ta:TE} {t tk:TA} {nm:Option Str}
structure zOR (K:PySem.W.Frag) (fd:FuncData) (ps ks:List Str) (g:List Value→List Value→List Value) (gV:List V→List V→List V):Prop where
 to:∀(s:Shared) (us ws:List Value),K.In s.heap→(g us ws).length=ps.length→BindsTo s fd ⟨us,ks.zip ws⟩ (ps.zip (g us ws))
 rel:∀ {vs:List V} {us:List Value} {zs:List V} {ws:List Value},zW vs us→zW zs ws→zW (gV vs zs) (g us ws)
variable {g:List Value→List Value→List Value} {gV:List V→List V→List V}
end
structure zc (N P:List Str) (sc:Scope):Prop where
 kind:sc.kind=.function
 co:sc.isCoroutine=false
 gen:sc.isGenerator=false
 nd:N.Nodup
 pre:N.take P.length=P
 par:∀ x∈P,sc.names.lookup x=some .local∨sc.names.lookup x=some .cell
 nofree:∀ y∈sc.names,y.2≠.free
theorem zD5{kindOf:Str→Option NameKind}{x:Str}:∀ {binds:List (Str×Value)} {m:Str→Option Value},(∀ v,(x,v)∉binds)→bindL kindOf binds m x=m x
 | [],_,_=>rfl
 | (n,v)::r,m,h=>by
  unfold bindL
  rw[zD5 fun w hw=>h w (List.mem_cons_of_mem _ hw)]
  split
  ·have:x≠n:=by rintro rfl;exact h v List.mem_cons_self
   simp[this]
  ·rfl
theorem zD6{kindOf:Str→Option NameKind}{x:Str}:∀ {binds:List (Str×Value)} {m:Str→Option Value},(∀ v,(x,v)∉binds)→bindC kindOf binds m x=m x
 | [],_,_=>rfl
 | (n,v)::r,m,h=>by
  unfold bindC
  rw[zD6 fun w hw=>h w (List.mem_cons_of_mem _ hw)]
  split
  ·rfl
  ·have:x≠n:=by rintro rfl;exact h v List.mem_cons_self
   simp[this]
theorem zD7{kindOf:Str→Option NameKind}{x:Str}{v:Value}:∀ {P:List Str} {vs:List Value} {i:Nat} {m:Str→Option Value},P.Nodup→P[i]?=some x→vs[i]?=some v→kindOf x=some .local →
  bindL kindOf (P.zip vs) m x=some v
 | [],_,_,_,_,h,_,_=>by simp at h
 | _::_,[],_,_,_,_,h,_=>by simp at h
 | p::P,w::vs,0,m,nd,h1,h2,hk=>by
  simp at h1 h2;subst h1;subst h2
  show bindL kindOf ((p,w)::P.zip vs) m p=_
  unfold bindL
  rw[zD5 fun v hv=>(List.nodup_cons.mp nd).1 (List.of_mem_zip hv).1,if_pos hk]
  simp
 | p::P,w::vs,i+1,m,nd,h1,h2,hk=>by
  show bindL kindOf ((p,w)::P.zip vs) m x=_
  unfold bindL
  exact zD7 (i:=i) (List.nodup_cons.mp nd).2 (by simpa using h1) (by simpa using h2) hk
theorem zD8{kindOf:Str→Option NameKind}{x:Str}{v:Value}:∀ {P:List Str} {vs:List Value} {i:Nat} {m:Str→Option Value},P.Nodup→P[i]?=some x→vs[i]?=some v→kindOf x≠some .local →
  bindC kindOf (P.zip vs) m x=some v
 | [],_,_,_,_,h,_,_=>by simp at h
 | _::_,[],_,_,_,_,h,_=>by simp at h
 | p::P,w::vs,0,m,nd,h1,h2,hk=>by
  simp at h1 h2;subst h1;subst h2
  show bindC kindOf ((p,w)::P.zip vs) m p=_
  unfold bindC
  rw[zD6 fun v hv=>(List.nodup_cons.mp nd).1 (List.of_mem_zip hv).1,if_neg hk]
  simp
 | p::P,w::vs,i+1,m,nd,h1,h2,hk=>by
  show bindC kindOf ((p,w)::P.zip vs) m x=_
  unfold bindC
  exact zD8 (i:=i) (List.nodup_cons.mp nd).2 (by simpa using h1) (by simpa using h2) hk
def start(N:List Str)(vs:List V):St:=vs.map some++List.replicate (N.length-vs.length) none
def zEg(CX:CXT)(P:Program)(w:World)(K:PySem.W.Frag)(mg:Str→Option Value)(base:Heap)(N:List Str)(qual:Str)(scope:Scope)(f:Addr)(cd:Value)(A:Around)(outer:List Env)(s:Shared)(H:Hp)(E:XK):Cx where
 prog:=P
 w:=w
 K:=K
 mg:=mg
 base:=base
 A:=A.deeper (envOfC qual scope s.heap.objs.size f cd)
 N:=N
 s₀:=s
 H₀:=H
 env:=envOfC qual scope s.heap.objs.size f cd
 outer:=outer
 stack:=envOfC qual scope s.heap.objs.size f cd::outer
 ex:=[]
 calm:=true
 fn:=fun _=>true
 pn:=[]
 xe:=fun e s'=>wpAny (model P w) (A.deeper (envOfC qual scope s.heap.objs.size f cd)) (leaving (envOfC qual scope s.heap.objs.size f cd) e) (fun _ s''=>CX outer H s E e s'') (fun e' s''=>CX outer H s E e' s'') s'
theorem zFI{sc:Scope}{n:Nat}{x:Str}(h:sc.names.lookup x=some .cell):∃ c,(cellsFrom n sc.names []).lookup x=some c:=by
 have q:=PySem.W.cellsFrom_some sc.names n [] (.inl h)
 exact Option.isSome_iff_exists.mp q
theorem zH2{CX:CXT}{P:Program}{w:World}{K:PySem.W.Frag}{mg:Str→Option Value}{base:Heap}{N ps:List Str}{qual:Str}{scope:Scope}{f:Addr}{cd:Value}{A:Around}{outer:List Env}{s s1:Shared}{H:Hp}{E:XK}{us:List Value}{vs:List V}
  (S:zc N ps scope) (hd:A.handled=none) (e0:zGI P w K mg base A outer s H) (hl:vs.length=ps.length) (r:zW vs us)
  (x:InCallC s s.heap.objs.size (bindL (envOfC qual scope s.heap.objs.size f cd).kindOf (ps.zip us) fun _=>none) (cellsFrom (s.heap.objs.size+1) scope.names []) (bindC (envOfC qual scope s.heap.objs.size f cd).kindOf (ps.zip us) fun _=>none) s1) :
  zU (zEg CX P w K mg base N qual scope f cd A outer s H E) [] (start N vs) H s1:=by
 have hpl:ps.length≤N.length:=by have:=congrArg List.length S.pre;rw[List.length_take] at this;omega
 obtain⟨h1,tk,rfl,hk⟩:=x.done
 have noA:∀ b:Addr,b∉(zEg CX P w K mg base N qual scope f cd A outer s H E).ex:=fun b z=>absurd (show b∈([]:List Addr) from z) (by simp)
 refine⟨⟨e0.mod,S.kind,rfl,rfl,Nat.le_refl _,fun y z c h1 h2=>?_,fun y hy=>?_,fun y c _ h=>?_,fun _=>hd,Around.frames_deeper e0.frames,.inr ⟨rfl,rfl⟩,fun b z=>absurd z (noA b),e0.bs,e0.bsz,fun b _ _=>noA b,fun b z=>absurd z (noA b),e0.funs,e0.frf,e0.tb⟩,
  rfl,e0.bare,Un.kept hk,⟨_,x.toInCall.ns,fun i y v h1 h2 h3=>?_⟩,fun y c h=>⟨_,x.cell y c h⟩,e0.hok.fresh (Nat.le_refl _),fun y c h=>?_,fun p hp=>absurd (show p∈([]:List (Addr×Obj)) from hp) (by simp),e0.hok.kept hk,?_⟩
 ·exact name_of_addr x.apart (PySem.mem_of_lookup h1) (PySem.mem_of_lookup h2)
 ·have hy:scope.names.lookup y=some .cell∨scope.names.lookup y=some .free:=hy
  rcases hy with hy | hy
  ·exact zFI hy
  ·exact absurd rfl (S.nofree _ (PySem.mem_of_lookup hy))
 ·exact Nat.le_of_lt (x.above y c (PySem.mem_of_lookup h))
 ·have hi:i<vs.length:=by
   unfold start at h2
   by_cases hi:i<vs.length
   ·exact hi
   ·rw[List.getElem?_append_right (by simpa using hi)] at h2
    rw[List.getElem?_replicate] at h2
    split at h2<;>cases h2
  have ha:vs[i]?=some v:=by
   unfold start at h2
   rw[List.getElem?_append_left (by simpa using hi),List.getElem?_map] at h2
   cases e:vs[i]? with
   | none=>rw[e] at h2;cases h2
   | some a=>rw[e] at h2;cases h2;rfl
  obtain⟨u,hu,rv⟩:=r.get ha
  have hp:ps[i]?=some y:=by
   rw[← S.pre,List.getElem?_take_of_lt (by omega)];exact h1
  have ndP:ps.Nodup:=by rw[← S.pre];exact S.nd.sublist (List.take_sublist _ _)
  refine⟨u,rv,?_⟩
  rcases S.par y (List.mem_of_getElem? hp) with k | k
  ·exact .inl ⟨k,zD7 ndP hp hu k⟩
  ·obtain⟨c,e⟩:=zFI (n:=s.heap.objs.size+1) k
   refine .inr ⟨.inl k,c,e,?_⟩
   have q:=x.cell y c e
   rw[zD8 ndP hp hu (by show scope.names.lookup y≠_;rw[k];decide)] at q
   exact q
 ·exact e0.hok.fresh (Nat.le_of_lt (x.above y c (PySem.mem_of_lookup h)))
 ·unfold start
  show _=N.length
  rw[List.length_append,List.length_map,List.length_replicate]
  omega
theorem zNi{CX:CXT}{P:Program}{w:World}{K:PySem.W.Frag}{mg:Str→Option Value}{base:Heap}{k:Nat}{f:Addr}{name qual:Str}{params:Arguments}{body:List Stmt}{scope:Scope}{dV kV doc pm cdv ct oc:Value}{an od:Option Addr}
  {osl:Array (Option Value)} {N ps:List Str} {sp:Sp} (lk:K.lookup f=some ⟨oc,od,.func (PySem.W.fnOf name qual params body scope dV kV doc pm an cdv ct),osl⟩) (hcd:PySem.W.codeIn K cdv qual=true) (S:zc N ps scope)
  (len:∀ vs H Q E,sp vs H Q E→vs.length=ps.length)
  (hbody:∀(A:Around) (outer:List Env) (s:Shared) (H:Hp) (vs:List V) (Q:VK) (E:XK),yo k (A.deeper (envOfC qual scope s.heap.objs.size f cdv))→sp vs H Q E →
   ∃ t,PSs (zEg CX P w K mg base N qual scope f cdv A outer s H E) body t∧t { nx:=fun _ H'=>Q .non H',rt:=Q } (start N vs) H) :
  zBG P w K mg base CX (k+1) f (PySem.W.fnOf name qual params body scope dV kV doc pm an cdv ct) ps sp:=by
 refine⟨len,fun A outer s H args us vs Q E hr e0 hb r hsp=>?_⟩
 have hl:=len _ _ _ _ hsp
 have KX:K.In s.heap:=e0.mod.kin.keeps fun b o e=>(e0.bs b o e).1
 have lim:s.heap.NoLimit:=e0.mod.nolimit.keeps fun b o e=>(e0.bs b o e).1
 have hkind:∀ y∈ps.zip us,scope.names.lookup y.1=some .local∨(scope.names.lookup y.1=some .cell∧((cellsFrom (s.heap.objs.size+1) scope.names []).lookup y.1).isSome=true):=fun⟨n,v⟩ hy=>by
  rcases S.par n (List.of_mem_zip hy).1 with q | q
  ·exact .inl q
  ·exact .inr ⟨q,PySem.W.cellsFrom_some _ _ _ (.inl q)⟩
 refine codeAny_call_function hr.depth (KX _ _ lk) rfl S.co S.gen rfl (PySem.W.codeRec_of KX hcd) (hb _ _ _ _ ?_)
 refine wpAny_newFunctionEnv_cells S.kind hkind fun env he s1 x=>?_
 subst he
 refine⟨lim.keeps x.toInCall.keep,codeAny_func ?_⟩
 obtain⟨t,ht,hq⟩:=hbody A outer s H vs Q E (hr.deeper _) hsp
 have I:zU (zEg CX P w K mg base N qual scope f cdv A outer s H E) [] (start N vs) H s1:=zH2 S hr.hd e0 hl r x
 refine wpAny_mono (ht [] s1 (start N vs) H _ I hq) (fun fl s' hs=>?_) fun e s' hs=>hs
 have fin:∀ {σ':St} {H':Hp} {v:V} {u:Value},zU (zEg CX P w K mg base N qual scope f cdv A outer s H E) [] σ' H' s'→RelV v u→Q v H'→CE outer P w H s Q u s' :=
  fun {σ' H' v u} J rv q=>⟨v,H',J.os,J.bare,J.base,J.hok,rv,q⟩
 cases fl with
 | ret u =>
  obtain⟨v,σ',H',J,rv,q⟩:=hs
  exact fin J rv q
 | next =>
  obtain⟨σ',H',J,q⟩:=hs
  exact fin (v:=V.non) (u:=Value.none) J rfl q
 | brk =>
  obtain⟨_,_,_,q⟩:=hs
  exact False.elim q
 | cont =>
  obtain⟨_,_,_,q⟩:=hs
  exact False.elim q
end L2
namespace L2
open PySem PySem.Spec PyProof.Rows
section
variable {X:Cx} {x:Str} {p pos:Pos} {e:Expr} {es:List Expr} {t:TA} {id T:String} {r:List V→Hp→VK→Prop}
def tCB(r:List V→Hp→VK→Prop)(t:TA):TE:=fun σ H Q=>t σ H fun vs H1=>r vs H1 Q
theorem zAH(hc:yk X (.builtin id) r)(hg:Gl X x)(hm:X.mg x=none)(hv:bootBuiltins x=some (.builtin id))(ha:PA X (e::es) t)(hn:x≠"__name__":=by decide)(hdb:(x==("__debug__":Str))=false:=by decide)
  (he:starEach (e::es) X.env=(false,eval e X.env)::starEach es X.env:=by rfl) (hpl:(backTo pos (starEach es X.env)).any (·.1)=false:=by rfl):PE X (.Call (.Name x p) (e::es) [] pos) (tCB r t):=by
 intro pins s σ H Q I h
 refine wpAny_Call_Name_kw (zBE I hg hm hv ?_ hn hdb)
 exact PyProof.Rows.callWith_builtin1 (yV (ha pos pins s σ H _ I h) fun us s1 ⟨vs,H1,I1,r1,q1⟩=>hc pins s1 σ H1 vs us Q I1 r1 q1) he hpl
theorem zCT(hc:yk X (.type T) r)(hg:Gl X x)(hm:X.mg x=none)(hv:bootBuiltins x=some (.type T))(ha:PA X (e::es) t)(hn:x≠"__name__":=by decide)(hdb:(x==("__debug__":Str))=false:=by decide)
  (he:starEach (e::es) X.env=(false,eval e X.env)::starEach es X.env:=by rfl) (hpl:(backTo pos (starEach es X.env)).any (·.1)=false:=by rfl):PE X (.Call (.Name x p) (e::es) [] pos) (tCB r t):=by
 intro pins s σ H Q I h
 refine wpAny_Call_Name_kw (zBE I hg hm hv ?_ hn hdb)
 exact PyProof.Rows.callWith_type1 (yV (ha pos pins s σ H _ I h) fun us s1 ⟨vs,H1,I1,r1,q1⟩=>hc pins s1 σ H1 vs us Q I1 r1 q1) he hpl
end
end L2
namespace HT
open PySem PyProof.Rows
section
open PySem.SeqAt
open PySem.AutoSeq1 (wpAny_loadPart')
open PySem.MeetsSeq PySem.MeetsSeq2 PySem.MeetsSeq3
end
section
variable {prog:Program} {w:World} {A:Around} {E:Value→Shared→Prop} {s:Shared}
theorem zKo{t b:Addr}{vs ws:List Value}{Q:Value→Shared→Prop}(ht:IsTup s.heap t vs.toArray)(hb:IsTup s.heap b ws.toArray)(hv:vs≠[])
  (h1:ws=[]→Q (.ref t) s) (h2:ws≠[]→Q (.ref s.heap.objs.size) { s with heap:=s.heap.push { cls:=.type "tuple",data:=.seq (vs++ws).toArray } })
  (hsz:vs.length+ws.length≤sizeLine):wpAny (model prog w) A (binaryOp .Add (.ref t) (.ref b)) Q E s:=by
 obtain⟨⟨cls,dd,data,sl⟩,ho,hc,n,hd⟩:=id ht
 obtain⟨⟨cls2,dd2,data2,sl2⟩,ho2,hc2,n2,hd2⟩:=id hb
 simp only at hc hd hc2 hd2
 subst hc hd hc2 hd2
 have e:vs.toArray++ws.toArray=(vs++ws).toArray:=by simp
 by_cases hw:ws=[]
 ·exact concat_meets ⟨_,ho,rfl⟩ ⟨_,ho2,rfl⟩ noFill_tuple_add seq_tuple_add PySem.F.slot_tuple_add PySem.F.entry_tuple_add (PySem.F.args_tuple_add_2 _ _)
   (tuple_addW1 t b vs.toArray ws.toArray n n2 dd dd2 sl sl2 (by simpa using hv) (by simp[hw])) ⟨ho,ho2,h1 hw⟩
 ·refine concat_meets ⟨_,ho,rfl⟩ ⟨_,ho2,rfl⟩ noFill_tuple_add seq_tuple_add PySem.F.slot_tuple_add PySem.F.entry_tuple_add (PySem.F.args_tuple_add_2 _ _)
   (tuple_addW2 t b vs.toArray ws.toArray n n2 dd dd2 sl sl2 (by simpa using hv) (by simpa using hw) (by rw[List.size_toArray,List.size_toArray];exact hsz)) ⟨ho,ho2,?_⟩
  rw[e]
  exact h2 hw
end
end HT
namespace L2
open PySem PySem.Spec PyProof.Rows
abbrev TO:=St→Hp→(Option Int→Hp→Prop)→Prop
theorem intsAre_of{ns:List Int}:∀ {us:List Value},zW (ns.map V.int) us→IntsAre us ns:=by
 induction ns with
 | nil=>intro us r;rw[List.map_nil] at r;cases r;exact .nil
 | cons n ns ih =>
  intro us r
  rw[List.map_cons] at r
  cases r with
  | cons r1 r2 =>
   obtain⟨t,e⟩:=r1
   subst e
   exact .cons n t (ih r2)
section
variable {X:Cx} {e:Expr} {te:TE} {lo hi:Option Expr} {tl th:TO} {pos p2:Pos}
def SlR(X:Cx)(r:V→Option Int→Option Int→Hp→VK→Prop):Prop :=
 ∀(pins:List (Addr×Obj)) (s:Shared) (σ:St) (H:Hp) (x:V) (v vl vu:Value) (lo hi:Option Int) (sl:Addr) (Q:VK),zU X pins σ H s→RelV x v→s.heap.IsSliceOf sl vl vu .none→IsPart vl lo→IsPart vu hi→r x lo hi H Q →
  ∃ T id,typeLookup (.type T) "__getitem__"=pure (some (.builtin id))∧s.TypeIs v T∧wpAny (model X.prog X.w) X.A (getItem v (.ref sl)) (EP X pins σ Q) X.xe s
theorem SlR.or{r r':V→Option Int→Option Int→Hp→VK→Prop}(h:SlR X r)(h':SlR X r'):SlR X (fun x lo hi H Q=>r x lo hi H Q∨r' x lo hi H Q):=by
 intro pins s σ H x v vl vu lo hi sl Q I rx hs pl pu q
 rcases q with q | q
 ·exact h pins s σ H x v vl vu lo hi sl Q I rx hs pl pu q
 ·exact h' pins s σ H x v vl vu lo hi sl Q I rx hs pl pu q
def zLk(K:PySem.W.Frag):R2:=fun x y H Q=>∃ a b xs ys,x=.ref a∧y=.ref b∧SqT K H a xs∧SqT K H b ys∧xs≠[]∧xs.length+ys.length≤sizeLine ∧
 (ys=[]→Q (.ref a) H)∧(ys≠[]→∀ p,H p=none→Q (.ref p) (yc H p (.tup (xs++ys))))
theorem zW.nil_iff{xs:List V}{us:List Value}(r:zW xs us):us=[]↔xs=[]:=by
 cases r with
 | nil=>simp
 | cons _ _=>simp
theorem zKp:OpR X (binaryOp .Add) (zLk X.K):=by
 intro pins s σ H x y v u Q I rx ry h
 obtain⟨a,b,xs,ys,rfl,rfl,ha,hb,hx,hz,q1,q2⟩:=h
 cases rx
 cases ry
 obtain⟨its,r1,p1,_⟩:=I.tuple ha
 obtain⟨its2,r2,p2,_⟩:=I.tuple hb
 refine HT.zKo p1 p2 (fun z=>hx (r1.nil_iff.mp z)) (fun z=>⟨.ref a,H,I,rfl,q1 (r2.nil_iff.mp z)⟩) (fun z=>?_) (by rw[← r1.length,← r2.length];exact hz)
 refine⟨.ref s.heap.objs.size,_,I.laid (t':=s.toks) (o:=.tup (xs++ys)) (fun b ob q=>Heap.get?_push_of_some _ q) (Nat.le_refl _) ?_,rfl,q2 (fun w=>z (r2.nil_iff.mpr w)) _ (I.hok.fresh (Nat.le_refl _))⟩
 exact⟨by rw[List.length_append];exact hz,_,r1.append r2,zCQ.new _ _⟩
end
end L2
namespace L2
open PySem PySem.Spec PyProof.Rows
def ixN(n:Nat)(i:Int):Option Nat:=if 0≤i then (if i<n then some i.toNat else none) else if -(n:Int)≤i then some (i+n).toNat else none
def atI{α:Type}(xs:List α)(i:Int):Option α:=(ixN xs.length i).bind fun j=>xs[j]?
theorem zHF{n:Nat}{i:Int}{j:Nat}(h:ixN n i=some j):seqIndex? i n=some j∧j<n∧-(n:Int)≤i∧i<n:=by
 unfold ixN at h
 by_cases h0:0≤i
 ·rw[if_pos h0] at h
  by_cases h1:i<n
  ·rw[if_pos h1] at h
   have e:i.toNat=j:=Option.some.inj h
   exact⟨by rw[seqIndex_of h0 h1,e],by omega,by omega,h1⟩
  ·rw[if_neg h1] at h;cases h
 ·rw[if_neg h0] at h
  by_cases h1:-(n:Int)≤i
  ·rw[if_pos h1] at h
   have e:(i+n).toNat=j:=Option.some.inj h
   exact⟨by rw[seqIndex_neg (by omega) h1,e],by omega,h1,by omega⟩
  ·rw[if_neg h1] at h;cases h
theorem zHG{α:Type}{xs:List α}{i:Int}{v:α}(h:atI xs i=some v):∃ j,seqIndex? i xs.length=some j∧xs[j]?=some v∧j<xs.length∧-(xs.length:Int)≤i∧i<xs.length:=by
 unfold atI at h
 cases e:ixN xs.length i with
 | none=>rw[e] at h;cases h
 | some j =>
  rw[e] at h
  obtain⟨h1,h2,h3,h4⟩:=zHF e
  exact⟨j,h1,h,h2,h3,h4⟩
theorem zBw{α:Type}{xs:List α}{j:Nat}{v:α}(h:xs[j]?=some v):atI xs (j:Int)=some v:=by
 have hj:j<xs.length:=(List.getElem?_eq_some_iff.mp h).1
 have e:ixN xs.length (j:Int)=some j:=by
  unfold ixN
  rw[if_pos (by omega),if_pos (by omega)];simp
 unfold atI;rw[e];exact h
def zHH(b:Expr):Prop:=∀ o i,subscripted b false o i=operate [o,i] (getItem o i)
def IxR(X:Cx)(r:R2):Prop :=
 ∀(value slice:Expr) (pins:List (Addr×Obj)) (s:Shared) (σ:St) (H:Hp) (x y:V) (v u:Value) (Q:VK),zU X pins σ H s→RelV x v→RelV y u→r x y H Q →
  subscripted slice false v u=operate [v,u] (getItem v u)→wpAny (model X.prog X.w) X.A (subscriptTail value slice v u) (EP X pins σ Q) X.xe s
def MtR(X:Cx)(id:String)(r:V→List V→Hp→VK→Prop):Prop :=
 ∀(pins:List (Addr×Obj)) (s:Shared) (σ:St) (H:Hp) (x:V) (xs:List V) (v:Value) (us:List Value) (Q:VK),zU X pins σ H s→RelV x v→zW xs us→r x xs H Q →
  wpAny (model X.prog X.w) X.A (call (.builtin id) (v::us)) (EP X pins σ Q) X.xe s
section
variable {X:Cx} {a b:Expr} {ta tb:TE} {pos:Pos}
theorem IxR.or{r r':R2}(h:IxR X r)(h':IxR X r'):IxR X (fun x y H Q=>r x y H Q∨r' x y H Q):=by
 intro value slice pins s σ H x y v u Q I rx ry q hs
 rcases q with q | q
 ·exact h value slice pins s σ H x y v u Q I rx ry q hs
 ·exact h' value slice pins s σ H x y v u Q I rx ry q hs
theorem MtR.or{id:String}{r r':V→List V→Hp→VK→Prop}(h:MtR X id r)(h':MtR X id r'):MtR X id (fun x xs H Q=>r x xs H Q∨r' x xs H Q):=by
 intro pins s σ H x xs v us Q I rx rs q
 rcases q with q | q
 ·exact h pins s σ H x xs v us Q I rx rs q
 ·exact h' pins s σ H x xs v us Q I rx rs q
theorem zNj{r:R2}(hr:IxR X r)(ha:PE X a ta)(hb:PE X b tb)(hs:zHH b):PE X (.Subscript a b pos) (tOp r ta tb):=by
 intro pins s σ H Q I h
 exact Subscript_ (zMO ha hb I h fun v u s2 x y H2 I2 rx ry q=>hr a b pins s2 σ H2 x y v u Q I2 rx ry q (hs _ _))
def zNk(K:PySem.W.Frag):R2:=fun x y H Q=>∃ p xs i v,x=.ref p∧y=.int i∧SqL K H p xs∧atI xs i=some v∧Q v H
def zNl(K:PySem.W.Frag):R2:=fun x y H Q=>∃ p xs i v,x=.ref p∧y=.int i∧SqT K H p xs∧atI xs i=some v∧Q v H
theorem zKq:IxR X (zNk X.K):=by
 intro value slice pins s σ H x y v u Q I rx ry h hs
 obtain⟨p,xs,i,z,rfl,rfl,hq,he,q⟩:=h
 cases rx
 obtain⟨t,rfl⟩:=ry
 obtain⟨its,r,pl,hz⟩:=I.list hq
 obtain⟨j,h1,h2,h3,h4,h5⟩:=zHG he
 obtain⟨w,ew,rw'⟩:=r.get h2
 have hl:=r.length
 have hn:=zEf
 have fin:EP X pins σ Q w s:=⟨z,H,I,rw',q⟩
 by_cases h0:0≤i
 ·have hj:i.toNat=j:=by
   rw[seqIndex_of h0 h5] at h1
   exact Option.some.inj h1
  exact item_listR pl.isList h0 (by omega) (by rw[hj];simpa using ew) fin hs
 ·have hj:(i+(its.toArray.size:Int)).toNat=j:=by
   rw[seqIndex_neg (by omega) h4] at h1
   rw[List.size_toArray,← hl]
   exact Option.some.inj h1
  exact subscriptTail_builtinR (x:=w) pl.isList.typeIs slot_list_getitem.lookup
   (wpAny_getItem_list_neg (Q:=fun r s'=>r=w∧EP X pins σ Q r s') pl.isList (by omega) (by rw[List.size_toArray]<;>omega) (by omega) (by rw[hj];simpa using ew) ⟨rfl,fin⟩) hs
theorem zMZ:IxR X (zNl X.K):=by
 intro value slice pins s σ H x y v u Q I rx ry h hs
 obtain⟨p,xs,i,z,rfl,rfl,hq,he,q⟩:=h
 cases rx
 obtain⟨t,rfl⟩:=ry
 obtain⟨its,r,pl,hz⟩:=I.tuple hq
 obtain⟨j,h1,h2,h3,h4,h5⟩:=zHG he
 obtain⟨w,ew,rw'⟩:=r.get h2
 have hl:=r.length
 have hn:=zEf
 have fin:EP X pins σ Q w s:=⟨z,H,I,rw',q⟩
 exact subscriptTail_builtinR (x:=w) pl.typeIs slot_tuple_getitem.lookup
  (getItem_tuple (j:=j) (Q:=fun r s'=>r=w∧EP X pins σ Q r s') pl (by omega) (by omega) (by rw[List.size_toArray,← hl];exact h1) (by simpa using ew) ⟨rfl,fin⟩) hs
theorem zGK(its:List Value)(n j:Nat)(u:Value):Obj.mapSeq (·.setIfInBounds j u) { cls:=.type "list",data:=.seq its.toArray n }={ cls:=.type "list",data:=.seq (its.set j u).toArray n }:=by
 simp[Obj.mapSeq]
theorem zU.lst{pins:List (Addr×Obj)}{σ:St}{H:Hp}{s:Shared}{p:Addr}{xs:List V}(I:zU X pins σ H s)(h:H p=some (.lst xs)) :
  ∃(its:List Value) (n:Nat),zW xs its∧s.heap.get? p=some { cls:=.type "list",data:=.seq its.toArray n }∧xs.length≤sizeLine:=by
 obtain⟨z,its,n,r,e⟩:=I.hok p _ h
 exact⟨its,n,r,e,z⟩
theorem zU.lstUpd{pins:List (Addr×Obj)}{σ:St}{H:Hp}{s:Shared}{p:Addr}{xs ys:List V}{its its':List Value}{n n':Nat}{f:Obj→Obj}(I:zU X pins σ H s)(h:H p=some (.lst xs))
  (ho:s.heap.get? p=some { cls:=.type "list",data:=.seq its.toArray n }) (hf:f { cls:=.type "list",data:=.seq its.toArray n }={ cls:=.type "list",data:=.seq its'.toArray n' }) (r:zW ys its') (hz:ys.length≤sizeLine) (t:Nat) :
  zU X pins σ (yc H p (.lst ys)) { s with heap:=s.heap.update p f,toks:=t }:=by
 have e:(s.heap.update p f).get? p=some { cls:=.type "list",data:=.seq its'.toArray n' }:=by
  rw[Heap.get?_update_self f ho (by rw[hf]<;>rfl),hf]
 refine I.write (x:=p) (e:=p) (by rw[h];trivial) (.inl rfl) (fun b u hb q=>(Heap.get?_update_other _ _ (Ne.symm hb)).trans q) ⟨_,e⟩ ?_
 exact⟨hz,its',n',r,e⟩
def zNm:V→V→V→Hp→(Hp→Prop)→Prop:=fun o i v H Q=>∃ p xs k j,o=.ref p∧i=.int k∧H p=some (.lst xs)∧ixN xs.length k=some j∧Q (yc H p (.lst (xs.set j v)))
theorem set_list:zNa X zNm:=by
 intro pins s σ H o i v ov iv u Q I ro ri rv h
 obtain⟨p,xs,k,j,rfl,rfl,hp,hj,q⟩:=h
 cases ro
 obtain⟨t,rfl⟩:=ri
 obtain⟨its,n,r,ho,hz⟩:=I.lst hp
 obtain⟨h1,h2,h3,h4⟩:=zHF hj
 have hl:=r.length
 have hn:=zEf
 have I':zU X pins σ (yc H p (.lst (xs.set j v))) { s with heap:=s.heap.update p (Obj.mapSeq (·.setIfInBounds j u)) } :=
  I.lstUpd hp ho (zGK its n j u) (r.set rv j) (by rw[List.length_set];exact hz) s.toks
 by_cases h0:0≤k
 ·have hk:k.toNat=j:=by
   rw[seqIndex_of h0 h4] at h1
   exact Option.some.inj h1
  exact PySem.W.ki_setAt ho h0 (by omega) (by rw[List.size_toArray,← hl];exact h4) (by rw[hk];exact⟨_,I',q⟩)
 ·have hk:(k+(its.toArray.size:Int)).toNat=j:=by
   rw[seqIndex_neg (by omega) h3] at h1
   rw[List.size_toArray,← hl]
   exact Option.some.inj h1
  exact PySem.W.ki_setBack ho (by omega) (by rw[List.size_toArray,← hl];exact h3) (by omega) (by rw[hk];exact⟨_,I',q⟩)
def zHI:V→Bool
 | .non=>true
 | .bl _=>true
 | .int _=>true
 | .str _=>true
 | _=>false
def eqV:V→V→Bool
 | .non,.non=>true
 | .bl a,.bl b=>a==b
 | .bl a,.int b=>(if a then 1 else 0)==b
 | .int a,.bl b=>a==(if b then 1 else 0)
 | .int a,.int b=>a==b
 | .str a,.str b=>a==b
 | _,_=>false
theorem zJA{A:Around}{s:Shared}{y x:V}{u v:Value}(ry:RelV y u)(rx:RelV x v)(fy:zHI y=true)(fx:zHI x=true):SeqAt.EqAt A s u v (eqV y x):=by
 cases y with
 | non =>
  cases ry
  cases x with
  | non=>cases rx;exact SeqAt.EqAt.same _
  | bl b=>cases rx;exact SeqAt.EqAt.none_bool b
  | int b=>obtain⟨t,rfl⟩:=rx;exact SeqAt.EqAt.none_int b t
  | str b=>obtain⟨t,rfl⟩:=rx;exact SeqAt.EqAt.none_str b t
  | _=>exact absurd (show false=true from fx) Bool.false_ne_true
 | bl a =>
  cases ry
  cases x with
  | non=>cases rx;exact SeqAt.EqAt.bool_none a
  | bl b=>cases rx;exact SeqAt.EqAt.bool_bool a b
  | int b=>obtain⟨t,rfl⟩:=rx;exact SeqAt.EqAt.bool_int a b t
  | str b=>obtain⟨t,rfl⟩:=rx;exact SeqAt.EqAt.bool_str a b t
  | _=>exact absurd (show false=true from fx) Bool.false_ne_true
 | int a =>
  obtain⟨t',rfl⟩:=ry
  cases x with
  | non=>cases rx;exact SeqAt.EqAt.int_none a t'
  | bl b=>cases rx;exact SeqAt.EqAt.int_bool a t' b
  | int b=>obtain⟨t,rfl⟩:=rx;exact SeqAt.EqAt.int_int a t' b t
  | str b=>obtain⟨t,rfl⟩:=rx;exact SeqAt.EqAt.int_str a t' b t
  | _=>exact absurd (show false=true from fx) Bool.false_ne_true
 | str a =>
  obtain⟨t',rfl⟩:=ry
  cases x with
  | non=>cases rx;exact SeqAt.EqAt.str_none a t'
  | bl b=>cases rx;exact SeqAt.EqAt.str_bool a t' b
  | int b=>obtain⟨t,rfl⟩:=rx;exact SeqAt.EqAt.str_int a t' b t
  | str b=>obtain⟨t,rfl⟩:=rx;exact SeqAt.EqAt.str_str a t' b t
  | _=>exact absurd (show false=true from fx) Bool.false_ne_true
 | _=>exact absurd (show false=true from fy) Bool.false_ne_true
theorem zEh:yk X (.builtin "len") (fun xs H Q=>∃ p ys,xs=[.ref p]∧(SqL X.K H p ys∨SqT X.K H p ys)∧Q (.int ys.length) H):=by
 intro pins s σ H xs us Q I r h
 obtain⟨p,ys,rfl,hq,q⟩:=h
 obtain⟨u,rfl,rx⟩:=vals1 r
 cases rx
 have hn:=zEf
 rcases hq with hq | hq
 ·obtain⟨its,r',pl,hz⟩:=I.list hq
  have hlen:=r'.length
  exact Calls.call_len_list pl.isList (by simp only[List.size_toArray]<;>omega) ⟨.int ys.length,H,I.tok _,⟨s.toks+1,by rw[List.size_toArray,hlen]⟩,q⟩
 ·obtain⟨its,r',pl,hz⟩:=I.tuple hq
  have hlen:=r'.length
  exact len_tuple pl (by simp only[List.size_toArray]<;>omega) ⟨.int ys.length,H,I.tok _,⟨s.toks+1,by rw[List.size_toArray,hlen]⟩,q⟩
theorem yk.or{f:Value}{r r':List V→Hp→VK→Prop}(h:yk X f r)(h':yk X f r'):yk X f (fun xs H Q=>r xs H Q∨r' xs H Q):=by
 intro pins s σ H xs us Q I rs q
 rcases q with q | q
 ·exact h pins s σ H xs us Q I rs q
 ·exact h' pins s σ H xs us Q I rs q
theorem zBh:yk X (.type "tuple") (fun xs H Q=>∃ p ys,xs=[.ref p]∧((SqL X.K H p ys∧∀ l,H l=none→Q (.ref l) (yc H l (.tup ys)))∨(SqT X.K H p ys∧Q (.ref p) H))):=by
 intro pins s σ H xs us Q I r h
 obtain⟨p,ys,rfl,h⟩:=h
 obtain⟨u,rfl,rx⟩:=vals1 r
 cases rx
 rcases h with ⟨hq,q⟩ | ⟨hq,q⟩
 ·obtain⟨its,r',pl,hz⟩:=I.list hq
  have hlen:=r'.length
  refine call_tuple_list pl.isList (fun h' kp=>?_) (by simp only[List.size_toArray]<;>omega)
  have I1:zU X pins σ H { s with heap:=h' }:=I.kept (t':=s.toks) kp
  have I2:zU X pins σ (yc H h'.objs.size (.tup ys)) { s with heap:=h'.push { cls:=.type "tuple",data:=.seq its.toArray } } :=
   I1.laid (t':=s.toks) (fun b o e=>Heap.get?_push_of_some _ e) (Nat.le_refl _) (show yx X.prog X.w _ _ _ (.tup ys) from⟨hz,its,r',zCQ.new _ _⟩)
  exact⟨.ref h'.objs.size,_,I2,rfl,q _ (I1.hok.fresh (Nat.le_refl _))⟩
 ·obtain⟨its,r',pl,hz⟩:=I.tuple hq
  exact call_tuple_same pl ⟨.ref p,H,I,rfl,q⟩
def tyV(K:PySem.W.Frag)(T:String)(x:V)(H:Hp):Prop:=match x with
 | .str _=>T="str"
 | .int _=>T="int"
 | .ref p=>(T="list"∧∃ xs,SqL K H p xs)∨(T="tuple"∧∃ xs,SqT K H p xs) ∨
   (T="dict"∧((∃ kvs,H p=some (.dK kvs))∨∃ kvs,H p=some (.dT kvs)))∨(T="set"∧∃ S n,H p=some (.set S n))
 | _=>False
theorem zMa{pins:List (Addr×Obj)}{σ:St}{H:Hp}{s:Shared}{T:String}{x:V}{v:Value}(I:zU X pins σ H s)(r:RelV x v)(ty:tyV X.K T x H) :
  s.TypeIs v T∧∀ a,v=.ref a→∃ ob,s.heap.get? a=some ob∧ob.dict=none:=by
 cases x with
 | str z =>
  obtain⟨t,rfl⟩:=r
  cases (show T="str" from ty)
  exact⟨typeIs_str s z t,fun _ e=>nomatch e⟩
 | int i =>
  obtain⟨t,rfl⟩:=r
  cases (show T="int" from ty)
  exact⟨typeIs_int s i t,fun _ e=>nomatch e⟩
 | ref p =>
  cases r
  rcases ty with ⟨rfl,xs,hq⟩ | ⟨rfl,xs,hq⟩ | ⟨rfl,hk⟩ | ⟨rfl,S,n,hk⟩
  ·obtain⟨its,_,pl,_⟩:=I.list hq
   refine⟨pl.isList.typeIs,fun a e=>?_⟩
   cases e
   obtain⟨o,n,e,c,hd,_⟩:=pl
   exact⟨o,e,hd⟩
  ·obtain⟨h1,o,h2,h3⟩:=I.noDict hq
   refine⟨h1,fun a e=>?_⟩
   cases e
   exact⟨o,h2,h3⟩
  ·have z:∃ o,s.heap.get? p=some o∧o.ExactDict:=by
    rcases hk with ⟨kvs,hk⟩ | ⟨kvs,hk⟩
    ·obtain⟨_,_,_,_,o,_,_,e,ex,_⟩:=I.hok p _ hk
     exact⟨o,e,ex⟩
    ·obtain⟨_,_,_,_,o,_,_,e,ex,_⟩:=I.hok p _ hk
     exact⟨o,e,ex⟩
   obtain⟨o,e,ex⟩:=z
   refine⟨⟨o,e,ex.1⟩,fun a e2=>?_⟩
   cases e2
   exact⟨o,e,ex.2.1⟩
  ·obtain⟨o,_,_,_,e,ex,_⟩:=I.hok p _ hk
   refine⟨⟨o,e,ex.1⟩,fun a e2=>?_⟩
   cases e2
   exact⟨o,e,ex.2.1⟩
 | _=>exact False.elim ty
def tBM(K:PySem.W.Frag)(T:String)(r:V→List V→Hp→VK→Prop)(to:TE)(t:TA):TE:=fun σ H Q=>to σ H fun x H1=>tyV K T x H1∧t σ H1 fun xs H2=>r x xs H2 Q
variable {o e:Expr} {es:List Expr} {to:TE} {t:TA} {name:Str} {apos cpos:Pos} {T id:String} {r:V→List V→Hp→VK→Prop}
theorem zJB(pa:PlainAttrs T)(slot:Slot T name id)(hty:typeOf (.builtin id)=pure (.type "method_descriptor"))(hm:MtR X id r)(ho:PE X o to)(ha:PA X (e::es) t)
  (hbase:attributeBase o name X.env (eval o X.env)=eval o X.env:=by rfl)
  (hfew:((backTo cpos (starEach (e::es) X.env)).all (fun x=>!x.1)&&(backToKw cpos (keywordEach [] X.env)).all (fun x=>x.1.isSome)
   && decide ((e::es).length+([]:List Keyword).length+(if ([]:List Keyword).isEmpty then 0 else 1)<30))=true:=by rfl)
  (hline:(apos.endLine==cpos.line)=true:=by rfl) (hs:starEach (e::es) X.env=(false,eval e X.env)::starEach es X.env:=by rfl) (hplain:(backTo cpos (starEach es X.env)).any (·.1)=false:=by rfl) :
  PE X (.Call (.Attribute o name apos) (e::es) [] cpos) (tBM X.K T r to t):=by
 intro pins s σ H Q I h
 refine wpAny_Call_method_late hbase hfew hline rfl (yV (ho pins s σ H _ I h) fun v s1 ⟨x,H1,I1,r1,ty,q1⟩=>?_)
 obtain⟨h1,h2⟩:=zMa I1 r1 ty
 refine⟨T,id,pa,slot,hty,h1,h2,?_⟩
 have hA:=ha cpos pins s1 σ H1 _ I1 q1
 rw[hs] at hA ⊢
 refine Calls.callWith_builtin (by show(false||(backTo cpos (starEach es X.env)).any (·.1))=false;rw[hplain]<;>rfl) (Calls.evalArgs_plain ?_)
 exact yV hA fun us s2 ⟨vs,H2,I2,r2,q2⟩=>hm pins s2 σ H2 x vs v us Q I2 r1 r2 q2
end
end L2
namespace L2
open PySem PySem.Spec PyProof.Rows
def MtM(X:Cx)(id:String)(r:V→List V→Hp→VK→Prop):Prop :=
 ∀(pins:List (Addr×Obj)) (s:Shared) (σ:St) (H:Hp) (x:V) (xs:List V) (v:Value) (us:List Value) (Q:VK),zU X pins σ H s→RelV x v→zW xs us→r x xs H Q →
  wpAny (model X.prog X.w) X.A (call (.builtin id) (v::us)) (EP X pins σ Q) X.xe s
theorem zW.one:∀ {x:V} {us:List Value},zW [x] us→∃ u,us=[u]∧RelV x u
 | _,_,.cons r .nil=>⟨_,rfl,r⟩
theorem zW.zero:∀ {us:List Value},zW [] us→us=[]
 | _,.nil=>rfl
theorem zW.eraseIdx:∀ {xs:List V} {us:List Value} (i:Nat),zW xs us→zW (xs.eraseIdx i) (us.eraseIdx i)
 | _,_,_,.nil=>.nil
 | _,_,0,.cons _ t=>t
 | _,_,i+1,.cons r t=>.cons r (zW.eraseIdx i t)
theorem zW.reverse{xs:List V}{us:List Value}(h:zW xs us):zW xs.reverse us.reverse:=by
 induction h with
 | nil=>exact .nil
 | cons r t ih=>rw[List.reverse_cons,List.reverse_cons];exact zW.append ih (.cons r .nil)
theorem zW.rep{xs:List V}{us:List Value}(h:zW xs us):∀ k:Nat,zW (List.replicate k xs).flatten (List.replicate k us).flatten
 | 0=>.nil
 | k+1=>by
  rw[List.replicate_succ,List.replicate_succ,List.flatten_cons,List.flatten_cons]
  exact zW.append h (zW.rep h k)
theorem zD9{α:Type}:∀(l:List α) (i:Nat),(l.eraseIdx i).length≤l.length
 | [],_=>Nat.le_refl _
 | _::_,0=>Nat.le_succ _
 | _::r,i+1=>Nat.succ_le_succ (zD9 r i)
theorem foldl_rep(its:List Value):∀(k:Nat) (acc:List Value),
  List.foldl (fun x1 x2=>x1++x2) acc.toArray (List.replicate k its.toArray)=(acc++(List.replicate k its).flatten).toArray
 | 0,acc=>by simp
 | k+1,acc=>by
  have e:acc.toArray++its.toArray=(acc++its).toArray:=by simp
  have e2:(acc++its)++(List.replicate k its).flatten=acc++(List.replicate (k+1) its).flatten:=by
   rw[List.replicate_succ,List.flatten_cons,List.append_assoc]
  rw[← e2,← foldl_rep its k (acc++its),← e,List.replicate_succ,List.foldl_cons]
section
variable {X:Cx} {pins:List (Addr×Obj)} {σ:St} {H:Hp} {s:Shared} {l b:Addr} {xs ys zs:List V}
theorem zU.lset{its its':List Value}{n:Nat}{f:Array Value→Array Value}{t':Nat}(I:zU X pins σ H s)(hH:H l=some (.lst xs))
  (e:s.heap.get? l=some { cls:=.type "list",data:=.seq its.toArray n }) (hf:f its.toArray=its'.toArray) (hv:zW ys its') (hz:ys.length≤sizeLine) :
  zU X pins σ (yc H l (.lst ys)) { s with heap:=s.heap.update l (Obj.mapSeq f),toks:=t' }:=by
 have q:=PySem.IsL.update e f
 rw[hf] at q
 refine I.write (x:=l) (e:=l) (by rw[hH];exact trivial) (.inl rfl) (fun b' u hb hu=>(Heap.get?_update_other s.heap (Obj.mapSeq f) (Ne.symm hb)).trans hu) ⟨_,q⟩ ?_
 exact⟨hz,its',_,hv,q⟩
theorem zU.lnew{its:List Value}{t':Nat}(I:zU X pins σ H s)(hv:zW ys its)(hz:ys.length≤sizeLine) :
  zU X pins σ (yc H s.heap.objs.size (.lst ys)) { s with heap:=s.heap.push { cls:=.type "list",data:=.seq its.toArray },toks:=t' } :=
 I.laid (fun _ _ q=>Heap.get?_push_of_some _ q) (Nat.le_refl _) ⟨hz,its,0,hv,Heap.get?_push_size _ rfl⟩
theorem zU.fresh(I:zU X pins σ H s):H s.heap.objs.size=none:=I.hok.fresh (Nat.le_refl _)
theorem zU.lstM(I:zU X pins σ H s)(hH:H l=some (.lst xs)):xs.length≤sizeLine∧∃(its:List Value) (n:Nat),zW xs its∧xs.length=its.length∧s.heap.get? l=some { cls:=.type "list",data:=.seq its.toArray n }:=by
 obtain⟨z,its,n,r,e⟩:=I.hok l _ hH
 exact⟨z,its,n,r,r.length,e⟩
theorem zBx{n:Nat}(h:n≤sizeLine):Builtin.List.listTooLong n=false:=by
 unfold Builtin.List.listTooLong
 exact decide_eq_false (by omega)
end
section
variable {X:Cx}
def zKr:V→List V→Hp→VK→Prop:=fun x vs H Q=>∃ l xs y,x=.ref l∧vs=[y]∧H l=some (.lst xs)∧xs.length<sizeLine∧Q .non (yc H l (.lst (xs++[y])))
theorem zCU:MtM X "list.append" zKr:=by
 intro pins s σ H x vs v us Q I rx rv h
 obtain⟨l,xs,y,rfl,rfl,hH,hz,q⟩:=h
 cases rx
 obtain⟨u,rfl,ru⟩:=rv.one
 obtain⟨z,its,n,r,hl,e⟩:=I.lstM hH
 refine call_meets F.slot_list_append ⟨_,e,rfl⟩ F.entry_list_append (F.args_list_append_2 _ _) (PySem.list_append l its.toArray n u (by rw[List.size_toArray];omega)) ⟨e,?_⟩
 refine⟨.non,_,I.lset (its':=its++[u]) hH e (by simp) (r.append (.cons ru .nil)) ?_,rfl,q⟩
 rw[List.length_append,List.length_singleton]
 omega
def zKs:V→List V→Hp→VK→Prop:=fun x vs H Q=>∃ l b xs zs,x=.ref l∧vs=[.ref b]∧H l=some (.lst xs)∧H b=some (.lst zs)∧xs.length+zs.length≤sizeLine∧Q .non (yc H l (.lst (xs++zs)))
theorem zH3:MtM X "list.extend" zKs:=by
 intro pins s σ H x vs v us Q I rx rv h
 obtain⟨l,b,xs,zs,rfl,rfl,hH,hB,hz,q⟩:=h
 cases rx
 obtain⟨u,rfl,ru⟩:=rv.one
 cases ru
 obtain⟨z,its,n,r,hl,e⟩:=I.lstM hH
 obtain⟨z2,its2,n2,r2,hl2,e2⟩:=I.lstM hB
 have hsz:its.toArray.size+its2.toArray.size≤sizeLine:=by rw[List.size_toArray,List.size_toArray];omega
 have hlong:¬ (!its.toArray.isEmpty&&Builtin.List.listTooLong (its.toArray.size+its2.toArray.size))=true:=by
  rw[zBx hsz,Bool.and_false]
  exact Bool.false_ne_true
 refine call_meets F.slot_list_extend ⟨_,e,rfl⟩ F.entry_list_extend (F.args_list_extend_2 _ _)
  (AutoSeq1.list_extend_list_list_0 l its.toArray n b its2.toArray n2 hlong (by rw[List.size_toArray];omega) (by omega)) ⟨e,e2,?_⟩
 refine⟨.non,_,I.lset (its':=its++its2) hH e (by simp) (r.append r2) ?_,rfl,q⟩
 rw[List.length_append]
 omega
def zMb:V→List V→Hp→VK→Prop:=fun x vs H Q=>∃ l xs i k y,x=.ref l∧vs=[.int i]∧H l=some (.lst xs)∧-(2 ^ 63)≤i∧i<2 ^ 63∧seqIndex? i xs.length=some k∧xs[k]?=some y∧Q y (yc H l (.lst (xs.eraseIdx k)))
theorem zJC:MtM X "list.pop" zMb:=by
 intro pins s σ H x vs v us Q I rx rv h
 obtain⟨l,xs,i,k,y,rfl,rfl,hH,h1,h2,hk,hy,q⟩:=h
 cases rx
 obtain⟨u,rfl,ru⟩:=rv.one
 obtain⟨t,rfl⟩:=ru
 obtain⟨z,its,n,r,hl,e⟩:=I.lstM hH
 obtain⟨w,hw,rw'⟩:=r.get hy
 refine call_meets F.slot_list_pop ⟨_,e,rfl⟩ F.entry_list_pop (F.args_list_pop_2 _ _)
  (MeetsSeq.list_pop_at l its.toArray n i t k w (fitsIndex_both h1 h2) (by rw[List.size_toArray,← hl];exact hk) (by rw[← Array.getElem?_toList];exact hw) (by rw[List.size_toArray];omega)) ⟨e,?_⟩
 refine⟨y,_,I.lset (its':=its.eraseIdx k) hH e ?_ (r.eraseIdx k) ?_,rw',q⟩
 ·show its.toArray.eraseIdxIfInBounds k=(its.eraseIdx k).toArray
  rw[List.eraseIdxIfInBounds_toArray]
 ·have:=zD9 xs k
  omega
def zOS:R2:=fun x y H Q=>∃ l b xs zs,x=.ref l∧y=.ref b∧H l=some (.lst xs)∧H b=some (.lst zs)∧xs.length+zs.length≤sizeLine∧∀ p,H p=none→Q (.ref p) (yc H p (.lst (xs++zs)))
theorem zMc:OpR X (binaryOp .Add) zOS:=by
 intro pins s σ H x y v u Q I rx ry h
 obtain⟨l,b,xs,zs,rfl,rfl,hH,hB,hz,q⟩:=h
 cases rx
 cases ry
 obtain⟨z,its,n,r,hl,e⟩:=I.lstM hH
 obtain⟨z2,its2,n2,r2,hl2,e2⟩:=I.lstM hB
 refine PySem.P.add_list e e2 ?_ (by rw[List.size_toArray,List.size_toArray];omega)
 have ea:its.toArray++its2.toArray=(its++its2).toArray:=by simp
 rw[ea]
 exact⟨.ref _,_,I.lnew (t':=s.toks) (r.append r2) (by rw[List.length_append];omega),rfl,q _ I.fresh⟩
def zOT:R2:=fun x y H Q=>∃ l k xs,x=.ref l∧y=.int k∧H l=some (.lst xs)∧-(2 ^ 63)≤k∧k<2 ^ 63∧xs.length*k.toNat≤sizeLine ∧
 ∀ p,H p=none→Q (.ref p) (yc H p (.lst (List.replicate k.toNat xs).flatten))
theorem len_rep{α:Type}(xs:List α)(k:Nat):(List.replicate k xs).flatten.length=k*xs.length:=by
 induction k with
 | zero=>simp
 | succ k ih=>rw[List.replicate_succ,List.flatten_cons,List.length_append,ih,Nat.succ_mul,Nat.add_comm]
theorem zMd:OpR X (binaryOp .Mult) zOT:=by
 intro pins s σ H x y v u Q I rx ry h
 obtain⟨l,k,xs,rfl,rfl,hH,h1,h2,hz,q⟩:=h
 cases rx
 obtain⟨t,rfl⟩:=ry
 obtain⟨z,its,n,r,hl,e⟩:=I.lstM hH
 have hlen:its.toArray.size*k.toNat≤sizeLine:=by rw[List.size_toArray,← hl];exact hz
 have hcap:¬ its.toArray.size*k.toNat>(2 ^ 63-1) / 8:=by
  have:(sizeLine:Nat)≤(2 ^ 63-1) / 8:=by decide
  omega
 have hfit:¬ (!Builtin.List.listFitsIndex k)=true:=by
  rw[fitsIndex_both h1 h2]
  exact Bool.false_ne_true
 have hlong:¬ Builtin.List.listTooLong (its.toArray.size*k.toNat)=true:=by
  rw[zBx hlen]
  exact Bool.false_ne_true
 have hnew:List.foldl (fun x1 x2=>x1++x2) #[] (List.replicate (if its.toArray.isEmpty=true then 0 else k.toNat) its.toArray)=(List.replicate k.toNat its).flatten.toArray:=by
  have f0:∀ m:Nat,List.foldl (fun x1 x2=>x1++x2) #[] (List.replicate m its.toArray)=(List.replicate m its).flatten.toArray:=fun m=>by
   have:=foldl_rep its m []
   rw[List.nil_append] at this
   exact this
  rw[f0]
  cases its with
  | nil=>simp
  | cons a r'=>rw[if_neg (by simp)]
 refine wpAny_binaryOp_repeat_ref (T:="list") (U:="int") (by decide) ⟨_,e,rfl⟩ (fun s'=>typeIs_int s' k t) noFill_list_mul F.fills_int_mul F.slot_int_rmul repeat_list F.slot_int_index.lookup
  (call_meets F.slot_int_rmul (typeIs_int s k t) F.entry_int_rmul (F.args_int_rmul_2 _ _) (int___rmul___int_list k t l its.toArray n)
   ⟨e,rfl,⟨_,e,rfl⟩,call_meets F.slot_list_mul ⟨_,e,rfl⟩ F.entry_list_mul (F.args_list_mul_2 _ _) (AutoListH.list___mul___list_int_3 l its.toArray n k t hfit hcap hlong) ⟨e,?_⟩⟩)
 rw[hnew]
 exact⟨.ref _,_,I.lnew (t':=s.toks) (r.rep k.toNat) (by rw[len_rep,Nat.mul_comm];exact hz),rfl,q _ I.fresh⟩
end
section
variable {prog:Program} {w:World} {A:Around} {E:Value→Shared→Prop} {s:Shared}
theorem zGL{a c n:Nat}(hac:a≤c)(hc:c≤n):sliceBounds (some (a:Int)) (some (c:Int)) none n=((a:Int),(c:Int),1):=by
 simp only[sliceBounds,Option.getD_none]
 have h1:¬ ((a:Int)<0):=by omega
 have h2:¬ ((c:Int)<0):=by omega
 simp only[h1,h2,if_false,show(1:Int)>0 by decide,if_true]
 congr 1
 ·omega
 ·congr 1;omega
set_option maxRecDepth 100000 in
theorem zKa{l b sl:Addr}{items new:Array Value}{n n2:Nat}{vl vu:Value}{a c:Nat}{Q:Unit→Shared→Prop}
    (e:s.heap.get? l=some { cls:=.type "list",data:=.seq items n }) (e2:s.heap.get? b=some { cls:=.type "list",data:=.seq new n2 }) (hne:l≠b)
    (hs:s.heap.IsSliceOf sl vl vu .none) (pl:IsPart vl (some (a:Int))) (pu:IsPart vu (some (c:Int))) (hac:a≤c) (hc:c≤items.size)
    (hsz:items.size+new.size≤sizeLine) (h:Q () { s with heap:=s.heap.update l (Obj.mapSeq fun xs=>xs.extract 0 a++new++xs.extract c xs.size) }) :
    wpAny (model prog w) A (setItem (.ref l) (.ref sl) (.ref b)) Q E s:=by
  have hl:s.heap.IsList l items:=PySem.IsL.isList e
  have hb:s.heap.IsList b new:=PySem.IsL.isList e2
  obtain⟨os,hos,hcs,hds⟩:=id hs
  have hTs:s.TypeIs (.ref sl) "slice":=⟨os,hos,hcs⟩
  have hstep:¬ ((rawPart none==rawInt 0)=true):=Bool.false_ne_true
  have hsame:Builtin.List.listSameRef (.ref l) (.ref b)=false:=by
    unfold Builtin.List.listSameRef
    exact beq_eq_false_iff_ne.mpr hne
  have hmax:(max (a:Int) (c:Int)).toNat=c:=by omega
  have hz':((fun xs:Array Value=>xs.extract 0 a++new++xs.extract c xs.size) items).size≤sizeLine+1:=by
    simp only[Array.size_append,Array.size_extract]
    omega
  unfold setItem
  try with_reducible refine wpAny_holding ?_
  first | refine wpAny_bind (wpAny_pure ?_) | skip
  refine wpAny_bind (wpAny_sequenceKey hl.typeIs (by decide) ?_)
  refine wpAny_bind (wpAny_callSpecial?_slot (name:=Str.ofString "__setitem__") hl.typeIs slot_list_setitem
    (wpAny_call_entry slot_list_setitem hl.typeIs entry_list_setitem ?_ (args_list_setitem _ _ _)))
  show wpAny _ _ (Builtin.List.listSubscript? (.ref sl)>>=_) _ _ s
  refine wpAny_bind ?_
  unfold Builtin.List.listSubscript?
  refine wpAny_bind (wpAny_specialOf hTs slice_no_index ?_)
  simp only[Option.isNone_none,if_true]
  refine wpAny_pure ?_
  show wpAny _ _ (typeOf (.ref sl)>>=_) _ _ s
  refine wpAny_bind (wpAny_typeOf hTs ?_)
  first
    | rw[if_neg (by decide)]
    | refine PySem.W.KFB.if_not (by decide) ?_
  rw[listSliceParts_eq]
  refine wpAny_bind (wpAny_bind (wpAny_field hos hds (x:=.none) rfl (wpAny_bind (wpAny_listPart .none ?_))))
  rw[if_neg hstep]
  refine wpAny_bind (wpAny_field hos hds (x:=vl) rfl (wpAny_bind (wpAny_listPart pl ?_)))
  refine wpAny_bind (wpAny_field hos hds (x:=vu) rfl (wpAny_bind (wpAny_listPart pu (wpAny_pure ?_))))
  first
    | simp only[hsame,Bool.false_eq_true,if_false]
    | refine PySem.W.KFB.if_not hsame ?_
    | (dsimp only
       rw[if_neg (by rw[hsame];exact Bool.false_ne_true)])
  refine wpAny_bind (m:=Builtin.List.listAllItems (.ref b) "must assign iterable to extended slice") ?_
  unfold Builtin.List.listAllItems
  refine wpAny_bind (wpAny_typeOf hb.typeIs ?_)
  first
    | refine PySem.W.KFB.if_so (by decide) ?_
    | rw[if_pos (by decide)]
    | simp only[beq_self_eq_true,Bool.true_or,if_true]
  unfold Builtin.List.listItems
  refine wpAny_bind (wpAny_seqItems e2 rfl (wpAny_pure ?_))
  refine wpAny_bind (wpAny_bind (wpAny_seqItems e rfl (wpAny_pure ?_)))
  refine wpAny_bind (wpAny_of_eq ((sliceIndices_raw (some (a:Int)) (some (c:Int)) none items.size (by simp)).trans (congrArg (pure:Int×Int×Int→Sem (Int×Int×Int)) (zGL hac hc))) ?_)
  show wpAny _ _ (if ((1:Int)==1)=true then _ else _) _ _ s
  rw[if_pos (by decide)]
  refine wpAny_bind (wpAny_rule ?_)
  first
    | simp only[zBx hsz,Bool.false_eq_true,if_false]
    | refine PySem.W.KFB.if_not (zBx hsz) ?_
  first | refine wpAny_bind (wpAny_pure ?_) | skip
  show wpAny _ _ (updateSeq l (fun xs=>xs.extract 0 ((a:Int)).toNat++new++xs.extract (max (a:Int) (c:Int)).toNat xs.size)>>=_) _ _ s
  rw[hmax,Int.toNat_natCast]
  refine wpAny_bind (wpAny_updateSeq (hz:=Nat.le_trans (Nat.le_add_right _ _) hsz) (_hz':=hz') e rfl ?_)
  refine wpAny_bind (wpAny_letGo ?_)
  first
    | exact wpAny_bind (wpAny_pure (wpAny_pure ⟨.none,rfl,wpAny_pure h⟩))
    | exact wpAny_pure ⟨.none,rfl,wpAny_pure h⟩
end
section
variable {X:Cx}
end
end L2
namespace Att
open PySem PySem.W PySem.Calls PyProof.Rows
theorem zCx{P:Params}{h:Heap}:∀(ns:List Int) (vs:List Value),WellAll P h vs (ns.map WData.int)→IntsAre vs ns:=by
 intro ns
 induction ns with
 | nil =>
  intro vs w
  rw[List.map_nil] at w
  cases w
  exact .nil
 | cons n ns ih =>
  intro vs w
  rw[List.map_cons] at w
  cases w with
  | cons a b =>
   cases a
   exact .cons _ _ (ih _ b)
theorem zH4{l:OpenLaw}{n:Nat}(hn:l.most=some n){P:Params}{h:Heap}{args:List WData}{vals:List Value}
  (hpre:l.row.toRowW.claim.pre args=true) (hwl:WellAll P h vals args) :
  ∃ a vs ns,vals=[Value.ref a]∧args=[WData.list (ns.map WData.int)]∧h.get? a=some { cls:=.type "list",data:=.seq vs.toArray }∧IntsAre vs ns∧ns.length≤n:=by
 have hsh:WShape.hasAll [] args [.list .int]=true:=(pre_splitW hpre).1
 have hc:l.pre.holds [] { args:=args }=true:=(pre_splitW hpre).2
 obtain⟨d,r,rfl,h1,h2⟩:=hasAllW_cons hsh
 obtain rfl:=hasAllW_nil h2
 obtain⟨xs,rfl,h3⟩:=hasW_list h1
 obtain⟨ns,rfl⟩:=items_int h3
 have hlen:ns.length≤n:=by
  unfold OpenLaw.pre at hc
  have h4:(WTm.not (.lt (.lit (.int (n:Int))) (.len (.arg 0)))).holds [] { args:=[.list (ns.map .int)] }=true:=by
   have h4:=(holds_andW hc).1
   rw[hn] at h4
   exact h4
  have h5:=condW_of h4 (w_not (w_lt w_lit (w_len_list (w_arg rfl))))
  rw[List.length_map] at h5
  refine Nat.le_of_not_lt fun q=>?_
  have q':(n:Int)<((ns.length:Nat):Int):=by omega
  first
   | (rw[decide_eq_true q'] at h5;exact absurd h5 (by decide))
   | (simp at h5;omega)
 cases hwl with
 | cons w1 w2 =>
  cases w2
  cases w1 with
  | list ho hall=>exact⟨_,_,ns,rfl,rfl,ho,zCx ns _ hall,hlen⟩
theorem zH5(l:OpenLaw)(args:List WData):l.row.toRowW.claim.post args (.bool true) args=true :=
 postW_of (r:=l.row.toRowW) (X:=(true==true))
  (show WShape.has [] (.bool true) .bool=true by first | rfl | decide | simp[WShape.has,WShape.arms,WShape.armsAll])
  (show(WTm.eq .res (.lit (.bool true))).value [] { args:=args,res:=some (.bool true),after:=args }=some (.bool (true==true)) from w_eq_bool (w_res rfl) w_lit) rfl
theorem zFJ{l:OpenLaw}{n:Nat}{q:Program}{loose:List Str}{XP:(Str→Option Value)→Heap→Prop}{YP:World→Heap→Prop}{d:DefRec}
  (hn:l.most=some n) (hdf:d.params.defaults=[])
  (call:∀(w:World) (s₀ s₁:Shared) (mg mb:Str→Option Value) (fa:Addr) (o:Obj) (pm cd doc:Value) (a:Addr) (vs:List Value) (ns:List Int),
   Ground q loose [] XP w s₀ mg mb s₁.heap→YP w s₁.heap →
   s₁.heap.get? fa=some o→o.data=.func (docDef d.name d.params d.body d.scope pm cd doc)→s₁.heap.CodeRec cd d.name→mg d.name=some (.ref fa) →
   s₁.heap.get? a=some { cls:=.type "list",data:=.seq vs.toArray }→IntsAre vs ns→ns.length≤n→s₁.gens=#[] →
   codeAny (model l.prog w) callerA (.call (.ref fa) ⟨[.ref a],[]⟩) (fun r s'=>r=.ok (.ret (.bool true))∧OldK s₁.heap s'.heap∧s'.os=s₁.os∧AllBare s'.gens) s₁) :
  WalkO q loose XP YP l.row.toRowW d [] (fun f vs=>PySem.call f vs):=by
 intro w s₀ s₁ mg mb G Y fa o pm cd doc dV kV ho hd hcd hD hmg hg args vals as hpre hlay hrd hwl hlo
 obtain rfl:dV=.none:=Dflts.none hD hdf
 obtain rfl:kV=.none:=Dflts.noKw hD
 obtain⟨a,vs,ns,rfl,rfl,hobj,hints,hlen⟩:=zH4 hn hpre hwl
 refine enter_call (codeAny_mono (call w s₀ s₁ mg mb fa o pm cd doc a vs ns G Y ho (fd_plain hd) hcd hmg hobj hints hlen hg) fun r s' hq=>?_)
 obtain⟨rfl,h2,h3,h4⟩:=hq
 exact⟨.inl ⟨.bool true,.bool true,[],rfl,fun _=>rfl,.bool true,zH5 l _,fun _=>⟨List.Pairwise.nil,fun _ hm=>(nomatch hm)⟩⟩,h2,h3,h4⟩
section
variable {prog:Program} {w:World} {A:Around} {E:Value→Shared→Prop} {s:Shared} {K:Frag}
end
end Att
namespace L2
open PySem PySem.Spec PyProof.Rows
theorem zCV:∀ {vs:List Value} {ns:List Int},IntsAre vs ns→zW (ns.map V.int) vs
 | _,_,.nil=>.nil
 | _,_,.cons n t h=>.cons ⟨t,rfl⟩ (zCV h)
def zKt(H:Hp):Prop:=∀ b,H b=none∨(∃ o xs,H b=some (.frz o (.lst xs)))∨∃ ps,H b=some (.tbl ps)
structure TabsAt (K:PySem.W.Frag) (h:Heap) (ts:List Addr) (qn:Addr→Str):Prop where
 obj:∀ P∈ts,h.get? P=some (PySem.W.tabObj #[])
 out:∀ P∈ts,K.lookup P=none
 code:∀ P∈ts,isCodeTable h P
 name:∀ x∈zHB,∀ c b,PySem.W.tabIn K x=some (c,b)→b∈ts∧qn b=x++".<locals>.<lambda>"
theorem zJD{P':Program}{w:World}{K:PySem.W.Frag}{mg mb:Str→Option Value}{CX:CXT}{k:Nat}{fa a:Addr}{fd:FuncData}{x:Str}{sp:Sp}{s₁:Shared}{vs:List Value}{ns:List Int}{ts:List Addr}{qn:Addr→Str}
  (TB:TabsAt K s₁.heap ts qn) (KX:K.In s₁.heap) (hns:s₁.heap.Ns mainGlobals mg) (hb:s₁.heap.Ns builtinsNs mb) (hbb:∀ x:Str,x≠"__name__"→mb x=bootBuiltins x) (hlim:s₁.heap.NoLimit) (hg:s₁.gens=#[])
  (ha:s₁.heap.get? a=some { cls:=.type "list",data:=.seq vs.toArray }) (hi:IntsAre vs ns) (hl:ns.length≤sizeLine) (hr:yo k callerA)
  (F:∀ base:Heap,K.In base→base.Ns mainGlobals mg→zBG P' w K mg base CX k fa fd [x] sp) (hbind:∀(s:Shared) (u:Value),BindsTo s fd ⟨[u],[]⟩ [(x,u)])
  (hsp:∀ H:Hp,zKt H→SqL K H a (ns.map V.int)→sp [.ref a] H (fun v _=>v=.bl true) fun _ _ _=>False)
  (hCX:∀ H e s',CX [] H s₁ (fun _ _ _=>False) e s'→False) :
  codeAny (model P' w) callerA (.call (.ref fa) ⟨[.ref a],[]⟩) (fun r s'=>r=.ok (.ret (.bool true))∧OldK s₁.heap s'.heap∧s'.os=s₁.os∧AllBare s'.gens) s₁:=by
 have rv:=zCV hi
 have lenV:=hi.length
 -- from an abstract heap in which nothing but the script may be tracked
 have core:∀ H:Hp,zKt H→SqL K H a (ns.map V.int)→HOk P' w H s₁.heap→(∀ b,H b≠none→b=a∨b∈ts)→(H a≠none→K.lookup a=none)→(∀ P∈ts,H P=some (.tbl #[.str (qn P) 0])) →
   codeAny (model P' w) callerA (.call (.ref fa) ⟨[.ref a],[]⟩) (fun r s'=>r=.ok (.ret (.bool true))∧OldK s₁.heap s'.heap∧s'.os=s₁.os∧AllBare s'.gens) s₁:=by
  intro H hO hS hok hA hK hT
  have base_of:∀ {b:Addr} {o:Obj},s₁.heap.get? b=some o→H b=none→(zEd s₁.heap H).get? b=some o:=fun e n=>zI1 e n
  have noA:∀ {b:Addr} {o:Obj} {es:Array DictEntry} {ep:Nat},s₁.heap.get? b=some o→o.data=.dict es ep→H b=none:=fun {b o es ep} e d=>by
   cases q:H b with
   | none=>rfl
   | some u =>
    rcases hA b (by rw[q];simp) with e' | e'
    ·subst e'
     rw[ha] at e;cases e
     have d':Data.seq vs.toArray _=Data.dict es ep:=d
     cases d'
    ·rw[TB.obj b e'] at e;cases e
     have d':Data.fields #[]=Data.dict es ep:=d
     cases d'
  have nsK:∀ {b:Addr} {m:Str→Option Value},s₁.heap.Ns b m→(zEd s₁.heap H).Ns b m:=fun {b m} ⟨o,es,ep,e,d,r⟩=>⟨o,es,ep,base_of e (noA e d),d,r⟩
  have hKb:K.In (zEd s₁.heap H):=fun b o e=>base_of (KX b o e) (by
   cases q:H b with
   | none=>rfl
   | some u =>
    rcases hA b (by rw[q];simp) with e' | e'
    ·subst e'
     rw[hK (by rw[q];simp)] at e;cases e
    ·rw[TB.out b e'] at e;cases e)
  have hM:Mod K mg (zEd s₁.heap H):=⟨hKb,nsK hns,⟨mb,nsK hb,hbb⟩,let ⟨mc,h1,h2⟩:=hlim;⟨mc,nsK h1,h2⟩⟩
  have e0:zGI P' w K mg (zEd s₁.heap H) callerA [] s₁ H:=⟨rfl,hM,fun b o e=>zKb e,Nat.le_of_eq (zHu _ _),trivial,fun b hb=>absurd (show b∈([]:List Addr) from hb) (by simp),hok,.of_eq hg,fun x hx c b e=>by
   obtain⟨z1,z2⟩:=TB.name x hx c b e
   exact⟨0,by rw[← z2];exact hT b z1⟩⟩
  refine codeAny_mono ((F _ hKb (nsK hns)).run callerA [] s₁ H ⟨[.ref a],[]⟩ [.ref a] [.ref a] _ _ hr e0 (hbind s₁ (.ref a)) (.cons rfl .nil) (hsp H hO hS)) fun r s' h=>?_
  cases r with
  | error e=>exact(hCX H e s' h).elim
  | ok fl =>
   cases fl with
   | next=>exact False.elim h
   | brk=>exact False.elim h
   | cont=>exact False.elim h
   | ret u =>
    obtain⟨v,H',os,bare,un,hok',r',q⟩:=h
    have q':v=.bl true:=q
    subst q'
    obtain rfl:u=Value.bool true:=r'
    have K1:∀ b o,b∉ts→s₁.heap.get? b=some o→s'.heap.get? b=some o:=fun b o hb e=>by
     cases q:H b with
     | none=>exact un.keep b o e q (by intro z;exact absurd (show b∈([]:List Addr) from z) (by simp)) (by simp)
     | some u =>
      rcases hO b with z | ⟨ob,xs,z⟩ | ⟨ps,z⟩
      ·rw[q] at z;cases z
      ·have z2:=un.frzs b ob _ z
       obtain⟨e1,_⟩:=hok b _ z
       obtain⟨e2,_⟩:=hok' b _ z2
       rw[e] at e1;cases e1
       exact e2
      ·rcases hA b (by rw[q];simp) with e' | e'
       ·obtain⟨_,_,_,_,w1,_⟩:=hok b _ z
        rw[e',ha] at w1;cases w1
       ·exact absurd e' hb
    have K2:∀ b,b∈ts→∃ vs,s'.heap.get? b=some (PySem.W.tabObj vs):=fun b hb=>by
     have z2:=un.tbls b _ (hT b hb)
     obtain⟨_,_,vs,_,w1,_⟩:=hok' b _ z2
     exact⟨vs,w1⟩
    refine⟨rfl,⟨fun b o e=>?_,fun b o e=>?_⟩,os,bare⟩
    ·by_cases hb:b∈ts
     ·obtain⟨vs,w1⟩:=K2 b hb
      rw[TB.obj b hb] at e
      cases e
      exact .inr (.inl ⟨TB.code b hb,rfl,#[],vs,rfl,by simpa using w1⟩)
     ·exact .inl (K1 b o hb e)
    ·by_cases hb:b∈ts
     ·obtain⟨vs,w1⟩:=K2 b hb
      exact⟨_,w1⟩
     ·exact⟨o,K1 b o hb e⟩
 have naT:∀ P∈ts,P≠a:=fun P hP z=>by
  have e:=TB.obj P hP
  rw[z,ha] at e;cases e
 have tok:∀(H:Hp),∀ P∈ts,yx P' w H s₁.heap P (.tbl #[.str (qn P) 0]):=fun H P hP=>⟨qn P,0,#[],rfl,TB.obj P hP,trivial,fun pos cv e=>by cases e⟩
 cases hk:K.lookup a with
 | some o =>
  -- the script is one of the module's own objects
  have e:=KX a o hk
  rw[ha] at e
  cases e
  refine core (fun b=>if b∈ts then some (.tbl #[.str (qn b) 0]) else none) (fun b=>?_) (.inr ⟨_,vs.toArray,_,hk,rfl,rfl,rfl,by rw[List.size_toArray,lenV];exact hl,by simpa using rv⟩) (fun b u z=>?_) (fun b z=>?_) (fun z=>?_) fun P hP=>if_pos hP
  ·by_cases hb:b∈ts
   ·exact .inr (.inr ⟨_,if_pos hb⟩)
   ·exact .inl (if_neg hb)
  ·by_cases hb:b∈ts
   ·have z':=(if_pos hb).symm.trans z
    cases z'
    exact tok _ b hb
   ·have z':=(if_neg hb).symm.trans z
    cases z'
  ·by_cases hb:b∈ts
   ·exact .inr hb
   ·exact absurd (if_neg hb) z
  ·by_cases hb:a∈ts
   ·exact absurd rfl (naT a hb)
   ·exact absurd (if_neg hb) z
 | none =>
  refine core (fun b=>if b=a then some (.frz { cls:=.type "list",data:=.seq vs.toArray } (.lst (ns.map V.int))) else if b∈ts then some (.tbl #[.str (qn b) 0]) else none) (fun b=>?_) (.inl (.inr ⟨{ cls:=.type "list",data:=.seq vs.toArray },if_pos rfl⟩)) (fun b u z=>?_) (fun b z=>?_) (fun _=>hk) fun P hP=>?_
  ·by_cases hb:b=a
   ·exact .inr (.inl ⟨_,_,if_pos hb⟩)
   ·by_cases hb2:b∈ts
    ·exact .inr (.inr ⟨_,(if_neg hb).trans (if_pos hb2)⟩)
    ·exact .inl ((if_neg hb).trans (if_neg hb2))
  ·by_cases hb:b=a
   ·have z':=(if_pos hb).symm.trans z
    cases z'
    subst hb
    exact⟨ha,by rw[List.length_map];exact hl,vs,_,rv,ha⟩
   ·by_cases hb2:b∈ts
    ·have z':=((if_neg hb).trans (if_pos hb2)).symm.trans z
     cases z'
     exact tok _ b hb2
    ·have z':=((if_neg hb).trans (if_neg hb2)).symm.trans z
     cases z'
  ·by_cases hb:b=a
   ·exact .inl hb
   ·by_cases hb2:b∈ts
    ·exact .inr hb2
    ·exact absurd ((if_neg hb).trans (if_neg hb2)) z
  ·exact(if_neg (naT P hP)).trans (if_pos hP)
end L2
namespace L2
open PySem PySem.Spec PyProof.Rows
theorem zKu{l:PySem.W.OpenLaw}{n k:Nat}{q:Program}{loose:List Str}{XP:(Str→Option Value)→Heap→Prop}{YP:World→Heap→Prop}{d:DefRec}{K:Params→PySem.W.Frag}{CX:World→CXT}{sp:World→Sp}{x:Str}
  (hn:l.most=some n) (hn2:n≤sizeLine) (hdf:d.params.defaults=[]) (hr:yo k callerA)
  (hY:∀(w:World) (h:Heap),YP w h→(K w.params).In h∧∃ ts qn,TabsAt (K w.params) h ts qn)
  (F:∀(w:World) (mg:Str→Option Value) (fa:Addr) (h:Heap),(K w.params).In h→h.Ns mainGlobals mg→mg d.name=some (.ref fa) →
   ∃ fd:FuncData,(∀(s:Shared) (u:Value),BindsTo s fd ⟨[u],[]⟩ [(x,u)]) ∧
    ∀ base:Heap,(K w.params).In base→base.Ns mainGlobals mg→zBG l.prog w (K w.params) mg base (CX w) k fa fd [x] (sp w))
  (hsp:∀(w:World) (H:Hp) (a:Addr) (ns:List Int),ns.length≤n→zKt H→SqL (K w.params) H a (ns.map V.int)→sp w [.ref a] H (fun v _=>v=.bl true) fun _ _ _=>False)
  (hCX:∀(w:World) (H:Hp) (s:Shared) (e:Value) (s':Shared),CX w [] H s (fun _ _ _=>False) e s'→False) :
  PySem.W.WalkO q loose XP YP l.row.toRowW d [] (fun f vs=>PySem.call f vs):=by
 refine Att.zFJ hn hdf fun w s₀ s₁ mg mb fa o pm cd doc a vs ns G Y ho hd hcd hmg hobj hints hlen hg=>?_
 obtain⟨KX,ts,qn,TB⟩:=hY w _ Y
 obtain⟨fd,hb,hF⟩:=F w mg fa _ KX G.T.g hmg
 exact zJD TB KX G.T.g G.T.b G.T.builtins G.T.nolimit hg hobj hints (Nat.le_trans hlen hn2) hr hF hb (fun H hO hS=>hsp w H a ns hlen hO hS) fun H e s'=>hCX w H s₁ e s'
end L2
namespace L2
open PySem PySem.Spec PyProof.Rows
def zd(s:Stmt):Arguments:=match s with
 | .FunctionDef _ a _ _ _ _ _ _ _ _=>a
 | _=>{ posonlyargs:=[],args:=[],vararg:=none,kwonlyargs:=[],kw_defaults:=[],kwarg:=none,defaults:=[] }
def zZ(s:Stmt):List Stmt:=match s with
 | .FunctionDef _ _ b _ _ _ _ _ _ _=>b
 | _=>[]
def zG(s:Stmt):Scope:=match s with
 | .FunctionDef _ _ _ _ _ _ sc _ _ _=>sc
 | _=>{ kind:=.function,names:=[],isGenerator:=false,isCoroutine:=false }
abbrev CX0:CXT:=fun _ _ _ _ _ _=>False
abbrev E0:XK:=fun _ _ _=>False
theorem zLl{X:Cx}:zGJ CX0 X E0:=fun _ _ _ _ _ _ _ h=>h.elim
structure Fun (K:PySem.W.Frag) (x qual:Str) (st:Stmt) (f:Addr) (fd:FuncData):Prop where
 ex:∃(oc:Value) (od:Option Addr) (kV doc pm:Value) (an:Option Addr) (cdv ct:Value) (osl:Array (Option Value)),
  fd=PySem.W.fnOf x qual (zd st) (zZ st) (zG st) .none kV doc pm an cdv ct∧K.lookup f=some ⟨oc,od,.func fd,osl⟩∧PySem.W.codeIn K cdv qual=true
 kp:PySem.W.keepIn K (.ref f)=true
section
variable {P:Program} {w:World} {K:PySem.W.Frag} {mg:Str→Option Value} {base:Heap}
theorem Fun.ok{x qual:Str}{st:Stmt}{f:Addr}{fd:FuncData}{N ps:List Str}{k:Nat}{sp:Sp}(F:Fun K x qual st f fd)(S:zc N ps (zG st))(len:∀ vs H Q E,sp vs H Q E→vs.length=ps.length)
  (hbody:∀(cdv:Value) (A:Around) (outer:List Env) (s:Shared) (H:Hp) (vs:List V) (Q:VK) (E:XK),yo k (A.deeper (envOfC qual (zG st) s.heap.objs.size f cdv))→sp vs H Q E →
   ∃ t,PSs (zEg CX0 P w K mg base N qual (zG st) f cdv A outer s H E).nox (zZ st) t∧t { nx:=fun _ H'=>Q .non H',rt:=Q } (start N vs) H):zBG P w K mg base CX0 (k+1) f fd ps sp:=by
 obtain⟨oc,od,kV,doc,pm,an,cdv,ct,osl,rfl,lk,hcd⟩:=F.ex
 refine zNi lk hcd S len fun A outer s H vs Q E hr hsp=>?_
 obtain⟨t,h,q⟩:=hbody cdv A outer s H vs Q E hr hsp
 exact⟨t,h.nox,q⟩
theorem Fun.binds{x qual:Str}{st:Stmt}{f:Addr}{fd:FuncData}{ps:List Str}(F:Fun K x qual st f fd)
  (h:∀(kV doc pm:Value) (an:Option Addr) (cdv ct:Value) (us:List Value),us.length=ps.length→bindArgs (PySem.W.fnOf x qual (zd st) (zZ st) (zG st) .none kV doc pm an cdv ct) ⟨us,[]⟩=pure (ps.zip us)):Binds K fd ps []:=by
 obtain⟨oc,od,kV,doc,pm,an,cdv,ct,osl,rfl,lk,hcd⟩:=F.ex
 exact .all (h kV doc pm an cdv ct)
theorem zr{x qual:Str}{st:Stmt}{f:Addr}{oc:Value}{od an:Option Addr}{osl:Array (Option Value)}{kV doc pm cdv ct:Value}(l:K.lookup f=some ⟨oc,od,.func (PySem.W.fnOf x qual (zd st) (zZ st) (zG st) .none kV doc pm an cdv ct),osl⟩)
  (c:PySem.W.codeIn K cdv qual=true) (k:PySem.W.keepIn K (.ref f)=true):Fun K x qual st f (PySem.W.fnOf x qual (zd st) (zZ st) (zG st) .none kV doc pm an cdv ct):=⟨⟨oc,od,kV,doc,pm,an,cdv,ct,osl,rfl,l,c⟩,k⟩
end
section
variable {X:Cx}
end
def zD0(H H':Hp):Prop:=∀ b o,H b=some o→H' b=some o
theorem zD0.refl(H:Hp):zD0 H H:=fun _ _ h=>h
theorem zD0.trans{H H1 H2:Hp}(a:zD0 H H1)(b:zD0 H1 H2):zD0 H H2:=fun c o h=>b c o (a c o h)
theorem zD0.free{H H':Hp}(e:zD0 H H'){l:Addr}(h:H' l=Option.none):H l=Option.none:=by
 cases q:H l with
 | none=>rfl
 | some o =>
  rw[e l o q] at h
  cases h
theorem zD0.seq{K:PySem.W.Frag}{H H':Hp}{a:Addr}{xs:List V}(e:zD0 H H')(h:SqL K H a xs):SqL K H' a xs:=by
 rcases h with (h | ⟨o,h⟩) | h
 ·exact .inl (.inl (e _ _ h))
 ·exact .inl (.inr ⟨o,e _ _ h⟩)
 ·exact .inr h
end L2
namespace K
end K
namespace K
end K
set_option maxHeartbeats 4000000
namespace L2
open PySem PySem.Spec PyProof.Rows
def zCW(env:Env):List (Str×NameKind)→List (Str×Addr)→List (Str×Addr)
 | [],cs=>cs
 | (n,k)::r,cs=>zCW env r (if k==.free then match env.cells.lookup n with | some a=>(n,a)::cs | none=>cs else cs)
def zCX(sc:Scope)(env:Env):List (Str×Addr):=zCW env sc.names []
theorem zEA{env:Env}:∀ {ns:List (Str×NameKind)} {cs:List (Str×Addr)} {x:Str} {c:Addr},(∀ y a,cs.lookup y=some a→env.cells.lookup y=some a)→(zCW env ns cs).lookup x=some c→env.cells.lookup x=some c
 | [],_,_,_,h,e=>h _ _ e
 | (n,k)::r,cs,x,c,h,e=>by
  unfold zCW at e
  refine zEA (ns:=r) (fun y a q=>?_) e
  by_cases hk:(k==NameKind.free)=true
  ·rw[if_pos hk] at q
   cases hc:env.cells.lookup n with
   | none=>rw[hc] at q;exact h y a q
   | some d =>
    rw[hc] at q
    cases hy:y==n with
    | true =>
     simp only[List.lookup_cons,hy] at q
     have:y=n:=by simpa using hy
     rw[this,hc];exact q
    | false =>
     simp only[List.lookup_cons,hy] at q
     exact h y a q
  ·rw[if_neg hk] at q;exact h y a q
theorem zEB{sc:Scope}{env:Env}{x:Str}{c:Addr}(e:(zCX sc env).lookup x=some c):env.cells.lookup x=some c :=
 zEA (fun _ _ q=>by simp at q) e
theorem zBH{env:Env}:∀ {ns:List (Str×NameKind)} {cs:List (Str×Addr)} {x:Str},(∀ y∈ns,y.2=.free→∃ c,env.cells.lookup y.1=some c)→((∃ c,cs.lookup x=some c)∨(x,NameKind.free)∈ns)→∃ c,(zCW env ns cs).lookup x=some c
 | [],cs,x,_,h=>by
  rcases h with h | h
  ·exact h
  ·cases h
 | (n,k)::r,cs,x,hh,h=>by
  unfold zCW
  refine zBH (ns:=r) (fun y hy=>hh y (List.mem_cons_of_mem _ hy)) ?_
  by_cases hk:k=.free
  ·subst hk
   obtain⟨c,hc⟩:=hh (n,.free) List.mem_cons_self rfl
   have hc':env.cells.lookup n=some c:=hc
   simp only[beq_self_eq_true,if_true,hc']
   cases hx:x==n with
   | true=>exact .inl ⟨c,by simp[List.lookup_cons,hx]⟩
   | false =>
    rcases h with ⟨d,h⟩ | h
    ·exact .inl ⟨d,by simp[List.lookup_cons,hx,h]⟩
    ·rcases List.mem_cons.mp h with e | h
     ·injection e with e1 _
      subst e1;simp at hx
     ·exact .inr h
  ·have hb:(k==NameKind.free)=false:=by simpa using hk
   simp only[hb,Bool.false_eq_true,if_false]
   rcases h with h | h
   ·exact .inl h
   ·rcases List.mem_cons.mp h with e | h
    ·injection e with _ e2
     exact absurd e2.symm hk
    ·exact .inr h
theorem zFK{env:Env}:∀ {ns:List (Str×NameKind)} {cs:List (Str×Addr)},(∀ y∈ns,y.2=.free→∃ c,env.cells.lookup y.1=some c) →
  (forIn ns cs fun(x:Str×NameKind) (r:List (Str×Addr))=>if (x.2==NameKind.free)=true then (do let a ← cellOf env x.1;pure (ForInStep.yield ((x.1,a)::r)):Sem _) else pure (ForInStep.yield r))=(pure (zCW env ns cs):Sem _)
 | [],_,_=>rfl
 | (n,k)::r,cs,hh=>by
  rw[List.forIn_cons]
  have ih:=fun cs'=>zFK (env:=env) (ns:=r) (cs:=cs') fun y hy=>hh y (List.mem_cons_of_mem _ hy)
  by_cases hk:k=.free
  ·subst hk
   obtain⟨c,hc⟩:=hh (n,.free) List.mem_cons_self rfl
   have hc':env.cells.lookup n=some c:=hc
   have e:cellOf env n=pure c:=by unfold cellOf;rw[hc']
   simp only[beq_self_eq_true,if_true,e,pure_bind]
   rw[ih]
   have q:zCW env ((n,NameKind.free)::r) cs=zCW env r ((n,c)::cs):=by simp only[zCW,beq_self_eq_true,if_true,hc']
   rw[q]
  ·have hb:(k==NameKind.free)=false:=by simpa using hk
   simp only[hb,Bool.false_eq_true,if_false,pure_bind]
   rw[ih]
   have q:zCW env ((n,k)::r) cs=zCW env r cs:=by simp only[zCW,hb,Bool.false_eq_true,if_false]
   rw[q]
theorem zAe{sc:Scope}{env:Env}(hh:∀ y∈sc.names,y.2=.free→∃ c,env.cells.lookup y.1=some c):closureFor sc env=pure (zCX sc env):=by
 have e:=zFK (env:=env) (ns:=sc.names) (cs:=[]) hh
 unfold closureFor
 show(forIn sc.names [] (fun(x:Str×NameKind) (r:List (Str×Addr))=>(match x with | (name,kind)=>if (kind==NameKind.free)=true then (do let a ← cellOf env name;pure (ForInStep.yield ((name,a)::r))) else pure (ForInStep.yield r):Sem (ForInStep (List (Str×Addr)))))>>=fun s=>pure s)=_
 have hb:(fun(x:Str×NameKind) (r:List (Str×Addr))=>(match x with | (name,kind)=>if (kind==NameKind.free)=true then (do let a ← cellOf env name;pure (ForInStep.yield ((name,a)::r))) else pure (ForInStep.yield r):Sem (ForInStep (List (Str×Addr))))) =
   fun(x:Str×NameKind) (r:List (Str×Addr))=>if (x.2==NameKind.free)=true then (do let a ← cellOf env x.1;pure (ForInStep.yield ((x.1,a)::r)):Sem _) else pure (ForInStep.yield r):=by
  funext x r
  obtain⟨n,k⟩:=x
  rfl
 rw[hb,e]
 rfl
def Cx.comp(X:Cx)(N':List Str)(sc:Scope)(C:Addr)(s:Shared)(H:Hp)(fp:List Addr)(pins:List (Addr×Obj)):Cx :=
 { X with N:=N',s₀:=s,H₀:=H,env:=compEnvC sc (zCX sc X.env) C X.env,outer:=X.stack,ex:=fp,fn:=fun _=>false,pn:=X.pn++pins,xe:=fun _ _=>False }
def PTs(X:Cx)(ifs:List Expr)(t:TT):Prop :=
 ∀(pins:List (Addr×Obj)) (s:Shared) (σ:St) (H:Hp) (Q:Bool→Hp→Prop),zU X pins σ H s→t σ H Q →
  wpAny (model X.prog X.w) X.A (forIn ifs true fun c r=>if r=true then do let ok ← isTrue c X.env (eval c X.env);pure (ForInStep.yield ok) else pure (ForInStep.yield r)) (TP X pins σ Q) X.xe s
def zOU:TT:=fun _ H Q=>Q true H
theorem zKv{X:Cx}:PTs X [] zOU:=fun _ _ _ H _ I h=>wpAny_tests_nil ⟨H,I,h⟩
theorem zKw{X:Cx}{c:Expr}{t:TT}(h:PT X c t):PTs X [c] t:=fun pins s σ H Q I hq=>wpAny_tests_one (h pins s σ H Q I hq)
def zHJ(n0:Nat)(wi:TI)(g:TG)(tc:TT)(te:TE):TE:=fun σ H Q=>wi σ H fun J H1=>∀ D,H1 D=none→∃ W:Nat→Nat→Hp→Prop,(∃ m,W 0 m (yc H1 D (.lst []))) ∧
 ∀ i m H2,W i m H2→(J.stop i H2∧Q (.ref D) H2) ∨
  (J.go i H2∧∀ x H3,J.yld i H2 x H3→g x (σ++List.replicate n0 none) H3 fun σ4 H4=>σ4.take σ.length=σ∧σ4.length=σ.length+n0∧tc σ4 H4 fun b H5 =>
   if b=true then te σ4 H5 fun v H6=>∃ acc,H6 D=some (.lst acc)∧acc.length<sizeLine∧∃ m',m'<m∧W (i+1) m' (yc H6 D (.lst (acc++[v]))) else ∃ m',m'<m∧W (i+1) m' H5)
theorem PE.mono{X:Cx}{e:Expr}{t t':TE}(h:PE X e t)(hm:∀ σ H Q,t' σ H Q→t σ H Q):PE X e t':=fun pins s σ H Q I q=>h pins s σ H Q I (hm σ H Q q)
theorem PT.mono{X:Cx}{e:Expr}{t t':TT}(h:PT X e t)(hm:∀ σ H Q,t' σ H Q→t σ H Q):PT X e t':=fun pins s σ H Q I q=>h pins s σ H Q I (hm σ H Q q)
theorem PS.mono{X:Cx}{e:Stmt}{t t':TS}(h:PS X e t)(hm:∀ D σ H,t' D σ H→t D σ H):PS X e t':=fun pins s σ H D I q=>h pins s σ H D I (hm D σ H q)
section
variable {X:Cx} {tg elt iter:Expr} {ifs:List Expr} {sc:Scope} {pos:Pos} {N0 own:List Str} {wi:TI} {g:TG} {tc:TT} {te:TE}
structure zBp (X:Cx) (sc:Scope) (N0:List Str):Prop where
 kind:sc.kind=.function
 cell:∀ y∈sc.names,y.2≠.cell
 names:∀ y∈sc.names,y.2=.local→sc.names.lookup y.1=some .local
 cap:∀ y∈sc.names,y.2=.free→X.env.kindOf y.1=some .cell∨X.env.kindOf y.1=some .free
 len:N0.length=X.N.length
 vis:∀(i:Nat) (x:Str),N0[i]?=some x→Vis (relabel sc X.env) x→X.N[i]?=some x∧sc.names.lookup x=some .free
theorem zAV{env:Env}:∀ {names:List (Str×NameKind)} {x:Str},(∀ y∈names,y.2≠.cell) →
    ((names.map fun(n,k)=>if (k==NameKind.free&&env.scope.kind==.function&&env.kindOf n==some .cell) then (n,NameKind.cell) else (n,k)).lookup x=some .cell ∨
     (names.map fun(n,k)=>if (k==NameKind.free&&env.scope.kind==.function&&env.kindOf n==some .cell) then (n,NameKind.cell) else (n,k)).lookup x=some .free)→names.lookup x=some .free
  | [],_,_,h=>by rcases h with h | h<;>simp at h
  | (n,k)::r,x,hc,h=>by
    have ih:=@zAV env r x fun y hy=>hc y (List.mem_cons_of_mem _ hy)
    have hk:k≠.cell:=hc (n,k) List.mem_cons_self
    have hd:∀(z:NameKind),(((n,k)::r).map fun(n,k)=>if (k==NameKind.free&&env.scope.kind==.function&&env.kindOf n==some .cell) then (n,NameKind.cell) else (n,k)).lookup x=some z →
        if (x==n)=true then (if (k==NameKind.free&&env.scope.kind==.function&&env.kindOf n==some .cell)=true then z=.cell else z=k) else (r.map fun(n,k)=>if (k==NameKind.free&&env.scope.kind==.function&&env.kindOf n==some .cell) then (n,NameKind.cell) else (n,k)).lookup x=some z:=by
      intro z e
      have e':List.lookup x ((if (k==NameKind.free&&env.scope.kind==.function&&env.kindOf n==some .cell)=true then (n,NameKind.cell) else (n,k))::(r.map fun(n,k)=>if (k==NameKind.free&&env.scope.kind==.function&&env.kindOf n==some .cell) then (n,NameKind.cell) else (n,k)))=some z:=e
      cases hx:x==n with
      | true =>
        rw[if_pos rfl]
        by_cases hq:(k==NameKind.free&&env.scope.kind==.function&&env.kindOf n==some .cell)=true
        · rw[if_pos hq] at e' ⊢
          simp only[List.lookup_cons,hx] at e'
          exact(Option.some.inj e').symm
        · rw[if_neg hq] at e' ⊢
          simp only[List.lookup_cons,hx] at e'
          exact(Option.some.inj e').symm
      | false =>
        rw[if_neg (by simp)]
        by_cases hq:(k==NameKind.free&&env.scope.kind==.function&&env.kindOf n==some .cell)=true
        · rw[if_pos hq] at e';simpa only[List.lookup_cons,hx] using e'
        · rw[if_neg hq] at e';simpa only[List.lookup_cons,hx] using e'
    cases hx:x==n with
    | true =>
      simp only[List.lookup_cons,hx]
      rcases h with h | h
      · have q:=hd _ h
        rw[if_pos hx] at q
        by_cases hq:(k==NameKind.free&&env.scope.kind==.function&&env.kindOf n==some .cell)=true
        · have:(k==NameKind.free)=true:=by
            cases hk':k==NameKind.free with
            | true=>rfl
            | false=>simp[hk'] at hq
          have:k=.free:=by simpa using this
          rw[this]
        · rw[if_neg hq] at q;exact absurd q.symm hk
      · have q:=hd _ h
        rw[if_pos hx] at q
        by_cases hq:(k==NameKind.free&&env.scope.kind==.function&&env.kindOf n==some .cell)=true
        · rw[if_pos hq] at q;cases q
        · rw[if_neg hq] at q;rw[← q]
    | false =>
      simp only[List.lookup_cons,hx]
      refine ih ?_
      rcases h with h | h
      · have q:=hd _ h
        rw[if_neg (by simp[hx])] at q;exact .inl q
      · have q:=hd _ h
        rw[if_neg (by simp[hx])] at q;exact .inr q
theorem zDC{pins:List (Addr×Obj)}{σ:St}{s₂:Shared}{itv:Value}{Q:VK}{E:Value→Shared→Prop}(hc:X.calm=true)(T:zBp X sc N0)
  (hg:∀ C s H fp pins,PG (X.comp (N0++own) sc C s H fp pins) tg g) (ht:∀ C s H fp pins,PTs (X.comp (N0++own) sc C s H fp pins) ifs tc) (he:∀ C s H fp pins,PE (X.comp (N0++own) sc C s H fp pins) elt te)
  (h:PIE X pins σ tg (fun J H1=>∀ D,H1 D=none→∃ W:Nat→Nat→Hp→Prop,(∃ m,W 0 m (yc H1 D (.lst []))) ∧
   ∀ i m H2,W i m H2→(J.stop i H2∧Q (.ref D) H2) ∨
    (J.go i H2∧∀ x H3,J.yld i H2 x H3→g x (σ++List.replicate own.length none) H3 fun σ4 H4=>σ4.take σ.length=σ∧σ4.length=σ.length+own.length∧tc σ4 H4 fun b H5 =>
     if b=true then te σ4 H5 fun v H6=>∃ acc,H6 D=some (.lst acc)∧acc.length<sizeLine∧∃ m',m'<m∧W (i+1) m' (yc H6 D (.lst (acc++[v]))) else ∃ m',m'<m∧W (i+1) m' H5)) itv s₂) :
  wpAny (model X.prog X.w) X.A (newList []) (fun acc s₃=>wpAny (model X.prog X.w) X.A (newFunctionEnv sc X.env.globals (zCX sc X.env) [] X.env.qual none .none (some X.env)) (fun cenv s₄ =>
   codeAny (model X.prog X.w) X.A (.compStart (.ListComp elt [⟨tg,iter,ifs,0⟩] sc pos) 0 itv acc { cenv with scope:=relabel sc X.env })
    (fun r s'=>∃ D H' m,r=.ok .next∧acc=.ref D∧zU X pins σ H' s'∧zBC X pins H' cenv.locals∧s'.heap.Ns cenv.locals m∧Q (.ref D) H') s₄) E s₃) E s₂:=by
 obtain⟨it,fp,tn,J,H1,rfl,I2,Tn,st2,f2,hR⟩:=h
 refine wpAny_newObj_type (wpAny_newFunctionEnv T.cell (by intro y hy;simp at hy) (fun h₁ hns₁ hsb₁=>?_) T.kind)
 dsimp only at hns₁ hsb₁ ⊢
 generalize hH2:s₂.heap.push { cls:=.type "list",dict:=none,data:=.seq ([]:List Value).toArray }=h3 at hns₁ hsb₁ ⊢
 have hC:h3.objs.size=s₂.heap.objs.size+1:=by rw[← hH2,Heap.size_push]
 -- the list
 have I3:zU X pins σ (yc H1 s₂.heap.objs.size (.lst [])) { s₂ with heap:=h3 }:=by
  rw[← hH2]
  exact I2.laid (t':=s₂.toks) (fun b u e=>Heap.get?_push_of_some _ e) (Nat.le_refl _) ⟨by simp,[],0,.nil,Heap.get?_push_size _ rfl⟩
 have fD:H1 s₂.heap.objs.size=none:=I2.hok.fresh (Nat.le_refl _)
 obtain⟨W,⟨m0,w0⟩,turn⟩:=hR _ fD
 have kp:∀ b o,h3.get? b=some o→h₁.get? b=some o:=fun b o e=>hsb₁.extBut b o (Nat.ne_of_lt (Heap.lt_size e)) (Heap.get?_push_of_some _ e)
 have fp2:∀ b∈fp,b<s₂.heap.objs.size:=fun b hb=>by
  obtain⟨o,e,_⟩:=Tn.obj _ _ st2 b hb
  exact Heap.lt_size e
 -- the block's context
 have CK:∀ x c,(zCX sc X.env).lookup x=some c→X.env.cells.lookup x=some c:=fun x c e=>zEB e
 have nofs:∀ {b:Addr},h3.objs.size≤b→b∉frs X.stack:=fun {b} hb z=>by
  rcases List.mem_cons.mp (I3.stkSub b z) with e | z
  ·exact absurd (Nat.lt_of_lt_of_le I3.lt (show h3.objs.size≤X.env.locals by rw[← e];exact hb)) (Nat.lt_irrefl _)
  ·exact I3.nofs (a:=b) hb z
 have fpS:∀ b∈fp,b∉frs X.stack:=fun b hb z=>by
  rcases List.mem_cons.mp (I3.stkSub b z) with e | z
  ·exact(f2 b hb).2.1 e
  ·exact(f2 b hb).2.2.1 z
 have fpD:∀ b∈fp,yc H1 s₂.heap.objs.size (.lst []) b=none:=fun b hb=>by rw[zu (Nat.ne_of_lt (fp2 b hb))];exact(f2 b hb).1
 have pinS:∀ p∈X.pn++pins,p.1∉frs X.stack:=fun p hp z=>by
  obtain⟨_,_,n1,n2,_⟩:=I3.pin p hp
  rcases List.mem_cons.mp (I3.stkSub p.1 z) with e | z
  ·exact n1 e
  ·exact n2 z
 let X':=X.comp (N0++own) sc h3.objs.size { s₂ with heap:=h3 } (yc H1 s₂.heap.objs.size (.lst [])) fp pins
 have cells':∀ x,(X'.env.kindOf x=some .cell∨X'.env.kindOf x=some .free)→sc.names.lookup x=some .free:=fun x hx=>zAV T.cell hx
 have hfree:∀ y∈sc.names,y.2=.free→∃ c,X.env.cells.lookup y.1=some c:=fun y hy hf=>I2.ok.has _ (T.cap y hy hf)
 have ok':X'.Ok:=by
  refine⟨I3.ok.mod,?_,I3.ok.glob,I3.ok.blt,Nat.le_refl _,fun x y c e1 e2=>I3.ok.inj x y c (CK _ _ e1) (CK _ _ e2),fun x hx=>?_,fun x c z=>(by cases z),I3.ok.hd,I3.ok.frames,.inl rfl,fun b hb=>⟨?_,fun x c e=>?_⟩,I3.bs,Nat.le_trans I3.ok.bsz I3.sz,fun b o e hb=>?_,fpS,I3.stack,I3.stkFree,I3.tabs⟩
  ·exact T.kind
  ·have hx':=cells' x hx
   exact zBH hfree (.inr (PySem.mem_of_lookup hx'))
  ·exact Nat.ne_of_lt (Nat.lt_of_lt_of_le (fp2 b hb) (by show s₂.heap.objs.size≤h3.objs.size;rw[hC];exact Nat.le_succ _))
  ·exact(f2 b hb).2.2.2.2.1 x c (CK x c e)
  ·have:=(I3.bs b o e).1
   rcases(f2 b hb).2.2.2.1 with z | z
   ·exact I3.ok.noex b o e z
   ·have:=Nat.lt_of_lt_of_le (Heap.lt_size e) I3.ok.bsz
    exact absurd (Nat.lt_of_lt_of_le this z) (Nat.lt_irrefl _)
 have hlook:∀(i:Nat) (x:Str) (v:V),(N0++own)[i]?=some x→(σ++List.replicate own.length none)[i]?=some (some v)→Vis (relabel sc X.env) x→∃ c u,RelV v u∧X'.env.cells.lookup x=some c∧(X'.env.kindOf x=some .cell∨X'.env.kindOf x=some .free)∧h3.IsCell c (some u):=by
  intro i x v e1 e2 e3
  have hi:i<σ.length:=by
   by_cases hi:i<σ.length
   ·exact hi
   ·rw[List.getElem?_append_right (by omega),List.getElem?_replicate] at e2
    split at e2<;>cases e2
  have e2':σ[i]?=some (some v):=by rw[List.getElem?_append_left hi] at e2;exact e2
  have hi0:i<N0.length:=by rw[T.len,← I3.len];exact hi
  have e1':N0[i]?=some x:=by rw[List.getElem?_append_left hi0] at e1;exact e1
  obtain⟨n1,n2⟩:=T.vis i x e1' e3
  have cp:=T.cap _ (PySem.mem_of_lookup n2) rfl
  obtain⟨m,hn,hl⟩:=I3.loc
  have vis:Vis X.env.scope x:=by
   rcases cp with z | z
   ·exact .inr (.inl z)
   ·exact .inr (.inr z)
  obtain⟨u,r,l⟩:=hl i x v n1 e2' vis
  obtain⟨c',hc'⟩:=zBH (env:=X.env) (ns:=sc.names) (cs:=[]) (x:=x) hfree (.inr (PySem.mem_of_lookup n2))
  have hc2:(zCX sc X.env).lookup x=some c':=hc'
  rcases l with ⟨z,_⟩ | ⟨_,c,e,q⟩
  ·rcases cp with z' | z'<;>(rw[z] at z';cases z')
  ·have:c=c':=by
    have:=CK _ _ hc2
    rw[e] at this;exact Option.some.inj this
   subst this
   refine⟨c,u,r,hc2,?_,q⟩
   rcases e3 with z | z | z
   ·exfalso
    have:=lookup_relabel_local (env:=X.env) (names:=sc.names) (x:=x)
    -- a free name is not relabelled local
    have nl:∀ {names:List (Str×NameKind)},names.lookup x=some .free→(names.map fun(n,k)=>if (k==NameKind.free&&X.env.scope.kind==.function&&X.env.kindOf n==some .cell) then (n,NameKind.cell) else (n,k)).lookup x≠some .local:=by
     intro names
     induction names with
     | nil=>intro h;simp at h
     | cons p r ih =>
      obtain⟨n,k⟩:=p
      intro h
      show List.lookup x ((if (k==NameKind.free&&X.env.scope.kind==.function&&X.env.kindOf n==some .cell)=true then (n,NameKind.cell) else (n,k))::_)≠_
      cases hx:x==n with
      | true =>
       simp only[List.lookup_cons,hx] at h
       cases h
       by_cases hq:(NameKind.free==NameKind.free&&X.env.scope.kind==.function&&X.env.kindOf n==some .cell)=true
       ·rw[if_pos hq];simp[List.lookup_cons,hx]
       ·rw[if_neg hq];simp[List.lookup_cons,hx]
      | false =>
       simp only[List.lookup_cons,hx] at h
       by_cases hq:(k==NameKind.free&&X.env.scope.kind==.function&&X.env.kindOf n==some .cell)=true
       ·rw[if_pos hq];simp only[List.lookup_cons,hx];exact ih h
       ·rw[if_neg hq];simp only[List.lookup_cons,hx];exact ih h
    exact nl n2 z
   ·exact .inl z
   ·exact .inr z
 have σl:(σ++List.replicate own.length none).length=(N0++own).length:=by
  rw[List.length_append,List.length_append,List.length_replicate,T.len,← I3.len]
 have I4:zU X' [] (σ++List.replicate own.length none) (yc H1 s₂.heap.objs.size (.lst [])) { s₂ with heap:=h₁,toks:=s₂.toks+([]:List (Str×Value)).length }:=by
  refine⟨ok',rfl,I3.bare,Un.kept kp,⟨_,hns₁,fun i x v e1 e2 e3=>?_⟩,fun x c e=>?_,I3.hok.fresh (Nat.le_refl _),fun x c e=>I3.freeC x c (CK x c e),fun p hp=>?_,I3.hok.kept kp,σl⟩
  ·obtain⟨c,u,r,q1,q2,q3⟩:=hlook i x v e1 e2 e3
   obtain⟨o,ho,hd⟩:=q3
   exact⟨u,r,.inr ⟨q2,c,q1,o,kp c o ho,hd⟩⟩
  ·obtain⟨v,o,ho,hd⟩:=I3.cell x c (CK x c e)
   exact⟨v,o,kp c o ho,hd⟩
  ·have hp':p∈X.pn++pins:=by
    have:p∈(X.pn++pins)++[]:=hp
    simpa using this
   obtain⟨e,n,ne,nf,d⟩:=I3.pin p hp'
   exact⟨kp _ _ e,n,Nat.ne_of_lt (Heap.lt_size e),pinS p hp',d⟩
 have fpX:∀ {H:Hp},(∀ b∈fp,H b=none)→∀ b∈fp,zBC X' [] H b:=fun {H} hn b hb=>by
  refine⟨hn b hb,(ok'.exf b hb).1,fpS b hb,.inl hb,(ok'.exf b hb).2,fun p hp=>?_⟩
  have hp':p∈X.pn++pins:=by
   have:p∈(X.pn++pins)++[]:=hp
   simpa using this
  exact(f2 b hb).2.2.2.2.2 p hp'
 have st4:tn 0 h₁:=Tn.keep 0 s₂.heap h₁ st2 fun b hb o e=>kp b o (hH2▸Heap.get?_push_of_some _ e)
 -- back to the context around
 have back:∀ {σ':St} {H':Hp} {s':Shared},zU X' [] σ' H' s'→zU X pins σ H' s'∧zBC X pins H' h3.objs.size∧∃ m,s'.heap.Ns h3.objs.size m:=fun {σ' H' s'} J=>by
  have u:Un (frs X.stack) fp (yc H1 s₂.heap.objs.size (.lst [])) H' h3 s'.heap:=J.base
  have J3:zU X pins σ H' s':=I3.call' J.os u J.hok J.bare fun b hb=>⟨(f2 b hb).2.2.2.1,(f2 b hb).2.1,(f2 b hb).2.2.2.2.1,(f2 b hb).2.2.2.2.2⟩
  obtain⟨m,hn,_⟩:=J.loc
  refine⟨J3,?_,m,hn⟩
  refine⟨J.free,Nat.ne_of_gt I3.lt,I3.nofs (Nat.le_refl _),.inr I3.sz,fun x c e z=>?_,fun p hp z=>?_⟩
  ·obtain⟨v,q⟩:=I3.cell x c e
   exact absurd (Nat.lt_of_lt_of_le q.lt (by rw[z];exact Nat.le_refl _)) (Nat.lt_irrefl _)
  ·exact absurd (Nat.lt_of_lt_of_le (Heap.lt_size (I3.pin p hp).1) (by rw[z];exact Nat.le_refl _)) (Nat.lt_irrefl _)
 have loop:∀ s₅:Shared,s₅={ s₂ with heap:=h₁,toks:=s₂.toks+([]:List (Str×Value)).length } →
   codeAny (model X.prog X.w) X.A (.compLoop (.ListComp elt [⟨tg,iter,ifs,0⟩] sc pos) 0 (.ref it) (.ref s₂.heap.objs.size) X'.env)
    (fun r s'=>∃ D H' m,r=.ok .next∧Value.ref s₂.heap.objs.size=.ref D∧zU X pins σ H' s'∧zBC X pins H' h3.objs.size∧s'.heap.Ns h3.objs.size m∧Q (.ref D) H') s₅:=by
  rintro s₅ rfl
  refine codeAny_loop rfl (fun n s'=>∃ i H',zU X' [] (σ++List.replicate own.length none) H' s'∧tn i s'.heap∧(∀ b∈fp,H' b=none)∧W i n H') (fun n s6=>?_) m0 ⟨0,_,I4,st4,fpD,w0⟩
  rintro⟨i,H6,I6,st6,fr6,w6⟩
  show wpAny _ X.A ((compTurn (.ListComp elt [⟨tg,iter,ifs,0⟩] sc pos) 0 (.ref it) (.ref s₂.heap.objs.size) X'.env).onRaise (fun x=>do noteFrame x X'.env;theTreesLotGoes x)) _ _ s6
  refine wpAny_noted ?_
  rw[compTurn_list]
  have nox:∀ {α:Type} {t:Sem α} {Q:α→Shared→Prop} {E':Value→Shared→Prop} {s:Shared},wpAny (model X.prog X.w) X.A t Q (fun _ _=>False) s→wpAny (model X.prog X.w) X.A t Q E' s:=fun h=>wpAny_mono h (fun _ _ q=>q) fun _ _ z=>z.elim
  refine wpAny_bind (wpAny_standAt (wpAny_bind ?_))
  rcases turn i n H6 w6 with ⟨stop,qn⟩ | ⟨go,step⟩
  ·refine nox (yV (Tn.done X' rfl rfl rfl hc i [] s6 _ H6 _ I6 (fpX fr6) st6 stop) fun r s7 ⟨hr,I7⟩=>?_)
   subst hr
   obtain⟨b1,b2,m,b3⟩:=back I7
   exact wpAny_pure ⟨_,H6,m,rfl,rfl,b1,b2,b3,qn⟩
  ·refine nox (yV (Tn.item X' rfl rfl rfl hc i [] s6 _ H6 _ I6 (fpX fr6) st6 go) fun r s7 ⟨u,hr,h7⟩=>?_)
   subst hr
   refine wpAny_bind (nox (yV h7 fun _ s8 ⟨x,H8,I8,r8,y8,st8,fr8⟩=>?_))
   have I8':=I8.pinned (fpX fr8) (Tn.obj _ _ st8)
   refine wpAny_bind (nox (yV (hg _ _ _ _ _ _ s8 _ H8 x u _ I8' r8 (step x H8 y8)) fun _ s9 ⟨σ9,H9,I9,q1,q2,q9⟩=>?_))
   have again:∀ {s':Shared} {H':Hp},zU X' ([]++zCS fp s8.heap) σ9 H' s'→(∃ m',m'<n∧W (i+1) m' H')→∃ m,m<n∧∃ i H',zU X' [] (σ++List.replicate own.length none) H' s'∧tn i s'.heap∧(∀ b∈fp,H' b=none)∧W i m H':=by
    intro s' H' J ⟨m',hm,w'⟩
    refine⟨m',hm,i+1,H',?_,Tn.keep _ _ _ st8 fun b hb o e=>(J.pin (b,o) (List.mem_append_right _ (List.mem_append_right _ (wV hb e)))).1,fun b hb=>?_,w'⟩
    ·refine(J.unpinned).weak ?_ fun j v e=>?_
     ·rw[q2,List.length_append,List.length_replicate]
     ·have hj:j<σ.length:=by
       by_cases hj:j<σ.length
       ·exact hj
       ·rw[List.getElem?_append_right (by omega),List.getElem?_replicate] at e
        split at e<;>cases e
      rw[List.getElem?_append_left hj] at e
      rw[← q1,List.getElem?_take_of_lt hj] at e
      exact e
    ·obtain⟨o,e,d⟩:=Tn.obj _ _ st8 b hb
     exact(J.pin (b,o) (List.mem_append_right _ (List.mem_append_right _ (wV hb e)))).2.1
   refine wpAny_bind (nox (yV (ht _ _ _ _ _ _ s9 σ9 H9 _ I9 q9) fun ok s10 ⟨H10,I10,q10⟩=>?_))
   cases ok with
   | false=>exact wpAny_pure ⟨rfl,again I10 q10⟩
   | true =>
    refine wpAny_bind (wpAny_bind (nox (yV (he _ _ _ _ _ _ s10 σ9 H10 _ I10 q10) fun uv s11 ⟨v,H11,I11,r11,acc,hD11,hz,q11⟩=>?_)))
    refine wpAny_bind (nox (yV (zCU _ s11 σ9 H11 (.ref s₂.heap.objs.size) [v] (.ref s₂.heap.objs.size) [uv] (fun _ H12=>H12=yc H11 s₂.heap.objs.size (.lst (acc++[v]))) I11 rfl (.cons r11 .nil) ⟨_,acc,v,rfl,rfl,hD11,hz,rfl⟩) fun _ s12 ⟨_,H12,I12,_,q12⟩=>?_))
    subst q12
    exact wpAny_pure (wpAny_pure ⟨rfl,again I12 q11⟩)
 exact codeAny_compStart_list (loop _ rfl) (Tn.self _ 0 _ _ _ st4 (loop _ rfl))
theorem zHK(hc:X.calm=true)(T:zBp X sc N0)(hi:PI X tg iter wi)
  (hg:∀ C s H fp pins,PG (X.comp (N0++own) sc C s H fp pins) tg g) (ht:∀ C s H fp pins,PTs (X.comp (N0++own) sc C s H fp pins) ifs tc) (he:∀ C s H fp pins,PE (X.comp (N0++own) sc C s H fp pins) elt te)
  (hs:∀ x,foldedSetIterable iter X.env x=pure x:=by intro _;rfl):PE X (.ListComp elt [⟨tg,iter,ifs,0⟩] sc pos) (zHJ own.length wi g tc te):=by
 intro pins s σ H Q I h
 rw[eval_ListComp]
 refine wpAny_comprehension_free (use:=none) rfl hs (zAe fun y hy hf=>I.ok.has _ (T.cap y hy hf)) T.kind T.names ?_
 refine yV (hi pins s σ H _ I h) fun xv s₁ h₁=>yV h₁ fun it s₂ h₂=>?_
 refine yV (zDC (iter:=iter) (pos:=pos) (E:=X.xe) (Q:=Q) hc T hg ht he h₂) fun acc s₃ h₃=>yV h₃ fun cenv s₄ h₄=>codeAny_mono h₄ fun r s' hr=>?_
 obtain⟨D,H',m,rfl,rfl,J,f,hn,q⟩:=hr
 refine⟨m,hn,fun h' hs'=>⟨.ref D,H',?_,rfl,q⟩⟩
 exact J.turned (t':=s'.toks) (fun b o hb e=>(hs'.2 b hb).trans e) f.1 f.2.1 f.2.2.2.1 f.2.2.2.2.1 f.2.2.2.2.2
theorem zGM{i:Nat}{y:Str}{py spos:Pos}(hc:X.calm=true)(T:zBp X sc N0)(hi:PI X tg iter wi)
  (hg:∀ C s H fp pins,PG (X.comp (N0++own) sc C s H fp pins) tg g) (ht:∀ C s H fp pins,PTs (X.comp (N0++own) sc C s H fp pins) ifs tc) (he:∀ C s H fp pins,PE (X.comp (N0++own) sc C s H fp pins) elt te)
  (hN:X.N.Nodup) (hy:X.N[i]?=some y) (hl:X.env.scope.names.lookup y=some .local)
  (hsw:swapsWith (.ListComp elt [⟨tg,iter,ifs,0⟩] sc pos) (some (.Name y py)) spos.line X.env=pure true)
  (hs:∀ x,foldedSetIterable iter X.env x=pure x:=by intro _;rfl):PS X (.Assign [.Name y py] (.ListComp elt [⟨tg,iter,ifs,0⟩] sc pos) spos) (fun D σ H=>zHJ own.length wi g tc te σ H fun v H1=>D.nx (σ.set i (some v)) H1):=by
 intro pins s σ H D I h
 rw[exec_Assign_Name_used _ _ _ _ hsw]
 refine wpAny_bind (wpAny_standAt (wpAny_bind ?_))
 show wpAny _ X.A (do let _ ← comprehension (.ListComp elt [⟨tg,iter,ifs,0⟩] sc pos) sc X.env _ (newList []) false (eval iter X.env) (some (assign (.Name y py) X.env))) _ _ s
 refine wpAny_bind (wpAny_mono (wpAny_comprehension_free (use:=some (assign (.Name y py) X.env)) (Q:=fun _ s'=>SP X pins D .next s') rfl hs (zAe fun y hy hf=>I.ok.has _ (T.cap y hy hf)) T.kind T.names
  (yV (hi pins s σ H _ I h) fun xv s₁ h₁=>yV h₁ fun it s₂ h₂=>?_)) (fun _ s' hq=>wpAny_pure (wpAny_pure hq)) fun _ _ e=>e)
 refine yV (zDC (iter:=iter) (pos:=pos) (E:=X.xe) (Q:=fun v H1=>D.nx (σ.set i (some v)) H1) hc T hg ht he h₂) fun acc s₃ h₃=>yV h₃ fun cenv s₄ h₄=>codeAny_mono h₄ fun r s' hr=>?_
 obtain⟨A,H',m,rfl,rfl,J,f,hn,q⟩:=hr
 show wpAny _ X.A (assign (.Name y py) X.env (.ref A)) _ _ _
 refine wpAny_assign_Name (zCR J hN hy (.inl hl) (v:=.ref A) rfl (fun s'' J' ⟨a,sb,ha⟩=>?_) (.inr hl))
 have hCa:cenv.locals≠a:=by
  rcases ha with z | z
  ·rw[z];exact f.2.1
  ·exact fun e=>f.2.2.2.2.1 y a z e.symm
 refine⟨m,hn.sameBut sb hCa,fun h' hs'=>⟨_,H',?_,q⟩⟩
 exact J'.turned (t':=s''.toks) (fun b o hb e=>(hs'.2 b hb).trans e) f.1 f.2.1 f.2.2.2.1 f.2.2.2.2.1 f.2.2.2.2.2
end
end L2
namespace L3
open PySem PySem.Spec PyProof.Rows L2
inductive D where
 | non | bl (b:Bool) | int (i:Int) | str (x:Str) | tup (ds:List D) | adr (a:Addr) | dic (a:Addr)
mutual
def zS(K:PySem.W.Frag)(H:Hp):D→V→Prop
 | .non,v=>v=V.non
 | .bl b,v=>v=V.bl b
 | .int i,v=>v=V.int i
 | .str x,v=>v=V.str x
 | .adr a,v=>v=V.ref a
 | .dic a,v=>v=V.ref a∧∃ o x,H a=some (.frz o (.own x))∧o.cls=.type "dict"
 | .tup ds,v=>∃ a xs,v=V.ref a∧SqT K H a xs∧Dens K H ds xs
def Dens(K:PySem.W.Frag)(H:Hp):List D→List V→Prop
 | [],xs=>xs=[]
 | d::ds,xs=>∃ x r,xs=x::r∧zS K H d x∧Dens K H ds r
end
structure Gp where
 m:Addr→Option (List D)
 ro:Addr→Option (List D)
def zR(G:Gp)(a:Addr)(o:List D):Gp:={ G with m:=fun b=>if b=a then some o else G.m b }
theorem zH{G:Gp}{a:Addr}{o:List D}:(zR G a o).m a=some o:=if_pos rfl
theorem zN{G:Gp}{a b:Addr}{o:List D}(h:b≠a):(zR G a o).m b=G.m b:=if_neg h
theorem zCY{G:Gp}{a:Addr}{o u:List D}:zR (zR G a o) a u=zR G a u:=by
 unfold zR
 congr 1
 funext b;by_cases h:b=a
 ·simp only[if_pos h]
 ·simp only[if_neg h]
theorem gne{G:Gp}{a b:Addr}{o:List D}(h:G.m a=some o)(h':G.m b=none):a≠b:=fun e=>by rw[e,h'] at h;cases h
structure Sub (G G':Gp):Prop where
 m:∀ a o,G.m a=some o→G'.m a=some o
 ro:∀ a o,G.ro a=some o→G'.ro a=some o
theorem Sub.refl(G:Gp):Sub G G:=⟨fun _ _ h=>h,fun _ _ h=>h⟩
theorem Sub.trans{G G1 G2:Gp}(h:Sub G G1)(h':Sub G1 G2):Sub G G2:=⟨fun a o e=>h'.m a o (h.m a o e),fun a o e=>h'.ro a o (h.ro a o e)⟩
theorem Sub.new{G:Gp}{p:Addr}{o:List D}(h:G.m p=none):Sub G (zR G p o):=⟨fun a u e=>by rw[zN (gne e h)];exact e,fun _ _ e=>e⟩
def Ls(G:Gp)(a:Addr)(ds:List D):Prop:=G.m a=some ds∨G.ro a=some ds
theorem Ls.sub{G G':Gp}{a:Addr}{ds:List D}(h:Ls G a ds)(s:Sub G G'):Ls G' a ds:=by
 rcases h with h | h
 ·exact .inl (s.m a ds h)
 ·exact .inr (s.ro a ds h)
theorem Ls.own{G:Gp}{a:Addr}{ds:List D}:Ls (zR G a ds) a ds:=.inl zH
def RoL(K:PySem.W.Frag)(H:Hp)(a:Addr)(xs:List V):Prop :=
 (∃ o,H a=some (.frz o (.lst xs)))∨∃(o:Obj) (its:Array Value) (n:Nat),K.lookup a=some o∧o.cls=.type "list"∧o.dict=none∧o.data=.seq its n∧its.size≤sizeLine∧zW xs its.toList
theorem RoL.sq{K:PySem.W.Frag}{H:Hp}{a:Addr}{xs:List V}(h:RoL K H a xs):SqL K H a xs:=by
 rcases h with h | h
 ·exact .inl (.inr h)
 ·exact .inr h
structure yI (K:PySem.W.Frag) (G:Gp) (H:Hp):Prop where
 m:∀ a ds,G.m a=some ds→∃ xs,H a=some (.lst xs)∧Dens K H ds xs
 ro:∀ a ds,G.ro a=some ds→∃ xs,RoL K H a xs∧Dens K H ds xs
structure yA (H H':Hp):Prop where
 tups:∀ a xs,H a=some (.tup xs)→H' a=some (.tup xs)
 frzs:∀ a o u,H a=some (.frz o u)→H' a=some (.frz o u)
section
variable {K:PySem.W.Frag} {H H' H'':Hp} {G G':Gp}
theorem yA.refl(H:Hp):yA H H:=⟨fun _ _ h=>h,fun _ _ _ h=>h⟩
theorem yA.trans(a:yA H H')(b:yA H' H''):yA H H'':=⟨fun c xs h=>b.tups c xs (a.tups c xs h),fun c o u h=>b.frzs c o u (a.frzs c o u h)⟩
theorem yA.fresh{p:Addr}{o:HO}(h:H p=none):yA H (yc H p o):=⟨fun a xs e=>by rw[zu (yP e h)];exact e,fun a o u e=>by rw[zu (yP e h)];exact e⟩
theorem yA.lst{p:Addr}{xs:List V}{o:HO}(h:H p=some (.lst xs)):yA H (yc H p o) :=
 ⟨fun a ys e=>by rw[zu (zLi e h (by intro z;cases z))];exact e,fun a o u e=>by rw[zu (zLi e h (by intro z;cases z))];exact e⟩
theorem yA.sqT(g:yA H H'){a:Addr}{xs:List V}(h:SqT K H a xs):SqT K H' a xs:=by
 rcases h with (h | ⟨o,h⟩) | h
 ·exact .inl (.inl (g.tups _ _ h))
 ·exact .inl (.inr ⟨o,g.frzs _ _ _ h⟩)
 ·exact .inr h
theorem yA.roL(g:yA H H'){a:Addr}{xs:List V}(h:RoL K H a xs):RoL K H' a xs:=by
 rcases h with ⟨o,h⟩ | h
 ·exact .inl ⟨o,g.frzs _ _ _ h⟩
 ·exact .inr h
mutual
theorem zS.grow(g:yA H H'):∀ {d:D} {v:V},zS K H d v→zS K H' d v
 | .non,_,h=>by unfold zS at h ⊢;exact h
 | .bl _,_,h=>by unfold zS at h ⊢;exact h
 | .int _,_,h=>by unfold zS at h ⊢;exact h
 | .str _,_,h=>by unfold zS at h ⊢;exact h
 | .adr _,_,h=>by unfold zS at h ⊢;exact h
 | .dic _,_,h=>by unfold zS at h ⊢;obtain⟨e,o,x,q,c⟩:=h;exact⟨e,o,x,g.frzs _ _ _ q,c⟩
 | .tup ds,v,h=>by
  unfold zS at h ⊢
  obtain⟨a,xs,e,s,r⟩:=h
  exact⟨a,xs,e,g.sqT s,Dens.grow g r⟩
theorem Dens.grow(g:yA H H'):∀ {ds:List D} {xs:List V},Dens K H ds xs→Dens K H' ds xs
 | [],_,h=>by unfold Dens at h ⊢;exact h
 | d::ds,xs,h=>by
  unfold Dens at h ⊢
  obtain⟨x,r,e,h1,h2⟩:=h
  exact⟨x,r,e,zS.grow g h1,Dens.grow g h2⟩
end
theorem Dens.length:∀ {ds:List D} {xs:List V},Dens K H ds xs→ds.length=xs.length
 | [],xs,h=>by unfold Dens at h;rw[h];rfl
 | d::ds,xs,h=>by
  unfold Dens at h
  obtain⟨x,r,rfl,_,h2⟩:=h
  simp[Dens.length h2]
theorem Dens.get:∀ {ds:List D} {xs:List V} {i:Nat} {d:D},Dens K H ds xs→ds[i]?=some d→∃ x,xs[i]?=some x∧zS K H d x
 | [],_,_,_,_,e=>by simp at e
 | d::ds,xs,0,d',h,e=>by
  unfold Dens at h
  obtain⟨x,r,rfl,h1,_⟩:=h
  simp at e;subst e
  exact⟨x,rfl,h1⟩
 | d::ds,xs,i+1,d',h,e=>by
  unfold Dens at h
  obtain⟨x,r,rfl,_,h2⟩:=h
  obtain⟨y,e1,e2⟩:=Dens.get (i:=i) (d:=d') h2 (by simpa using e)
  exact⟨y,by simpa using e1,e2⟩
theorem Dens.got:∀ {ds:List D} {xs:List V} {i:Nat} {x:V},Dens K H ds xs→xs[i]?=some x→∃ d,ds[i]?=some d∧zS K H d x
 | ds,xs,i,x,h,e=>by
  have hl:=h.length
  have hi:i<ds.length:=by rw[hl];exact(List.getElem?_eq_some_iff.mp e).1
  obtain⟨y,e1,e2⟩:=h.get (i:=i) (d:=ds[i]) (by simp[hi])
  rw[e] at e1;cases e1
  exact⟨ds[i],by simp[hi],e2⟩
theorem Dens.nil:Dens K H [] []:=by unfold Dens;rfl
theorem Dens.cons{d:D}{ds:List D}{x:V}{xs:List V}(h:zS K H d x)(h':Dens K H ds xs):Dens K H (d::ds) (x::xs):=by unfold Dens;exact⟨x,xs,rfl,h,h'⟩
theorem Dens.append:∀ {ds es:List D} {xs ys:List V},Dens K H ds xs→Dens K H es ys→Dens K H (ds++es) (xs++ys)
 | [],_,xs,_,h,h'=>by unfold Dens at h;rw[h];exact h'
 | d::ds,_,xs,_,h,h'=>by
  unfold Dens at h
  obtain⟨x,r,rfl,h1,h2⟩:=h
  exact Dens.cons h1 (Dens.append h2 h')
theorem Dens.of_get:∀ {ds:List D} {xs:List V},ds.length=xs.length→(∀(i:Nat) d x,ds[i]?=some d→xs[i]?=some x→zS K H d x)→Dens K H ds xs
 | [],[],_,_=>.nil
 | [],_::_,h,_=>by simp at h
 | _::_,[],h,_=>by simp at h
 | d::ds,x::xs,h,g=>.cons (g 0 d x rfl rfl) (Dens.of_get (by simpa using h) fun i d' x' e1 e2=>g (i+1) d' x' (by simpa using e1) (by simpa using e2))
theorem Dens.take{n:Nat}{ds:List D}{xs:List V}(h:Dens K H ds xs):Dens K H (ds.take n) (xs.take n) :=
 .of_get (by simp[h.length]) fun i d x e1 e2=>by
  rw[List.getElem?_take] at e1 e2
  split at e1
  ·rename_i hi
   rw[if_pos hi] at e2
   obtain⟨y,e,r⟩:=h.get e1
   rw[e2] at e;cases e;exact r
  ·cases e1
theorem Dens.drop{n:Nat}{ds:List D}{xs:List V}(h:Dens K H ds xs):Dens K H (ds.drop n) (xs.drop n) :=
 .of_get (by simp[h.length]) fun i d x e1 e2=>by
  rw[List.getElem?_drop] at e1 e2
  obtain⟨y,e,r⟩:=h.get e1
  rw[e2] at e;cases e;exact r
theorem Dens.set{ds:List D}{xs:List V}{d:D}{x:V}(i:Nat)(h:Dens K H ds xs)(hd:zS K H d x):Dens K H (ds.set i d) (xs.set i x) :=
 .of_get (by simp[h.length]) fun j d' x' e1 e2=>by
  by_cases hj:i=j
  ·subst hj
   have hi:i<ds.length:=by
    have:=(List.getElem?_eq_some_iff.mp e1).1;simpa using this
   rw[List.getElem?_set_self hi] at e1
   rw[List.getElem?_set_self (by rw[← h.length];exact hi)] at e2
   cases e1;cases e2;exact hd
  ·rw[List.getElem?_set_ne hj] at e1 e2
   obtain⟨y,e,r⟩:=h.get e1
   rw[e2] at e;cases e;exact r
theorem Dens.eraseIdx:∀ {ds:List D} {xs:List V} (i:Nat),Dens K H ds xs→Dens K H (ds.eraseIdx i) (xs.eraseIdx i)
 | [],xs,i,h=>by unfold Dens at h;subst h;exact .nil
 | d::ds,xs,0,h=>by
  unfold Dens at h
  obtain⟨x,r,rfl,h1,h2⟩:=h
  exact h2
 | d::ds,xs,i+1,h=>by
  unfold Dens at h
  obtain⟨x,r,rfl,h1,h2⟩:=h
  exact .cons h1 (Dens.eraseIdx i h2)
theorem Dens.reverse:∀ {ds:List D} {xs:List V},Dens K H ds xs→Dens K H ds.reverse xs.reverse
 | [],xs,h=>by unfold Dens at h;subst h;exact .nil
 | d::ds,xs,h=>by
  unfold Dens at h
  obtain⟨x,r,rfl,h1,h2⟩:=h
  rw[List.reverse_cons,List.reverse_cons]
  exact(Dens.reverse h2).append (.cons h1 .nil)
theorem Dens.ints(ns:List Int):Dens K H (ns.map D.int) (ns.map V.int):=by
 induction ns with
 | nil=>exact .nil
 | cons n r ih=>exact .cons (by unfold zS;rfl) ih
theorem yI.fresh{p:Addr}{o:HO}(h:H p=none)(r:yI K G H):yI K G (yc H p o) :=
  ⟨fun a ds e=>by
    obtain⟨xs,e1,e2⟩:=r.m a ds e
    exact⟨xs,by rw[zu (yP e1 h)];exact e1,e2.grow (.fresh h)⟩,
   fun a ds e=>by
    obtain⟨xs,e1,e2⟩:=r.ro a ds e
    exact⟨xs,(yA.fresh h).roL e1,e2.grow (.fresh h)⟩⟩
theorem yI.free{p:Addr}(r:yI K G H)(h:H p=none):G.m p=none:=by
 cases q:G.m p with
 | none=>rfl
 | some ds=>obtain⟨xs,e1,_⟩:=r.m p _ q;rw[h] at e1;cases e1
theorem yI.own{l:Addr}{ds:List D}{xs:List V}(r:yI K G H)(e:H l=some (.lst xs))(d:Dens K H ds xs):yI K (zR G l ds) H :=
  ⟨fun b u q=>by
    by_cases hb:b=l
    · subst hb;rw[zH] at q;cases q;exact⟨xs,e,d⟩
    · rw[zN hb] at q;exact r.m b u q,
   r.ro⟩
theorem yI.new{p:Addr}{ds:List D}{xs:List V}(h:H p=none)(r:yI K G H)(d:Dens K H ds xs):yI K (zR G p ds) (yc H p (.lst xs)) :=
 (r.fresh h).own zi (d.grow (.fresh h))
theorem yI.put{p:Addr}{ds':List D}{xs xs':List V}(h:H p=some (.lst xs))(r:yI K G H)(d:Dens K H ds' xs'):yI K (zR G p ds') (yc H p (.lst xs')) :=
  ⟨fun a u e=>by
    by_cases ha:a=p
    · subst ha
      rw[zH] at e;cases e
      exact⟨xs',zi,d.grow (.lst h)⟩
    · rw[zN ha] at e
      obtain⟨ys,e1,e2⟩:=r.m a u e
      exact⟨ys,by rw[zu ha];exact e1,e2.grow (.lst h)⟩,
   fun a u e=>by
    obtain⟨ys,e1,e2⟩:=r.ro a u e
    exact⟨ys,(yA.lst h).roL e1,e2.grow (.lst h)⟩⟩
theorem yI.sub(s:Sub G G')(r:yI K G' H):yI K G H:=⟨fun a u e=>r.m a u (s.m a u e),fun a u e=>r.ro a u (s.ro a u e)⟩
theorem yI.sq{a:Addr}{ds:List D}(r:yI K G H)(e:Ls G a ds):∃ xs,SqL K H a xs∧Dens K H ds xs:=by
 rcases e with e | e
 ·obtain⟨xs,e1,e2⟩:=r.m a _ e
  exact⟨xs,.of e1,e2⟩
 ·obtain⟨xs,e1,e2⟩:=r.ro a _ e
  exact⟨xs,e1.sq,e2⟩
end
abbrev S2:=List (Option D)
abbrev zk:=S2→Gp→(D→Gp→Prop)→Prop
abbrev TT2:=S2→Gp→(Bool→Gp→Prop)→Prop
abbrev yt:=S2→Gp→(List D→Gp→Prop)→Prop
structure yO where
 nx:S2→Gp→Prop
 rt:D→Gp→Prop
 bk:S2→Gp→Prop:=fun _ _=>False
 ct:S2→Gp→Prop:=fun _ _=>False
abbrev yy:=yO→S2→Gp→Prop
def look:S2→Nat→Option D
 | [],_=>none
 | o::_,0=>o
 | _::r,i+1=>look r i
theorem zFL:∀ {σ:S2} {i:Nat} {d:D},look σ i=some d→σ[i]?=some (some d)
 | [],_,_,e=>by cases e
 | o::_,0,d,e=>by simp[look] at e;simp[e]
 | _::r,i+1,d,e=>by simpa using zFL (σ:=r) (i:=i) (d:=d) e
structure Rel (K:PySem.W.Frag) (σ:S2) (G:Gp) (σ1:L2.St) (H:Hp):Prop where
 g:yI K G H
 len:σ.length=σ1.length
 val:∀(i:Nat) d,σ[i]?=some (some d)→∃ v,σ1[i]?=some (some v)∧zS K H d v
theorem Rel.to{K:PySem.W.Frag}{σ:S2}{G G':Gp}{σ1:L2.St}{H H':Hp}(r:Rel K σ G σ1 H)(g:yA H H')(r':yI K G' H'):Rel K σ G' σ1 H' :=
 ⟨r',r.len,fun i d e=>by obtain⟨v,e1,e2⟩:=r.val i d e;exact⟨v,e1,e2.grow g⟩⟩
theorem Rel.set{K:PySem.W.Frag}{σ:S2}{G:Gp}{σ1:L2.St}{H:Hp}(r:Rel K σ G σ1 H)(i:Nat){d:D}{v:V}(h:zS K H d v):Rel K (σ.set i (some d)) G (σ1.set i (some v)) H :=
 ⟨r.g,by simp[r.len],fun j d' e=>by
  by_cases hj:i=j
  ·subst hj
   have hi:i<σ.length:=by
    have:=(List.getElem?_eq_some_iff.mp e).1;simpa using this
   rw[List.getElem?_set_self hi] at e
   cases e
   exact⟨v,by rw[List.getElem?_set_self (by rw[← r.len];exact hi)],h⟩
  ·rw[List.getElem?_set_ne hj] at e
   obtain⟨u,e1,e2⟩:=r.val j d' e
   exact⟨u,by rw[List.getElem?_set_ne hj];exact e1,e2⟩⟩
def lE(K:PySem.W.Frag)(t:zk):TE:=fun σ1 H Q=>∃ σ G R,Rel K σ G σ1 H∧t σ G R∧∀ d G',R d G'→∀ v H',yA H H'→yI K G' H'→zS K H' d v→Q v H'
def lT(K:PySem.W.Frag)(t:TT2):TT:=fun σ1 H Q=>∃ σ G R,Rel K σ G σ1 H∧t σ G R∧∀ b G',R b G'→∀ H',yA H H'→yI K G' H'→Q b H'
def lA(K:PySem.W.Frag)(t:yt):TA:=fun σ1 H Q=>∃ σ G R,Rel K σ G σ1 H∧t σ G R∧∀ ds G',R ds G'→∀ vs H',yA H H'→yI K G' H'→Dens K H' ds vs→Q vs H'
structure ER (K:PySem.W.Frag) (H:Hp) (D2:yO) (E:Ends):Prop where
 nx:∀ σ G,D2.nx σ G→∀ σ1 H',yA H H'→Rel K σ G σ1 H'→E.nx σ1 H'
 bk:∀ σ G,D2.bk σ G→∀ σ1 H',yA H H'→Rel K σ G σ1 H'→E.bk σ1 H'
 ct:∀ σ G,D2.ct σ G→∀ σ1 H',yA H H'→Rel K σ G σ1 H'→E.ct σ1 H'
 rt:∀ d G,D2.rt d G→∀ v H',yA H H'→yI K G H'→zS K H' d v→E.rt v H'
theorem ER.to{K:PySem.W.Frag}{H H':Hp}{D2:yO}{E:Ends}(e:ER K H D2 E)(g:yA H H'):ER K H' D2 E :=
 ⟨fun σ G h σ1 H1 g1=>e.nx σ G h σ1 H1 (g.trans g1),fun σ G h σ1 H1 g1=>e.bk σ G h σ1 H1 (g.trans g1),fun σ G h σ1 H1 g1=>e.ct σ G h σ1 H1 (g.trans g1),fun d G h v H1 g1=>e.rt d G h v H1 (g.trans g1)⟩
def lS(K:PySem.W.Frag)(t:yy):TS:=fun E σ1 H=>∃ σ G D2,Rel K σ G σ1 H∧t D2 σ G∧ER K H D2 E
def E2(X:Cx)(e:Expr)(t:zk):Prop:=PE X e (lE X.K t)
def T2(X:Cx)(e:Expr)(t:TT2):Prop:=PT X e (lT X.K t)
def A2(X:Cx)(es:List Expr)(t:yt):Prop:=PA X es (lA X.K t)
def P2(X:Cx)(st:Stmt)(t:yy):Prop:=PS X st (lS X.K t)
def Ps2(X:Cx)(st:List Stmt)(t:yy):Prop:=PSs X st (lS X.K t)
section
variable {X:Cx} {a b c e o:Expr} {es:List Expr} {pos p:Pos} {ta tb tc te:zk}
def zB(i:Nat):zk:=fun σ G R=>match look σ i with | some d=>R d G | none=>False
def xC(d:D):zk:=fun _ G R=>R d G
theorem zC(i:Nat){x:Str}(hN:X.N[i]?=some x:=by rfl)(hv:Vis X.env.scope x:=by first | exact Or.inl rfl | exact Or.inr (Or.inl rfl) | exact Or.inr (Or.inr rfl))(hd:(x==("__debug__":Str))=false:=by decide)
  (hcd:(x==("__classdict__":Str))=false:=by decide):E2 X (.Name x pos) (zB i):=by
 refine PE.mono (zL5 hN hv hd hcd) ?_
 rintro σ1 H Q ⟨σ,G,R,r,t,k⟩
 unfold zB at t
 cases q:look σ i with
 | none=>rw[q] at t;exact t.elim
 | some d =>
  rw[q] at t
  obtain⟨v,e1,e2⟩:=r.val i d (zFL q)
  exact⟨v,e1,k d G t v H (.refl H) r.g e2⟩
theorem zJ{i j}:E2 X (.Constant (.int i) j pos) (xC (.int i)):=by
 refine PE.mono zL6 ?_
 rintro σ1 H Q ⟨σ,G,R,r,t,k⟩
 exact k _ G t _ H (.refl H) r.g (by unfold zS;rfl)
theorem zGN{i j}:E2 X (.Constant (.bool i) j pos) (xC (.bl i)):=by
 refine PE.mono zNT ?_
 rintro σ1 H Q ⟨σ,G,R,r,t,k⟩
 exact k _ G t _ H (.refl H) r.g (by unfold zS;rfl)
abbrev Q2:=D→Gp→Prop
def Fit(K:PySem.W.Frag)(r:R2)(f:D→D→Gp→Q2→Prop):Prop :=
 ∀ dx dy G R x y H Q,f dx dy G R→yI K G H→zS K H dx x→zS K H dy y→(∀ d G',R d G'→∀ v H',yA H H'→yI K G' H'→zS K H' d v→Q v H')→r x y H Q
def zP(f:D→D→Gp→Q2→Prop)(ta tb:zk):zk:=fun σ G R=>ta σ G fun x G1=>tb σ G1 fun y G2=>f x y G2 R
theorem zHL{K:PySem.W.Frag}{r:R2}{f:D→D→Gp→Q2→Prop}(hf:Fit K r f){σ1:L2.St}{H:Hp}{Q:VK}(h:lE K (zP f ta tb) σ1 H Q):tOp r (lE K ta) (lE K tb) σ1 H Q:=by
 obtain⟨σ,G,R,rl,t,k⟩:=h
 refine⟨σ,G,_,rl,t,fun dx G1 t1 x H1 g1 r1 d1=>?_⟩
 refine⟨σ,G1,_,rl.to g1 r1,t1,fun dy G2 t2 y H2 g2 r2 d2=>?_⟩
 exact hf dx dy G2 R x y H2 Q t2 r2 (d1.grow g2) d2 fun d G' q v H' g' r' d'=>k d G' q v H' ((g1.trans g2).trans g') r' d'
theorem zEi{op:Operator}{r:R2}{f:D→D→Gp→Q2→Prop}(ho:OpR X (binaryOp op) r)(hf:Fit X.K r f)(ha:E2 X a ta)(hb:E2 X b tb):E2 X (.BinOp a op b pos) (zP f ta tb) :=
 PE.mono (zI5 ho ha hb) fun σ1 H Q h=>zHL hf h
theorem zHM{op:CmpOp}{r:R2}{f:D→D→Gp→Q2→Prop}(ho:OpR X (compareOp op) r)(hf:Fit X.K r f)(ha:E2 X a ta)(hb:E2 X b tb)(hm:behindInMarks op b=false):E2 X (.Compare a [op] [b] pos) (zP f ta tb) :=
 PE.mono (zKk ho ha hb hm) fun σ1 H Q h=>zHL hf h
def xB(t:zk):TT2:=fun σ G R=>t σ G fun d G1=>match d with | .bl b=>R b G1 | _=>False
theorem zDD{op:CmpOp}{r:R2}{f:D→D→Gp→Q2→Prop}(ho:OpR X (compareOp op) r)(hf:Fit X.K r f)(ha:E2 X a ta)(hb:E2 X b tb)(hm:behindInMarks op b=false):T2 X (.Compare a [op] [b] pos) (xB (zP f ta tb)):=by
 refine PT.mono (zKl ho ha hb hm) ?_
 rintro σ1 H Q ⟨σ,G,R,rl,t,k⟩
 refine zHL hf ⟨σ,G,_,rl,t,fun d G' q v H' g' r' d'=>?_⟩
 cases d with
 | bl b =>
  unfold zS at d'
  exact⟨b,d',k b G' q H' g' r'⟩
 | _=>exact q.elim
def wK(g:Int→Int→D):D→D→Gp→Q2→Prop:=fun x y G R=>match x,y with | .int i,.int j=>R (g i j) G | _,_=>False
def zJE:D→Bool
 | .tup _=>false
 | .adr _=>false
 | .dic _=>false
 | _=>true
def vOf:D→V
 | .non=>.non | .bl b=>.bl b | .int i=>.int i | .str x=>.str x | .tup _=>.non | .adr a=>.ref a | .dic a=>.ref a
theorem zHN{K:PySem.W.Frag}{H:Hp}{d:D}(h:zJE d=true):zS K H d (vOf d):=by
 cases d<;>first | (cases h;done) | (unfold zS;rfl)
theorem wW{K:PySem.W.Frag}{gv:Int→Int→V}{g:Int→Int→D}(hg:∀ i j,zJE (g i j)=true∧gv i j=vOf (g i j)):Fit K (rI0 gv) (wK g):=by
 intro dx dy G R x y H Q h r d1 d2 k
 unfold wK at h
 cases dx with
 | int i =>
  cases dy with
  | int j =>
   unfold zS at d1 d2
   subst d1 d2
   exact⟨i,j,rfl,rfl,k _ G h _ H (.refl H) r (by rw[(hg i j).2];exact zHN (hg i j).1)⟩
  | _=>exact h.elim
 | _=>exact h.elim
def yW(C:Int→Int→Prop)(g:Int→Int→D):D→D→Gp→Q2→Prop:=fun x y G R=>match x,y with | .int i,.int j=>C i j∧R (g i j) G | _,_=>False
theorem zBy{K:PySem.W.Frag}{C:Int→Int→Prop}{gv:Int→Int→V}{g:Int→Int→D}(hg:∀ i j,zJE (g i j)=true∧gv i j=vOf (g i j)):Fit K (rI C gv) (yW C g):=by
 intro dx dy G R x y H Q h r d1 d2 k
 unfold yW at h
 cases dx with
 | int i =>
  cases dy with
  | int j =>
   unfold zS at d1 d2
   subst d1 d2
   exact⟨i,j,rfl,rfl,h.1,k _ G h.2 _ H (.refl H) r (by rw[(hg i j).2];exact zHN (hg i j).1)⟩
  | _=>exact h.elim
 | _=>exact h.elim
end
end L3
namespace L3
open PySem PySem.Spec PyProof.Rows L2
section
variable {X:Cx} {a b c e o:Expr} {es:List Expr} {pos p:Pos} {ta tb tc te:zk}
abbrev TL2:=S2→Gp→(List D→Gp→Prop)→Prop
def lL(K:PySem.W.Frag)(t:TL2):TE:=fun σ1 H Q=>∃ σ G R,Rel K σ G σ1 H∧t σ G R∧∀ ds G',R ds G'→∀ l xs H',yA H H'→yI K G' H'→G'.m l=none→H' l=some (.lst xs)→Dens K H' ds xs→Q (.ref l) H'
def F2(X:Cx)(e:Expr)(t:TL2):Prop:=PE X e (lL X.K t)
def zx(t:TL2):zk:=fun σ G R=>t σ G fun ds G'=>∀ l,G'.m l=none→R (.adr l) (zR G' l ds)
theorem zz{t:TL2}(h:F2 X e t):E2 X e (zx t):=by
 refine PE.mono h ?_
 rintro σ1 H Q ⟨σ,G,R,r,q,k⟩
 exact⟨σ,G,_,r,q,fun ds G' q' l xs H' g r' n e' d=>k _ _ (q' l n) _ H' g (r'.own e' d) (by unfold zS;rfl)⟩
def zI:yt:=fun _ G R=>R [] G
def zA(ta:zk)(tr:yt):yt:=fun σ G R=>ta σ G fun x G1=>tr σ G1 fun xs G2=>R (x::xs) G2
theorem zL:A2 X [] zI:=by
 intro pos pins s σ1 H Q I h
 refine zAd pos pins s σ1 H Q I ?_
 obtain⟨σ,G,R,r,q,k⟩:=h
 exact k [] G q [] H (.refl H) r.g .nil
theorem zD{tr:yt}(ha:E2 X e ta)(hr:A2 X es tr)(hs:starEach (e::es) X.env=(false,eval e X.env)::starEach es X.env:=by rfl):A2 X (e::es) (zA ta tr):=by
 intro pos pins s σ1 H Q I h
 refine yi ha hr hs pos pins s σ1 H Q I ?_
 obtain⟨σ,G,R,r,q,k⟩:=h
 refine⟨σ,G,_,r,q,fun d G1 q1 v H1 g1 r1 d1=>?_⟩
 refine⟨σ,G1,_,r.to g1 r1,q1,fun ds G2 q2 vs H2 g2 r2 d2=>?_⟩
 exact k _ G2 q2 _ H2 (g1.trans g2) r2 (.cons (d1.grow g2) d2)
def yK(t:yt):zk:=fun σ G R=>t σ G fun ds G1=>ds.length≤sizeLine∧R (.tup ds) G1
theorem wM{t:yt}{x1}(h:A2 X es t):E2 X (.Tuple es x1 pos) (yK t):=by
 refine PE.mono (zI9 h) ?_
 rintro σ1 H Q ⟨σ,G,R,r,q,k⟩
 refine⟨σ,G,_,r,q,fun ds G1 q1 vs H1 g1 r1 d1=>⟨by rw[← d1.length];exact q1.1,fun p hp=>?_⟩⟩
 refine k _ G1 q1.2 _ _ (g1.trans (.fresh hp)) (r1.fresh hp) ?_
 unfold zS
 exact⟨p,vs,rfl,.of zi,d1.grow (.fresh hp)⟩
def wf(t:yt):TL2:=fun σ G R=>t σ G fun ds G1=>ds.length≤sizeLine∧R ds G1
theorem zA8{t:yt}(h:A2 X es t):F2 X (.List es pos) (wf t):=by
 refine PE.mono (zMX h) ?_
 rintro σ1 H Q ⟨σ,G,R,r,q,k⟩
 refine⟨σ,G,_,r,q,fun ds G1 q1 vs H1 g1 r1 d1=>⟨by rw[← d1.length];exact q1.1,fun p hp=>?_⟩⟩
 exact k ds G1 q1.2 p vs _ (g1.trans (.fresh hp)) (r1.fresh hp) (r1.free hp) zi (d1.grow (.fresh hp))
abbrev Sp2:=List D→Gp→Q2→Prop
def lSp(K:PySem.W.Frag)(sp:Sp2):Sp:=fun vs H Q _=>∃ ds G R,Dens K H ds vs∧yI K G H∧sp ds G R∧∀ d G',R d G'→∀ v H',yA H H'→yI K G' H'→zS K H' d v→Q v H'
def Df(P:Program)(w:World)(K:PySem.W.Frag)(mg:Str→Option Value)(base:Heap)(k:Nat)(x:Str)(ps:List Str)(sp:Sp2):Prop :=
 ∃ f fd,zBG P w K mg base CX0 k f fd ps (lSp K sp)∧mg x=some (.ref f)∧PySem.W.keepIn K (.ref f)=true∧Binds K fd ps []
def zK(sp:Sp2)(t:yt):zk:=fun σ G R=>t σ G fun ds G1=>sp ds G1 R
theorem zq{sp:Sp2}{t:yt}{k k':Nat}{x:Str}{ps:List Str}(F:Df X.prog X.w X.K X.mg X.base k x ps sp)(hr:yo k' X.A)(hk:k≤k')(hg:Gl X x)(ha:A2 X (e::es) t)
  (hdb:(x==("__debug__":Str))=false:=by decide) (he:starEach (e::es) X.env=(false,eval e X.env)::starEach es X.env:=by rfl) (hpl:(backTo pos (starEach es X.env)).any (·.1)=false:=by rfl) :
  E2 X (.Call (.Name x p) (e::es) [] pos) (zK sp t):=by
 obtain⟨f,fd,F,hm,hkp,hb⟩:=F
 refine PE.mono (zHE (dvs:=[]) F (hr.mono hk) hg hm hkp hb .nil zLl ha hdb he hpl) ?_
 rintro σ1 H Q ⟨σ,G,R,r,q,kk⟩
 refine⟨σ,G,_,r,q,fun ds G1 q1 vs H1 g1 r1 d1=>?_⟩
 show lSp X.K _ (vs++[]) H1 Q E0
 rw[List.append_nil]
 exact⟨ds,G1,R,d1,r1,q1,fun d G' q' v H' g'=>kk d G' q' v H' (g1.trans g')⟩
def spL(sp:List D→Gp→(List D→Gp→Prop)→Prop):Sp2:=fun ds G R=>sp ds G fun ls G'=>∀ l,G'.m l=none→R (.adr l) (zR G' l ls)
def yf(sp:List D→Gp→(List D→Gp→Prop)→Prop)(t:yt):TL2:=fun σ G R=>t σ G fun ds G1=>sp ds G1 R
theorem zDE{sp:List D→Gp→(List D→Gp→Prop)→Prop}{t:yt}{k k':Nat}{x:Str}{ps:List Str}(F:Df X.prog X.w X.K X.mg X.base k x ps (spL sp))(hmono:∀ ds G R R',(∀ ls G',R ls G'→R' ls G')→sp ds G R→sp ds G R')(hr:yo k' X.A)(hk:k≤k')(hg:Gl X x)(ha:A2 X (e::es) t)
  (hdb:(x==("__debug__":Str))=false:=by decide) (he:starEach (e::es) X.env=(false,eval e X.env)::starEach es X.env:=by rfl) (hpl:(backTo pos (starEach es X.env)).any (·.1)=false:=by rfl) :
  F2 X (.Call (.Name x p) (e::es) [] pos) (yf sp t):=by
 obtain⟨f,fd,F,hm,hkp,hb⟩:=F
 refine PE.mono (zHE (dvs:=[]) F (hr.mono hk) hg hm hkp hb .nil zLl ha hdb he hpl) ?_
 rintro σ1 H Q ⟨σ,G,R,r,q,kk⟩
 refine⟨σ,G,_,r,q,fun ds G1 q1 vs H1 g1 r1 d1=>?_⟩
 show lSp X.K _ (vs++[]) H1 Q E0
 rw[List.append_nil]
 refine⟨ds,G1,fun d G'=>∃ l ls G0,d=.adr l∧G0.m l=none∧G'=zR G0 l ls∧R ls G0,d1,r1,hmono _ _ _ _ (fun ls G' q l n=>⟨l,ls,G',rfl,n,rfl,q⟩) q1,?_⟩
 rintro d G' ⟨l,ls,G0,rfl,n,rfl,q'⟩ v H' g' r' dv
 unfold zS at dv
 subst dv
 obtain⟨xs,e1,e2⟩:=r'.m l ls zH
 exact kk ls G0 q' l xs H' (g1.trans g') (r'.sub (.new n)) n e1 e2
section
variable {st:Stmt} {rest:List Stmt} {t u:yy}
def ye:yy:=fun E σ G=>E.nx σ G
def zb(t u:yy):yy:=fun E σ G=>t { E with nx:=u E } σ G
theorem wN:Ps2 X [] ye:=by
 intro pins s σ1 H E I h
 refine zKf pins s σ1 H E I ?_
 obtain⟨σ,G,D2,r,q,k⟩:=h
 exact k.nx σ G q σ1 H (.refl H) r
theorem zM(h1:P2 X st t)(h2:Ps2 X rest u):Ps2 X (st::rest) (zb t u):=by
 intro pins s σ1 H E I h
 refine zI2 h1 h2 pins s σ1 H E I ?_
 obtain⟨σ,G,D2,r,q,k⟩:=h
 refine⟨σ,G,_,r,q,⟨fun σ' G' q' σ1' H' g' r'=>⟨σ',G',D2,r',q',k.to g'⟩,k.bk,k.ct,k.rt⟩⟩
theorem zV(h1:P2 X st t):Ps2 X [st] t:=zKg h1
def yC(te:zk):yy:=fun E σ G=>te σ G E.rt
theorem zw(he:E2 X e te):P2 X (.Return (some e) pos) (yC te):=by
 refine PS.mono (L2.zME he) ?_
 rintro E σ1 H ⟨σ,G,D2,r,q,k⟩
 exact⟨σ,G,_,r,q,fun d G' q' v H' g' r' d'=>k.rt d G' q' v H' g' r' d'⟩
def zAg(te:zk):yy:=fun E σ G=>te σ G fun _ G1=>E.nx σ G1
theorem zEj(he:E2 X e te)(hs:swapsWith e none pos.line X.env=pure false:=by rfl):P2 X (.Expr e pos) (zAg te):=by
 refine PS.mono (L2.zKh he hs) ?_
 rintro E σ1 H ⟨σ,G,D2,r,q,k⟩
 exact⟨σ,G,_,r,q,fun d G' q' v H' g' r' d'=>k.nx σ G' q' σ1 H' g' (r.to g' r')⟩
def xIf(c:TT2)(t u:yy):yy:=fun E σ G=>c σ G fun b G1=>if b=true then t E σ G1 else u E σ G1
theorem zBz{x y:List Stmt}{tc:TT2}(hc:T2 X c tc)(ha:Ps2 X x t)(hb:Ps2 X y u):P2 X (.If c x y pos) (xIf tc t u):=by
 refine PS.mono (L2.zNZ hc ha hb) ?_
 rintro E σ1 H ⟨σ,G,D2,r,q,k⟩
 refine⟨σ,G,_,r,q,fun b G' q' H' g' r'=>?_⟩
 cases b with
 | true=>exact⟨σ,G',D2,r.to g' r',q',k.to g'⟩
 | false=>exact⟨σ,G',D2,r.to g' r',q',k.to g'⟩
abbrev TG2:=D→S2→Gp→(S2→Gp→Prop)→Prop
def lG(K:PySem.W.Frag)(g:TG2):TG:=fun v σ1 H Q=>∃ σ G d R,Rel K σ G σ1 H∧zS K H d v∧g d σ G R∧∀ σ' G',R σ' G'→∀ σ1' H',yA H H'→Rel K σ' G' σ1' H'→Q σ1' H'
def G2(X:Cx)(tg:Expr)(g:TG2):Prop:=PG X tg (lG X.K g)
theorem PG.mono{tg:Expr}{t t':TG}(h:PG X tg t)(hm:∀ v σ H Q,t' v σ H Q→t v σ H Q):PG X tg t':=fun pins s σ H v u Q I r q=>h pins s σ H v u Q I r (hm v σ H Q q)
def gN(i:Nat):TG2:=fun d σ G R=>R (σ.set i (some d)) G
theorem zAp(i:Nat){x:Str}(hN:X.N.Nodup)(hi:X.N[i]?=some x:=by rfl)(hx:Loc X.env.scope x:=by first | exact Or.inl rfl | exact Or.inr rfl)(hf:X.fn x=true∨X.env.scope.names.lookup x=some .local:=by first | exact .inl rfl | exact .inr rfl | assumption):G2 X (.Name x pos) (gN i):=by
 refine PG.mono (zAU hN hi hx hf) ?_
 rintro v σ1 H Q ⟨σ,G,d,R,r,dv,q,k⟩
 exact k _ G q _ H (.refl H) (r.set i dv)
def gNN(i j:Nat):TG2:=fun d σ G R=>match d with | .tup [a,b]=>R ((σ.set i (some a)).set j (some b)) G | _=>False
theorem zNn(i j:Nat){x y:Str}{px py:Pos}{kk:Nat}(hc:X.calm=true)(hN:X.N.Nodup)(hi:X.N[i]?=some x:=by rfl)(hj:X.N[j]?=some y:=by rfl)(hx:Loc X.env.scope x:=by first | exact Or.inl rfl | exact Or.inr rfl)(hy:Loc X.env.scope y:=by first | exact Or.inl rfl | exact Or.inr rfl)
  (hf:X.fn x=true∨X.env.scope.names.lookup x=some .local:=by first | exact .inl rfl | exact .inr rfl | assumption) (hf':X.fn y=true∨X.env.scope.names.lookup y=some .local:=by first | exact .inl rfl | exact .inr rfl | assumption) :
  G2 X (.Tuple [.Name x px,.Name y py] kk pos) (gNN i j):=by
 refine PG.mono (zI3 (n:=2) hc (zBv (zAU hN hi hx hf) (zBv (zAU hN hj hy hf') zHC))) ?_
 rintro v σ1 H Q ⟨σ,G,d,R,r,dv,q,k⟩
 unfold gNN at q
 split at q
 ·rename_i d1 d2
  unfold zS at dv
  obtain⟨a,xs,rfl,hs,hd⟩:=dv
  unfold Dens at hd
  obtain⟨x1,r1,rfl,h1,hd⟩:=hd
  unfold Dens at hd
  obtain⟨x2,r2,rfl,h2,hd⟩:=hd
  unfold Dens at hd
  subst hd
  exact⟨a,[x1,x2],rfl,hs,rfl,x1,[x2],rfl,x2,[],rfl,rfl,k _ G q _ H (.refl H) ((r.set i h1).set j h2)⟩
 ·exact q.elim
def zp(te:zk)(g:TG2):yy:=fun E σ G=>te σ G fun d G1=>g d σ G1 E.nx
theorem zJF{g:TG2}{E:Ends}{σ1:L2.St}{H:Hp}{K:PySem.W.Frag}(h:lS K (zp te g) E σ1 H):zMJ (lE K te) (lG K g) E σ1 H:=by
 obtain⟨σ,G,D2,r,q,k⟩:=h
 refine⟨σ,G,_,r,q,fun d G' q' v H' g' r' d'=>⟨σ,G',d,_,r.to g' r',d',q',fun σ' G'' q'' σ1' H'' g'' r''=>k.nx σ' G'' q'' σ1' H'' (g'.trans g'') r''⟩⟩
theorem zt(i:Nat){x:Str}{pos':Pos}(hN:X.N.Nodup)(he:E2 X e te)(hi:X.N[i]?=some x:=by rfl)(hx:Loc X.env.scope x:=by first | exact Or.inl rfl | exact Or.inr rfl)(hs:swapsWith e (some (.Name x pos')) pos.line X.env=pure false:=by rfl)(hf:X.fn x=true∨X.env.scope.names.lookup x=some .local:=by first | exact .inl rfl | exact .inr rfl | assumption) :
  P2 X (.Assign [.Name x pos'] e pos) (zp te (gN i)):=by
 refine PS.mono (L2.zML hN hi hx he hs hf) fun E σ1 H h=>?_
 obtain⟨σ,G,D2,r,q,k⟩:=h
 refine⟨σ,G,_,r,q,fun d G' q' v H' g' r' d'=>?_⟩
 exact k.nx _ G' q' _ H' g' ((r.to g' r').set i d')
theorem zLm{tg:Expr}{g:TG2}(he:E2 X e te)(hg:G2 X tg g)(hs:swapsWithSole [tg] e pos.line X.env=pure false:=by rfl)(hw:swappedStores [tg] e X.env=pure none:=by rfl)
  (h1:(assignEach [tg] X.env).map (·.2)=[assign tg X.env]:=by rfl):P2 X (.Assign [tg] e pos) (zp te g) :=
 PS.mono (L2.zMK he hg hs hw h1) fun _ _ _ h=>zJF h
def gIx(to ti:zk):TG2:=fun d σ G R=>to σ G fun o G1=>ti σ G1 fun i G2=>match o,i with
 | .adr l,.int k=>match G2.m l with
  | some ds=>match ixN ds.length k with | some j=>R σ (zR G2 l (ds.set j d)) | none=>False
  | none=>False
 | _,_=>False
theorem zNo{i:Expr}{to ti:zk}(ho:E2 X o to)(hi:E2 X i ti)
  (ha:∀ v,assign (.Subscript o i pos) X.env v=(do
   let ov ← holding [v] (eval o X.env)
   let iv ← holding [v,ov] (eval i X.env)
   standAt pos
   holding [v,ov,iv] (setItem ov iv v)
   release [v,ov,iv] []):=by intro _;rfl):G2 X (.Subscript o i pos) (gIx to ti):=by
 refine PG.mono (zMI ho hi set_list ha) ?_
 rintro v σ1 H Q ⟨σ,G,d,R,r,dv,q,k⟩
 refine⟨σ,G,_,r,q,fun dx G1 q1 x H1 g1 r1 d1=>⟨σ,G1,_,r.to g1 r1,q1,fun dy G2' q2 y H2 g2 r2 d2=>?_⟩⟩
 cases dx with
 | adr l =>
  cases dy with
  | int j =>
   dsimp only at q2
   cases e1:G2'.m l with
   | none=>rw[e1] at q2;exact q2.elim
   | some ds =>
    rw[e1] at q2
    dsimp only at q2
    cases e2:ixN ds.length j with
    | none=>rw[e2] at q2;exact q2.elim
    | some jj =>
     rw[e2] at q2
     dsimp only at q2
     have d1':=d1.grow g2
     unfold zS at d1' d2
     subst d1' d2
     obtain⟨xs,h1,h2⟩:=r2.m l ds e1
     refine⟨l,xs,j,jj,rfl,rfl,h1,by rw[← h2.length];exact e2,?_⟩
     have g3:yA H2 (yc H2 l (.lst (xs.set jj v))):=.lst h1
     exact k _ _ q2 _ _ ((g1.trans g2).trans g3) ((r.to (g1.trans g2) r2).to g3 (r2.put h1 (h2.set jj (dv.grow (g1.trans g2)))))
  | _=>exact q2.elim
 | _=>exact q2.elim
end
end
end L3
namespace L3
open PySem PySem.Spec PyProof.Rows L2
abbrev TI2:=S2→Gp→(List D→(Gp→Prop)→Gp→Prop)→Prop
structure Walk (K:PySem.W.Frag) (H0:Hp) (ds:List D) (gd:Gp→Prop) (J:It):Prop where
 go:∀ i G H,gd G→yI K G H→yA H0 H→i<ds.length→J.go i H
 stop:∀ G H,gd G→yI K G H→yA H0 H→J.stop ds.length H
 yld:∀ i G H x H',gd G→yI K G H→yA H0 H→i<ds.length→J.yld i H x H'→yA H H'∧yI K G H'∧∃ d,ds[i]?=some d∧zS K H' d x
def lI(K:PySem.W.Frag)(wi:TI2):TI:=fun σ1 H R=>∃ σ G R2,Rel K σ G σ1 H∧wi σ G R2∧∀ ds gd G',R2 ds gd G'→∀ J H',yA H H'→yI K G' H'→Walk K H' ds gd J→ds.length≤sizeLine→R J H'
def I2(X:Cx)(tg iter:Expr)(wi:TI2):Prop:=PI X tg iter (lI X.K wi)
theorem PI.mono{X:Cx}{tg iter:Expr}{t t':TI}(h:PI X tg iter t)(hm:∀ σ H R,t' σ H R→t σ H R):PI X tg iter t':=fun pins s σ H R I q=>h pins s σ H R I (hm σ H R q)
section
variable {X:Cx} {tg:Expr} {a b c e o l iter elt:Expr} {es:List Expr} {pos p:Pos} {ta tb te:zk}
theorem zJG{l:Expr}{tl:TE}(hl:PE X l tl):PI X tg l (fun σ H R=>tl σ H fun x H1=>∃ a xs,x=.ref a∧((SqL X.K H1 a xs∧(xs.length≤sizeLine→R (Itl X.K a) H1))∨(SqT X.K H1 a xs∧(xs.length≤sizeLine→R (Itt X.K a) H1)))):=by
 intro pins s σ H R I h
 refine yV (hl pins s σ H _ I h) fun v s1 ⟨x,H1,I1,r1,q1⟩=>?_
 obtain⟨a,xs,e,q⟩:=q1
 subst e
 cases r1
 have fpk:∀ b∈[s1.heap.objs.size],zBC X pins H1 b:=fun b hb=>by
  have e:b=s1.heap.objs.size:=by simpa using hb
  subst e
  exact I1.fpOk (Nat.le_refl _) (I1.hok.fresh (Nat.le_refl _))
 rcases q with ⟨hq,q⟩ | ⟨hq,q⟩
 ·obtain⟨its,rv,p,hz⟩:=I1.list hq
  refine wpAny_pyIter_list p.isList ?_
  exact⟨s1.heap.objs.size,[s1.heap.objs.size],_,_,H1,rfl,I1.kept (t':=s1.toks) fun b o e=>Heap.get?_push_of_some _ e,zHv a _,⟨_,Heap.get?_push_size _ rfl,rfl,rfl⟩,fpk,q hz⟩
 ·obtain⟨its,rv,p,hz⟩:=I1.tuple hq
  refine wpAny_pyIter_tuple (show s1.heap.IsTuple a its.toArray from p) ?_
  exact⟨s1.heap.objs.size,[s1.heap.objs.size],_,_,H1,rfl,I1.kept (t':=s1.toks) fun b o e=>Heap.get?_push_of_some _ e,zGG a _,⟨_,Heap.get?_push_size _ rfl,rfl,rfl⟩,fpk,q hz⟩
theorem zEC{K:PySem.W.Frag}{H0:Hp}{a:Addr}{ds:List D}:Walk K H0 ds (fun G=>Ls G a ds) (Itl K a) where
 go:=fun i G H g r _ hi=>by
  obtain⟨xs,h1,h2⟩:=r.sq g
  exact⟨xs,xs[i]'(by rw[← h2.length];exact hi),h1,by simp⟩
 stop:=fun G H g r _=>by
  obtain⟨xs,h1,h2⟩:=r.sq g
  exact⟨xs,h1,Nat.le_of_eq h2.length.symm⟩
 yld:=fun i G H x H' g r _ hi y=>by
  obtain⟨xs,h1,h2⟩:=r.sq g
  obtain⟨e,y⟩:=y
  subst e
  obtain⟨d,e1,e2⟩:=h2.got (y xs h1)
  exact⟨.refl _,r,d,e1,e2⟩
theorem zJH{K:PySem.W.Frag}{H0:Hp}{a:Addr}{xs:List V}{ds:List D}(h:SqT K H0 a xs)(hd:Dens K H0 ds xs):Walk K H0 ds (fun _=>True) (Itt K a) where
 go:=fun i G H _ r g hi=>⟨xs,xs[i]'(by rw[← hd.length];exact hi),g.sqT h,by simp⟩
 stop:=fun G H _ r g=>⟨xs,g.sqT h,Nat.le_of_eq hd.length.symm⟩
 yld:=fun i G H x H' _ r g hi y=>by
  obtain⟨e,y⟩:=y
  subst e
  obtain⟨d,e1,e2⟩:=(hd.grow g).got (y xs (g.sqT h))
  exact⟨.refl _,r,d,e1,e2⟩
def yL(lo:Int)(n:Nat):List D:=(List.range n).map fun(k:Nat)=>D.int (lo+(k:Int))
theorem zAI(lo:Int)(n:Nat):(yL lo n).length=n:=by simp[yL]
theorem zGO{lo:Int}{n i:Nat}(h:i<n):(yL lo n)[i]?=some (.int (lo+i)):=by simp[yL,h]
theorem zDF{K:PySem.W.Frag}{H0:Hp}{lo:Int}{n:Nat}:Walk K H0 (yL lo n) (fun _=>True) (Itr lo n) where
 go:=fun i G H _ _ _ hi=>by rw[zAI] at hi;exact hi
 stop:=fun G H _ _ _=>by rw[zAI];exact Nat.le_refl _
 yld:=fun i G H x H' _ r _ hi y=>by
  rw[zAI] at hi
  obtain⟨e,rfl⟩:=y
  subst e
  exact⟨.refl _,r,_,zGO hi,by unfold zS;rfl⟩
def iV(t:zk):TI2:=fun σ G R=>t σ G fun d G1=>match d with
 | .tup ds=>R ds (fun _=>True) G1
 | .adr a=>∃ ds,Ls G1 a ds∧R ds (fun G=>Ls G a ds) G1
 | _=>False
theorem yp(h:E2 X l ta):I2 X tg l (iV ta):=by
 refine PI.mono (zJG h) ?_
 rintro σ1 H R ⟨σ,G,R2,r,q,k⟩
 refine⟨σ,G,_,r,q,fun d G1 q1 v H1 g1 r1 d1=>?_⟩
 cases d with
 | tup ds =>
  unfold zS at d1
  obtain⟨a,xs,rfl,h1,h2⟩:=d1
  exact⟨a,xs,rfl,.inr ⟨h1,fun hz=>k ds _ G1 q1 _ H1 g1 r1 (zJH h1 h2) (by rw[h2.length];exact hz)⟩⟩
 | adr a =>
  unfold zS at d1
  subst d1
  obtain⟨ds,e,q1⟩:=q1
  obtain⟨xs,h1,h2⟩:=r1.sq e
  exact⟨a,xs,rfl,.inl ⟨h1,fun hz=>k ds _ G1 q1 _ H1 g1 r1 zEC (by rw[h2.length];exact hz)⟩⟩
 | _=>exact q1.elim
def iF(t:TL2):TI2:=fun σ G R=>t σ G fun ds G1=>∀ a,G1.m a=none→R ds (fun G=>Ls G a ds) (zR G1 a ds)
theorem zNp{t:TL2}(h:F2 X l t):I2 X tg l (iF t):=by
 refine PI.mono (zJG h) ?_
 rintro σ1 H R ⟨σ,G,R2,r,q,k⟩
 refine⟨σ,G,_,r,q,fun ds G1 q1 a xs H1 g1 r1 n e1 d1=>?_⟩
 exact⟨a,xs,rfl,.inl ⟨.of e1,fun hz=>k ds _ _ (q1 a n) _ H1 g1 (r1.own e1 d1) zEC (by rw[d1.length];exact hz)⟩⟩
def iR1(t:yt):TI2:=fun σ G R=>t σ G fun ds G1=>match ds with | [.int j]=>(-1000000≤j∧j≤1000000)∧R (yL 0 j.toNat) (fun _=>True) G1 | _=>False
def iR2(t:yt):TI2:=fun σ G R=>t σ G fun ds G1=>match ds with | [.int i,.int j]=>((-1000000≤i∧i≤1000000)∧-1000000≤j∧j≤1000000)∧R (yL i (j-i).toNat) (fun _=>True) G1 | _=>False
theorem wg{t:yt}(hg:Gl X "range")(hm:X.mg "range"=none)(ha:A2 X [a] t)(hs:starEach [a] X.env=[(false,eval a X.env)]:=by rfl):I2 X tg (.Call (.Name "range" p) [a] [] pos) (iR1 t):=by
 refine PI.mono (zHw hg hm ha hs) ?_
 rintro σ1 H R ⟨σ,G,R2,r,q,k⟩
 refine⟨σ,G,_,r,q,fun ds G1 q1 vs H1 g1 r1 d1=>?_⟩
 split at q1
 ·rename_i j
  unfold Dens at d1
  obtain⟨x,r',rfl,d1,d2⟩:=d1
  unfold zS at d1
  unfold Dens at d2
  subst d1 d2
  refine⟨j,rfl,by omega,by omega,k _ _ G1 q1.2 _ H1 g1 r1 zDF ?_⟩
  rw[zAI,sizeLine_eq];omega
 ·exact q1.elim
theorem zDG{t:yt}(hg:Gl X "range")(hm:X.mg "range"=none)(ha:A2 X [a,b] t)(hs:starEach [a,b] X.env=[(false,eval a X.env),(false,eval b X.env)]:=by rfl)(hs2:starEach [b] X.env=[(false,eval b X.env)]:=by rfl):I2 X tg (.Call (.Name "range" p) [a,b] [] pos) (iR2 t):=by
 refine PI.mono (zHx hg hm ha hs hs2) ?_
 rintro σ1 H R ⟨σ,G,R2,r,q,k⟩
 refine⟨σ,G,_,r,q,fun ds G1 q1 vs H1 g1 r1 d1=>?_⟩
 split at q1
 ·rename_i i j
  unfold Dens at d1
  obtain⟨x,r',rfl,d1,d2⟩:=d1
  unfold Dens at d2
  obtain⟨y,r',rfl,d2,d3⟩:=d2
  unfold zS at d1 d2
  unfold Dens at d3
  subst d1 d2 d3
  refine⟨i,j,rfl,⟨by omega,by omega,by omega,by omega⟩,k _ _ G1 q1.2 _ H1 g1 r1 zDF ?_⟩
  rw[zAI,sizeLine_eq];omega
 ·exact q1.elim
structure wy (σ σ':S2):Prop where
 len:σ.length=σ'.length
 val:∀(i:Nat) d,σ[i]?=some (some d)→σ'[i]?=some (some d)
theorem wy.refl(σ:S2):wy σ σ:=⟨rfl,fun _ _ h=>h⟩
def Fg(P:S2→Gp→Prop):S2→Gp→Prop:=fun σ G=>∃ σ' G',wy σ' σ∧Sub G' G∧P σ' G'
theorem Fg.of{P:S2→Gp→Prop}{σ:S2}{G:Gp}(h:P σ G):Fg P σ G:=⟨σ,G,.refl σ,.refl G,h⟩
theorem Rel.sub{K:PySem.W.Frag}{σ σ':S2}{G G':Gp}{σ1:L2.St}{H:Hp}(r:Rel K σ G σ1 H)(s:wy σ' σ)(g:Sub G' G):Rel K σ' G' σ1 H :=
 ⟨r.g.sub g,s.len.trans r.len,fun i d e=>r.val i d (s.val i d e)⟩
def zNq(wi:TI2)(g:TG2)(tb:yy):yy:=fun E σ G=>wi σ G fun ds gd G1=>∃ Pv:Nat→S2→Gp→Prop,Pv 0 σ G1∧(∀ i σ G,i≤ds.length→Pv i σ G→gd G) ∧
 (∀ i x σ G,ds[i]?=some x→Pv i σ G→g x σ G fun σ2 G2=>tb { E with nx:=Fg (Pv (i+1)),ct:=Fg (Pv (i+1)),bk:=E.nx } σ2 G2)∧∀ σ G,Pv ds.length σ G→E.nx σ G
theorem zNr{wi:TI2}{g:TG2}{tb:yy}{body:List Stmt}(hp:PassesOwn (model X.prog X.w) X.A X.env X.xe)(hc:X.calm=true)(hi:I2 X tg iter wi)(hg:G2 X tg g)(hb:Ps2 X body tb)
  (hs:∀ x,foldedSetIterable iter X.env x=pure x:=by intro _;rfl):P2 X (.For tg iter body [] pos) (zNq wi g tb):=by
 refine PS.mono (L2.zMN hp hc hi hg hb hs) ?_
 rintro E σ1 H ⟨σ,G,D2,r,q,k⟩
 refine⟨σ,G,_,r,q,fun ds gd G1 q1 J H1 g1 r1 W hz=>?_⟩
 obtain⟨Pv,p0,pg,pt,pd⟩:=q1
 refine⟨fun i m σ1' H'=>m=ds.length-i∧i≤ds.length∧yA H1 H'∧∃ σ' G',Rel X.K σ' G' σ1' H'∧Pv i σ' G',⟨ds.length,by simp,Nat.zero_le _,.refl _,σ,G1,r.to g1 r1,p0⟩,?_⟩
 rintro i m σ1' H' ⟨rfl,hi',g',σ',G',r',p'⟩
 have gd':=pg i σ' G' hi' p'
 by_cases hlt:i<ds.length
 ·refine .inr ⟨W.go i G' H' gd' r'.g g' hlt,fun σ1'' H''=>yA H1 H''∧∃ σ'' G'',Rel X.K σ'' G'' σ1'' H''∧Pv (i+1) σ'' G'',fun σ1'' H'' ⟨a1,σ'',G'',a2,a3⟩=>⟨ds.length-(i+1),by omega,rfl,hlt,a1,σ'',G'',a2,a3⟩,fun x H'' y=>?_⟩
  obtain⟨gy,ry,d,e1,e2⟩:=W.yld i G' H' x H'' gd' r'.g g' hlt y
  replace g':=g'.trans gy
  refine⟨σ',G',d,_,r'.to gy ry,e2,pt i d σ' G' e1 p',fun σ2 G2 q2 σ12 H2 g2 r2=>⟨σ2,G2,_,r2,q2,?_⟩⟩
  have back:∀ σ3 G3,Fg (Pv (i+1)) σ3 G3→∀ σ13 H3,yA H2 H3→Rel X.K σ3 G3 σ13 H3→yA H1 H3∧∃ σ'' G'',Rel X.K σ'' G'' σ13 H3∧Pv (i+1) σ'' G'':=by
   rintro σ3 G3 ⟨σ4,G4,a1,a2,a3⟩ σ13 H3 g3 r3
   exact⟨(g'.trans g2).trans g3,σ4,G4,r3.sub a1 a2,a3⟩
  exact⟨back,fun σ3 G3 q3 σ13 H3 g3 r3=>k.nx σ3 G3 q3 σ13 H3 (((g1.trans g').trans g2).trans g3) r3,back,fun d3 G3 q3 v3 H3 g3 r3 dv=>k.rt d3 G3 q3 v3 H3 (((g1.trans g').trans g2).trans g3) r3 dv⟩
 ·have e:i=ds.length:=by omega
  subst e
  exact .inl ⟨W.stop G' H' gd' r'.g g',k.nx σ' G' (pd σ' G' p') σ1' H' (g1.trans g') r'⟩
def FgG(P:Gp→Prop):Gp→Prop:=fun G=>∃ G',Sub G' G∧P G'
theorem FgG.of{P:Gp→Prop}{G:Gp}(h:P G):FgG P G:=⟨G,.refl G,h⟩
def za(wi:TI2)(bd:D→Option (List D))(tc:TT2)(te:zk):TL2:=fun σ G R=>wi σ G fun ds gd G1=>∀ A,G1.m A=none→∃ Pv:Nat→List D→Gp→Prop,Pv 0 [] (zR G1 A [])∧(∀ i acc G,i≤ds.length→Pv i acc G→gd G∧G.m A=some acc∧acc.length≤i) ∧
 (∀ i x acc G,ds[i]?=some x→Pv i acc G→match bd x with
  | some us=>tc (σ++us.map some) G fun b G3=>if b=true then te (σ++us.map some) G3 fun d G4=>G4.m A=some acc∧FgG (Pv (i+1) (acc++[d])) (zR G4 A (acc++[d])) else FgG (Pv (i+1) acc) G3
  | none=>False)∧∀ acc G,Pv ds.length acc G→∃ G',G'.m A=none∧Sub G' G∧R acc G'
def Ts2(X:Cx)(ifs:List Expr)(t:TT2):Prop:=PTs X ifs (lT X.K t)
def yq:TT2:=fun _ G R=>R true G
theorem wO:Ts2 X [] yq:=by
 intro pins s σ1 H Q I h
 refine zKv pins s σ1 H Q I ?_
 obtain⟨σ,G,R,r,q,k⟩:=h
 exact k true G q H (.refl H) r.g
theorem zAJ{t:TT2}(h:T2 X c t):Ts2 X [c] t:=zKw h
theorem Rel.app{K:PySem.W.Frag}{σ:S2}{G:Gp}{σ1:L2.St}{H:Hp}(r:Rel K σ G σ1 H){ds:List D}{vs:List V}(h:Dens K H ds vs):Rel K (σ++ds.map some) G (σ1++vs.map some) H :=
 ⟨r.g,by simp[r.len,h.length],fun i d e=>by
  by_cases hi:i<σ.length
  ·rw[List.getElem?_append_left hi] at e
   obtain⟨v,e1,e2⟩:=r.val i d e
   exact⟨v,by rw[List.getElem?_append_left (by rw[← r.len];exact hi)];exact e1,e2⟩
  ·rw[List.getElem?_append_right (by omega),List.getElem?_map] at e
   cases q:ds[i-σ.length]? with
   | none=>rw[q] at e;cases e
   | some d' =>
    rw[q] at e;cases e
    obtain⟨v,e1,e2⟩:=h.get q
    exact⟨v,by rw[List.getElem?_append_right (by rw[← r.len];omega),List.getElem?_map,← r.len,e1];rfl,e2⟩⟩
theorem zBU{K:PySem.W.Frag}{wi:TI2}{bd:D→Option (List D)}{tc:TT2}{te:zk}{n:Nat}{g:TG}{N:Nat}
  (hb:∀(σ1:L2.St) (H:Hp) (d:D) (v:V) (us:List D) (Q:L2.St→Hp→Prop),σ1.length=N→zS K H d v→bd d=some us→us.length=n→(∀ vs,Dens K H us vs→Q (σ1++vs.map some) H)→g v (σ1++List.replicate n none) H Q)
  (hn:∀ d us,bd d=some us→us.length=n)
  {σ1:L2.St} {H:Hp} {Q:VK} (hl:σ1.length=N) (h:lL K (za wi bd tc te) σ1 H Q):zHJ n (lI K wi) g (lT K tc) (lE K te) σ1 H Q:=by
 obtain⟨σ,G,R,r,q,k⟩:=h
 refine⟨σ,G,_,r,q,fun ds gd G1 q1 J H1 g1 r1 W hz A hA=>?_⟩
 obtain⟨Pv,p0,pg,pt,pd⟩:=q1 A (r1.free hA)
 refine⟨fun i m H2=>m=ds.length-i∧i≤ds.length∧yA H1 H2∧∃ as G2,yI K G2 H2∧Pv i as G2,⟨ds.length,by simp,Nat.zero_le _,.fresh hA,[],zR G1 A [],r1.new hA .nil,p0⟩,?_⟩
 rintro i m H2 ⟨rfl,hi',g2,as,G2,r2,p2⟩
 obtain⟨gd2,al,hlen⟩:=pg i as G2 hi' p2
 by_cases hlt:i<ds.length
 ·refine .inr ⟨W.go i G2 H2 gd2 r2 g2 hlt,fun x H3 y=>?_⟩
  obtain⟨gy,ry,d,e3,dv⟩:=W.yld i G2 H2 x H3 gd2 r2 g2 hlt y
  replace g2:=g2.trans gy
  replace r2:=ry
  have q3:=pt i d as G2 e3 p2
  cases eb:bd d with
  | none=>rw[eb] at q3;exact q3.elim
  | some us =>
   rw[eb] at q3
   dsimp only at q3
   have hus:=hn d us eb
   refine hb σ1 H3 d x us _ hl dv eb hus fun vs hv=>⟨?_,?_,?_⟩
   ·rw[List.take_append_of_le_length (Nat.le_refl _),List.take_length]
   ·rw[List.length_append,List.length_map,← hv.length,hus]
   ·have rr:Rel K (σ++us.map some) G2 (σ1++vs.map some) H3:=(r.to (g1.trans g2) r2).app hv
    refine⟨σ++us.map some,G2,_,rr,q3,fun b G4 q4 H4 g4 r4=>?_⟩
    cases b with
    | false =>
     obtain⟨G5,s5,p5⟩:=q4
     exact⟨ds.length-(i+1),by omega,rfl,hlt,g2.trans g4,as,G5,r4.sub s5,p5⟩
    | true =>
     refine⟨σ++us.map some,G4,_,rr.to g4 r4,q4,fun d5 G5 q5 v H5 g5 r5 d5v=>?_⟩
     obtain⟨a5,G6,s6,p6⟩:=q5
     obtain⟨acc,e6,d6⟩:=r5.m A as a5
     refine⟨acc,e6,by rw[← d6.length];omega,ds.length-(i+1),by omega,rfl,hlt,((g2.trans g4).trans g5).trans (.lst e6),as++[d5],G6,?_,p6⟩
     exact(r5.put e6 (d6.append (.cons d5v .nil))).sub s6
 ·have e:i=ds.length:=by omega
  subst e
  obtain⟨G',n',s',q'⟩:=pd as G2 p2
  obtain⟨acc,e6,d6⟩:=r2.m A as al
  exact .inl ⟨W.stop G2 H2 gd2 r2 g2,k as G' q' A acc H2 (g1.trans g2) (r2.sub s') n' e6 d6⟩
def bd1:D→Option (List D):=fun d=>some [d]
def bd2:D→Option (List D):=fun d=>match d with | .tup [a,b]=>some [a,b] | _=>none
section
variable {ifs:List Expr} {sc:Scope} {N0:List Str} {wi:TI2} {tc:TT2}
theorem PE.at{t t':TE}(h:PE X e t)(hm:∀ σ H Q,σ.length=X.N.length→t' σ H Q→t σ H Q):PE X e t':=fun pins s σ H Q I q=>h pins s σ H Q I (hm σ H Q I.len q)
theorem PS.at{st:Stmt}{t t':TS}(h:PS X st t)(hm:∀ E σ H,σ.length=X.N.length→t' E σ H→t E σ H):PS X st t':=fun pins s σ H E I q=>h pins s σ H E I (hm E σ H I.len q)
theorem zFM(s t:List (Option V))(x:Option V):List.set (s++t) (List.length s) x=s++t.set 0 x:=by
 rw[List.set_append_right _ _ (Nat.le_refl _),Nat.sub_self]
theorem zJI(s t:List (Option V))(x:Option V):List.set (s++t) (List.length s+1) x=s++t.set 1 x:=by
 rw[List.set_append_right _ _ (show s.length≤s.length+1 by omega),Nat.add_sub_cancel_left]
theorem bind1{K:PySem.W.Frag}{N:Nat}(σ1:L2.St)(H:Hp)(d:D)(v:V)(us:List D)(Q:L2.St→Hp→Prop)(hl:σ1.length=N)(dv:zS K H d v)(eb:bd1 d=some us)(hus:us.length=1)(h:∀ vs,Dens K H us vs→Q (σ1++vs.map some) H):zBg N v (σ1++List.replicate 1 none) H Q:=by
 cases eb
 have:=h [v] (.cons dv .nil)
 show Q (List.set (σ1++[none]) N (some v)) H
 rw[← hl,zFM]
 exact this
theorem zNs{K:PySem.W.Frag}{N:Nat}(σ1:L2.St)(H:Hp)(d:D)(v:V)(us:List D)(Q:L2.St→Hp→Prop)(hl:σ1.length=N)(dv:zS K H d v)(eb:bd2 d=some us)(hus:us.length=2)(h:∀ vs,Dens K H us vs→Q (σ1++vs.map some) H):zMH K 2 (zFF (zBg N) (zFF (zBg (N+1)) zMG)) v (σ1++List.replicate 2 none) H Q:=by
 unfold bd2 at eb
 split at eb
 ·rename_i d1 d2
  cases eb
  unfold zS at dv
  obtain⟨a,xs,rfl,hs,hd⟩:=dv
  have hd0:=hd
  unfold Dens at hd
  obtain⟨x1,r1,rfl,h1,hd⟩:=hd
  unfold Dens at hd
  obtain⟨x2,r2,rfl,h2,hd⟩:=hd
  unfold Dens at hd
  subst hd
  refine⟨a,[x1,x2],rfl,hs,rfl,x1,[x2],rfl,x2,[],rfl,rfl,?_⟩
  have:=h [x1,x2] hd0
  rw[← hl]
  have e1:List.set (σ1++List.replicate 2 none) (List.length σ1) (some x1)=σ1++[some x1,none]:=zFM σ1 _ _
  rw[e1,zJI]
  exact this
 ·cases eb
theorem zKx(x:Str){px:Pos}(hc:X.calm=true)(T:zBp X sc N0)(hi:I2 X (.Name x px) iter wi)
  (hnd:(N0++[x]).Nodup) (hx:(relabel sc X.env).names.lookup x=some .local)
  (ht:∀ C s H fp pins,Ts2 (X.comp (N0++[x]) sc C s H fp pins) ifs tc) (he:∀ C s H fp pins,E2 (X.comp (N0++[x]) sc C s H fp pins) elt te)
  (hs:∀ x,foldedSetIterable iter X.env x=pure x:=by intro _;rfl):F2 X (.ListComp elt [⟨.Name x px,iter,ifs,0⟩] sc pos) (za wi bd1 tc te):=by
 refine PE.at (zHK (own:=[x]) (g:=zBg X.N.length) (tc:=lT X.K tc) (te:=lE X.K te) hc T hi (fun C s H fp pins=>zAU (X:=X.comp (N0++[x]) sc C s H fp pins) hnd (by
  show(N0++[x])[X.N.length]?=some x
  rw[← T.len];simp) (.inl hx) (.inr hx)) ht he hs) fun σ H Q hl h=>?_
 exact zBU (n:=1) (N:=X.N.length) bind1 (fun d us e=>by cases e;rfl) hl h
theorem zKy(x y:Str){px py pt:Pos}{kk:Nat}(hc:X.calm=true)(T:zBp X sc N0)(hi:I2 X (.Tuple [.Name x px,.Name y py] kk pt) iter wi)
  (hnd:(N0++[x,y]).Nodup) (hx:(relabel sc X.env).names.lookup x=some .local) (hy:(relabel sc X.env).names.lookup y=some .local)
  (ht:∀ C s H fp pins,Ts2 (X.comp (N0++[x,y]) sc C s H fp pins) ifs tc) (he:∀ C s H fp pins,E2 (X.comp (N0++[x,y]) sc C s H fp pins) elt te)
  (hs:∀ x,foldedSetIterable iter X.env x=pure x:=by intro _;rfl):F2 X (.ListComp elt [⟨.Tuple [.Name x px,.Name y py] kk pt,iter,ifs,0⟩] sc pos) (za wi bd2 tc te):=by
 refine PE.at (zHK (own:=[x,y]) (g:=zMH X.K 2 (zFF (zBg X.N.length) (zFF (zBg (X.N.length+1)) zMG))) (tc:=lT X.K tc) (te:=lE X.K te) hc T hi (fun C s H fp pins=>?_) ht he hs) fun σ H Q hl h=>?_
 ·have e1:(X.comp (N0++[x,y]) sc C s H fp pins).N[X.N.length]?=some x:=by
   show(N0++[x,y])[X.N.length]?=some x
   rw[← T.len];simp
  have e2:(X.comp (N0++[x,y]) sc C s H fp pins).N[X.N.length+1]?=some y:=by
   show(N0++[x,y])[X.N.length+1]?=some y
   rw[← T.len];simp
  exact zI3 (X:=X.comp (N0++[x,y]) sc C s H fp pins) (n:=2) hc (zBv (zAU hnd e1 (.inl hx) (.inr hx)) (zBv (zAU hnd e2 (.inl hy) (.inr hy)) zHC))
 ·refine zBU (n:=2) (N:=X.N.length) zNs (fun d us e=>?_) hl h
  unfold bd2 at e
  split at e<;>first | (cases e;rfl) | (cases e;done)
def zAh(i:Nat)(t:TL2):yy:=fun E σ G=>t σ G fun ds G'=>∀ l,G'.m l=none→E.nx (σ.set i (some (.adr l))) (zR G' l ds)
theorem zGP(i:Nat)(x:Str){y:Str}{px py spos:Pos}(hc:X.calm=true)(T:zBp X sc N0)(hi:I2 X (.Name x px) iter wi)
  (hnd:(N0++[x]).Nodup) (hx:(relabel sc X.env).names.lookup x=some .local)
  (ht:∀ C s H fp pins,Ts2 (X.comp (N0++[x]) sc C s H fp pins) ifs tc) (he:∀ C s H fp pins,E2 (X.comp (N0++[x]) sc C s H fp pins) elt te)
  (hN:X.N.Nodup) (hy:X.N[i]?=some y) (hl:X.env.scope.names.lookup y=some .local)
  (hsw:swapsWith (.ListComp elt [⟨.Name x px,iter,ifs,0⟩] sc pos) (some (.Name y py)) spos.line X.env=pure true)
  (hs:∀ x,foldedSetIterable iter X.env x=pure x:=by intro _;rfl):P2 X (.Assign [.Name y py] (.ListComp elt [⟨.Name x px,iter,ifs,0⟩] sc pos) spos) (zAh i (za wi bd1 tc te)):=by
 refine PS.at (zGM (own:=[x]) (g:=zBg X.N.length) (tc:=lT X.K tc) (te:=lE X.K te) hc T hi (fun C s H fp pins=>zAU (X:=X.comp (N0++[x]) sc C s H fp pins) hnd (by
  show(N0++[x])[X.N.length]?=some x
  rw[← T.len];simp) (.inl hx) (.inr hx)) ht he hN hy hl hsw hs) fun E σ1 H hl h=>?_
 obtain⟨σ,G,D2,r,q,k⟩:=h
 refine zBU (n:=1) (N:=X.N.length) bind1 (fun d us e=>by cases e;rfl) hl ⟨σ,G,_,r,q,fun ds G' q' l xs H' g' r' n e d=>?_⟩
 exact k.nx _ _ (q' l n) _ H' g' ((r.to g' (r'.own e d)).set i (by unfold zS;rfl))
end
end
end L3
namespace L3
open PySem PySem.Spec PyProof.Rows L2
section
variable {X:Cx} {a b c e o:Expr} {es:List Expr} {pos p:Pos} {ta tb te:zk}
def zCZ(ta tb:zk):zk:=fun σ G R=>ta σ G fun x G1=>match x with | .bl c=>if c=true then tb σ G1 R else R (.bl false) G1 | _=>False
def zMe(ta:zk):zk:=fun σ G R=>ta σ G fun x G1=>match x with | .bl c=>R (.bl (!c)) G1 | _=>False
theorem zED{op}(h:E2 X a ta):E2 X (.BoolOp op [a] pos) ta:=zMB h
theorem zEE{rest:List Expr}(ha:E2 X a ta)(hb:E2 X (.BoolOp .And (b::rest) pos) tb):E2 X (.BoolOp .And (a::b::rest) pos) (zCZ ta tb):=by
 refine PE.mono (zMC ha hb) ?_
 rintro σ1 H Q ⟨σ,G,R,r,q,k⟩
 refine⟨σ,G,_,r,q,fun d G1 q1 v H1 g1 r1 d1=>?_⟩
 cases d with
 | bl c =>
  unfold zS at d1
  refine⟨c,d1,?_⟩
  cases c with
  | true=>exact⟨σ,G1,R,r.to g1 r1,q1,fun d G' q' v H' g'=>k d G' q' v H' (g1.trans g')⟩
  | false=>exact k _ G1 q1 _ H1 g1 r1 (by unfold zS;rfl)
 | _=>exact q1.elim
theorem zNt(ha:E2 X a ta):E2 X (.UnaryOp .Not a pos) (zMe ta):=by
 refine PE.mono (zMD ha) ?_
 rintro σ1 H Q ⟨σ,G,R,r,q,k⟩
 refine⟨σ,G,_,r,q,fun d G1 q1 v H1 g1 r1 d1=>?_⟩
 cases d with
 | bl c =>
  unfold zS at d1
  exact⟨c,d1,k _ G1 q1 _ H1 g1 r1 (by unfold zS;rfl)⟩
 | _=>exact q1.elim
theorem zCj(h:E2 X e te)(he:∀ whole,isTrue e X.env whole=(do let v ← whole;standAt e.pos;holding [v] (truthy v)):=by intro _;rfl):T2 X e (xB te):=by
 refine PT.mono (zL7 h he) ?_
 rintro σ1 H Q ⟨σ,G,R,r,q,k⟩
 refine⟨σ,G,_,r,q,fun d G1 q1 v H1 g1 r1 d1=>?_⟩
 cases d with
 | bl c =>
  unfold zS at d1
  exact⟨c,d1,k _ G1 q1 H1 g1 r1⟩
 | _=>exact q1.elim
section
variable {t u:TT2} {rest:List Expr}
def W2(X:Cx)(e:Expr)(t:TT2):Prop:=PW X e (lT X.K t)
theorem W2.test(h:W2 X e t):T2 X e t:=PW.pt h
def zB0(t u:TT2):TT2:=fun σ G R=>t σ G fun c G1=>if c=true then u σ G1 R else R false G1
def zBD(t u:TT2):TT2:=fun σ G R=>t σ G fun c G1=>if c=true then R true G1 else u σ G1 R
def zA9(t:TT2):TT2:=fun σ G R=>t σ G fun c G1=>R (!c) G1
theorem PW.mono{t t':TT}(h:PW X e t)(hm:∀ σ H Q,t' σ H Q→t σ H Q):PW X e t':=fun w pins s σ H Q I q=>h w pins s σ H Q I (hm σ H Q q)
theorem zMf(ha:T2 X a t):W2 X (.BoolOp .And [a] pos) t:=zKe ha
theorem zHO(ha:T2 X a t):W2 X (.BoolOp .Or [a] pos) t:=zL8 ha
theorem w_and(ha:T2 X a t)(hb:W2 X (.BoolOp .And (b::rest) pos) u):W2 X (.BoolOp .And (a::b::rest) pos) (zB0 t u):=by
 refine PW.mono (zL9 ha hb) ?_
 rintro σ1 H Q ⟨σ,G,R,r,q,k⟩
 refine⟨σ,G,_,r,q,fun c G1 q1 H1 g1 r1=>?_⟩
 cases c with
 | true=>exact⟨σ,G1,R,r.to g1 r1,q1,fun b G' q' H' g'=>k b G' q' H' (g1.trans g')⟩
 | false=>exact k _ G1 q1 H1 g1 r1
theorem w_or(ha:T2 X a t)(hb:W2 X (.BoolOp .Or (b::rest) pos) u):W2 X (.BoolOp .Or (a::b::rest) pos) (zBD t u):=by
 refine PW.mono (zNU ha hb) ?_
 rintro σ1 H Q ⟨σ,G,R,r,q,k⟩
 refine⟨σ,G,_,r,q,fun c G1 q1 H1 g1 r1=>?_⟩
 cases c with
 | true=>exact k _ G1 q1 H1 g1 r1
 | false=>exact⟨σ,G1,R,r.to g1 r1,q1,fun b G' q' H' g'=>k b G' q' H' (g1.trans g')⟩
theorem zJJ(ha:T2 X a t):T2 X (.UnaryOp .Not a pos) (zA9 t):=by
 refine PT.mono (zMA ha) ?_
 rintro σ1 H Q ⟨σ,G,R,r,q,k⟩
 exact⟨σ,G,_,r,q,fun c G1 q1 H1 g1 r1=>k _ G1 q1 H1 g1 r1⟩
end
theorem zB1(ha:E2 X a ta)(hb:E2 X b tb):E2 X (.BinOp a .Sub b pos) (zP (wK fun i j=>.int (i-j)) ta tb):=zEi zMR (wW fun _ _=>⟨rfl,rfl⟩) ha hb
theorem zCa(ha:E2 X a ta)(hb:E2 X b tb):E2 X (.BinOp a .Mult b pos) (zP (yW zDz fun i j=>.int (i*j)) ta tb):=zEi zMS (zBy fun _ _=>⟨rfl,rfl⟩) ha hb
theorem zGQ(ha:E2 X a ta)(hb:E2 X b tb):E2 X (.BinOp a .FloorDiv b pos) (zP (yW zI6 fun i j=>.int (i / j)) ta tb):=zEi zKj (zBy fun _ _=>⟨rfl,rfl⟩) ha hb
theorem zDH(ha:E2 X a ta)(hb:E2 X b tb):E2 X (.BinOp a .Mod b pos) (zP (yW (fun _ j=>0<j) fun i j=>.int (i%j)) ta tb):=zEi zMT (zBy fun _ _=>⟨rfl,rfl⟩) ha hb
theorem zLn(ha:E2 X a ta)(hb:E2 X b tb):E2 X (.BinOp a .Pow b pos) (zP (yW zDB fun i j=>.int (i ^ j.toNat)) ta tb):=zEi zMU (zBy fun _ _=>⟨rfl,rfl⟩) ha hb
theorem zNu(ha:E2 X a ta)(hb:E2 X b tb):E2 X (.Compare a [.Lt] [b] pos) (zP (wK fun i j=>.bl (decide (i<j))) ta tb):=zHM zFH (wW fun _ _=>⟨rfl,rfl⟩) ha hb (zBF _)
theorem zOV(ha:E2 X a ta)(hb:E2 X b tb):E2 X (.Compare a [.LtE] [b] pos) (zP (wK fun i j=>.bl (decide (i≤j))) ta tb):=zHM zHD (wW fun _ _=>⟨rfl,rfl⟩) ha hb (zBF _)
theorem zMg(ha:E2 X a ta)(hb:E2 X b tb):T2 X (.Compare a [.Lt] [b] pos) (xB (zP (wK fun i j=>.bl (decide (i<j))) ta tb)):=zDD zFH (wW fun _ _=>⟨rfl,rfl⟩) ha hb (zBF _)
theorem zOW(ha:E2 X a ta)(hb:E2 X b tb):T2 X (.Compare a [.Gt] [b] pos) (xB (zP (wK fun i j=>.bl (decide (j<i))) ta tb)):=zDD zNd (wW fun _ _=>⟨rfl,rfl⟩) ha hb (zBF _)
theorem zOX(ha:E2 X a ta)(hb:E2 X b tb):T2 X (.Compare a [.GtE] [b] pos) (xB (zP (wK fun i j=>.bl (decide (j≤i))) ta tb)):=zDD zNe (wW fun _ _=>⟨rfl,rfl⟩) ha hb (zBF _)
mutual
def wL:D→D→Bool
 | .non,.non=>true
 | .bl a,.bl b=>a==b
 | .int a,.int b=>a==b
 | .bl a,.int b=>(if a then 1 else 0)==b
 | .int a,.bl b=>a==(if b then 1 else 0)
 | .str a,.str b=>a==b
 | .tup a,.tup b=>eqDs a b
 | _,_=>false
def eqDs:List D→List D→Bool
 | [],[]=>true
 | x::xs,y::ys=>wL x y&&eqDs xs ys
 | _,_=>false
end
def flat:Nat→D→Bool
 | _,.non=>true
 | _,.bl _=>true
 | _,.int _=>true
 | _,.str _=>true
 | _,.adr _=>false
 | _,.dic _=>false
 | 0,.tup _=>false
 | n+1,.tup ds=>ds.all (flat n)
theorem zDI:∀(xs ys:List D),eqDs xs ys=((List.range (min xs.length ys.length)).all (fun j=>wL (xs.getD j .non) (ys.getD j .non))&&xs.length==ys.length)
 | [],[]=>by simp[eqDs]
 | [],y::ys=>by simp[eqDs]
 | x::xs,[]=>by simp[eqDs]
 | x::xs,y::ys=>by
  unfold eqDs
  rw[zDI xs ys]
  have e1:min (x::xs).length (y::ys).length=min xs.length ys.length+1:=by simp only[List.length_cons];omega
  rw[e1,List.range_succ_eq_map,List.all_cons,List.all_map]
  have e2:((x::xs).length==(y::ys).length)=(xs.length==ys.length):=by
   rw[Bool.eq_iff_iff];simp
  rw[e2,Bool.and_assoc]
  rfl
mutual
theorem zDJ:∀ d:D,(∀ n,flat n d=true→wL d d=true)
 | .non,_,_=>by simp[wL]
 | .bl _,_,_=>by simp[wL]
 | .int _,_,_=>by simp[wL]
 | .str _,_,_=>by simp[wL]
 | .adr _,n,h=>by cases n<;>simp[flat] at h
 | .dic _,n,h=>by cases n<;>simp[flat] at h
 | .tup ds,0,h=>by simp[flat] at h
 | .tup ds,n+1,h=>by
  unfold wL
  exact eqDs_refl ds n (by simpa[flat] using h)
theorem eqDs_refl:∀ ds:List D,(∀ n,(∀ d∈ds,flat n d=true)→eqDs ds ds=true)
 | [],_,_=>by simp[eqDs]
 | d::ds,n,h=>by
  unfold eqDs
  rw[zDJ d n (h d List.mem_cons_self),eqDs_refl ds n fun x hx=>h x (List.mem_cons_of_mem _ hx)]
  rfl
end
section
variable {pins:List (Addr×Obj)} {σ1:L2.St} {H:Hp} {s:Shared}
mutual
theorem zS.inj(I:zU X pins σ1 H s):∀ {d d':D} {v:V} {n n':Nat},zS X.K H d v→zS X.K H d' v→flat n d=true→flat n' d'=true→d=d' 
 | .non,d',v,n,n',h,h',f,f'=>by
  unfold zS at h;subst h
  cases d' with
  | tup _=>unfold zS at h';obtain⟨_,_,e,_⟩:=h';cases e
  | dic _=>unfold zS at h';cases h'.1
  | _=>unfold zS at h';first | rfl | cases h'
 | .bl b,d',v,n,n',h,h',f,f'=>by
  unfold zS at h;subst h
  cases d' with
  | tup _=>unfold zS at h';obtain⟨_,_,e,_⟩:=h';cases e
  | dic _=>unfold zS at h';cases h'.1
  | _=>unfold zS at h';first | cases h';rfl | cases h'
 | .int b,d',v,n,n',h,h',f,f'=>by
  unfold zS at h;subst h
  cases d' with
  | tup _=>unfold zS at h';obtain⟨_,_,e,_⟩:=h';cases e
  | dic _=>unfold zS at h';cases h'.1
  | _=>unfold zS at h';first | cases h';rfl | cases h'
 | .str b,d',v,n,n',h,h',f,f'=>by
  unfold zS at h;subst h
  cases d' with
  | tup _=>unfold zS at h';obtain⟨_,_,e,_⟩:=h';cases e
  | dic _=>unfold zS at h';cases h'.1
  | _=>unfold zS at h';first | cases h';rfl | cases h'
 | .adr _,d',v,n,n',h,h',f,f'=>by cases n<;>simp[flat] at f
 | .dic _,d',v,n,n',h,h',f,f'=>by cases n<;>simp[flat] at f
 | .tup ds,d',v,n,n',h,h',f,f'=>by
  unfold zS at h
  obtain⟨a,xs,rfl,hs,hd⟩:=h
  cases d' with
  | tup ds' =>
   unfold zS at h'
   obtain⟨a',xs',e,hs',hd'⟩:=h'
   cases e
   have:=I.tuple_inj hs hs'
   subst this
   cases n with
   | zero=>simp[flat] at f
   | succ n =>
    cases n' with
    | zero=>simp[flat] at f'
    | succ n'=>rw[Dens.inj I hd hd' (by simpa[flat] using f) (by simpa[flat] using f')]
  | adr _=>cases n'<;>simp[flat] at f'
  | dic _=>cases n'<;>simp[flat] at f'
  | _=>unfold zS at h';cases h'
theorem Dens.inj(I:zU X pins σ1 H s):∀ {ds ds':List D} {xs:List V} {n n':Nat},Dens X.K H ds xs→Dens X.K H ds' xs→(∀ d∈ds,flat n d=true)→(∀ d∈ds',flat n' d=true)→ds=ds'
 | [],ds',xs,n,n',h,h',f,f'=>by
  unfold Dens at h;subst h
  cases ds' with
  | nil=>rfl
  | cons _ _=>unfold Dens at h';obtain⟨_,_,e,_⟩:=h';cases e
 | d::ds,ds',xs,n,n',h,h',f,f'=>by
  unfold Dens at h
  obtain⟨x,r,rfl,h1,h2⟩:=h
  cases ds' with
  | nil=>unfold Dens at h';cases h'
  | cons d' ds' =>
   unfold Dens at h'
   obtain⟨x',r',e,h1',h2'⟩:=h'
   cases e
   rw[zS.inj I h1 h1' (f d List.mem_cons_self) (f' d' List.mem_cons_self),Dens.inj I h2 h2' (fun z hz=>f z (List.mem_cons_of_mem _ hz)) fun z hz=>f' z (List.mem_cons_of_mem _ hz)]
end
theorem in1_units{A:Around}:A.in1.units=A.units+1:=rfl
theorem zJK(I:zU X pins σ1 H s):∀(n:Nat) (d d':D) (v v':V) (u u':Value) (A:Around),zS X.K H d v→zS X.K H d' v'→RelV v u→RelV v' u'→flat n d=true→flat n d'=true→A.units+n<cLine→SeqAt.EqAt A s u u' (wL d d'):=by
 intro n
 induction n with
 | zero =>
  intro d d' v v' u u' A h h' r r' f f' hu
  have fv:∀ {d:D} {v:V},flat 0 d=true→zS X.K H d v→zHI v=true∧v=vOf d:=fun {d v} f h=>by
   cases d<;>first | (simp[flat] at f;done) | (unfold zS at h;subst h;exact⟨rfl,rfl⟩)
  obtain⟨f1,e1⟩:=fv f h
  obtain⟨f2,e2⟩:=fv f' h'
  have q:=zJA (A:=A) (s:=s) r r' f1 f2
  have e:eqV v v'=wL d d':=by
   rw[e1,e2]
   cases d<;>first | (simp[flat] at f;done) | (cases d'<;>first | (simp[flat] at f';done) | rfl)
  rw[← e];exact q
 | succ n ih =>
  intro d d' v v' u u' A h h' r r' f f' hu
  by_cases hs:flat 0 d=true∧flat 0 d'=true
  ·have fv:∀ {d:D} {v:V},flat 0 d=true→zS X.K H d v→zHI v=true∧v=vOf d:=fun {d v} f h=>by
    cases d<;>first | (simp[flat] at f;done) | (unfold zS at h;subst h;exact⟨rfl,rfl⟩)
   obtain⟨f1,e1⟩:=fv hs.1 h
   obtain⟨f2,e2⟩:=fv hs.2 h'
   have q:=zJA (A:=A) (s:=s) r r' f1 f2
   have e:eqV v v'=wL d d':=by
    rw[e1,e2]
    cases d<;>first | (simp[flat] at hs;done) | (cases d'<;>first | (simp[flat] at hs;done) | rfl)
   rw[← e];exact q
  ·have hu0:A.units<cLine:=by omega
   cases d with
   | tup ds =>
    unfold zS at h
    obtain⟨a,xs,rfl,hsq,hd⟩:=h
    cases r
    obtain⟨its,rv,tp,_⟩:=I.tuple hsq
    have tp':s.heap.IsTuple a its.toArray:=tp
    cases d' with
    | tup ds' =>
     unfold zS at h'
     obtain⟨a',xs',rfl,hsq',hd'⟩:=h'
     cases r'
     obtain⟨its',rv',tp2,_⟩:=I.tuple hsq'
     by_cases ha:a=a'
     ·subst ha
      have:=I.tuple_inj hsq hsq'
      subst this
      have hds:ds=ds':=Dens.inj I hd hd' (by simpa[flat] using f) (by simpa[flat] using f')
      subst hds
      have e:wL (.tup ds) (.tup ds)=true:=zDJ _ _ f
      rw[e]
      exact SeqAt.EqAt.same _
     ·have q:=SeqAt.EqAt.of_refs ha (SeqAt.RcAt.tuples (A:=A) (s:=s) (e:=fun j=>wL (ds.getD j .non) (ds'.getD j .non)) tp' (show s.heap.IsTuple a' its'.toArray from tp2) hu0 fun j h1 h2=>by
       have h1':j<its.length:=by simpa using h1
       have h2':j<its'.length:=by simpa using h2
       have l1:=hd.length
       have l2:=rv.length
       have l3:=hd'.length
       have l4:=rv'.length
       obtain⟨x,ex,dx⟩:=hd.get (i:=j) (d:=ds[j]'(by omega)) (by simp)
       obtain⟨y,ey,dy⟩:=hd'.get (i:=j) (d:=ds'[j]'(by omega)) (by simp)
       obtain⟨ux,eux,rx⟩:=rv.get ex
       obtain⟨uy,euy,ry⟩:=rv'.get ey
       have e1:its.toArray[j]=ux:=by
        have:=(List.getElem?_eq_some_iff.mp eux).2
        simpa using this
       have e2:its'.toArray[j]=uy:=by
        have:=(List.getElem?_eq_some_iff.mp euy).2
        simpa using this
       have g1:ds.getD j .non=ds[j]'(by omega):=by simp[List.getD,(show j<ds.length by omega)]
       have g2:ds'.getD j .non=ds'[j]'(by omega):=by simp[List.getD,(show j<ds'.length by omega)]
       rw[e1,e2]
       show SeqAt.EqAt A.in1 s ux uy (wL (ds.getD j .non) (ds'.getD j .non))
       rw[g1,g2]
       refine ih _ _ x y ux uy A.in1 dx dy rx ry ?_ ?_ (by rw[in1_units];omega)
       ·have:∀ d∈ds,flat n d=true:=by simpa[flat] using f
        exact this _ (List.getElem_mem _)
       ·have:∀ d∈ds',flat n d=true:=by simpa[flat] using f'
        exact this _ (List.getElem_mem _))
      have e:wL (.tup ds) (.tup ds')=((List.range (min its.toArray.size its'.toArray.size)).all (fun j=>wL (ds.getD j .non) (ds'.getD j .non))&&its.toArray.size==its'.toArray.size):=by
       show eqDs ds ds'=_
       rw[zDI]
       simp[hd.length,rv.length,hd'.length,rv'.length]
      rw[e];exact q
    | adr _=>simp[flat] at f'
    | dic _=>simp[flat] at f'
    | non=>unfold zS at h';subst h';cases r';exact SeqAt.EqAt.tuple_none tp' hu0
    | bl _=>unfold zS at h';subst h';cases r';exact SeqAt.EqAt.tuple_bool _ tp' hu0
    | int _=>unfold zS at h';subst h';obtain⟨t,rfl⟩:=r';exact SeqAt.EqAt.tuple_int _ _ tp' hu0
    | str _=>unfold zS at h';subst h';obtain⟨t,rfl⟩:=r';exact SeqAt.EqAt.tuple_str _ _ tp' hu0
   | adr _=>simp[flat] at f
   | dic _=>simp[flat] at f
   | non =>
    cases d' with
    | tup ds' =>
     unfold zS at h h';subst h;cases r
     obtain⟨a',xs',rfl,hsq',hd'⟩:=h'
     cases r'
     obtain⟨its',rv',tp2,_⟩:=I.tuple hsq'
     exact SeqAt.EqAt.none_tuple (show s.heap.IsTuple a' its'.toArray from tp2) hu0
    | adr _=>simp[flat] at f'
    | dic _=>simp[flat] at f'
    | _=>exact absurd ⟨rfl,rfl⟩ hs
   | bl _ =>
    cases d' with
    | tup ds' =>
     unfold zS at h h';subst h;cases r
     obtain⟨a',xs',rfl,hsq',hd'⟩:=h'
     cases r'
     obtain⟨its',rv',tp2,_⟩:=I.tuple hsq'
     exact SeqAt.EqAt.bool_tuple _ (show s.heap.IsTuple a' its'.toArray from tp2) hu0
    | adr _=>simp[flat] at f'
    | dic _=>simp[flat] at f'
    | _=>exact absurd ⟨rfl,rfl⟩ hs
   | int _ =>
    cases d' with
    | tup ds' =>
     unfold zS at h h';subst h;obtain⟨t,rfl⟩:=r
     obtain⟨a',xs',rfl,hsq',hd'⟩:=h'
     cases r'
     obtain⟨its',rv',tp2,_⟩:=I.tuple hsq'
     exact SeqAt.EqAt.int_tuple _ _ (show s.heap.IsTuple a' its'.toArray from tp2) hu0
    | adr _=>simp[flat] at f'
    | dic _=>simp[flat] at f'
    | _=>exact absurd ⟨rfl,rfl⟩ hs
   | str _ =>
    cases d' with
    | tup ds' =>
     unfold zS at h h';subst h;obtain⟨t,rfl⟩:=r
     obtain⟨a',xs',rfl,hsq',hd'⟩:=h'
     cases r'
     obtain⟨its',rv',tp2,_⟩:=I.tuple hsq'
     exact SeqAt.EqAt.str_tuple _ _ (show s.heap.IsTuple a' its'.toArray from tp2) hu0
    | adr _=>simp[flat] at f'
    | dic _=>simp[flat] at f'
    | _=>exact absurd ⟨rfl,rfl⟩ hs
end
end
end L3
namespace L3
open PySem PySem.Spec PyProof.Rows L2
section
variable {X:Cx} {pins:List (Addr×Obj)} {σ1:L2.St} {H:Hp} {s:Shared} {A:Around}
theorem zCz(I:zU X pins σ1 H s){n:Nat}{ds ds':List D}{xs xs':List V}{its its':List Value}(hd:Dens X.K H ds xs)(hd':Dens X.K H ds' xs')(rv:zW xs its)(rv':zW xs' its')
  (f:∀ d∈ds,flat n d=true) (f':∀ d∈ds',flat n d=true) (hu:A.units+n<cLine) (j:Nat) (h1:j<its.toArray.size) (h2:j<its'.toArray.size) :
  SeqAt.EqAt A s its.toArray[j] its'.toArray[j] (wL (ds.getD j .non) (ds'.getD j .non)):=by
 have h1':j<its.length:=by simpa using h1
 have h2':j<its'.length:=by simpa using h2
 have l1:=hd.length
 have l2:=rv.length
 have l3:=hd'.length
 have l4:=rv'.length
 obtain⟨x,ex,dx⟩:=hd.get (i:=j) (d:=ds[j]'(by omega)) (by simp)
 obtain⟨y,ey,dy⟩:=hd'.get (i:=j) (d:=ds'[j]'(by omega)) (by simp)
 obtain⟨ux,eux,rx⟩:=rv.get ex
 obtain⟨uy,euy,ry⟩:=rv'.get ey
 have e1:its.toArray[j]=ux:=by
  have:=(List.getElem?_eq_some_iff.mp eux).2
  simpa using this
 have e2:its'.toArray[j]=uy:=by
  have:=(List.getElem?_eq_some_iff.mp euy).2
  simpa using this
 have g1:ds.getD j .non=ds[j]'(by omega):=by simp[List.getD,(show j<ds.length by omega)]
 have g2:ds'.getD j .non=ds'[j]'(by omega):=by simp[List.getD,(show j<ds'.length by omega)]
 rw[e1,e2,g1,g2]
 exact zJK I n _ _ x y ux uy A dx dy rx ry (f _ (List.getElem_mem _)) (f' _ (List.getElem_mem _)) hu
theorem zAq{ds ds':List D}{n n':Nat}(h:ds.length=n)(h':ds'.length=n'):eqDs ds ds'=((List.range (min n n')).all (fun j=>wL (ds.getD j .non) (ds'.getD j .non))&&n==n'):=by
 rw[zDI,h,h']
theorem zMh(I:zU X pins σ1 H s){n:Nat}{d d':D}{v v':V}{u u':Value}(h:zS X.K H d v)(h':zS X.K H d' v')(r:RelV v u)(r':RelV v' u')(f:flat n d=true)(f':flat n d'=true)(hu:A.units+n+1<cLine) :
  SeqAt.RcAt A s u u' (wL d d'):=by
 have hu0:A.units<cLine:=by omega
 have tupI:∀ {d:D} {v:V} {u:Value} {ds:List D},d=.tup ds→zS X.K H d v→RelV v u→∃ a xs its,u=.ref a∧Dens X.K H ds xs∧zW xs its∧s.heap.IsTuple a its.toArray:=fun {d v u ds} e h r=>by
  subst e
  unfold zS at h
  obtain⟨a,xs,rfl,hs,hd⟩:=h
  cases r
  obtain⟨its,rv,tp,_⟩:=I.tuple hs
  exact⟨a,xs,its,rfl,hd,rv,tp⟩
 cases d with
 | tup ds =>
  obtain⟨a,xs,its,rfl,hd,rv,tp⟩:=tupI rfl h r
  cases d' with
  | tup ds' =>
   obtain⟨a',xs',its',rfl,hd',rv',tp'⟩:=tupI rfl h' r'
   cases n with
   | zero=>simp[flat] at f
   | succ n =>
    have q:=SeqAt.RcAt.tuples (A:=A) (s:=s) tp tp' hu0 (zCz (A:=A.in1) I hd hd' rv rv' (by simpa[flat] using f) (by simpa[flat] using f') (by rw[in1_units];omega))
    have e:wL (.tup ds) (.tup ds')=((List.range (min its.toArray.size its'.toArray.size)).all (fun j=>wL (ds.getD j .non) (ds'.getD j .non))&&its.toArray.size==its'.toArray.size) :=
     zAq (by simp[hd.length,rv.length]) (by simp[hd'.length,rv'.length])
    rw[e];exact q
  | adr _=>cases n<;>simp[flat] at f'
  | dic _=>cases n<;>simp[flat] at f'
  | non=>unfold zS at h';subst h';cases r';exact SeqAt.RcAt.tuple_none tp hu0
  | bl _=>unfold zS at h';subst h';cases r';exact SeqAt.RcAt.tuple_bool _ tp hu0
  | int _=>unfold zS at h';subst h';obtain⟨t,rfl⟩:=r';exact SeqAt.RcAt.tuple_int _ _ tp hu0
  | str _=>unfold zS at h';subst h';obtain⟨t,rfl⟩:=r';exact SeqAt.RcAt.tuple_str _ _ tp hu0
 | adr _=>cases n<;>simp[flat] at f
 | dic _=>cases n<;>simp[flat] at f
 | non =>
  unfold zS at h;subst h;cases r
  cases d' with
  | tup ds'=>obtain⟨a',xs',its',rfl,hd',rv',tp'⟩:=tupI rfl h' r';exact SeqAt.RcAt.none_tuple tp' hu0
  | adr _=>cases n<;>simp[flat] at f'
  | dic _=>cases n<;>simp[flat] at f'
  | non=>unfold zS at h';subst h';cases r';exact SeqAt.RcAt.none_none
  | bl _=>unfold zS at h';subst h';cases r';exact SeqAt.RcAt.none_bool _
  | int _=>unfold zS at h';subst h';obtain⟨t,rfl⟩:=r';exact SeqAt.RcAt.none_int _ _
  | str _=>unfold zS at h';subst h';obtain⟨t,rfl⟩:=r';exact SeqAt.RcAt.none_str _ _
 | bl _ =>
  unfold zS at h;subst h;cases r
  cases d' with
  | tup ds'=>obtain⟨a',xs',its',rfl,hd',rv',tp'⟩:=tupI rfl h' r';exact SeqAt.RcAt.bool_tuple _ tp' hu0
  | adr _=>cases n<;>simp[flat] at f'
  | dic _=>cases n<;>simp[flat] at f'
  | non=>unfold zS at h';subst h';cases r';exact SeqAt.RcAt.bool_none _
  | bl _=>unfold zS at h';subst h';cases r';exact SeqAt.RcAt.bool_bool _ _
  | int _=>unfold zS at h';subst h';obtain⟨t,rfl⟩:=r';exact SeqAt.RcAt.bool_int _ _ _
  | str _=>unfold zS at h';subst h';obtain⟨t,rfl⟩:=r';exact SeqAt.RcAt.bool_str _ _ _
 | int _ =>
  unfold zS at h;subst h;obtain⟨t,rfl⟩:=r
  cases d' with
  | tup ds'=>obtain⟨a',xs',its',rfl,hd',rv',tp'⟩:=tupI rfl h' r';exact SeqAt.RcAt.int_tuple _ _ tp' hu0
  | adr _=>cases n<;>simp[flat] at f'
  | dic _=>cases n<;>simp[flat] at f'
  | non=>unfold zS at h';subst h';cases r';exact SeqAt.RcAt.int_none _ _
  | bl _=>unfold zS at h';subst h';cases r';exact SeqAt.RcAt.int_bool _ _ _
  | int _=>unfold zS at h';subst h';obtain⟨t,rfl⟩:=r';exact SeqAt.RcAt.int_int _ _ _ _
  | str _=>unfold zS at h';subst h';obtain⟨t,rfl⟩:=r';exact SeqAt.RcAt.int_str _ _ _ _
 | str _ =>
  unfold zS at h;subst h;obtain⟨t,rfl⟩:=r
  cases d' with
  | tup ds'=>obtain⟨a',xs',its',rfl,hd',rv',tp'⟩:=tupI rfl h' r';exact SeqAt.RcAt.str_tuple _ _ tp' hu0
  | adr _=>cases n<;>simp[flat] at f'
  | dic _=>cases n<;>simp[flat] at f'
  | non=>unfold zS at h';subst h';cases r';exact SeqAt.RcAt.str_none _ _
  | bl _=>unfold zS at h';subst h';cases r';exact SeqAt.RcAt.str_bool _ _ _
  | int _=>unfold zS at h';subst h';obtain⟨t,rfl⟩:=r';exact SeqAt.RcAt.str_int _ _ _ _
  | str _=>unfold zS at h';subst h';obtain⟨t,rfl⟩:=r';exact SeqAt.RcAt.str_str _ _ _ _
theorem zMi(I:zU X pins σ1 H s){n:Nat}{ds ds':List D}{xs xs':List V}{a a':Addr}(hs:SqL X.K H a xs)(hd:Dens X.K H ds xs)(hs':SqL X.K H a' xs')(hd':Dens X.K H ds' xs')(f:∀ d∈ds,flat n d=true)(f':∀ d∈ds',flat n d=true)(hu:A.units+n+1<cLine) :
  SeqAt.RcAt A s (.ref a) (.ref a') (eqDs ds ds'):=by
 have hu0:A.units<cLine:=by omega
 obtain⟨its,rv,pl,_⟩:=I.list hs
 obtain⟨its',rv',pl',_⟩:=I.list hs'
 have e:=zAq (ds:=ds) (ds':=ds') (n:=its.toArray.size) (n':=its'.toArray.size) (by simp[hd.length,rv.length]) (by simp[hd'.length,rv'.length])
 by_cases hl:its.toArray.size=its'.toArray.size
 ·have q:=SeqAt.RcAt.lists (A:=A) (s:=s) pl.isList pl'.isList hl hu0 (zCz (A:=A.in1) I hd hd' rv rv' f f' (by rw[in1_units];omega))
  have e':eqDs ds ds'=(List.range its.toArray.size).all (fun j=>wL (ds.getD j .non) (ds'.getD j .non)):=by
   rw[e,← hl];simp
  rw[e'];exact q
 ·have e':eqDs ds ds'=false:=by
   rw[e]
   have:(its.toArray.size==its'.toArray.size)=false:=by simpa using hl
   rw[this,Bool.and_false]
  rw[e']
  exact SeqAt.RcAt.lists_lengths pl.isList pl'.isList (by simpa using hl) hu0
def zMj(K:PySem.W.Frag)(ng:Bool):R2:=fun x y H Q=>(∃ d d',zS K H d x∧zS K H d' y∧flat 8 d=true∧flat 8 d'=true∧Q (.bl (if ng then !wL d d' else wL d d')) H) ∨
 (∃ a a' xs xs' ds ds',x=.ref a∧y=.ref a'∧SqL K H a xs∧SqL K H a' xs'∧Dens K H ds xs∧Dens K H ds' xs'∧(∀ d∈ds,flat 8 d=true)∧(∀ d∈ds',flat 8 d=true)∧Q (.bl (if ng then !eqDs ds ds' else eqDs ds ds')) H)
theorem zJL(hu:X.A.units+10<cLine):OpR X (compareOp .Eq) (zMj X.K false):=by
 intro pins s σ H x y v u Q I rx ry h
 rcases h with ⟨d,d',h1,h2,f1,f2,q⟩ | ⟨a,a',xs,xs',ds,ds',rfl,rfl,h1,h2,h3,h4,f1,f2,q⟩
 ·exact zMh (A:=X.A) I h1 h2 rx ry f1 f2 (by omega) X.prog X.w X.xe _ ⟨.bl _,H,I,rfl,q⟩
 ·cases rx;cases ry
  exact zMi (A:=X.A) I h1 h3 h2 h4 f1 f2 (by omega) X.prog X.w X.xe _ ⟨.bl _,H,I,rfl,q⟩
end
section
variable {X:Cx} {pins:List (Addr×Obj)} {σ1:L2.St} {H:Hp} {s:Shared} {A:Around}
theorem zMk(I:zU X pins σ1 H s){n:Nat}{d d':D}{v v':V}{u u':Value}(h:zS X.K H d v)(h':zS X.K H d' v')(r:RelV v u)(r':RelV v' u')(f:flat n d=true)(f':flat n d'=true)(hu:A.units+n+1<cLine) :
  SeqAt.RcNeAt A s u u' (!wL d d'):=by
 have hu0:A.units<cLine:=by omega
 have tupI:∀ {d:D} {v:V} {u:Value} {ds:List D},d=.tup ds→zS X.K H d v→RelV v u→∃ a xs its,u=.ref a∧Dens X.K H ds xs∧zW xs its∧s.heap.IsTuple a its.toArray:=fun {d v u ds} e h r=>by
  subst e
  unfold zS at h
  obtain⟨a,xs,rfl,hs,hd⟩:=h
  cases r
  obtain⟨its,rv,tp,_⟩:=I.tuple hs
  exact⟨a,xs,its,rfl,hd,rv,tp⟩
 cases d with
 | tup ds =>
  obtain⟨a,xs,its,rfl,hd,rv,tp⟩:=tupI rfl h r
  cases d' with
  | tup ds' =>
   obtain⟨a',xs',its',rfl,hd',rv',tp'⟩:=tupI rfl h' r'
   cases n with
   | zero=>simp[flat] at f
   | succ n =>
    have q:=SeqAt.RcNeAt.tuples (A:=A) (s:=s) tp tp' hu0 (zCz (A:=A.in1) I hd hd' rv rv' (by simpa[flat] using f) (by simpa[flat] using f') (by rw[in1_units];omega))
    have e:wL (.tup ds) (.tup ds')=((List.range (min its.toArray.size its'.toArray.size)).all (fun j=>wL (ds.getD j .non) (ds'.getD j .non))&&its.toArray.size==its'.toArray.size) :=
     zAq (by simp[hd.length,rv.length]) (by simp[hd'.length,rv'.length])
    rw[e];exact q
  | adr _=>cases n<;>simp[flat] at f'
  | dic _=>cases n<;>simp[flat] at f'
  | non=>unfold zS at h';subst h';cases r';exact SeqAt.RcNeAt.tuple_none tp hu0
  | bl _=>unfold zS at h';subst h';cases r';exact SeqAt.RcNeAt.tuple_bool _ tp hu0
  | int _=>unfold zS at h';subst h';obtain⟨t,rfl⟩:=r';exact SeqAt.RcNeAt.tuple_int _ _ tp hu0
  | str _=>unfold zS at h';subst h';obtain⟨t,rfl⟩:=r';exact SeqAt.RcNeAt.tuple_str _ _ tp hu0
 | adr _=>cases n<;>simp[flat] at f
 | dic _=>cases n<;>simp[flat] at f
 | non =>
  unfold zS at h;subst h;cases r
  cases d' with
  | tup ds'=>obtain⟨a',xs',its',rfl,hd',rv',tp'⟩:=tupI rfl h' r';exact SeqAt.RcNeAt.none_tuple tp' hu0
  | adr _=>cases n<;>simp[flat] at f'
  | dic _=>cases n<;>simp[flat] at f'
  | non=>unfold zS at h';subst h';cases r';exact SeqAt.RcNeAt.none_none
  | bl _=>unfold zS at h';subst h';cases r';exact SeqAt.RcNeAt.none_bool _
  | int _=>unfold zS at h';subst h';obtain⟨t,rfl⟩:=r';exact SeqAt.RcNeAt.none_int _ _
  | str _=>unfold zS at h';subst h';obtain⟨t,rfl⟩:=r';exact SeqAt.RcNeAt.none_str _ _
 | bl _ =>
  unfold zS at h;subst h;cases r
  cases d' with
  | tup ds'=>obtain⟨a',xs',its',rfl,hd',rv',tp'⟩:=tupI rfl h' r';exact SeqAt.RcNeAt.bool_tuple _ tp' hu0
  | adr _=>cases n<;>simp[flat] at f'
  | dic _=>cases n<;>simp[flat] at f'
  | non=>unfold zS at h';subst h';cases r';exact SeqAt.RcNeAt.bool_none _
  | bl _=>unfold zS at h';subst h';cases r';exact SeqAt.RcNeAt.bool_bool _ _
  | int _=>unfold zS at h';subst h';obtain⟨t,rfl⟩:=r';exact SeqAt.RcNeAt.bool_int _ _ _
  | str _=>unfold zS at h';subst h';obtain⟨t,rfl⟩:=r';exact SeqAt.RcNeAt.bool_str _ _ _
 | int _ =>
  unfold zS at h;subst h;obtain⟨t,rfl⟩:=r
  cases d' with
  | tup ds'=>obtain⟨a',xs',its',rfl,hd',rv',tp'⟩:=tupI rfl h' r';exact SeqAt.RcNeAt.int_tuple _ _ tp' hu0
  | adr _=>cases n<;>simp[flat] at f'
  | dic _=>cases n<;>simp[flat] at f'
  | non=>unfold zS at h';subst h';cases r';exact SeqAt.RcNeAt.int_none _ _
  | bl _=>unfold zS at h';subst h';cases r';exact SeqAt.RcNeAt.int_bool _ _ _
  | int _=>unfold zS at h';subst h';obtain⟨t,rfl⟩:=r';exact SeqAt.RcNeAt.int_int _ _ _ _
  | str _=>unfold zS at h';subst h';obtain⟨t,rfl⟩:=r';exact SeqAt.RcNeAt.int_str _ _ _ _
 | str _ =>
  unfold zS at h;subst h;obtain⟨t,rfl⟩:=r
  cases d' with
  | tup ds'=>obtain⟨a',xs',its',rfl,hd',rv',tp'⟩:=tupI rfl h' r';exact SeqAt.RcNeAt.str_tuple _ _ tp' hu0
  | adr _=>cases n<;>simp[flat] at f'
  | dic _=>cases n<;>simp[flat] at f'
  | non=>unfold zS at h';subst h';cases r';exact SeqAt.RcNeAt.str_none _ _
  | bl _=>unfold zS at h';subst h';cases r';exact SeqAt.RcNeAt.str_bool _ _ _
  | int _=>unfold zS at h';subst h';obtain⟨t,rfl⟩:=r';exact SeqAt.RcNeAt.str_int _ _ _ _
  | str _=>unfold zS at h';subst h';obtain⟨t,rfl⟩:=r';exact SeqAt.RcNeAt.str_str _ _ _ _
theorem zMl(I:zU X pins σ1 H s){n:Nat}{ds ds':List D}{xs xs':List V}{a a':Addr}(hs:SqL X.K H a xs)(hd:Dens X.K H ds xs)(hs':SqL X.K H a' xs')(hd':Dens X.K H ds' xs')(f:∀ d∈ds,flat n d=true)(f':∀ d∈ds',flat n d=true)(hu:A.units+n+1<cLine) :
  SeqAt.RcNeAt A s (.ref a) (.ref a') (!eqDs ds ds'):=by
 have hu0:A.units<cLine:=by omega
 obtain⟨its,rv,pl,_⟩:=I.list hs
 obtain⟨its',rv',pl',_⟩:=I.list hs'
 have e:=zAq (ds:=ds) (ds':=ds') (n:=its.toArray.size) (n':=its'.toArray.size) (by simp[hd.length,rv.length]) (by simp[hd'.length,rv'.length])
 by_cases hl:its.toArray.size=its'.toArray.size
 ·have q:=SeqAt.RcNeAt.lists (A:=A) (s:=s) pl.isList pl'.isList hl hu0 (zCz (A:=A.in1) I hd hd' rv rv' f f' (by rw[in1_units];omega))
  have e':eqDs ds ds'=(List.range its.toArray.size).all (fun j=>wL (ds.getD j .non) (ds'.getD j .non)):=by
   rw[e,← hl];simp
  rw[e'];exact q
 ·have e':eqDs ds ds'=false:=by
   rw[e]
   have:(its.toArray.size==its'.toArray.size)=false:=by simpa using hl
   rw[this,Bool.and_false]
  rw[e']
  exact SeqAt.RcNeAt.lists_lengths pl.isList pl'.isList (by simpa using hl) hu0
theorem zMm(hu:X.A.units+10<cLine):OpR X (compareOp .NotEq) (zMj X.K true):=by
 intro pins s σ H x y v u Q I rx ry h
 rcases h with ⟨d,d',h1,h2,f1,f2,q⟩ | ⟨a,a',xs,xs',ds,ds',rfl,rfl,h1,h2,h3,h4,f1,f2,q⟩
 ·exact zMk (A:=X.A) I h1 h2 rx ry f1 f2 (by omega) X.prog X.w X.xe _ ⟨.bl _,H,I,rfl,q⟩
 ·cases rx;cases ry
  exact zMl (A:=X.A) I h1 h3 h2 h4 f1 f2 (by omega) X.prog X.w X.xe _ ⟨.bl _,H,I,rfl,q⟩
end
section
variable {X:Cx} {pins:List (Addr×Obj)} {σ1:L2.St} {H:Hp} {s:Shared} {A:Around}
def zMn(K:PySem.W.Frag)(ng:Bool):R2:=fun x y H Q=>∃ d ds a xs,zS K H d x∧y=.ref a∧(SqL K H a xs∨SqT K H a xs)∧Dens K H ds xs∧flat 8 d=true∧(∀ z∈ds,flat 8 z=true)∧Q (.bl (if ng then !ds.any fun z=>wL z d else ds.any fun z=>wL z d)) H
theorem zH6{its:List Value}{ds:List D}(g:D→Bool)(hl:its.length=ds.length)(hinj:∀(i j:Nat) (u:Value) (z z':D),its[i]?=some u→its[j]?=some u→ds[i]?=some z→ds[j]?=some z'→z=z') :
  ∃ e:Value→Bool,(∀(j:Nat) (u:Value) (z:D),its[j]?=some u→ds[j]?=some z→e u=g z)∧its.any e=ds.any g:=by
 classical
 have key:∀(j:Nat) (u:Value) (z:D),its[j]?=some u→ds[j]?=some z→decide (∃(j:Nat) (z:D),its[j]?=some u∧ds[j]?=some z∧g z=true)=g z:=by
  intro j u z h1 h2
  cases hg:g z with
  | true=>exact decide_eq_true ⟨j,z,h1,h2,hg⟩
  | false =>
   refine decide_eq_false ?_
   rintro⟨j',z',h3,h4,h5⟩
   rw[hinj j j' u z z' h1 h3 h2 h4,h5] at hg
   cases hg
 refine⟨fun u=>decide (∃(j:Nat) (z:D),its[j]?=some u∧ds[j]?=some z∧g z=true),key,?_⟩
 rw[Bool.eq_iff_iff,List.any_eq_true,List.any_eq_true]
 constructor
 ·rintro⟨u,hu,he⟩
  obtain⟨j,z,h1,h2,h3⟩:=of_decide_eq_true he
  exact⟨z,List.mem_of_getElem? h2,h3⟩
 ·rintro⟨z,hz,hg⟩
  obtain⟨j,hj⟩:=List.getElem?_of_mem hz
  have hj':j<ds.length:=(List.getElem?_eq_some_iff.mp hj).1
  refine⟨its[j]'(by omega),List.getElem_mem _,decide_eq_true ⟨j,z,by simp,hj,hg⟩⟩
theorem zC0(I:zU X pins σ1 H s){n:Nat}{ds:List D}{xs:List V}{its:List Value}{d:D}{v:V}{u:Value}(hd:Dens X.K H ds xs)(rv:zW xs its)(h:zS X.K H d v)(r:RelV v u)(f:∀ z∈ds,flat n z=true)(f':flat n d=true)(hu:A.units+n<cLine) :
  ∃ e:Value→Bool,(∀ y,y∈its.toArray→SeqAt.EqAt A s y u (e y))∧its.toArray.any e=ds.any fun z=>wL z d:=by
 have l1:=hd.length
 have l2:=rv.length
 obtain⟨e,h1,h2⟩:=zH6 (its:=its) (ds:=ds) (fun z=>wL z d) (by omega) (by
  intro i j w z z' a1 a2 a3 a4
  obtain⟨x,b1,b2⟩:=hd.get a3
  obtain⟨x',b3,b4⟩:=hd.get a4
  obtain⟨w1,c1,c2⟩:=rv.get b1
  obtain⟨w2,c3,c4⟩:=rv.get b3
  rw[a1] at c1;cases c1
  rw[a2] at c3;cases c3
  have:=c2.inj c4
  subst this
  exact zS.inj I b2 b4 (f z (List.mem_of_getElem? a3)) (f z' (List.mem_of_getElem? a4)))
 refine⟨e,fun y hy=>?_,by simpa using h2⟩
 have hy':y∈its:=by simpa using hy
 obtain⟨j,hj⟩:=List.getElem?_of_mem hy'
 have hjl:j<its.length:=(List.getElem?_eq_some_iff.mp hj).1
 obtain⟨x,b1,b2⟩:=hd.get (i:=j) (d:=ds[j]'(by omega)) (by simp)
 obtain⟨w1,c1,c2⟩:=rv.get b1
 rw[hj] at c1;cases c1
 rw[h1 j _ (ds[j]'(by omega)) hj (by simp)]
 exact zJK I n _ _ x v _ u A b2 h c2 r (f _ (List.getElem_mem _)) f' hu
theorem zJM(hu:X.A.units+10<cLine):OpR X (compareOp .In) (zMn X.K false):=by
 intro pins s σ H x y v u Q I rx ry h
 obtain⟨d,ds,a,xs,h1,rfl,h2,h3,f1,f2,q⟩:=h
 cases ry
 rcases h2 with h2 | h2
 ·obtain⟨its,rv,pl,_⟩:=I.list h2
  obtain⟨e,e1,e2⟩:=zC0 (A:=X.A.in1) I h3 rv h1 rx f2 f1 (by rw[in1_units];omega)
  exact SeqAt.in_listAt e pl.isList e1 ⟨.bl _,H,I,rfl,by rw[e2];exact q⟩
 ·obtain⟨its,rv,tp,_⟩:=I.tuple h2
  obtain⟨e,e1,e2⟩:=zC0 (A:=X.A.in1) I h3 rv h1 rx f2 f1 (by rw[in1_units];omega)
  exact SeqAt.in_tupleAt e (show s.heap.IsTuple a its.toArray from tp) e1 ⟨.bl _,H,I,rfl,by rw[e2];exact q⟩
theorem zH7(hu:X.A.units+10<cLine):OpR X (compareOp .NotIn) (zMn X.K true):=by
 intro pins s σ H x y v u Q I rx ry h
 obtain⟨d,ds,a,xs,h1,rfl,h2,h3,f1,f2,q⟩:=h
 cases ry
 rcases h2 with h2 | h2
 ·obtain⟨its,rv,pl,_⟩:=I.list h2
  obtain⟨e,e1,e2⟩:=zC0 (A:=X.A.in1) I h3 rv h1 rx f2 f1 (by rw[in1_units];omega)
  exact SeqAt.notIn_listAt e pl.isList e1 ⟨.bl _,H,I,rfl,by rw[e2];exact q⟩
 ·obtain⟨its,rv,tp,_⟩:=I.tuple h2
  obtain⟨e,e1,e2⟩:=zC0 (A:=X.A.in1) I h3 rv h1 rx f2 f1 (by rw[in1_units];omega)
  exact SeqAt.notIn_tupleAt e (show s.heap.IsTuple a its.toArray from tp) e1 ⟨.bl _,H,I,rfl,by rw[e2];exact q⟩
end
section
variable {X:Cx} {a b c e o:Expr} {es:List Expr} {pos p:Pos} {ta tb te:zk}
def fEq(ng:Bool):D→D→Gp→Q2→Prop:=fun x y G R=>match x,y with
 | .adr l,.adr l'=>∃ ds ds',Ls G l ds∧Ls G l' ds'∧(∀ d∈ds,flat 8 d=true)∧(∀ d∈ds',flat 8 d=true)∧R (.bl (if ng then !eqDs ds ds' else eqDs ds ds')) G
 | x,y=>flat 8 x=true∧flat 8 y=true∧R (.bl (if ng then !wL x y else wL x y)) G
theorem zGR{K:PySem.W.Frag}{ng:Bool}:Fit K (zMj K ng) (fEq ng):=by
 intro dx dy G R x y H Q h r d1 d2 k
 unfold fEq at h
 split at h
 ·rename_i l l'
  obtain⟨ds,ds',e1,e2,f1,f2,h⟩:=h
  obtain⟨xs,s1,t1⟩:=r.sq e1
  obtain⟨xs',s2,t2⟩:=r.sq e2
  unfold zS at d1 d2
  exact .inr ⟨l,l',xs,xs',ds,ds',d1,d2,s1,s2,t1,t2,f1,f2,k _ G h _ H (.refl H) r (by unfold zS;rfl)⟩
 ·obtain⟨f1,f2,h⟩:=h
  exact .inl ⟨_,_,d1,d2,f1,f2,k _ G h _ H (.refl H) r (by unfold zS;rfl)⟩
def fIn(ng:Bool):D→D→Gp→Q2→Prop:=fun x y G R=>match y with
 | .adr l=>∃ ds,Ls G l ds∧flat 8 x=true∧(∀ d∈ds,flat 8 d=true)∧R (.bl (if ng then !ds.any fun z=>wL z x else ds.any fun z=>wL z x)) G
 | .tup ds=>flat 8 x=true∧(∀ d∈ds,flat 8 d=true)∧R (.bl (if ng then !ds.any fun z=>wL z x else ds.any fun z=>wL z x)) G
 | _=>False
theorem zGS{K:PySem.W.Frag}{ng:Bool}:Fit K (zMn K ng) (fIn ng):=by
 intro dx dy G R x y H Q h r d1 d2 k
 unfold fIn at h
 split at h
 ·rename_i l
  obtain⟨ds,e1,f1,f2,h⟩:=h
  obtain⟨xs,s1,t1⟩:=r.sq e1
  unfold zS at d2
  exact⟨dx,ds,l,xs,d1,d2,.inl s1,t1,f1,f2,k _ G h _ H (.refl H) r (by unfold zS;rfl)⟩
 ·rename_i ds
  obtain⟨f1,f2,h⟩:=h
  unfold zS at d2
  obtain⟨l,xs,e,s1,t1⟩:=d2
  exact⟨dx,ds,l,xs,d1,e,.inr s1,t1,f1,f2,k _ G h _ H (.refl H) r (by unfold zS;rfl)⟩
 ·exact h.elim
theorem zNv{k:Nat}(hr:yo k X.A)(ha:E2 X a ta)(hb:E2 X b tb):E2 X (.Compare a [.Eq] [b] pos) (zP (fEq false) ta tb):=zHM (zJL (by have:=hr.units;omega)) zGR ha hb (zBF _)
theorem zNw{k:Nat}(hr:yo k X.A)(ha:E2 X a ta)(hb:E2 X b tb)(hm:behindInMarks .In b=false:=by rfl):E2 X (.Compare a [.In] [b] pos) (zP (fIn false) ta tb):=zHM (zJM (by have:=hr.units;omega)) zGS ha hb hm
theorem zH8{k:Nat}(hr:yo k X.A)(ha:E2 X a ta)(hb:E2 X b tb):T2 X (.Compare a [.Eq] [b] pos) (xB (zP (fEq false) ta tb)):=zDD (zJL (by have:=hr.units;omega)) zGR ha hb (zBF _)
theorem zFN{k:Nat}(hr:yo k X.A)(ha:E2 X a ta)(hb:E2 X b tb):T2 X (.Compare a [.NotEq] [b] pos) (xB (zP (fEq true) ta tb)):=zDD (zMm (by have:=hr.units;omega)) zGR ha hb (zBF _)
theorem zOY{k:Nat}(hr:yo k X.A)(ha:E2 X a ta)(hb:E2 X b tb)(hm:behindInMarks .In b=false:=by rfl):T2 X (.Compare a [.In] [b] pos) (xB (zP (fIn false) ta tb)):=zDD (zJM (by have:=hr.units;omega)) zGS ha hb hm
theorem zEk{k:Nat}(hr:yo k X.A)(ha:E2 X a ta)(hb:E2 X b tb)(hm:behindInMarks .NotIn b=false:=by rfl):T2 X (.Compare a [.NotIn] [b] pos) (xB (zP (fIn true) ta tb)):=zDD (zH7 (by have:=hr.units;omega)) zGS ha hb hm
def zy:D→D→Gp→Q2→Prop:=fun x y G R=>match x,y with
 | .adr l,.int k=>∃ ds d,Ls G l ds∧atI ds k=some d∧R d G
 | .tup ds,.int k=>match atI ds k with | some d=>R d G | none=>False
 | _,_=>False
theorem zFO{K:PySem.W.Frag}{H:Hp}{ds:List D}{xs:List V}{k:Int}{d:D}(h:Dens K H ds xs)(e:atI ds k=some d):∃ x,atI xs k=some x∧zS K H d x:=by
 unfold atI at e ⊢
 rw[h.length] at e
 cases q:ixN xs.length k with
 | none=>rw[q] at e;cases e
 | some j =>
  rw[q] at e
  exact h.get e
theorem zMo{K:PySem.W.Frag}:Fit K (fun x y H Q=>zNk K x y H Q∨zNl K x y H Q) zy:=by
 intro dx dy G R x y H Q h r d1 d2 k
 unfold zy at h
 split at h
 ·rename_i l i
  obtain⟨ds,d,e1,e2,h⟩:=h
  obtain⟨xs,s1,t1⟩:=r.sq e1
  obtain⟨z,e3,t2⟩:=zFO t1 e2
  unfold zS at d1 d2
  exact .inl ⟨l,xs,i,z,d1,d2,s1,e3,k _ G h _ H (.refl H) r t2⟩
 ·rename_i ds i
  split at h
  ·rename_i d e2
   unfold zS at d1 d2
   obtain⟨l,xs,e,s1,t1⟩:=d1
   obtain⟨z,e3,t2⟩:=zFO t1 e2
   exact .inr ⟨l,xs,i,z,e,d2,s1,e3,k _ G h _ H (.refl H) r t2⟩
  ·exact h.elim
 ·exact h.elim
theorem yB(ha:E2 X a ta)(hb:E2 X b tb)(hs:zHH b:=by intro _ _;rfl):E2 X (.Subscript a b pos) (zP zy ta tb) :=
 PE.mono (zNj (zKq.or zMZ) ha hb hs) fun σ1 H Q h=>zHL zMo h
def zGT(K:PySem.W.Frag)(r:List V→Hp→VK→Prop)(f:Sp2):Prop :=
 ∀ ds G R vs H Q,f ds G R→yI K G H→Dens K H ds vs→(∀ d G',R d G'→∀ v H',yA H H'→yI K G' H'→zS K H' d v→Q v H')→r vs H Q
theorem zEF{K:PySem.W.Frag}{r:List V→Hp→VK→Prop}{f:Sp2}{t:yt}(hf:zGT K r f){σ1:L2.St}{H:Hp}{Q:VK}(h:lE K (zK f t) σ1 H Q):tCB r (lA K t) σ1 H Q:=by
 obtain⟨σ,G,R,rl,q,k⟩:=h
 exact⟨σ,G,_,rl,q,fun ds G1 q1 vs H1 g1 r1 d1=>hf ds G1 R vs H1 Q q1 r1 d1 fun d G' q' v H' g'=>k d G' q' v H' (g1.trans g')⟩
theorem zEl{id:String}{x:Str}{r:List V→Hp→VK→Prop}{f:Sp2}{t:yt}(hc:yk X (.builtin id) r)(hf:zGT X.K r f)(hg:Gl X x)(hm:X.mg x=none)(hv:bootBuiltins x=some (.builtin id))(ha:A2 X (e::es) t)(hn:x≠"__name__":=by decide)(hdb:(x==("__debug__":Str))=false:=by decide)
  (he:starEach (e::es) X.env=(false,eval e X.env)::starEach es X.env:=by rfl) (hpl:(backTo pos (starEach es X.env)).any (·.1)=false:=by rfl):E2 X (.Call (.Name x p) (e::es) [] pos) (zK f t) :=
 PE.mono (zAH hc hg hm hv ha hn hdb he hpl) fun σ1 H Q h=>zEF hf h
theorem zFP{T:String}{x:Str}{r:List V→Hp→VK→Prop}{f:Sp2}{t:yt}(hc:yk X (.type T) r)(hf:zGT X.K r f)(hg:Gl X x)(hm:X.mg x=none)(hv:bootBuiltins x=some (.type T))(ha:A2 X (e::es) t)(hn:x≠"__name__":=by decide)(hdb:(x==("__debug__":Str))=false:=by decide)
  (he:starEach (e::es) X.env=(false,eval e X.env)::starEach es X.env:=by rfl) (hpl:(backTo pos (starEach es X.env)).any (·.1)=false:=by rfl):E2 X (.Call (.Name x p) (e::es) [] pos) (zK f t) :=
 PE.mono (zCT hc hg hm hv ha hn hdb he hpl) fun σ1 H Q h=>zEF hf h
def zHP(G:Gp):D→List D→Prop
 | .tup es,ds=>es=ds
 | .adr l,ds=>Ls G l ds
 | _,_=>False
theorem zEm{K:PySem.W.Frag}{G:Gp}{H:Hp}{d:D}{v:V}{ds:List D}(r:yI K G H)(h:zS K H d v)(e:zHP G d ds):∃ l xs,v=.ref l∧(SqL K H l xs∨SqT K H l xs)∧Dens K H ds xs:=by
 cases d with
 | tup _ =>
  have e:_=ds:=e
  subst e
  unfold zS at h
  obtain⟨l,xs,e,s1,t1⟩:=h
  exact⟨l,xs,e,.inr s1,t1⟩
 | adr l =>
  unfold zS at h
  obtain⟨xs,s1,t1⟩:=r.sq (show Ls G l ds from e)
  exact⟨l,xs,h,.inl s1,t1⟩
 | _=>exact e.elim
theorem zCk{K:PySem.W.Frag}{H:Hp}{d:D}{vs:List V}(h:Dens K H [d] vs):∃ v,vs=[v]∧zS K H d v:=by
 unfold Dens at h
 obtain⟨v,r,e,h1,h2⟩:=h
 unfold Dens at h2
 subst h2
 exact⟨v,e,h1⟩
theorem zLo{K:PySem.W.Frag}{H:Hp}{d d':D}{vs:List V}(h:Dens K H [d,d'] vs):∃ v v',vs=[v,v']∧zS K H d v∧zS K H d' v':=by
 unfold Dens at h
 obtain⟨v,r,e,h1,h2⟩:=h
 obtain⟨v',e2,h3⟩:=zCk h2
 subst e2
 exact⟨v,v',e,h1,h3⟩
def yX:Sp2:=fun ds G R=>match ds with | [d]=>∃ l,zHP G d l∧R (.int l.length) G | _=>False
theorem zKz:zGT X.K (fun xs H Q=>∃ p ys,xs=[.ref p]∧(SqL X.K H p ys∨SqT X.K H p ys)∧Q (.int ys.length) H) yX:=by
 intro ds G R vs H Q h r d k
 unfold yX at h
 split at h
 ·rename_i d0
  obtain⟨v,rfl,d1⟩:=zCk d
  obtain⟨l,e,h⟩:=h
  obtain⟨a,xs,rfl,s1,t1⟩:=zEm r d1 e
  exact⟨a,xs,rfl,s1,k _ G h _ H (.refl H) r (by rw[← t1.length];unfold zS;rfl)⟩
 ·exact h.elim
theorem zBA{t:yt}(hg:Gl X "len")(hm:X.mg "len"=none)(ha:A2 X [e] t)(he:starEach [e] X.env=(false,eval e X.env)::starEach [] X.env:=by rfl)(hpl:(backTo pos (starEach [] X.env)).any (·.1)=false:=by rfl):E2 X (.Call (.Name "len" p) [e] [] pos) (zK yX t):=zEl zEh zKz hg hm PySem.boot_len ha (by decide) (by decide) he hpl
def yl:Sp2:=fun ds G R=>match ds with | [.int i,.int j]=>R (.int (if j<i then j else i)) G | _=>False
def wP:Sp2:=fun ds G R=>match ds with | [.int i,.int j]=>R (.int (if j>i then j else i)) G | _=>False
theorem zJN{f:Int→Int→Int}{sp:Sp2}(hs:∀ ds G R,sp ds G R→∃ i j,ds=[.int i,.int j]∧R (.int (f i j)) G):zGT X.K (fun xs H Q=>∃ i j,xs=[.int i,.int j]∧Q (.int (f i j)) H) sp:=by
 intro ds G R vs H Q h r d k
 obtain⟨i,j,rfl,h'⟩:=hs ds G R h
 obtain⟨v,v',rfl,d1,d2⟩:=zLo d
 unfold zS at d1 d2
 subst d1 d2
 exact⟨i,j,rfl,k _ G h' _ H (.refl H) r (by unfold zS;rfl)⟩
theorem zHQ{t:yt}{e':Expr}(hc:X.calm=true)(hg:Gl X "min")(hm:X.mg "min"=none)(ha:A2 X [e,e'] t)(he:starEach [e,e'] X.env=(false,eval e X.env)::starEach [e'] X.env:=by rfl)(hpl:(backTo pos (starEach [e'] X.env)).any (·.1)=false:=by rfl):E2 X (.Call (.Name "min" p) [e,e'] [] pos) (zK yl t):=zEl (zH0 hc) (zJN fun ds G R h=>by unfold yl at h;split at h;exact⟨_,_,rfl,h⟩;exact h.elim) hg hm (by decide +kernel) ha (by decide) (by decide) he hpl
theorem zJO{t:yt}{e':Expr}(hc:X.calm=true)(hg:Gl X "max")(hm:X.mg "max"=none)(ha:A2 X [e,e'] t)(he:starEach [e,e'] X.env=(false,eval e X.env)::starEach [e'] X.env:=by rfl)(hpl:(backTo pos (starEach [e'] X.env)).any (·.1)=false:=by rfl):E2 X (.Call (.Name "max" p) [e,e'] [] pos) (zK wP t):=zEl (zHz hc) (zJN fun ds G R h=>by unfold wP at h;split at h;exact⟨_,_,rfl,h⟩;exact h.elim) hg hm (by decide +kernel) ha (by decide) (by decide) he hpl
end
end L3
namespace L3
open PySem PySem.Spec PyProof.Rows L2
section
variable {X:Cx} {a b c e o:Expr} {es:List Expr} {pos p p2:Pos} {ta tb te to:zk} {tl:TL2}
def zK0(K:PySem.W.Frag)(r:List V→Hp→VK→Prop)(g:Sp2):Prop :=
 ∀ ds G R l xs H Q,g ds G R→yI K G H→H l=some (.lst xs)→Dens K H ds xs→(∀ d G',R d G'→∀ v H',yA H H'→yI K G' H'→zS K H' d v→Q v H')→r [.ref l] H Q
def zX(g:Sp2)(t:TL2):zk:=fun σ G R=>t σ G fun ds G1=>g ds G1 R
theorem zDK{K:PySem.W.Frag}{r:List V→Hp→VK→Prop}{g:Sp2}(hf:zK0 K r g){σ1:L2.St}{H:Hp}{Q:VK}(h:lE K (zX g tl) σ1 H Q):tCB r (zLj (lL K tl) zNg) σ1 H Q:=by
 obtain⟨σ,G,R,rl,q,k⟩:=h
 exact⟨σ,G,_,rl,q,fun ds G1 q1 l xs H1 g1 r1 n e d1=>hf ds G1 R l xs H1 Q q1 r1 e d1 fun d G' q' v H' g'=>k d G' q' v H' (g1.trans g')⟩
theorem zH9{T:String}{x:Str}{r:List V→Hp→VK→Prop}{g:Sp2}(hc:yk X (.type T) r)(hf:zK0 X.K r g)(hg:Gl X x)(hm:X.mg x=none)(hv:bootBuiltins x=some (.type T))(ha:F2 X e tl)(hn:x≠"__name__":=by decide)(hdb:(x==("__debug__":Str))=false:=by decide)
  (he:starEach [e] X.env=(false,eval e X.env)::starEach [] X.env:=by rfl) (hpl:(backTo pos (starEach [] X.env)).any (·.1)=false:=by rfl):E2 X (.Call (.Name x p) [e] [] pos) (zX g tl) :=
 PE.mono (zCT hc hg hm hv (yi ha zAd he) hn hdb he hpl) fun σ1 H Q h=>zDK hf h
theorem zFQ{id:String}{x:Str}{r:List V→Hp→VK→Prop}{g:Sp2}(hc:yk X (.builtin id) r)(hf:zK0 X.K r g)(hg:Gl X x)(hm:X.mg x=none)(hv:bootBuiltins x=some (.builtin id))(ha:F2 X e tl)(hn:x≠"__name__":=by decide)(hdb:(x==("__debug__":Str))=false:=by decide)
  (he:starEach [e] X.env=(false,eval e X.env)::starEach [] X.env:=by rfl) (hpl:(backTo pos (starEach [] X.env)).any (·.1)=false:=by rfl):E2 X (.Call (.Name x p) [e] [] pos) (zX g tl) :=
 PE.mono (zAH hc hg hm hv (yi ha zAd he) hn hdb he hpl) fun σ1 H Q h=>zDK hf h
def zj:Sp2:=fun ds G R=>R (.tup ds) G
theorem zGU{K:PySem.W.Frag}:zK0 K (fun xs H Q=>∃ p ys,xs=[.ref p]∧((SqL K H p ys∧∀ l,H l=none→Q (.ref l) (yc H l (.tup ys)))∨(SqT K H p ys∧Q (.ref p) H))) zj:=by
 intro ds G R l xs H Q h r e d k
 refine⟨l,xs,rfl,.inl ⟨.of e,fun l' n=>k _ G h _ _ (.fresh n) (r.fresh n) ?_⟩⟩
 unfold zS
 exact⟨l',xs,rfl,.of zi,d.grow (.fresh n)⟩
theorem zAr(hg:Gl X "tuple")(hm:X.mg "tuple"=none)(ha:F2 X e tl)(he:starEach [e] X.env=(false,eval e X.env)::starEach [] X.env:=by rfl)(hpl:(backTo pos (starEach [] X.env)).any (·.1)=false:=by rfl) :
  E2 X (.Call (.Name "tuple" p) [e] [] pos) (zX zj tl):=zH9 zBh zGU hg hm (by decide +kernel) ha (by decide) (by decide) he hpl
def zC1:Sp2:=fun ds G R=>match ds with | [d]=>∃ l,zHP G d l∧R (.tup l) G | _=>False
theorem zIA{K:PySem.W.Frag}:zGT K (fun xs H Q=>∃ p ys,xs=[.ref p]∧((SqL K H p ys∧∀ l,H l=none→Q (.ref l) (yc H l (.tup ys)))∨(SqT K H p ys∧Q (.ref p) H))) zC1:=by
 intro ds G R vs H Q h r d k
 unfold zC1 at h
 split at h
 ·rename_i d0
  obtain⟨v,rfl,d1⟩:=zCk d
  obtain⟨l,e,h⟩:=h
  obtain⟨a,xs,rfl,s1,t1⟩:=zEm r d1 e
  rcases s1 with s1 | s1
  ·refine⟨a,xs,rfl,.inl ⟨s1,fun l' n=>k _ G h _ _ (.fresh n) (r.fresh n) ?_⟩⟩
   unfold zS
   exact⟨l',xs,rfl,.of zi,t1.grow (.fresh n)⟩
  ·refine⟨a,xs,rfl,.inr ⟨s1,k _ G h _ H (.refl H) r ?_⟩⟩
   unfold zS
   exact⟨a,xs,rfl,s1,t1⟩
 ·exact h.elim
theorem zK1{t:yt}(hg:Gl X "tuple")(hm:X.mg "tuple"=none)(ha:A2 X [e] t)(he:starEach [e] X.env=(false,eval e X.env)::starEach [] X.env:=by rfl)(hpl:(backTo pos (starEach [] X.env)).any (·.1)=false:=by rfl) :
  E2 X (.Call (.Name "tuple" p) [e] [] pos) (zK zC1 t):=zFP zBh zIA hg hm (by decide +kernel) ha (by decide) (by decide) he hpl
theorem zCl:∀ {xs:List V} {us:List Value},xs.length=us.length→(∀(i:Nat) (x:V) (u:Value),xs[i]?=some x→us[i]?=some u→RelV x u)→zW xs us
 | [],[],_,_=>.nil
 | [],_::_,h,_=>by cases h
 | _::_,[],h,_=>by cases h
 | x::xs,u::us,h,g=>.cons (g 0 x u rfl rfl) (zCl (by simpa using h) fun i y w e1 e2=>g (i+1) y w (by simpa using e1) (by simpa using e2))
theorem zEn:yk X (.builtin "sorted") (fun xs H Q=>∃(p:Addr) (ns:List Int),xs=[.ref p]∧SqL X.K H p (ns.map V.int)∧ns.length<64∧∀(l:Addr) (ns':List Int),H l=none→ns'.Perm ns→ns'.Pairwise (·≤·)→Q (.ref l) (yc H l (.lst (ns'.map V.int)))):=by
 intro pins s σ H xs us Q I r h
 obtain⟨p,ns,rfl,hq,hz,q⟩:=h
 obtain⟨u,rfl,rx⟩:=vals1 r
 cases rx
 obtain⟨its,rv,pl,_⟩:=I.list hq
 have hl:=rv.length
 rw[List.length_map] at hl
 refine sorted_ints (vs:=its) (ns:=ns) pl.isList (intsAre_of rv) (by omega) fun out ns' i1 i2 i3=>?_
 obtain⟨e,he⟩:=sortedAll_at s.heap its out
 have hn:H (s.heap.objs.size+1)=none:=I.hok.fresh (Nat.le_succ _)
 refine⟨.ref (s.heap.objs.size+1),_,I.laid (t':=s.toks) (o:=.lst (ns'.map V.int)) (fun b u q=>sortedAll_old q) (Nat.le_succ _) ?_,rfl,q _ ns' hn i2 i3⟩
 have hp:=i2.length_eq
 refine⟨?_,out.toList,e,zCV i1,?_⟩
 ·rw[List.length_map,hp,sizeLine_eq];omega
 ·rw[he]<;>rfl
def intsOf:List D→Option (List Int)
 | []=>some []
 | .int i::r=>(intsOf r).map (i::·)
 | _::_=>none
theorem zDL:∀ ns:List Int,intsOf (ns.map D.int)=some ns
 | []=>rfl
 | n::r=>by simp[intsOf,zDL r]
theorem zEG:∀ {ds:List D} {ns:List Int},intsOf ds=some ns→ds=ns.map D.int
 | [],ns,h=>by simp[intsOf] at h;subst h;rfl
 | d::r,ns,h=>by
  cases d with
  | int i =>
   unfold intsOf at h
   cases q:intsOf r with
   | none=>rw[q] at h;cases h
   | some ms =>
    rw[q] at h
    cases h
    rw[zEG q];rfl
  | _=>simp[intsOf] at h
theorem Dens.ints_inv{K:PySem.W.Frag}{H:Hp}:∀ {ns:List Int} {xs:List V},Dens K H (ns.map D.int) xs→xs=ns.map V.int
 | [],xs,h=>by unfold Dens at h;exact h
 | n::r,xs,h=>by
  rw[List.map_cons] at h
  unfold Dens at h
  obtain⟨x,y,rfl,h1,h2⟩:=h
  unfold zS at h1
  rw[h1,Dens.ints_inv h2];rfl
def zAK(t:TL2):TL2:=fun σ G R=>t σ G fun ds G1=>match intsOf ds with | some ns=>ns.length<64∧∀(ns':List Int),ns'.Perm ns→ns'.Pairwise (·≤·)→R (ns'.map D.int) G1 | none=>False
theorem zIB(hg:Gl X "sorted")(hm:X.mg "sorted"=none)(ha:F2 X e tl)(he:starEach [e] X.env=(false,eval e X.env)::starEach [] X.env:=by rfl)(hpl:(backTo pos (starEach [] X.env)).any (·.1)=false:=by rfl) :
  F2 X (.Call (.Name "sorted" p) [e] [] pos) (zAK tl):=by
 refine PE.mono (zAH zEn hg hm boot_sorted (yi ha zAd he) (by decide) (by decide) he hpl) ?_
 rintro σ1 H Q ⟨σ,G,R,rl,q,k⟩
 refine⟨σ,G,_,rl,q,fun ds G1 q1 l xs H1 g1 r1 n e1 d1=>?_⟩
 cases q2:intsOf ds with
 | none=>rw[q2] at q1;exact q1.elim
 | some ns =>
  rw[q2] at q1
  have hds:=zEG q2
  subst hds
  have hxs:=d1.ints_inv
  subst hxs
  refine⟨l,ns,rfl,.of e1,q1.1,fun l' ns' n' h1 h2=>?_⟩
  exact k _ G1 (q1.2 ns' h1 h2) l' _ _ (g1.trans (.fresh n')) (r1.fresh n') (r1.free n') zi (Dens.ints ns')
theorem zIC{t:TA}(hg:Gl X "range")(hm:X.mg "range"=none)(ha:PA X [a] t)(hs:starEach [a] X.env=[(false,eval a X.env)]:=by rfl) :
  PE X (.Call (.Name "range" p) [a] [] pos) (fun σ H Q=>t σ H fun vs H1=>∃ j:Int,vs=[.int j]∧∀ l,H1 l=none→Q (.ref l) (yc H1 l (.rng 0 j))):=by
 intro pins s σ H Q I h
 refine Call_ (zBE I hg hm boot_range (PyProof.Rows.callWith_type1 (yV (ha pos pins s σ H _ I h) fun us s1 ⟨vs,H1,I1,r1,q1⟩=>?_) hs rfl))
 obtain⟨j,e,q⟩:=q1
 subst e
 cases r1 with
 | cons r rr =>
  cases rr
  obtain⟨t,rfl⟩:=r
  refine call_range_1 ?_
  have hn:H1 s1.heap.objs.size=none:=I1.hok.fresh (Nat.le_refl _)
  exact⟨.ref s1.heap.objs.size,_,I1.laid (o:=.rng 0 j) (fun b u e=>Heap.get?_push_of_some _ e) (Nat.le_refl _) ⟨_,_,_,Heap.get?_push_size _ rfl⟩,rfl,q _ hn⟩
theorem zGV(hc:X.calm=true):yk X (.type "list") (fun xs H Q=>∃ p j,xs=[.ref p]∧H p=some (.rng 0 j)∧(0≤j∧j≤1000000)∧∀ l,H l=none→Q (.ref l) (yc H l (.lst ((List.range j.toNat).map fun(k:Nat)=>V.int k)))):=by
 intro pins s σ H xs us Q I r h
 obtain⟨p,j,rfl,hp,⟨h0,h1⟩,q⟩:=h
 obtain⟨u,rfl,rx⟩:=vals1 r
 cases rx
 obtain⟨t1,t2,t3,ho⟩:∃ t u v,s.heap.get? p=some { cls:=.type "range",data:=.fields #[.int 0 t,.int j u,.int 1 v] }:=I.hok p _ hp
 have hsz:Builtin.Range.rangeSize 0 j 1=((j.toNat:Nat):Int):=by rw[rangeSize_one];split<;>omega
 refine call_list_range (I.ok.hd hc) (show IsRange s.heap p 0 j 1 t1 t2 t3 from ho) (small_one (by omega) (by omega) (by omega) (by omega)) hsz (by omega) fun h' tk acc' c' kp e hacc=>?_
 have hn:H s.heap.objs.size=none:=I.hok.fresh (Nat.le_refl _)
 refine⟨.ref s.heap.objs.size,_,I.laid (o:=.lst ((List.range j.toNat).map fun(k:Nat)=>V.int k)) kp (Nat.le_refl _) ?_,rfl,q _ hn⟩
 refine⟨?_,acc'.toList,c',?_,by rw[e]⟩
 ·rw[List.length_map,List.length_range,sizeLine_eq];omega
 ·refine zCl (by simp[hacc.1]) fun i x v e1 e2=>?_
  have e2':acc'[i]?=some v:=by simpa using e2
  obtain⟨t,rfl⟩:=hacc.2 i v e2'
  rw[List.getElem?_map] at e1
  cases q':(List.range j.toNat)[i]? with
  | none=>rw[q'] at e1;cases e1
  | some k =>
   rw[q'] at e1
   cases e1
   have hk:k=i:=by
    have:=(List.getElem?_eq_some_iff.mp q').2
    simpa using this.symm
   subst hk
   refine⟨t,?_⟩
   congr 1
   omega
def zDM(t:yt):TL2:=fun σ G R=>t σ G fun ds G1=>match ds with | [.int j]=>(0≤j∧j≤1000000)∧R (yL 0 j.toNat) G1 | _=>False
theorem zHR{t:yt}{pos':Pos}(hc:X.calm=true)(hg:Gl X "list")(hm:X.mg "list"=none)(hg2:Gl X "range")(hm2:X.mg "range"=none)(ha:A2 X [a] t)(hs:starEach [a] X.env=[(false,eval a X.env)]:=by rfl)
  (he:starEach [.Call (.Name "range" p2) [a] [] pos] X.env=(false,eval (.Call (.Name "range" p2) [a] [] pos) X.env)::starEach [] X.env:=by rfl) (hpl:(backTo pos' (starEach [] X.env)).any (·.1)=false:=by rfl) :
  F2 X (.Call (.Name "list" p) [.Call (.Name "range" p2) [a] [] pos] [] pos') (zDM t):=by
 refine PE.mono (zCT (zGV hc) hg hm (by decide +kernel) (yi (zIC hg2 hm2 ha hs) zAd he) (by decide) (by decide) he hpl) ?_
 rintro σ1 H Q ⟨σ,G,R,rl,q,k⟩
 refine⟨σ,G,_,rl,q,fun ds G1 q1 vs H1 g1 r1 d1=>?_⟩
 split at q1
 ·rename_i j
  obtain⟨v,rfl,d2⟩:=zCk d1
  unfold zS at d2
  subst d2
  refine⟨j,rfl,fun l n=>⟨l,j,rfl,zi,q1.1,fun l' n'=>?_⟩⟩
  have g2:yA H1 (yc H1 l (.rng 0 j)):=.fresh n
  have r2:=r1.fresh (o:=.rng 0 j) n
  refine k _ G1 q1.2 l' _ _ ((g1.trans g2).trans (.fresh n')) (r2.fresh n') (r2.free n') zi ?_
  have:(List.range j.toNat).map (fun(k:Nat)=>V.int k)=((List.range j.toNat).map fun(k:Nat)=>(k:Int)).map V.int:=by simp
  rw[this]
  have e2:yL 0 j.toNat=((List.range j.toNat).map fun(k:Nat)=>(k:Int)).map D.int:=by simp[yL]
  rw[e2]
  exact Dens.ints _
 ·exact q1.elim
def zMp(ta tb:zk):TL2:=fun σ G R=>ta σ G fun x G1=>tb σ G1 fun y G2=>match x,y with
 | .adr l,.int k=>match G2.m l with
  | some ds=>(0≤k∧k≤1000)∧ds.length≤1000∧R ((List.replicate k.toNat ds).flatten) G2
  | none=>False
 | _,_=>False
theorem Dens.rep{K:PySem.W.Frag}{H:Hp}{ds:List D}{xs:List V}(h:Dens K H ds xs):∀ n:Nat,Dens K H (List.replicate n ds).flatten (List.replicate n xs).flatten
 | 0=>.nil
 | n+1=>by
  rw[List.replicate_succ,List.flatten_cons,List.replicate_succ,List.flatten_cons]
  exact h.append (Dens.rep h n)
theorem zNx(ha:E2 X a ta)(hb:E2 X b tb):F2 X (.BinOp a .Mult b pos) (zMp ta tb):=by
 refine PE.mono (zI5 zMd ha hb) ?_
 rintro σ1 H Q ⟨σ,G,R,rl,q,k⟩
 refine⟨σ,G,_,rl,q,fun dx G1 q1 x H1 g1 r1 d1=>⟨σ,G1,_,rl.to g1 r1,q1,fun dy G2 q2 y H2 g2 r2 d2=>?_⟩⟩
 split at q2
 ·rename_i l i
  split at q2
  ·rename_i ds e
   obtain⟨⟨h0,h1⟩,hz,q3⟩:=q2
   have d1':=d1.grow g2
   unfold zS at d1' d2
   subst d1' d2
   obtain⟨xs,e1,e2⟩:=r2.m l ds e
   have hlen:=e2.length
   refine⟨l,i,xs,rfl,rfl,e1,by omega,by omega,?_,fun l' n'=>?_⟩
   ·have h3:i.toNat≤1000:=by omega
    have h4:xs.length≤1000:=by omega
    have:=Nat.mul_le_mul h4 h3
    rw[sizeLine_eq];omega
   ·exact k _ G2 q3 l' _ _ ((g1.trans g2).trans (.fresh n')) (r2.fresh n') (r2.free n') zi ((e2.rep i.toNat).grow (.fresh n'))
  ·exact q2.elim
 ·exact q2.elim
def zGW(to:zk)(t:yt):zk:=fun σ G R=>to σ G fun x G1=>match x with
 | .adr l=>match G1.m l with
  | some _=>t σ G1 fun ds G2=>match ds with
   | [d]=>(match G2.m l with | some xs=>xs.length≤1000000∧R .non (zR G2 l (xs++[d])) | none=>False)
   | _=>False
  | none=>False
 | _=>False
theorem zDN{t:yt}{apos:Pos}(ho:E2 X o to)(ha:A2 X [e] t)
  (hbase:attributeBase o "append" X.env (eval o X.env)=eval o X.env:=by rfl)
  (hfew:((backTo pos (starEach [e] X.env)).all (fun x=>!x.1)&&(backToKw pos (keywordEach [] X.env)).all (fun x=>x.1.isSome)
   && decide ([e].length+([]:List Keyword).length+(if ([]:List Keyword).isEmpty then 0 else 1)<30))=true:=by rfl)
  (hline:(apos.endLine==pos.line)=true:=by rfl) (hs:starEach [e] X.env=(false,eval e X.env)::starEach [] X.env:=by rfl) (hplain:(backTo pos (starEach [] X.env)).any (·.1)=false:=by rfl) :
  E2 X (.Call (.Attribute o "append" apos) [e] [] pos) (zGW to t):=by
 refine PE.mono (zJB PySem.F.plainAttrs_list PySem.F.slot_list_append PySem.F.type_list_append zCU ho ha hbase hfew hline hs hplain) ?_
 rintro σ1 H Q ⟨σ,G,R,rl,q,k⟩
 refine⟨σ,G,_,rl,q,fun dx G1 q1 x H1 g1 r1 d1=>?_⟩
 split at q1
 ·rename_i l
  split at q1
  ·rename_i ds0 e0
   unfold zS at d1
   subst d1
   obtain⟨xs0,a1,a2⟩:=r1.m l ds0 e0
   refine⟨.inl ⟨rfl,xs0,.of a1⟩,σ,G1,_,rl.to g1 r1,q1,fun ds G2 q2 vs H2 g2 r2 d2=>?_⟩
   split at q2
   ·rename_i d
    split at q2
    ·rename_i xs e1
     obtain⟨v,rfl,d3⟩:=zCk d2
     obtain⟨ys,b1,b2⟩:=r2.m l xs e1
     have hlen:=b2.length
     refine⟨l,ys,v,rfl,rfl,b1,by rw[sizeLine_eq];omega,?_⟩
     exact k _ _ q2.2 _ _ ((g1.trans g2).trans (.lst b1)) (r2.put b1 (b2.append (.cons d3 .nil))) (by unfold zS;rfl)
    ·exact q2.elim
   ·exact q2.elim
  ·exact q1.elim
 ·exact q1.elim
def zK2(to:zk)(t:TL2):zk:=fun σ G R=>to σ G fun x G1=>match x with
 | .adr l=>match G1.m l with
  | some _=>t σ G1 fun zs G2=>match G2.m l with | some xs=>xs.length+zs.length≤1000000∧R .non (zR G2 l (xs++zs)) | none=>False
  | none=>False
 | _=>False
theorem zJP{apos:Pos}(ho:E2 X o to)(ha:F2 X e tl)
  (hbase:attributeBase o "extend" X.env (eval o X.env)=eval o X.env:=by rfl)
  (hfew:((backTo pos (starEach [e] X.env)).all (fun x=>!x.1)&&(backToKw pos (keywordEach [] X.env)).all (fun x=>x.1.isSome)
   && decide ([e].length+([]:List Keyword).length+(if ([]:List Keyword).isEmpty then 0 else 1)<30))=true:=by rfl)
  (hline:(apos.endLine==pos.line)=true:=by rfl) (hs:starEach [e] X.env=(false,eval e X.env)::starEach [] X.env:=by rfl) (hplain:(backTo pos (starEach [] X.env)).any (·.1)=false:=by rfl) :
  E2 X (.Call (.Attribute o "extend" apos) [e] [] pos) (zK2 to tl):=by
 refine PE.mono (zJB PySem.F.plainAttrs_list PySem.F.slot_list_extend PySem.F.type_list_extend zH3 ho (yi ha zAd hs) hbase hfew hline hs hplain) ?_
 rintro σ1 H Q ⟨σ,G,R,rl,q,k⟩
 refine⟨σ,G,_,rl,q,fun dx G1 q1 x H1 g1 r1 d1=>?_⟩
 split at q1
 ·rename_i l
  split at q1
  ·rename_i ds0 e0
   unfold zS at d1
   subst d1
   obtain⟨xs0,a1,a2⟩:=r1.m l ds0 e0
   refine⟨.inl ⟨rfl,xs0,.of a1⟩,σ,G1,_,rl.to g1 r1,q1,fun zs G2 q2 l2 ys H2 g2 r2 n2 e2 d2=>?_⟩
   split at q2
   ·rename_i xs e1
    obtain⟨ws,b1,b2⟩:=r2.m l xs e1
    have hl1:=b2.length
    have hl2:=d2.length
    refine⟨l,l2,ws,ys,rfl,rfl,b1,e2,by rw[sizeLine_eq];omega,?_⟩
    exact k _ _ q2.2 _ _ ((g1.trans g2).trans (.lst b1)) (r2.put b1 (b2.append d2)) (by unfold zS;rfl)
   ·exact q2.elim
  ·exact q1.elim
 ·exact q1.elim
def zJQ(to:zk)(t:yt):zk:=fun σ G R=>to σ G fun x G1=>match x with
 | .adr l=>match G1.m l with
  | some _=>t σ G1 fun ds G2=>match ds with
   | [.int i]=>(match G2.m l with
    | some xs=>(0≤i∧i<xs.length∧i≤1000000)∧(match xs[i.toNat]? with | some d=>R d (zR G2 l (xs.eraseIdx i.toNat)) | none=>False)
    | none=>False)
   | _=>False
  | none=>False
 | _=>False
theorem zLp{t:yt}{apos:Pos}(ho:E2 X o to)(ha:A2 X [e] t)
  (hbase:attributeBase o "pop" X.env (eval o X.env)=eval o X.env:=by rfl)
  (hfew:((backTo pos (starEach [e] X.env)).all (fun x=>!x.1)&&(backToKw pos (keywordEach [] X.env)).all (fun x=>x.1.isSome)
   && decide ([e].length+([]:List Keyword).length+(if ([]:List Keyword).isEmpty then 0 else 1)<30))=true:=by rfl)
  (hline:(apos.endLine==pos.line)=true:=by rfl) (hs:starEach [e] X.env=(false,eval e X.env)::starEach [] X.env:=by rfl) (hplain:(backTo pos (starEach [] X.env)).any (·.1)=false:=by rfl) :
  E2 X (.Call (.Attribute o "pop" apos) [e] [] pos) (zJQ to t):=by
 refine PE.mono (zJB PySem.F.plainAttrs_list PySem.F.slot_list_pop PySem.F.type_list_pop zJC ho ha hbase hfew hline hs hplain) ?_
 rintro σ1 H Q ⟨σ,G,R,rl,q,k⟩
 refine⟨σ,G,_,rl,q,fun dx G1 q1 x H1 g1 r1 d1=>?_⟩
 split at q1
 ·rename_i l
  split at q1
  ·rename_i ds0 e0
   unfold zS at d1
   subst d1
   obtain⟨xs0,a1,a2⟩:=r1.m l ds0 e0
   refine⟨.inl ⟨rfl,xs0,.of a1⟩,σ,G1,_,rl.to g1 r1,q1,fun ds G2 q2 vs H2 g2 r2 d2=>?_⟩
   split at q2
   ·rename_i i
    split at q2
    ·rename_i xs e1
     obtain⟨⟨h0,h1,h9⟩,q2⟩:=q2
     split at q2
     ·rename_i d e2
      obtain⟨v,rfl,d3⟩:=zCk d2
      unfold zS at d3
      subst d3
      obtain⟨ys,b1,b2⟩:=r2.m l xs e1
      have hlen:=b2.length
      obtain⟨z,c1,c2⟩:=b2.get e2
      refine⟨l,ys,i,i.toNat,z,rfl,rfl,b1,by omega,by omega,?_,c1,?_⟩
      ·have hi:¬ i<0:=by omega
       unfold seqIndex?
       simp only[if_neg hi]
       rw[if_pos (by rw[Bool.and_eq_true];exact⟨decide_eq_true h0,decide_eq_true (by omega)⟩)]
      ·exact k _ _ q2 _ _ ((g1.trans g2).trans (.lst b1)) (r2.put b1 (b2.eraseIdx i.toNat)) (c2.grow (.lst b1))
     ·exact q2.elim
    ·exact q2.elim
   ·exact q2.elim
  ·exact q1.elim
 ·exact q1.elim
def zBI:D→String→Bool
 | .tup _,T=>decide (T="tuple")
 | .bl _,T=>decide (T="bool"∨T="int")
 | .int _,T=>decide (T="int")
 | .str _,T=>decide (T="str")
 | .non,_=>false
 | .adr _,_=>false
 | .dic _,T=>decide (T="dict")
def tys:List String:=["tuple","bool","int","str","list","dict"]
theorem zFR{T:String}(hT:T∈tys):yk X (.builtin "isinstance") (fun xs H Q=>∃ x d,xs=[x,.ty T]∧zS X.K H d x∧((∀ l,d≠.adr l)∧Q (.bl (zBI d T)) H∨∃ l ys,d=.adr l∧SqL X.K H l ys∧Q (.bl (decide (T="list"))) H)):=by
 intro pins s σ H xs us Q I r h
 obtain⟨x,d,rfl,hd,q⟩:=h
 obtain⟨u,u',rfl,rx,ry⟩:=vals2 r
 obtain rfl:u'=Value.type T:=ry
 simp only[tys,List.mem_cons,List.not_mem_nil,or_false] at hT
 rcases q with ⟨hna,q⟩ | ⟨l,ys,rfl,hs,q⟩
 ·cases d with
  | tup _ =>
   unfold zS at hd
   obtain⟨a,ys,rfl,hs,_⟩:=hd
   cases (show u=Value.ref a from rx)
   obtain⟨_,_,⟨o,h1,h2,_⟩,_⟩:=I.tuple hs
   rcases hT with rfl | rfl | rfl | rfl | rfl | rfl<;>exact PySem.W.kia_one PySem.W.kitx_tuple I.kIn ⟨o,h1,h2⟩ (by rfl) (fun z=>nomatch z) fun tk=>⟨.bl _,H,I.tok _,rfl,q⟩
  | bl _ =>
   unfold zS at hd
   subst hd
   rcases hT with rfl | rfl | rfl | rfl | rfl | rfl<;>exact zBT I rx (.bl _) (by rfl) fun tk=>⟨.bl _,H,I.tok _,rfl,q⟩
  | int _ =>
   unfold zS at hd
   subst hd
   rcases hT with rfl | rfl | rfl | rfl | rfl | rfl<;>exact zBT I rx (.int _) (by rfl) fun tk=>⟨.bl _,H,I.tok _,rfl,q⟩
  | str _ =>
   unfold zS at hd
   subst hd
   rcases hT with rfl | rfl | rfl | rfl | rfl | rfl<;>exact zBT I rx (.str _) (by rfl) fun tk=>⟨.bl _,H,I.tok _,rfl,q⟩
  | non =>
   unfold zS at hd
   subst hd
   rcases hT with rfl | rfl | rfl | rfl | rfl | rfl<;>exact zBT I rx .non (by rfl) fun tk=>⟨.bl _,H,I.tok _,rfl,q⟩
  | dic a =>
   unfold zS at hd
   obtain⟨rfl,o,y,hs,hc⟩:=hd
   cases (show u=Value.ref a from rx)
   have h1:=(I.hok a _ hs).1
   rcases hT with rfl | rfl | rfl | rfl | rfl | rfl<;>exact PySem.W.kia_one PySem.W.kitx_dict I.kIn ⟨o,h1,hc⟩ (by rfl) (fun z=>nomatch z) fun tk=>⟨.bl _,H,I.tok _,rfl,q⟩
  | adr l=>exact absurd rfl (hna l)
 ·unfold zS at hd
  subst hd
  cases (show u=Value.ref l from rx)
  obtain⟨_,_,pl,_⟩:=I.list hs
  obtain⟨o,h1,h2,_⟩:=pl.isList
  rcases hT with rfl | rfl | rfl | rfl | rfl | rfl<;>exact PySem.W.kia_one PySem.W.kitx_list I.kIn ⟨o,h1,h2⟩ (by rfl) (fun z=>nomatch z) fun tk=>⟨.bl _,H,I.tok _,rfl,q⟩
def zBJ(T:String)(te:zk):zk:=fun σ G R=>te σ G fun d G1=>match d with
 | .adr l=>(∃ ds,Ls G1 l ds)∧R (.bl (decide (T="list"))) G1
 | d=>R (.bl (zBI d T)) G1
theorem zB2{T:String}{x:Str}(hg:Gl X "isinstance")(hm:X.mg "isinstance"=none)(hg2:Gl X x)(hm2:X.mg x=none)(hv:bootBuiltins x=some (.type T))(ha:E2 X e te)(hT:T∈tys:=by decide)
  (he:starEach [e,.Name x p2] X.env=(false,eval e X.env)::starEach [.Name x p2] X.env:=by rfl) (he2:starEach [.Name x p2] X.env=(false,eval (.Name x p2) X.env)::starEach [] X.env:=by rfl) (hpl:(backTo pos (starEach [.Name x p2] X.env)).any (·.1)=false:=by rfl)
  (hn:x≠"__name__":=by decide) (hdb:(x==("__debug__":Str))=false:=by decide) :
  E2 X (.Call (.Name "isinstance" p) [e,.Name x p2] [] pos) (zBJ T te):=by
 refine PE.mono (zAH (zFR (T:=T) hT) hg hm (by decide +kernel) (yi ha (yi (zEe (v:=.ty T) hg2 hm2 hv rfl hn hdb) zAd he2) he) (by decide) (by decide) he hpl) ?_
 rintro σ1 H Q ⟨σ,G,R,rl,q,k⟩
 refine⟨σ,G,_,rl,q,fun d G1 q1 v H1 g1 r1 d1=>?_⟩
 refine⟨v,d,rfl,d1,?_⟩
 cases d with
 | adr l =>
  obtain⟨⟨ds,hl⟩,q1⟩:=q1
  obtain⟨xs,hs,_⟩:=r1.sq hl
  exact .inr ⟨l,xs,rfl,hs,k _ G1 q1 _ H1 g1 r1 (by unfold zS;rfl)⟩
 | _=>exact .inl ⟨fun l z=>(by cases z),k _ G1 q1 _ H1 g1 r1 (by unfold zS;rfl)⟩
def zGX(i:Nat)(te:zk)(f:Int→Int→Int):yy:=fun E σ G=>match look σ i with
 | some (.int a)=>te σ G fun y G1=>match y with | .int b=>E.nx (σ.set i (some (.int (f a b)))) G1 | _=>False
 | _=>False
end
section
variable {P:Program} {w:World} {K:PySem.W.Frag} {mg:Str→Option Value} {base:Heap}
def FgR(R:Q2):Q2:=fun d G=>∃ G',Sub G' G∧R d G'
theorem FgR.of{R:Q2}{d:D}{G:Gp}(h:R d G):FgR R d G:=⟨G,.refl G,h⟩
def zO(N:List Str)(ds:List D):S2:=ds.map some++List.replicate (N.length-ds.length) none
theorem zEH{N:List Str}{ds:List D}{vs:List V}{G:Gp}{H:Hp}(r:yI K G H)(d:Dens K H ds vs):Rel K (zO N ds) G (L2.start N vs) H :=
 ⟨r,by simp[zO,L2.start,d.length],fun i x e=>by
  unfold zO at e
  unfold L2.start
  by_cases hi:i<ds.length
  ·rw[List.getElem?_append_left (by simpa using hi),List.getElem?_map] at e
   cases q:ds[i]? with
   | none=>rw[q] at e;cases e
   | some y =>
    rw[q] at e;cases e
    obtain⟨v,e1,e2⟩:=d.get q
    refine⟨v,?_,e2⟩
    rw[List.getElem?_append_left (by rw[List.length_map,← d.length];exact hi),List.getElem?_map,e1];rfl
  ·rw[List.getElem?_append_right (by simpa using hi),List.getElem?_replicate] at e
   split at e<;>cases e⟩
theorem zNy{x qual:Str}{st:Stmt}{f:Addr}{fd:FuncData}{N ps:List Str}{k:Nat}{sp:Sp2}(F:Fun K x qual st f fd)(S:zc N ps (zG st))(hm:mg x=some (.ref f))(hb:Binds K fd ps [])(len:∀ ds G R,sp ds G R→ds.length=ps.length)
  (hbody:∀(cdv:Value) (A:Around) (outer:List Env) (s:Shared) (H:Hp) (E:XK),yo k (A.deeper (envOfC qual (zG st) s.heap.objs.size f cdv)) →
   ∃ t,Ps2 (zEg CX0 P w K mg base N qual (zG st) f cdv A outer s H E).nox (zZ st) t∧∀ ds G R,sp ds G R→t { nx:=fun _ G'=>FgR R .non G',rt:=FgR R } (zO N ds) G):Df P w K mg base (k+1) x ps sp:=by
 refine⟨f,fd,F.ok S ?_ ?_,hm,F.kp,hb⟩
 ·rintro vs H Q E ⟨ds,G,R,d,r,h,_⟩
  rw[← d.length]
  exact len ds G R h
 ·intro cdv A outer s H vs Q E hr h
  obtain⟨ds,G,R,d,r,h,kk⟩:=h
  obtain⟨t,ht,q⟩:=hbody cdv A outer s H E hr
  refine⟨_,ht,zO N ds,G,_,zEH r d,q ds G R h,⟨?_,?_,?_,?_⟩⟩
  ·rintro σ G' ⟨G'',s',q'⟩ σ1 H' g' r'
   exact kk _ G'' q' _ H' g' (r'.g.sub s') (by unfold zS;rfl)
  ·intro σ G' h;exact h.elim
  ·intro σ G' h;exact h.elim
  ·rintro d' G' ⟨G'',s',q'⟩ v H' g' r' dv
   exact kk _ G'' q' _ H' g' (r'.sub s') dv
end
end L3
namespace L3
open PySem PySem.Spec PyProof.Rows L2
section
variable {P:Program} {w:World} {K:PySem.W.Frag} {mg:Str→Option Value} {base:Heap}
abbrev zn(R:Q2):yO:={ nx:=fun _ G'=>FgR R .non G',rt:=FgR R }
theorem yD{x qual:Str}{st:Stmt}{f:Addr}{fd:FuncData}{N ps:List Str}{k:Nat}{sp:Sp2}(t:yy)(F:Fun K x qual st f fd)(S:zc N ps (zG st))(hm:mg x=some (.ref f))(hb:Binds K fd ps [])
  (ht:∀(cdv:Value) (A:Around) (outer:List Env) (s:Shared) (H:Hp) (E:XK),yo k (A.deeper (envOfC qual (zG st) s.heap.objs.size f cdv))→Ps2 (zEg CX0 P w K mg base N qual (zG st) f cdv A outer s H E).nox (zZ st) t)
  (hs:∀ ds G R,sp ds G R→ds.length=ps.length∧t (zn R) (zO N ds) G):Df P w K mg base (k+1) x ps sp :=
 zNy F S hm hb (fun ds G R h=>(hs ds G R h).1) fun cdv A outer s H E hr=>⟨t,ht cdv A outer s H E hr,fun ds G R h=>(hs ds G R h).2⟩
theorem zMq{x qual:Str}{st:Stmt}{f:Addr}{fd:FuncData}{N ps:List Str}{k:Nat}{sp:Sp2}(t:yy)(F:Fun K x qual st f fd)(S:zc N ps (zG st))
  (ht:∀(cdv:Value) (A:Around) (outer:List Env) (s:Shared) (H:Hp) (E:XK),yo k (A.deeper (envOfC qual (zG st) s.heap.objs.size f cdv))→Ps2 (zEg CX0 P w K mg base N qual (zG st) f cdv A outer s H E).nox (zZ st) t)
  (hs:∀ ds G R,sp ds G R→ds.length=ps.length∧t (zn R) (zO N ds) G):zBG P w K mg base CX0 (k+1) f fd ps (lSp K sp):=by
 refine F.ok S ?_ ?_
 ·rintro vs H Q E ⟨ds,G,R,d,r,h,_⟩
  rw[← d.length]
  exact(hs ds G R h).1
 ·intro cdv A outer s H vs Q E hr h
  obtain⟨ds,G,R,d,r,h,kk⟩:=h
  refine⟨_,ht cdv A outer s H E hr,zO N ds,G,_,zEH r d,(hs ds G R h).2,⟨?_,?_,?_,?_⟩⟩
  ·rintro σ G' ⟨G'',s',q'⟩ σ1 H' g' r'
   exact kk _ G'' q' _ H' g' (r'.g.sub s') (by unfold zS;rfl)
  ·intro σ G' h;exact h.elim
  ·intro σ G' h;exact h.elim
  ·rintro d' G' ⟨G'',s',q'⟩ v H' g' r' dv
   exact kk _ G'' q' _ H' g' (r'.sub s') dv
end
def wj(osc sc:Scope):List (Str×NameKind):=sc.names.map fun(n,k)=>if (k==NameKind.free&&osc.kind==.function&&osc.names.lookup n==some .cell) then (n,NameKind.cell) else (n,k)
def zID(ns:List (Str×NameKind))(x:Str):Bool:=match ns.lookup x with | some .local=>true | some .cell=>true | some .free=>true | _=>false
def zJR(osc sc:Scope)(N N0 own:List Str):Bool :=
 decide (sc.kind=.function)&&sc.names.all (fun y=>decide (y.2≠.cell))&&sc.names.all (fun y=>decide (y.2=.local→sc.names.lookup y.1=some .local))
 && sc.names.all (fun y=>decide (y.2=.free→osc.names.lookup y.1=some .cell∨osc.names.lookup y.1=some .free))
 && decide (N0.length=N.length)&&(List.range N0.length).all (fun i=>match N0[i]? with | some x=>!zID (wj osc sc) x||decide (N[i]?=some x∧sc.names.lookup x=some .free) | none=>true)
 && decide ((N0++own).Nodup)&&own.all (fun x=>decide ((wj osc sc).lookup x=some .local))
structure zFS (X:Cx) (sc:Scope) (N0 own:List Str):Prop where
 ok:zBp X sc N0
 nd:(N0++own).Nodup
 loc:∀ x∈own,(relabel sc X.env).names.lookup x=some .local
theorem ze{X:Cx}{osc sc:Scope}{N N0 own:List Str}(h:zJR osc sc N N0 own=true)(e1:X.env.scope=osc:=by rfl)(e2:X.N=N:=by rfl):zFS X sc N0 own:=by
 subst e1 e2
 unfold zJR at h
 simp only[Bool.and_eq_true,decide_eq_true_eq,List.all_eq_true] at h
 obtain⟨⟨⟨⟨⟨⟨⟨h1,h2⟩,h3⟩,h4⟩,h5⟩,h6⟩,h7⟩,h8⟩:=h
 refine⟨⟨h1,h2,h3,h4,h5,fun i x e v=>?_⟩,h7,h8⟩
 have hi:i<N0.length:=(List.getElem?_eq_some_iff.mp e).1
 have q:=h6 i (List.mem_range.mpr hi)
 rw[e] at q
 dsimp only at q
 have hv:zID (wj X.env.scope sc) x=true:=by
  have v':(wj X.env.scope sc).lookup x=some .local∨(wj X.env.scope sc).lookup x=some .cell∨(wj X.env.scope sc).lookup x=some .free:=v
  unfold zID
  rcases v' with v' | v' | v'<;>rw[v']
 rw[hv] at q
 simpa using q
section
variable {X:Cx} {elt iter:Expr} {pos:Pos} {te:zk} {ifs:List Expr} {sc:Scope} {N0:List Str} {wi:TI2} {tc:TT2}
theorem zBf(x:Str){px:Pos}(hc:X.calm=true)(T:zFS X sc N0 [x])(hi:I2 X (.Name x px) iter wi)
  (ht:∀ C s H fp pins,Ts2 (X.comp (N0++[x]) sc C s H fp pins) ifs tc) (he:∀ C s H fp pins,E2 (X.comp (N0++[x]) sc C s H fp pins) elt te)
  (hs:∀ x,foldedSetIterable iter X.env x=pure x:=by intro _;rfl):F2 X (.ListComp elt [⟨.Name x px,iter,ifs,0⟩] sc pos) (za wi bd1 tc te) :=
 zKx x hc T.ok hi T.nd (T.loc x (by simp)) ht he hs
theorem zJS(x y:Str){px py pt:Pos}{kk:Nat}(hc:X.calm=true)(T:zFS X sc N0 [x,y])(hi:I2 X (.Tuple [.Name x px,.Name y py] kk pt) iter wi)
  (ht:∀ C s H fp pins,Ts2 (X.comp (N0++[x,y]) sc C s H fp pins) ifs tc) (he:∀ C s H fp pins,E2 (X.comp (N0++[x,y]) sc C s H fp pins) elt te)
  (hs:∀ x,foldedSetIterable iter X.env x=pure x:=by intro _;rfl):F2 X (.ListComp elt [⟨.Tuple [.Name x px,.Name y py] kk pt,iter,ifs,0⟩] sc pos) (za wi bd2 tc te) :=
 zKy x y hc T.ok hi T.nd (T.loc x (by simp)) (T.loc y (by simp)) ht he hs
theorem zEo(i:Nat)(x:Str){y:Str}{px py spos:Pos}(hc:X.calm=true)(T:zFS X sc N0 [x])(hi:I2 X (.Name x px) iter wi)
  (ht:∀ C s H fp pins,Ts2 (X.comp (N0++[x]) sc C s H fp pins) ifs tc) (he:∀ C s H fp pins,E2 (X.comp (N0++[x]) sc C s H fp pins) elt te)
  (hN:X.N.Nodup) (hy:X.N[i]?=some y:=by rfl) (hl:X.env.scope.names.lookup y=some .local:=by rfl)
  (hsw:swapsWith (.ListComp elt [⟨.Name x px,iter,ifs,0⟩] sc pos) (some (.Name y py)) spos.line X.env=pure true:=by rfl)
  (hs:∀ x,foldedSetIterable iter X.env x=pure x:=by intro _;rfl):P2 X (.Assign [.Name y py] (.ListComp elt [⟨.Name x px,iter,ifs,0⟩] sc pos) spos) (zAh i (za wi bd1 tc te)) :=
 zGP i x hc T.ok hi T.nd (T.loc x (by simp)) ht he hN hy hl hsw hs
end
structure Ext (G G':Gp):Prop where
 sub:Sub G G'
 ro:G'.ro=G.ro
theorem Ext.refl(G:Gp):Ext G G:=⟨.refl G,rfl⟩
theorem Ext.trans{G G1 G2:Gp}(h:Ext G G1)(h':Ext G1 G2):Ext G G2:=⟨h.sub.trans h'.sub,h'.ro.trans h.ro⟩
theorem Ext.new{G:Gp}{l:Addr}{o:List D}(h:G.m l=none):Ext G (zR G l o):=⟨.new h,rfl⟩
theorem Ext.ls{G G':Gp}(h:Ext G G'){a:Addr}{ds:List D}(e:Ls G a ds):Ls G' a ds:=e.sub h.sub
theorem Ext.own{G G':Gp}(h:Ext G G'){A:Addr}(n:G'.m A=none):G.m A=none:=by
 cases q:G.m A with
 | none=>rfl
 | some u=>rw[h.sub.m A u q] at n;cases n
def zg(t:zk)(σ:S2)(G:Gp)(d:D):Prop:=∀ G2,Ext G G2→∀ R:D→Gp→Prop,R d G2→t σ G2 R
def PuT(t:TT2)(σ:S2)(G:Gp)(b:Bool):Prop:=∀ G2,Ext G G2→∀ R:Bool→Gp→Prop,R b G2→t σ G2 R
def PuL(t:TL2)(σ:S2)(G:Gp)(ds:List D):Prop:=∀ G2,Ext G G2→∀ R:List D→Gp→Prop,R ds G2→t σ G2 R
def PuA(t:yt)(σ:S2)(G:Gp)(ds:List D):Prop:=∀ G2,Ext G G2→∀ R:List D→Gp→Prop,R ds G2→t σ G2 R
def PuI(t:TI2)(σ:S2)(G:Gp)(ds:List D):Prop:=∀ G2,Ext G G2→∀ R:List D→(Gp→Prop)→Gp→Prop,(∀ gd G3,Ext G2 G3→(∀ G4,Ext G3 G4→gd G4)→R ds gd G3)→t σ G2 R
theorem zg.mono{t:zk}{σ:S2}{G G':Gp}{d:D}(h:zg t σ G d)(e:Ext G G'):zg t σ G' d:=fun G2 x=>h G2 (e.trans x)
section
variable {σ:S2} {G:Gp}
theorem zE{i:Nat}{d:D}(h:look σ i=some d):zg (zB i) σ G d:=fun G2 _ R q=>by unfold zB;rw[h];exact q
theorem yH{d:D}:zg (xC d) σ G d:=fun _ _ _ q=>q
theorem zQ:PuA zI σ G []:=fun _ _ _ q=>q
theorem zF{ta:zk}{tr:yt}{d:D}{ds:List D}(h:zg ta σ G d)(h':PuA tr σ G ds):PuA (zA ta tr) σ G (d::ds):=fun G2 x R q=>h G2 x _ (h' G2 x _ q)
theorem wq{t:yt}{ds:List D}(h:PuA t σ G ds)(hl:ds.length≤100000):zg (yK t) σ G (.tup ds):=fun G2 x R q=>h G2 x _ ⟨by rw[sizeLine_eq];omega,q⟩
theorem wt{f:D→D→Gp→Q2→Prop}{ta tb:zk}{x y d:D}(ha:zg ta σ G x)(hb:zg tb σ G y)(h:∀ G2,Ext G G2→∀ R:D→Gp→Prop,R d G2→f x y G2 R):zg (zP f ta tb) σ G d:=fun G2 e R q=>ha G2 e _ (hb G2 e _ (h G2 e R q))
theorem zBi{g:Int→Int→D}{ta tb:zk}{i j:Int}(ha:zg ta σ G (.int i))(hb:zg tb σ G (.int j)):zg (zP (wK g) ta tb) σ G (g i j):=wt ha hb fun _ _ _ q=>q
theorem zm{sp:Sp2}{t:yt}{ds:List D}{d:D}(ha:PuA t σ G ds)(h:∀ G2,Ext G G2→∀ R:D→Gp→Prop,R d G2→sp ds G2 R):zg (zK sp t) σ G d:=fun G2 e R q=>ha G2 e _ (h G2 e R q)
theorem zAL{t:zk}{b:Bool}(h:zg t σ G (.bl b)):PuT (xB t) σ G b:=fun G2 e R q=>h G2 e _ q
theorem zJT:PuT yq σ G true:=fun _ _ _ q=>q
theorem zGY{t u:TT2}{b c:Bool}(h:PuT t σ G b)(h':b=false→PuT u σ G c):PuT (zBD t u) σ G (b||c):=fun G2 e R q=>h G2 e _ (by
 cases b with
 | true=>simpa using q
 | false=>rw[if_neg (by simp)];exact h' rfl G2 e _ (by simpa using q))
theorem zEp{t:TT2}{b:Bool}(h:PuT t σ G b):PuT (zA9 t) σ G (!b):=fun G2 e R q=>h G2 e _ q
theorem zB3{tl:TL2}{ds:List D}(h:PuL tl σ G ds):zg (zX zj tl) σ G (.tup ds):=fun G2 e R q=>h G2 e _ q
theorem zAi{t:zk}{ds:List D}(h:zg t σ G (.tup ds)):PuI (iV t) σ G ds:=fun G2 e R q=>h G2 e _ (q _ G2 (.refl _) fun _ _=>trivial)
theorem zAj{t:zk}{a:Addr}{ds:List D}(h:zg t σ G (.adr a))(hr:Ls G a ds):PuI (iV t) σ G ds:=fun G2 e R q=>h G2 e _ ⟨ds,e.ls hr,q _ G2 (.refl _) fun G4 e4=>e4.ls (e.ls hr)⟩
end
end L3
namespace HT
open PySem PySem.Spec PyProof.Rows
section
variable {prog:Program} {w:World} {A:Around} {E:Value→Shared→Prop} {s:Shared}
theorem zJU{t b:Addr}{ws:List Value}{Q:Value→Shared→Prop}(ht:IsTup s.heap t #[])(hb:IsTup s.heap b ws.toArray)(h:Q (.ref b) s):wpAny (model prog w) A (binaryOp .Add (.ref t) (.ref b)) Q E s:=by
 obtain⟨⟨cls,dd,data,sl⟩,ho,hc,n,hd⟩:=id ht
 obtain⟨⟨cls2,dd2,data2,sl2⟩,ho2,hc2,n2,hd2⟩:=id hb
 simp only at hc hd hc2 hd2
 subst hc hd hc2 hd2
 exact concat_meets ⟨_,ho,rfl⟩ ⟨_,ho2,rfl⟩ noFill_tuple_add seq_tuple_add PySem.F.slot_tuple_add PySem.F.entry_tuple_add (PySem.F.args_tuple_add_2 _ _)
   (tuple_addW0 t b #[] ws.toArray n n2 dd dd2 sl sl2 rfl) ⟨ho,ho2,h⟩
theorem zFT{l:Addr}{vs:List Value}{Q:List Value→Shared→Prop}(hl:IsTup s.heap l vs.toArray)
  (h:Q vs { s with heap:=(s.heap.push (seqObj "list" #[] 0)).update s.heap.objs.size (Obj.mapSeq (·++vs.toArray)) }) (hsz:vs.length≤sizeLine:=by size_fits) :
  wpAny (model prog w) A (collect (.ref l)) Q E s:=by
 obtain⟨o,ho,hc,n,hd⟩:=id hl
 unfold collect
 refine wpAny_bind (wpAny_runValue (codeAny_builtin entry_proto_collect' ?_))
 show wpAny _ _ (do again (.builtin "list.__iadd__" ⟨[← newList [],.ref l],[]⟩)) _ _ s
 refine wpAny_bind (wpAny_newList (wpAny_pure ⟨Code.quiet_builtin _ (by decide +kernel),codeAny_builtin entry_list_iadd' ?_⟩))
 show wpAny _ _ (Builtin.List.listExtendWith (.ref s.heap.objs.size) (.ref l) (.ref s.heap.objs.size)) _ _ { s with heap:=s.heap.push (seqObj "list" #[] 0) }
 unfold Builtin.List.listExtendWith
 have ho':(s.heap.push (seqObj "list" #[] 0)).get? l=some o:=Heap.get?_push_of_some _ ho
 refine wpAny_bind (wpAny_typeOf (T:="tuple") ⟨o,ho',hc⟩ ?_)
 have ht:(Value.type "tuple"==Value.type "tuple")=true:=by rfl
 rw[if_pos (by rw[ht];simp)]
 refine wpAny_bind (listItems_at ho' hd ?_)
 refine wpAny_bind (listItems_at (xs:=#[]) (n:=0) (Heap.get?_push_size _ rfl) rfl ?_)
 rw[if_neg (by simp)]
 refine wpAny_bind (listUpdate_at (xs:=#[]) (n:=0) (Heap.get?_push_size _ rfl) rfl ?_ (Nat.zero_le _) (by show(#[]++vs.toArray).size≤sizeLine+1;simp only[Array.size_append,List.size_toArray,List.length_nil];omega))
 refine wpAny_pure ?_
 show wpAny (model prog w) A (do
   let o ← load s.heap.objs.size
   match o.data with
   | .seq xs _=>pure xs.toList
   | _=>unsupported "internal:collect") Q E { s with heap:=(s.heap.push (seqObj "list" #[] 0)).update s.heap.objs.size (Obj.mapSeq (·++vs.toArray)) }
 refine wpAny_bind (wpAny_load (get?_update_seq (Heap.get?_push_size _ rfl) _) ?_)
 show wpAny _ _ (pure ((#[]:Array Value)++vs.toArray).toList) Q E _
 rw[show((#[]:Array Value)++vs.toArray).toList=vs by simp]
 exact wpAny_pure h
end
end HT
namespace HT
open PySem PySem.Spec PyProof.Rows
section
variable {prog:Program} {w:World} {A:Around} {E:Value→Shared→Prop} {s:Shared}
end
end HT
namespace HT
open PySem PySem.Spec PyProof.Rows
open AutoSeq1 (wpAny_loadPart')
end HT
namespace L3
open PySem PySem.Spec PyProof.Rows L2
section
variable {X:Cx} {a b c e o:Expr} {es:List Expr} {pos p:Pos} {ta tb te:zk}
def yJ:D→D→Gp→Q2→Prop:=fun x y G R=>match x,y with
 | .int i,.int j=>R (.int (i+j)) G
 | .tup xs,.tup ys=>xs.length+ys.length≤1000000∧R (.tup (xs++ys)) G
 | _,_=>False
theorem OpR.or{f:Value→Value→Sem Value}{r r':R2}(h:OpR X f r)(h':OpR X f r'):OpR X f (fun x y H Q=>r x y H Q∨r' x y H Q):=by
 intro pins s σ H x y v u Q I rx ry q
 rcases q with q | q
 ·exact h pins s σ H x y v u Q I rx ry q
 ·exact h' pins s σ H x y v u Q I rx ry q
def zLq(K:PySem.W.Frag):R2:=fun x y H Q=>∃ a b ys,x=.ref a∧y=.ref b∧SqT K H a []∧SqT K H b ys∧Q (.ref b) H
theorem zK3:OpR X (binaryOp .Add) (zLq X.K):=by
 intro pins s σ H x y v u Q I rx ry h
 obtain⟨a,b,ys,rfl,rfl,ha,hb,q⟩:=h
 cases rx
 cases ry
 obtain⟨its,r1,p1,_⟩:=I.tuple ha
 obtain⟨its2,r2,p2,_⟩:=I.tuple hb
 have:its=[]:=r1.nil_iff.mpr rfl
 subst this
 exact HT.zJU p1 p2 ⟨.ref b,H,I,rfl,q⟩
theorem zK4{K:PySem.W.Frag}:Fit K (fun x y H Q=>rI0 (fun i j=>.int (i+j)) x y H Q∨zLk K x y H Q∨zLq K x y H Q) yJ:=by
 intro dx dy G R x y H Q h r d1 d2 k
 unfold yJ at h
 split at h
 ·rename_i i j
  unfold zS at d1 d2
  subst d1 d2
  exact .inl ⟨i,j,rfl,rfl,k _ G h _ H (.refl H) r (by unfold zS;rfl)⟩
 ·rename_i xs ys
  obtain⟨hz,h⟩:=h
  unfold zS at d1 d2
  obtain⟨a,us,rfl,s1,t1⟩:=d1
  obtain⟨b,ws,rfl,s2,t2⟩:=d2
  have l1:=t1.length
  have l2:=t2.length
  by_cases hx:xs=[]
  ·subst hx
   have hu:us=[]:=List.length_eq_zero_iff.mp (by rw[← l1];rfl)
   subst hu
   exact .inr (.inr ⟨a,b,ws,rfl,rfl,s1,s2,k _ G h _ H (.refl H) r (by unfold zS;exact⟨b,ws,rfl,s2,by simpa using t2⟩)⟩)
  ·refine .inr (.inl ⟨a,b,us,ws,rfl,rfl,s1,s2,fun z=>hx (List.length_eq_zero_iff.mp (by rw[l1,z];rfl)),by rw[sizeLine_eq];omega,fun z=>?_,fun _ p hp=>?_⟩)
   ·have hy:ys=[]:=List.length_eq_zero_iff.mp (by rw[l2,z];rfl)
    subst hy
    exact k _ G h _ H (.refl H) r (by unfold zS;exact⟨a,us,rfl,s1,by simpa using t1⟩)
   ·exact k _ G h _ _ (.fresh hp) (r.fresh hp) (by unfold zS;exact⟨p,us++ws,rfl,.of zi,(t1.append t2).grow (.fresh hp)⟩)
 ·exact h.elim
theorem wk(ha:E2 X a ta)(hb:E2 X b tb):E2 X (.BinOp a .Add b pos) (zP yJ ta tb):=zEi (zMQ.or (zKp.or zK3)) zK4 ha hb
def zB4(ta tb:zk):TL2:=fun σ G R=>ta σ G fun x G1=>tb σ G1 fun y G2=>match x,y with
 | .adr l,.adr m=>∃ xs ys,G2.m l=some xs∧G2.m m=some ys∧xs.length+ys.length≤1000000∧R (xs++ys) G2
 | _,_=>False
theorem zFU(ha:E2 X a ta)(hb:E2 X b tb):F2 X (.BinOp a .Add b pos) (zB4 ta tb):=by
 refine PE.mono (zI5 zMc ha hb) ?_
 rintro σ1 H Q ⟨σ,G,R,rl,q,k⟩
 refine⟨σ,G,_,rl,q,fun dx G1 q1 x H1 g1 r1 d1=>⟨σ,G1,_,rl.to g1 r1,q1,fun dy G2 q2 y H2 g2 r2 d2=>?_⟩⟩
 split at q2
 ·rename_i l m
  obtain⟨xs,ys,e1,e2,hz,q3⟩:=q2
  have d1':=d1.grow g2
  unfold zS at d1' d2
  subst d1' d2
  obtain⟨us,a1,a2⟩:=r2.m l xs e1
  obtain⟨ws,b1,b2⟩:=r2.m m ys e2
  have l1:=a2.length
  have l2:=b2.length
  refine⟨l,m,us,ws,rfl,rfl,a1,b1,by rw[sizeLine_eq];omega,fun p hp=>?_⟩
  exact k _ G2 q3 p _ _ ((g1.trans g2).trans (.fresh hp)) (r2.fresh hp) (r2.free hp) zi ((a2.append b2).grow (.fresh hp))
 ·exact q2.elim
theorem zW.reverse:∀ {xs:List V} {us:List Value},zW xs us→zW xs.reverse us.reverse
 | _,_,.nil=>.nil
 | _,_,.cons r rr=>by
  rw[List.reverse_cons,List.reverse_cons]
  exact(zW.reverse rr).append (.cons r .nil)
end
section
variable {σ:S2} {G:Gp}
theorem yj{α:Type}{ds:List α}{i:Nat}{x:α}(h:ds[i]?=some x):ds.take (i+1)=ds.take i++[x]:=by
 rw[List.take_add_one,h];rfl
theorem zAs{wi:TI2}{bd:D→Option (List D)}{tc:TT2}{te:zk}{ds:List D}(p:D→Bool)(f:D→D)(us:D→List D)(hw:PuI wi σ G ds)
  (hx:∀ x∈ds,bd x=some (us x)∧PuT tc (σ++(us x).map some) G (p x)∧(p x=true→zg te (σ++(us x).map some) G (f x))):PuL (za wi bd tc te) σ G ((ds.filter p).map f):=by
 intro G2 e R q
 refine hw G2 e _ fun gd G3 e3 hgd A nA=>?_
 refine⟨fun i acc G'=>G'=zR G3 A acc∧acc=((ds.take i).filter p).map f,⟨rfl,by simp⟩,?_,?_,?_⟩
 ·rintro i acc G' hi ⟨rfl,rfl⟩
  refine⟨hgd _ (.new nA),zH,?_⟩
  rw[List.length_map]
  exact Nat.le_trans (List.length_filter_le _ _) (by rw[List.length_take];omega)
 ·rintro i x acc G' hi ⟨rfl,rfl⟩
  obtain⟨hb,ht,he⟩:=hx x (List.mem_of_getElem? hi)
  rw[hb]
  dsimp only
  have ex:Ext G (zR G3 A (((ds.take i).filter p).map f)):=(e.trans e3).trans (.new nA)
  refine ht _ ex _ ?_
  cases hp:p x with
  | false =>
   rw[if_neg (by simp)]
   exact .of ⟨rfl,by rw[yj hi];simp[hp]⟩
  | true =>
   rw[if_pos rfl]
   refine he hp _ ex _ ⟨zH,.of ⟨zCY,by rw[yj hi];simp[hp]⟩⟩
 ·rintro acc G' ⟨rfl,rfl⟩
  exact⟨G2,e3.own nA,e3.sub.trans (.new nA),by rw[List.take_length];exact q⟩
theorem zAt{wi:TI2}{bd:D→Option (List D)}{te:zk}{ds:List D}(f:D→D)(us:D→List D)(hw:PuI wi σ G ds)
  (hx:∀ x∈ds,bd x=some (us x)∧zg te (σ++(us x).map some) G (f x)):PuL (za wi bd yq te) σ G (ds.map f):=by
 have:=zAs (tc:=yq) (fun _=>true) f us hw fun x h=>⟨(hx x h).1,zJT,fun _=>(hx x h).2⟩
 rwa [List.filter_eq_self.mpr (fun _ _=>rfl)] at this
theorem zBV{t:yt}{j:Int}(h:PuA t σ G [.int j])(hj:-1000000≤j∧j≤1000000):PuI (iR1 t) σ G (yL 0 j.toNat):=fun G2 e R q=>h G2 e _ ⟨hj,q _ G2 (.refl _) fun _ _=>trivial⟩
theorem zIE{t:yt}{i j:Int}(h:PuA t σ G [.int i,.int j])(hj:(-1000000≤i∧i≤1000000)∧-1000000≤j∧j≤1000000):PuI (iR2 t) σ G (yL i (j-i).toNat):=fun G2 e R q=>h G2 e _ ⟨hj,q _ G2 (.refl _) fun _ _=>trivial⟩
theorem wy.nil:wy [] []:=.refl _
theorem wy.keep{o:Option D}{r r':S2}(h:wy r r'):wy (o::r) (o::r'):=⟨by simp[h.len],fun i d e=>by
 cases i with
 | zero=>simpa using e
 | succ i=>simpa using h.val i d (by simpa using e)⟩
theorem wy.skip{o:Option D}{r r':S2}(h:wy r r'):wy (none::r) (o::r'):=⟨by simp[h.len],fun i d e=>by
 cases i with
 | zero=>simp at e
 | succ i=>simpa using h.val i d (by simpa using e)⟩
theorem wy.trans{a b c:S2}(h:wy a b)(h':wy b c):wy a c:=⟨h.len.trans h'.len,fun i d e=>h'.val i d (h.val i d e)⟩
theorem zK5{σ:S2}{G:Gp}:Fg (fun σ' G'=>σ'=σ∧G'=G)=fun σ' G'=>wy σ σ'∧Sub G G':=by
 funext σ' G'
 apply propext
 constructor
 ·rintro⟨_,_,h1,h2,rfl,rfl⟩
  exact⟨h1,h2⟩
 ·rintro⟨h1,h2⟩
  exact⟨σ,G,h1,h2,rfl,rfl⟩
def wu(wi:TI2)(g:TG2)(tb:yy):yy:=fun E σ G=>Fg (fun σ' G'=>zNq wi g tb E σ' G') σ G
theorem zAf{X:Cx}{tg iter:Expr}{pos:Pos}{wi:TI2}{g:TG2}{tb:yy}{body:List Stmt}(hp:PassesOwn (model X.prog X.w) X.A X.env X.xe)(hc:X.calm=true)(hi:I2 X tg iter wi)(hg:G2 X tg g)(hb:Ps2 X body tb)
  (hs:∀ x,foldedSetIterable iter X.env x=pure x:=by intro _;rfl):P2 X (.For tg iter body [] pos) (wu wi g tb):=by
 refine PS.mono (zNr hp hc hi hg hb hs) ?_
 rintro E σ1 H ⟨σ,G,D2,r,⟨σ',G',s1,s2,q⟩,k⟩
 exact⟨σ',G',D2,r.sub s1 s2,q,k⟩
theorem zFV{wi:TI2}{g:TG2}{tb:yy}{E:yO}{ds:List D}(hw:PuI wi σ G ds)
  (hb:∀ x∈ds,∀ G1,Ext G G1→g x σ G1 fun σ2 G2=>tb { E with nx:=fun σ' G'=>wy σ σ'∧Sub G1 G',ct:=fun σ' G'=>wy σ σ'∧Sub G1 G',bk:=E.nx } σ2 G2) (h:∀ G1,Ext G G1→E.nx σ G1) {σ0:S2} (hf:wy σ σ0:=by exact .refl _):wu wi g tb E σ0 G:=by
 refine⟨σ,G,hf,.refl G,?_⟩
 refine hw G (.refl G) _ fun gd G3 e3 hgd=>⟨fun i σ' G'=>σ'=σ∧G'=G3,⟨rfl,rfl⟩,?_,?_,?_⟩
 ·rintro i σ' G' _ ⟨rfl,rfl⟩
  exact hgd _ (.refl _)
 ·rintro i x σ' G' hi ⟨rfl,rfl⟩
  rw[zK5]
  exact hb x (List.mem_of_getElem? hi) _ e3
 ·rintro σ' G' ⟨rfl,rfl⟩
  exact h _ e3
end
def zK6(ds:List D)(gd:Gp→Prop)(G1:Gp)(g:TG2)(tb:yy)(E:yO)(σ:S2):Prop:=∃ Pv:Nat→S2→Gp→Prop,Pv 0 σ G1∧(∀ i σ G,i≤ds.length→Pv i σ G→gd G) ∧
 (∀ i x σ G,ds[i]?=some x→Pv i σ G→g x σ G fun σ2 G2=>tb { E with nx:=Fg (Pv (i+1)),ct:=Fg (Pv (i+1)),bk:=E.nx } σ2 G2)∧∀ σ G,Pv ds.length σ G→E.nx σ G
theorem zMr{σ:S2}{I:Gp→Prop}:Fg (fun σ' G'=>σ'=σ∧I G')=fun σ' G'=>wy σ σ'∧∃ G'',Sub G'' G'∧I G'':=by
 funext σ' G'
 apply propext
 constructor
 ·rintro⟨_,G'',h1,h2,rfl,h3⟩
  exact⟨h1,G'',h2,h3⟩
 ·rintro⟨h1,G'',h2,h3⟩
  exact⟨σ,G'',h1,h2,rfl,h3⟩
theorem zEq{ds:List D}{gd:Gp→Prop}{G1:Gp}{g:TG2}{tb:yy}{E:yO}{σ:S2}(I:Nat→Gp→Prop)(h0:I 0 G1)(hg:∀ i G',I i G'→gd G')
  (hb:∀ i x,ds[i]?=some x→∀ G2,I i G2→g x σ G2 fun σ2 G3=>tb { E with nx:=fun σ' G'=>wy σ σ'∧∃ G'',Sub G'' G'∧I (i+1) G'',ct:=fun σ' G'=>wy σ σ'∧∃ G'',Sub G'' G'∧I (i+1) G'',bk:=E.nx } σ2 G3)
  (h:∀ G2,I ds.length G2→E.nx σ G2):zK6 ds gd G1 g tb E σ:=by
 refine⟨fun i σ' G'=>σ'=σ∧I i G',⟨rfl,h0⟩,?_,?_,?_⟩
 ·rintro i σ' G' _ ⟨_,h⟩
  exact hg i G' h
 ·rintro i x σ' G' hi ⟨rfl,hI⟩
  rw[zMr]
  exact hb i x hi G' hI
 ·rintro σ' G' ⟨rfl,hI⟩
  exact h G' hI
def zLr(ds:List D)(gd:Gp→Prop)(G1:Gp)(A:Addr)(bd:D→Option (List D))(tc:TT2)(te:zk)(σ:S2)(R:List D→Gp→Prop):Prop:=∃ Pv:Nat→List D→Gp→Prop,Pv 0 [] (zR G1 A [])∧(∀ i acc G,i≤ds.length→Pv i acc G→gd G∧G.m A=some acc∧acc.length≤i) ∧
 (∀ i x acc G,ds[i]?=some x→Pv i acc G→match bd x with
  | some us=>tc (σ++us.map some) G fun b G3=>if b=true then te (σ++us.map some) G3 fun d G4=>G4.m A=some acc∧FgG (Pv (i+1) (acc++[d])) (zR G4 A (acc++[d])) else FgG (Pv (i+1) acc) G3
  | none=>False)∧∀ acc G,Pv ds.length acc G→∃ G',G'.m A=none∧Sub G' G∧R acc G'
theorem zEr{wi:TI2}{bd:D→Option (List D)}{tc:TT2}{te:zk}{σ:S2}{G:Gp}{R:List D→Gp→Prop}(h:wi σ G fun ds gd G1=>∀ A,G1.m A=none→zLr ds gd G1 A bd tc te σ R):za wi bd tc te σ G R:=h
theorem zDO{ds:List D}{gd:Gp→Prop}{G1:Gp}{bd:D→Option (List D)}{tc:TT2}{te:zk}{σ:S2}{R:List D→Gp→Prop}{A:Addr}(I:Nat→List D→Gp→Prop)(h0:I 0 [] (zR G1 A []))(hg:∀ i acc G',I i acc G'→gd G'∧G'.m A=some acc∧acc.length≤i)
  (hb:∀ i x acc G',ds[i]?=some x→I i acc G'→∃ us,bd x=some us∧tc (σ++us.map some) G' fun b G3=>if b=true then te (σ++us.map some) G3 fun d G4=>G4.m A=some acc∧FgG (I (i+1) (acc++[d])) (zR G4 A (acc++[d])) else FgG (I (i+1) acc) G3)
  (h:∀ acc G',I ds.length acc G'→∃ G'',G''.m A=none∧Sub G'' G'∧R acc G''):zLr ds gd G1 A bd tc te σ R:=by
 refine⟨I,h0,fun i acc G' _ q=>hg i acc G' q,fun i x acc G' hi q=>?_,h⟩
 obtain⟨us,e,q⟩:=hb i x acc G' hi q
 rw[e]
 exact q
def zEI:Sp2:=fun ds G R=>∃(a:Addr) (ns:List Int),ds=[.adr a]∧G.ro a=some (ns.map D.int)∧ns.length≤63∧(∀ l,G.m l=none)∧R (.bl true) G
theorem zMs{K:PySem.W.Frag}{H:Hp}{a:Addr}{ns:List Int}(hl:ns.length≤63)(hO:zKt H)(hS:SqL K H a (ns.map V.int)):lSp K zEI [.ref a] H (fun v _=>v=.bl true) fun _ _ _=>False:=by
 refine⟨[.adr a],⟨fun _=>none,fun b=>if b=a then some (ns.map D.int) else none⟩,fun d _=>d=.bl true,.cons (by unfold zS;rfl) .nil,⟨fun b ds e=>(by cases e),fun b ds e=>?_⟩,⟨a,ns,rfl,by simp,hl,fun _=>rfl,rfl⟩,fun d G' q v H' g r dv=>?_⟩
 ·by_cases hb:b=a
  ·subst hb
   simp at e
   subst e
   refine⟨_,?_,Dens.ints ns⟩
   rcases hS with h | h
   ·rcases hO b with h' | ⟨o,xs,h'⟩ | ⟨ps,h'⟩
    ·rcases h with h | ⟨o,h⟩<;>(rw[h'] at h;cases h)
    ·rcases h with h | ⟨o',h⟩
     ·rw[h'] at h;cases h
     ·exact .inl ⟨o',h⟩
    ·rcases h with h | ⟨o',h⟩<;>(rw[h'] at h;cases h)
   ·exact .inr h
  ·simp[hb] at e
 ·subst q
  unfold zS at dv
  exact dv
theorem zJV{l:PySem.W.OpenLaw}{k:Nat}{q:Program}{loose:List Str}{XP:(Str→Option Value)→Heap→Prop}{YP:World→Heap→Prop}{d:DefRec}{K:Params→PySem.W.Frag}(hn:l.most=some 63)(hdf:d.params.defaults=[])(hr:yo k callerA)
  (hY:∀(w:World) (h:Heap),YP w h→(K w.params).In h∧∃ ts qn,TabsAt (K w.params) h ts qn)
  (F:∀(w:World) (mg:Str→Option Value) (fa:Addr) (h:Heap),(K w.params).In h→h.Ns mainGlobals mg→mg d.name=some (.ref fa) →
   ∃ fd:FuncData,(∀(s:Shared) (u:Value),BindsTo s fd ⟨[u],[]⟩ [("script",u)])∧∀ base:Heap,(K w.params).In base→base.Ns mainGlobals mg→zBG l.prog w (K w.params) mg base CX0 k fa fd ["script"] (lSp (K w.params) zEI)) :
  PySem.W.WalkO q loose XP YP l.row.toRowW d [] (fun f vs=>PySem.call f vs) :=
 L2.zKu (n:=63) (k:=k) (x:="script") (CX:=fun _=>CX0) (sp:=fun w=>lSp (K w.params) zEI) hn (by decide) hdf hr hY F (fun _ H a ns hl hO hS=>zMs hl hO hS) fun _ _ _ _ _ z=>z
def OkS(s:Int)(b:Bool):Prop:=b=false→0≤s∧s<2147483647
def wz(G:Gp)(l:Addr):Prop:=∃ s b,G.m l=some [.int s,.bl b]∧OkS s b
def Dr(l:Addr)(G G':Gp):Prop:=∃ s b,G'=zR G l [.int s,.bl b]∧OkS s b
theorem Dr.st{l:Addr}{G G':Gp}(h:Dr l G G'):wz G' l:=by
 obtain⟨s,b,rfl,h⟩:=h
 exact⟨s,b,zH,h⟩
theorem Dr.trans{l:Addr}{G G1 G2:Gp}(h:Dr l G G1)(h':Dr l G1 G2):Dr l G G2:=by
 obtain⟨s,b,rfl,h⟩:=h
 obtain⟨s',b',rfl,h'⟩:=h'
 exact⟨s',b',zCY,h'⟩
theorem zK7{G:Gp}{l:Addr}{o:List D}(h:G.m l=some o):zR G l o=G:=by
 cases G with
 | mk m ro =>
  unfold zR
  congr 1
  funext b
  by_cases hb:b=l
  ·subst hb;rw[if_pos rfl];exact h.symm
  ·rw[if_neg hb]
theorem Dr.refl{l:Addr}{G:Gp}(h:wz G l):Dr l G G:=by
 obtain⟨s,b,h1,h2⟩:=h
 exact⟨s,b,(zK7 h1).symm,h2⟩
theorem Dr.ro{l:Addr}{G G':Gp}(h:Dr l G G'):G'.ro=G.ro:=by
 obtain⟨s,b,rfl,h⟩:=h;rfl
theorem Dr.ne{l a:Addr}{G G':Gp}(h:Dr l G G')(ha:a≠l):G'.m a=G.m a:=by
 obtain⟨s,b,rfl,h⟩:=h;exact zN ha
theorem Dr.none{l a:Addr}{G G':Gp}(h:Dr l G G')(s:wz G l)(ha:G.m a=none):G'.m a=none:=by
 obtain⟨_,_,h1,_⟩:=s
 rw[h.ne (fun e=>by subst e;rw[h1] at ha;cases ha)];exact ha
theorem wz.ne{l a:Addr}{G:Gp}(s:wz G l)(ha:G.m a=none):a≠l:=fun e=>by
 obtain⟨_,_,h1,_⟩:=s
 subst e;rw[h1] at ha;cases ha
theorem wz.ext{l:Addr}{G G':Gp}(s:wz G l)(h:Sub G G'):wz G' l:=by
 obtain⟨x,b,h1,h2⟩:=s
 exact⟨x,b,h.m l _ h1,h2⟩
theorem Dr.sub{l:Addr}{G G1 G2:Gp}(h:Dr l G1 G2)(e:Sub G G1):∃ G',Dr l G G'∧Sub G' G2:=by
 obtain⟨s,b,rfl,h⟩:=h
 refine⟨zR G l [.int s,.bl b],⟨s,b,rfl,h⟩,⟨fun a o q=>?_,fun a o q=>e.ro a o q⟩⟩
 by_cases ha:a=l
 ·subst ha;rw[zH] at q ⊢;exact q
 ·rw[zN ha] at q ⊢;exact e.m a o q
theorem zB5{α:Type}(x:α)(r:List α):atI (x::r) 0=some x:=zBw (j:=0) rfl
theorem zFW{α:Type}(x y:α)(r:List α):atI (x::y::r) 1=some y:=zBw (j:=1) rfl
theorem zJW{α:Type}(x y z:α)(r:List α):atI (x::y::z::r) 2=some z:=zBw (j:=2) rfl
theorem zCm{x:D}{r:List D}{G:Gp}{R:Q2}:zy (.tup (x::r)) (.int 0) G R=R x G:=by simp only[zy,zB5]
theorem zB6{x y:D}{r:List D}{G:Gp}{R:Q2}:zy (.tup (x::y::r)) (.int 1) G R=R y G:=by simp only[zy,zFW]
theorem zDP{x y z:D}{r:List D}{G:Gp}{R:Q2}:zy (.tup (x::y::z::r)) (.int 2) G R=R z G:=by simp only[zy,zJW]
theorem zAu{x:D}{ng:Bool}{ds:List D}{G:Gp}{R:Q2}:fIn ng x (.tup ds) G R=(flat 8 x=true∧(∀ d∈ds,flat 8 d=true)∧R (.bl (if ng then !ds.any fun z=>wL z x else ds.any fun z=>wL z x)) G):=rfl
theorem zGZ:(0≤sizeLine)=True:=by rw[sizeLine_eq];simp
theorem zGa:(1≤sizeLine)=True:=by rw[sizeLine_eq];simp
theorem zGb:(2≤sizeLine)=True:=by rw[sizeLine_eq];simp
theorem zGc:(3≤sizeLine)=True:=by rw[sizeLine_eq];simp
theorem wX(p:Prop):(True∧p)=p:=by simp
theorem zAv{p q:Prop}:(if true=true then p else q)=p:=if_pos rfl
theorem zAw{p q:Prop}:(if false=true then p else q)=q:=if_neg (by simp)
end L3
namespace L3
open PySem PySem.Spec PyProof.Rows L2
section
variable {X:Cx} {pins:List (Addr×Obj)} {σ1:L2.St} {H:Hp} {s:Shared} {A:Around}
end
section
variable {X:Cx} {e o:Expr} {es:List Expr} {to:zk} {t:yt} {name:Str} {apos cpos:Pos}
end
end L3
namespace HT
open PySem PySem.Spec PyProof.Rows
section
variable {prog:Program} {w:World} {A:Around} {R:Result→Shared→Prop} {I:Addr} {fp wr:List Addr} {n:Nat} {P:Nat→Value→Prop} {St:Nat→Heap→Prop}
structure Cmp (prog:Program) (w:World) (A:Around) (P:Nat→Value→Prop) (bt:Nat→Nat→Bool) (wr:List Addr) (S:Addr) (Kp:Heap→Prop):Prop where
 cmp:∀ i j vi vj (s:Shared) (Q:Value→Shared→Prop) (E:Value→Shared→Prop),Kp s.heap→P i vi→P j vj→Q (.bool (bt i j)) s→wpAny (model prog w) A (richCompare .Lt vi vj) Q E s
 keep:∀ h h':Heap,Kp h→(∀ b o,b∉wr→b≠S→h.get? b=some o→h'.get? b=some o)→Kp h'
end
section
variable {prog:Program} {w:World} {A:Around} {E:Value→Shared→Prop} {s:Shared}
def zCb(h:Heap)(as:List Addr)(nss:List (List Int)):Prop:=as.length=nss.length∧∀(i:Nat) a ns,as[i]?=some a→nss[i]?=some ns→∃ its:List Value,IsTup h a its.toArray∧IntsAre its ns
theorem IsTup.at'{h h':Heap}{a:Addr}{its:Array Value}(x:IsTup h a its)(k:∀ o,h.get? a=some o→h'.get? a=some o):IsTup h' a its:=let ⟨o,h1,h2,h3⟩:=x;⟨o,k o h1,h2,h3⟩
theorem zCb.keep{h h':Heap}{as:List Addr}{nss:List (List Int)}(x:zCb h as nss)(k:∀ a∈as,∀ o,h.get? a=some o→h'.get? a=some o):zCb h' as nss :=
 ⟨x.1,fun i a ns h1 h2=>by obtain⟨its,t,q⟩:=x.2 i a ns h1 h2;exact⟨its,IsTup.at' t (k a (List.mem_of_getElem? h1)),q⟩⟩
theorem zCb.lt{h:Heap}{as:List Addr}{nss:List (List Int)}(x:zCb h as nss):∀ a∈as,a<h.objs.size:=fun a ha=>by
 obtain⟨i,hi⟩:=List.getElem?_of_mem ha
 have hl:i<as.length:=(List.getElem?_eq_some_iff.mp hi).1
 obtain⟨its,⟨o,e,_⟩,_⟩:=x.2 i a (nss[i]'(by rw[← x.1];exact hl)) hi (by simp)
 exact Heap.lt_size e
end
end HT
namespace L3
open PySem PySem.Spec PyProof.Rows L2
section
variable {X:Cx} {a b c d e o:Expr} {es:List Expr} {pos p:Pos} {ta tb tc td te:zk} {tl:TL2}
theorem zFX{A:Around}{prog:Program}{w:World}{bs:List Bool}:TruthOf prog w A (fun i v=>(bs.map Value.bool).toArray[i]?=some v) (fun i=>bs.getD i false):=by
 intro i v s Q E h q
 have hi:i<bs.length:=by
  have:=(Array.getElem?_eq_some_iff.mp h).1
  simpa using this
 have:v=.bool bs[i]:=by
  have:=h
  simp[hi] at this
  exact this.symm
 subst this
 have e:bs.getD i false=bs[i]:=by simp[List.getD,hi]
 have q':Q (bs.getD i false) s:=q
 rw[e] at q'
 exact wpAny_truthy_bool q'
theorem all_range(bs:List Bool):(List.range bs.length).all (fun i=>bs.getD i false)=bs.all id:=by
 rw[Bool.eq_iff_iff]
 simp only[List.all_eq_true,List.mem_range,id]
 constructor
 ·intro h x hx
  obtain⟨i,hi⟩:=List.getElem?_of_mem hx
  have hl:i<bs.length:=(List.getElem?_eq_some_iff.mp hi).1
  have:=h i hl
  simp[List.getD,hi] at this
  exact this
 ·intro h i hi
  have:bs.getD i false=bs[i]:=by simp[List.getD,hi]
  rw[this]
  exact h _ (List.getElem_mem _)
theorem zDQ:∀ {bs:List Bool} {us:List Value},zW (bs.map V.bl) us→us=bs.map Value.bool
 | [],_,h=>by cases h;rfl
 | b::r,_,h=>by
  rw[List.map_cons] at h
  cases h with
  | cons h1 h2=>rw[zDQ h2,(show _=Value.bool b from h1)];rfl
theorem zIF(hc:X.calm=true):yk X (.builtin "all") (fun xs H Q=>∃ l bs,xs=[.ref l]∧SqL X.K H l (List.map V.bl bs)∧Q (.bl (bs.all id)) H):=by
 intro pins s σ H xs us Q I r h
 obtain⟨l,bs,rfl,hs,q⟩:=h
 obtain⟨u,rfl,rx⟩:=vals1 r
 cases rx
 obtain⟨its,rv,pl,_⟩:=I.list hs
 have:=zDQ rv
 subst this
 have hl:=pl.isList
 have ll:l<s.heap.objs.size:=by obtain⟨o,e,_⟩:=hl;exact Heap.lt_size e
 refine call_all_walkS (wpAny_pyIter_list hl ?_)
 refine⟨_,_,_,_,_,_,_,fun i=>bs.getD i false,rfl,(Walks.list (A:=X.A.in1) (I.ok.hd hc) s.heap.objs.size l (Nat.ne_of_lt ll) (bs.map Value.bool).toArray).toS,⟨⟨_,Heap.get?_push_size _ rfl,rfl,rfl⟩,hl.push _⟩,zFX,fun s' hm=>?_⟩
 have e1:(bs.map Value.bool).toArray.size=bs.length:=by simp
 rw[e1,all_range,Moved.eq_with hm]
 refine⟨.bl _,H,I.kept (t':=s'.toks) fun b o e=>hm.heap b o (fun z=>?_) (Heap.get?_push_of_some _ e),rfl,q⟩
 rw[List.mem_singleton] at z
 have:=Heap.lt_size e
 rw[z] at this
 exact absurd this (Nat.lt_irrefl _)
def zGd:Sp2:=fun ds G R=>∃ bs:List Bool,ds=bs.map D.bl∧R (.bl (bs.all id)) G
theorem Dens.bools_inv{K:PySem.W.Frag}{H:Hp}:∀ {bs:List Bool} {xs:List V},Dens K H (bs.map D.bl) xs→xs=bs.map V.bl
 | [],xs,h=>by unfold Dens at h;exact h
 | n::r,xs,h=>by
  rw[List.map_cons] at h
  unfold Dens at h
  obtain⟨x,y,rfl,h1,h2⟩:=h
  unfold zS at h1
  rw[h1,Dens.bools_inv h2];rfl
theorem zJX(hc:X.calm=true)(hg:Gl X "all")(hm:X.mg "all"=none)(ha:F2 X e tl)(he:starEach [e] X.env=(false,eval e X.env)::starEach [] X.env:=by rfl)(hpl:(backTo pos (starEach [] X.env)).any (·.1)=false:=by rfl) :
  E2 X (.Call (.Name "all" p) [e] [] pos) (zX zGd tl):=zFQ (zIF hc) (by
   rintro ds G R l xs H Q ⟨bs,rfl,h⟩ r e d k
   have:=d.bools_inv
   subst this
   exact⟨l,bs,rfl,.of e,k _ G h _ H (.refl H) r (by unfold zS;rfl)⟩) hg hm (by decide +kernel) ha (by decide) (by decide) he hpl
def zAW(f g:D→D→Gp→Q2→Prop)(ta tb tc:zk):zk:=fun σ G R=>ta σ G fun x G1=>tb σ G1 fun y G2=>f x y G2 fun z G3=>match z with | .bl k=>if k=true then tc σ G3 fun w G4=>g y w G4 R else R (.bl false) G3 | _=>False
section
variable {op op' op'':CmpOp} {r r' r'':R2} {f g h:D→D→Gp→Q2→Prop}
theorem zFY{K:PySem.W.Frag}(hf:Fit K r f)(hg:Fit K r' g){σ1:L2.St}{H:Hp}{Q:VK}(hh:lE K (zAW f g ta tb tc) σ1 H Q):zI7 r r' (lE K ta) (lE K tb) (lE K tc) σ1 H Q:=by
 obtain⟨σ,G,R,rl,t,k⟩:=hh
 refine⟨σ,G,_,rl,t,fun dx G1 t1 x H1 g1 r1 d1=>?_⟩
 refine⟨σ,G1,_,rl.to g1 r1,t1,fun dy G2 t2 y H2 g2 r2 d2=>?_⟩
 refine hf dx dy G2 _ x y H2 _ t2 r2 (d1.grow g2) d2 fun dz G3 t3 z H3 g3 r3 d3=>?_
 cases dz with
 | bl kk =>
  unfold zS at d3
  refine⟨kk,d3,?_⟩
  cases kk with
  | true =>
   dsimp only at t3
   rw[if_pos rfl] at t3
   rw[if_pos rfl]
   refine⟨σ,G3,_,rl.to ((g1.trans g2).trans g3) r3,t3,fun dw G4 t4 w H4 g4 r4 d4=>?_⟩
   exact hg dy dw G4 R y w H4 Q t4 r4 ((d2.grow g3).grow g4) d4 fun d G' q v H' g' r' d'=>k d G' q v H' ((((g1.trans g2).trans g3).trans g4).trans g') r' d'
  | false =>
   dsimp only at t3
   rw[if_neg (by simp)] at t3
   rw[if_neg (by simp)]
   exact k _ G3 t3 _ H3 ((g1.trans g2).trans g3) r3 (by unfold zS;rfl)
 | _=>exact t3.elim
theorem zJY(ho:OpR X (compareOp op) r)(ho':OpR X (compareOp op') r')(hf:Fit X.K r f)(hg:Fit X.K r' g)(ha:E2 X a ta)(hb:E2 X b tb)(hc:E2 X c tc)(hm:lastMarks [op,op'] [b,c]=false:=by with_unfolding_all rfl) :
  E2 X (.Compare a [op,op'] [b,c] pos) (zAW f g ta tb tc):=PE.mono (zI8 ho ho' ha hb hc hm) fun σ1 H Q h=>zFY hf hg h
end
end
end L3
namespace K
open PySem PySem.Spec PyProof.Rows L2 L3
abbrev nD(n:Nat):D:=.int (n:Int)
def wQ(n:Nat):List (Nat×Nat):=(List.range n).flatMap fun i=>(List.range (n-(i+1))).map fun k=>(i,i+1+k)
def yN(p:Nat×Nat):D:=.tup [nD p.1,nD p.2]
def zT(n:Nat)(q:Nat×Nat→Bool):D:=.tup [nD n,.tup (((wQ n).filter q).map yN)]
def adj(q:Nat×Nat→Bool)(i j:Nat):Bool:=decide (i≠j)&&q (min i j,max i j)
theorem wd{n:Nat}{p:Nat×Nat}:p∈wQ n↔p.1<p.2∧p.2<n:=by
 obtain⟨i,j⟩:=p
 unfold wQ
 simp only[List.mem_flatMap,List.mem_map,List.mem_range,Prod.mk.injEq]
 constructor
 ·rintro⟨a,ha,k,hk,rfl,rfl⟩;omega
 ·rintro⟨h1,h2⟩;exact⟨i,by omega,j-(i+1),by omega,rfl,by omega⟩
theorem zBj{α β:Type}{f:α→List β}:∀ {l:List α},l.Nodup→(∀ x∈l,(f x).Nodup)→(∀ x∈l,∀ y∈l,x≠y→∀ z,z∈f x→z∉f y)→(l.flatMap f).Nodup
 | [],_,_,_=>by simp
 | a::r,h,h1,h2=>by
  rw[List.flatMap_cons]
  obtain⟨ha,hr⟩:=List.nodup_cons.mp h
  refine List.nodup_append.mpr ⟨h1 a (by simp),zBj hr (fun x hx=>h1 x (by simp[hx])) (fun x hx y hy=>h2 x (by simp[hx]) y (by simp[hy])),fun x hx y hy e=>?_⟩
  subst e
  obtain⟨b,hb,hz⟩:=List.mem_flatMap.mp hy
  exact h2 a (by simp) b (by simp[hb]) (fun e=>ha (e▸hb)) x hx hz
theorem zBk{α β:Type}{f:α→β}(hf:∀ x y,f x=f y→x=y):∀ {l:List α},l.Nodup→(l.map f).Nodup
 | [],_=>by simp
 | a::r,h=>by
  obtain⟨ha,hr⟩:=List.nodup_cons.mp h
  rw[List.map_cons]
  refine List.nodup_cons.mpr ⟨fun hm=>?_,zBk hf hr⟩
  obtain⟨b,hb,e⟩:=List.mem_map.mp hm
  exact ha (hf _ _ e▸hb)
theorem yz(n:Nat):(wQ n).Nodup:=by
 unfold wQ
 refine zBj List.nodup_range (fun i _=>zBk (fun x y e=>by simpa using e) List.nodup_range) fun i _ j _ hne z hz hz'=>?_
 obtain⟨k,_,rfl⟩:=List.mem_map.mp hz
 obtain⟨k',_,e⟩:=List.mem_map.mp hz'
 exact hne (by simpa using(congrArg Prod.fst e).symm)
theorem zDR{n:Nat}(h:n≤100):(wQ n).length≤10000:=by
 unfold wQ
 rw[List.length_flatMap]
 have:∀ l:List Nat,(∀ x∈l,x≤100)→l.sum≤100*l.length:=by
  intro l
  induction l with
  | nil=>simp
  | cons a r ih =>
   intro h
   have h1:=h a (by simp)
   have h2:=ih fun x hx=>h x (by simp[hx])
   simp only[List.sum_cons,List.length_cons];omega
 have q:=this ((List.range n).map fun i=>((List.range (n-(i+1))).map fun k=>(i,i+1+k)).length) (by simp;omega)
 simp only[List.length_map,List.length_range] at q ⊢
 omega
theorem zDS{n:Nat}(p:Nat×Nat):flat (n+1) (yN p)=true:=by simp[yN,flat]
theorem zAx{i j:Int}:wL (.int i) (.int j)=decide (i=j):=by unfold wL;rw[Bool.eq_iff_iff];simp
theorem zK8(p q:Nat×Nat):wL (yN p) (yN q)=decide (p=q):=by
 obtain⟨a,b⟩:=p
 obtain⟨c,d⟩:=q
 simp only[yN,wL,eqDs]
 rw[Bool.eq_iff_iff];simp;omega
theorem zHS(l:List (Nat×Nat))(p:Nat×Nat):((l.map yN).any fun z=>wL z (yN p))=decide (p∈l):=by
 rw[List.any_map,Bool.eq_iff_iff]
 simp only[List.any_eq_true,Function.comp,zK8,decide_eq_true_eq]
 constructor
 ·rintro⟨x,h,rfl⟩;exact h
 ·intro h;exact⟨p,h,rfl⟩
theorem zCy{a b:Nat}:((a:Int)=(b:Int))↔a=b:=by omega
theorem zBK{n:Nat}{q:Nat×Nat→Bool}{G:Gp}{R:Q2}:zy (zT n q) (.int 0) G R=R (nD n) G:=zCm
theorem zBL{n:Nat}{q:Nat×Nat→Bool}{G:Gp}{R:Q2}:zy (zT n q) (.int 1) G R=R (.tup (((wQ n).filter q).map yN)) G:=zB6
def zDT:List D→Gp→(List D→Gp→Prop)→Prop:=fun ds G R=>∃ n:Nat,ds=[nD n]∧n≤100∧R ((wQ n).map yN) G
theorem zGe:∀ ds G R R',(∀ ls G',R ls G'→R' ls G')→zDT ds G R→zDT ds G R':=by
 rintro ds G R R' h ⟨n,e,hn,q⟩
 exact⟨n,e,hn,h _ _ q⟩
def yQ:=zDT
theorem zB7:∀ ds G R R',(∀ ls G',R ls G'→R' ls G')→yQ ds G R→yQ ds G R':=zGe
def zAy:Sp2:=fun ds G R=>∃(n:Nat) (q:Nat×Nat→Bool) (i j:Nat),ds=[zT n q,nD i,nD j]∧i<n∧j<n∧R (.bl (adj q i j)) G
local macro_rules | `(tactic| walk_at "rd") => `(tactic| simp only [yC, zb, zp, xIf, zAg, ye, gN, gNN, zP, yK, wf, zx, zA, zI, zK, yf, zX, zj, zB, look, zO, yl, wP, zAu, zCm, zB6, zDP, zBK, zBL, wK, yW, yJ, fEq, xC, xB, zBD, zB0, zA9, zGX, List.map, List.cons_append, List.nil_append, List.set_cons_zero, List.set_cons_succ, List.length_cons, List.length_nil, List.replicate_succ, List.replicate_zero, Nat.reduceSub, Nat.reduceAdd, zGZ, zGa, zGb, zGc, wX, zAv, zAw, if_true, if_false, Bool.false_eq_true])
def zEs:yy:=(yC (zP (fIn false) (yK (zA (zK yl (zA (zB 1) (zA (zB 2) zI))) (zA (zK wP (zA (zB 1) (zA (zB 2) zI))) zI))) (zP zy (zB 0) (xC (.int 1)))))
theorem zHT{n:Nat}{q:Nat×Nat→Bool}{i j:Nat}(hi:i<n)(hj:j<n):decide ((min i j,max i j)∈(wQ n).filter q)=adj q i j:=by
 rw[Bool.eq_iff_iff,decide_eq_true_eq,List.mem_filter,wd]
 unfold adj
 simp only[Bool.and_eq_true,decide_eq_true_eq]
 constructor
 ·rintro⟨h1,h2⟩;exact⟨by omega,h2⟩
 ·rintro⟨h1,h2⟩;exact⟨by omega,h2⟩
theorem zFZ{n:Nat}{q:Nat×Nat→Bool}:∀ d∈((wQ n).filter q).map yN,flat 8 d=true:=by
 intro x hx
 obtain⟨p,_,rfl⟩:=List.mem_map.mp hx
 exact zDS p
theorem zMt(ds:List D)(G:Gp)(R:Q2)(h:zAy ds G R):ds.length=3∧zEs (zn R) (zO ["web","one","other"] ds) G:=by
 obtain⟨n,q,i,j,rfl,hi,hj,h⟩:=h
 refine⟨rfl,?_⟩
 have e1:(if (j:Int)<(i:Int) then (j:Int) else i)=((min i j:Nat):Int):=by split<;>omega
 have e2:(if (j:Int)>(i:Int) then (j:Int) else i)=((max i j:Nat):Int):=by split<;>omega
 unfold zEs
 walk_at "rd"
 rw[e1,e2]
 have e3:=zHS ((wQ n).filter q) (min i j,max i j)
 rw[zHT hi hj] at e3
 refine⟨zDS (min i j,max i j),zFZ,?_⟩
 rw[← e3] at h
 exact .of h
theorem zAz(n:Nat):yL 0 ((n:Int)).toNat=(List.range n).map nD:=by simp[yL,nD]
theorem wv{σ:S2}{G:Gp}{n:Nat}{q:Nat×Nat→Bool}{t:zk}(h:zg t σ G (zT n q)):zg (zP zy t (xC (.int 0))) σ G (nD n):=wt h yH fun _ _ _ q=>by rw[zBK];exact q
theorem zFa{σ:S2}{G:Gp}{n:Nat}{q:Nat×Nat→Bool}{t:zk}(h:zg t σ G (zT n q)):zg (zP zy t (xC (.int 1))) σ G (.tup (((wQ n).filter q).map yN)):=wt h yH fun _ _ _ q=>by rw[zBL];exact q
theorem yu{l:Addr}{x:D}{ds:List D}{k:Int}{G:Gp}{R:Q2}(h:G.m l=some ds)(e:atI ds k=some x)(q:R x G):zy (.adr l) (.int k) G R:=⟨ds,x,.inl h,e,q⟩
theorem zLs{i:Nat}{l:Addr}{x d:D}{r:List D}{σ:S2}{G:Gp}{R:S2→Gp→Prop}(ho:look σ i=some (.adr l))(h:G.m l=some (x::r))(q:R σ (zR G l (d::r))):gIx (zB i) (xC (.int 0)) d σ G R:=by
 unfold gIx zB
 rw[ho]
 show match G.m l with | some ds=>_ | none=>_
 rw[h]
 have e:ixN (x::r).length 0=some 0:=by simp[ixN]
 show match ixN (x::r).length 0 with | some j=>R σ (zR G l ((x::r).set j d)) | none=>False
 rw[e]
 exact q
def wR:Sp2:=fun ds G R=>∃(a:Addr) (ns:List Int) (k:Nat),ds=[.adr a,nD k]∧Ls G a (ns.map D.int)∧∀ c:Int,R (.int c) G
def zAX:yy:=(zb (xIf (xB (zP (wK fun i j=>.bl (decide (i<j))) (zB 1) (zK yX (zA (zB 0) zI)))) (yC (zP zy (zB 0) (zB 1))) ye) (yC (xC (.int 0))))
theorem zFb(ds:List D)(G:Gp)(R:Q2)(h:wR ds G R):ds.length=2∧zAX (zn R) (zO ["script","k"] ds) G:=by
 obtain⟨a,ns,k,rfl,ha,h⟩:=h
 refine⟨rfl,?_⟩
 unfold zAX
 walk_at "rd"
 refine⟨ns.map D.int,ha,?_⟩
 dsimp only
 by_cases hk:k<ns.length
 ·rw[decide_eq_true (by rw[List.length_map];omega),if_pos rfl]
  exact⟨_,.int ns[k],ha,zBw (by simp[hk]),FgR.of (h _)⟩
 ·rw[decide_eq_false (by rw[List.length_map];omega),if_neg (by simp)]
  exact FgR.of (h 0)
def yR:List D→Gp→(List D→Gp→Prop)→Prop:=fun ds G R=>∃(a:Addr) (ns:List Int) (k:Nat),ds=[.adr a,nD k]∧Ls G a (ns.map D.int)∧∀ s b,OkS s b→R [.int s,.bl b] G
theorem zEt:∀ ds G R R',(∀ ls G',R ls G'→R' ls G')→yR ds G R→yR ds G R':=by
 rintro ds G R R' h ⟨a,ns,k,e,ha,q⟩
 exact⟨a,ns,k,e,ha,fun s b o=>h _ _ (q s b o)⟩
def zBW:yy:=(zb (zp (zK wR (zA (zB 0) (zA (zB 1) zI))) (gN 2)) (zb (xIf (xB (zP (wK fun i j=>.bl (decide (j≤i))) (zB 2) (zP (yW zDB fun i j=>.int (i ^ j.toNat)) (xC (.int 10)) (xC (.int 18))))) (yC (zx (wf (zA (zP (wK fun i j=>.int (i-j)) (zB 2) (zP (yW zDB fun i j=>.int (i ^ j.toNat)) (xC (.int 10)) (xC (.int 18)))) (zA (xC (.bl true)) zI))))) ye) (yC (zx (wf (zA (zP (yW (fun _ j=>0<j) fun i j=>.int (i%j)) (zB 2) (xC (.int 2147483647))) (zA (xC (.bl false)) zI)))))))
theorem zJZ:zDB 10 18:=by unfold zDB;decide
theorem zIG(ds:List D)(G:Gp)(R:Q2)(h:spL yR ds G R):ds.length=2∧zBW (zn R) (zO ["script","k","cell"] ds) G:=by
 obtain⟨a,ns,k,rfl,ha,h⟩:=h
 refine⟨rfl,?_⟩
 unfold zBW
 walk_at "rd"
 refine⟨a,ns,k,rfl,ha,fun c=>?_⟩
 walk_at "rd"
 refine⟨zJZ,?_⟩
 split
 ·refine⟨zJZ,fun l hl=>?_⟩
  exact FgR.of (h _ true (fun z=>by cases z) l hl)
 ·refine⟨by decide,fun l hl=>?_⟩
  exact FgR.of (h _ false (fun _=>⟨Int.emod_nonneg _ (by decide),Int.emod_lt_of_pos _ (by decide)⟩) l hl)
def zo:Sp2:=fun ds G R=>∃(l:Addr) (m:Nat),ds=[.adr l,nD m]∧wz G l∧0<m∧m<1000000∧∀(r:Nat) G',r<m→Dr l G G'→R (nD r) G'
def zB8:yy:=(zb (xIf (xB (zP zy (zB 0) (xC (.int 1)))) (zb (zp (zP (yW (fun _ j=>0<j) fun i j=>.int (i%j)) (zP zy (zB 0) (xC (.int 0))) (zB 1)) (gN 2)) (zb (zp (zP (yW zI6 fun i j=>.int (i / j)) (zP zy (zB 0) (xC (.int 0))) (zB 1)) (gIx (zB 0) (xC (.int 0)))) (yC (zB 2)))) ye) (zb (zp (zP (yW (fun _ j=>0<j) fun i j=>.int (i%j)) (zP yJ (zP (yW zDz fun i j=>.int (i*j)) (zP zy (zB 0) (xC (.int 0))) (xC (.int 48271))) (xC (.int 29))) (xC (.int 2147483647))) (gIx (zB 0) (xC (.int 0)))) (zb (zp (zP (yW (fun _ j=>0<j) fun i j=>.int (i%j)) (zP yJ (zP yJ (zP (yW zDz fun i j=>.int (i*j)) (zP zy (zB 0) (xC (.int 0))) (zP zy (zB 0) (xC (.int 0)))) (zP (yW zDz fun i j=>.int (i*j)) (xC (.int 39373)) (zP zy (zB 0) (xC (.int 0))))) (xC (.int 7))) (xC (.int 2147483629))) (gN 3)) (zb (zp (zP (yW (fun _ j=>0<j) fun i j=>.int (i%j)) (zP yJ (zP (yW zDz fun i j=>.int (i*j)) (zB 3) (zB 3)) (zP (yW zDz fun i j=>.int (i*j)) (xC (.int 16807)) (zB 3))) (xC (.int 2147483587))) (gN 3)) (yC (zP (yW (fun _ j=>0<j) fun i j=>.int (i%j)) (zP (yW zI6 fun i j=>.int (i / j)) (zB 3) (xC (.int 8))) (zB 1)))))))
theorem zDU{x:Int}{m:Nat}(h:0<m):∃ r:Nat,r<m∧x%(m:Int)=r:=⟨(x%(m:Int)).toNat,by
 have h1:=Int.emod_nonneg x (b:=(m:Int)) (by omega)
 have h2:=Int.emod_lt_of_pos x (b:=(m:Int)) (by omega)
 omega,by
 have h1:=Int.emod_nonneg x (b:=(m:Int)) (by omega)
 omega⟩
theorem zJa(ds:List D)(G:Gp)(R:Q2)(h:zo ds G R):ds.length=2∧zB8 (zn R) (zO ["state","many","found","mixed"] ds) G:=by
 obtain⟨l,m,rfl,⟨s,b,hG,ok⟩,hm,hm2,h⟩:=h
 refine⟨rfl,?_⟩
 unfold zB8
 walk_at "rd"
 refine yu hG (zFW _ _ _) ?_
 cases b with
 | true =>
  walk_at "rd"
  refine yu hG (zB5 _ _) ?_
  walk_at "rd"
  refine⟨by omega,yu hG (zB5 _ _) ?_⟩
  walk_at "rd"
  refine⟨⟨by omega,by omega⟩,zLs rfl hG ?_⟩
  walk_at "rd"
  obtain⟨r,hr,e⟩:=zDU (x:=s) hm
  rw[e]
  exact FgR.of (h r _ hr ⟨_,true,rfl,fun z=>by cases z⟩)
 | false =>
  obtain⟨h0,h1⟩:=ok rfl
  walk_at "rd"
  refine yu hG (zB5 _ _) ?_
  walk_at "rd"
  refine⟨.inl ⟨by omega,by omega⟩,by decide,zLs rfl hG ?_⟩
  have p0:=Int.emod_nonneg (s*48271+29) (b:=2147483647) (by decide)
  have p1:=Int.emod_lt_of_pos (s*48271+29) (b:=2147483647) (by decide)
  generalize (s*48271+29)%2147483647=s1 at p0 p1 ⊢
  have hG1:(zR G l [D.int s1,D.bl false]).m l=some [D.int s1,D.bl false]:=zH
  walk_at "rd"
  refine yu hG1 (zB5 _ _) (yu hG1 (zB5 _ _) ?_)
  walk_at "rd"
  refine⟨.inl ⟨by omega,by omega⟩,yu hG1 (zB5 _ _) ?_⟩
  walk_at "rd"
  refine⟨.inl ⟨by omega,by omega⟩,by decide,?_⟩
  have p2:=Int.emod_nonneg (s1*s1+39373*s1+7) (b:=2147483629) (by decide)
  have p3:=Int.emod_lt_of_pos (s1*s1+39373*s1+7) (b:=2147483629) (by decide)
  generalize (s1*s1+39373*s1+7)%2147483629=s2 at p2 p3 ⊢
  refine⟨.inl ⟨by omega,by omega⟩,.inl ⟨by omega,by omega⟩,by decide,⟨by decide,by decide⟩,by omega,?_⟩
  obtain⟨r,hr,e⟩:=zDU (x:=(s2*s2+16807*s2)%2147483587 / 8) hm
  rw[e]
  exact FgR.of (h r _ hr ⟨_,false,rfl,fun _=>⟨p0,p1⟩⟩)
end K
namespace K
open PySem PySem.Spec PyProof.Rows L2 L3
local macro_rules | `(tactic| walk_at "rd") => `(tactic| simp only [yC, zb, zp, xIf, zAg, ye, gN, gNN, zP, yK, wf, zx, zA, zI, zK, yf, zX, zj, zB, look, zO, yl, wP, zAu, zCm, zB6, zDP, zBK, zBL, wK, yW, yJ, fEq, xC, xB, zBD, zB0, zA9, zGX, List.map, List.cons_append, List.nil_append, List.set_cons_zero, List.set_cons_succ, List.length_cons, List.length_nil, List.replicate_succ, List.replicate_zero, Nat.reduceSub, Nat.reduceAdd, zGZ, zGa, zGb, zGc, wX, zAv, zAw, if_true, if_false, Bool.false_eq_true])
def zBM(n i:Nat):List (Nat×Nat):=(List.range i).flatMap fun i=>(List.range (n-(i+1))).map fun k=>(i,i+1+k)
theorem zEJ(n:Nat):zBM n n=wQ n:=rfl
theorem zDV(n i:Nat):zBM n (i+1)=zBM n i++(List.range (n-(i+1))).map fun k=>(i,i+1+k):=by
 unfold zBM
 rw[List.range_succ,List.flatMap_append]
 simp
theorem zIH{n i:Nat}(hi:i≤n)(h:n≤100):(zBM n i).length≤10000:=by
 have:(zBM n i).length≤(wQ n).length:=by
  obtain⟨k,rfl⟩:=Nat.exists_eq_add_of_le hi
  rw[← zEJ]
  have:∀ k,(zBM (i+k) i).length≤(zBM (i+k) (i+k)).length:=fun k=>by
   unfold zBM
   rw[List.range_add,List.flatMap_append,List.length_append];omega
  exact this k
 have:=zDR h
 omega
theorem zJb{n i:Nat}{x:D}(h:((List.range n).map nD)[i]?=some x):x=nD i∧i<n:=by
 rw[List.getElem?_map] at h
 cases q:(List.range n)[i]? with
 | none=>rw[q] at h;cases h
 | some k =>
  rw[q] at h
  cases h
  obtain⟨h1,h2⟩:=List.getElem?_eq_some_iff.mp q
  simp at h1 h2
  subst h2
  exact⟨rfl,h1⟩
theorem zBq{wi:TI2}{g:TG2}{tb:yy}{E:yO}{σ:S2}{G:Gp}(h:wi σ G fun ds gd G1=>zK6 ds gd G1 g tb E σ):wu wi g tb E σ G:=.of h
theorem zMu{t:yt}{g:TG2}{tb:yy}{E:yO}{σ:S2}{G:Gp}{n:Nat}(ht:PuA t σ G [nD n])(hn:n≤1000)(h:zK6 ((List.range n).map nD) (fun _=>True) G g tb E σ):wu (iR1 t) g tb E σ G:=by
 refine zBq (ht G (.refl G) _ ⟨by omega,?_⟩)
 rw[zAz]
 exact h
theorem zMv{t:yt}{g:TG2}{tb:yy}{E:yO}{σ:S2}{G:Gp}{i j:Int}(ht:PuA t σ G [.int i,.int j])(hn:(-1000≤i∧i≤1000)∧-1000≤j∧j≤1000)(h:zK6 (yL i (j-i).toNat) (fun _=>True) G g tb E σ):wu (iR2 t) g tb E σ G :=
 zBq (ht G (.refl G) _ ⟨by omega,h⟩)
theorem zHU{i:Nat}{l:Addr}{d:D}{xs:List D}{σ:S2}{G:Gp}{t:yt}{R:Q2}(ho:look σ i=some (.adr l))(h:G.m l=some xs)(ht:∀ Q:List D→Gp→Prop,Q [d] G→t σ G Q)(hz:xs.length≤1000000)(q:R .non (zR G l (xs++[d]))):zGW (zB i) t σ G R:=by
 unfold zGW zB
 rw[ho]
 show match G.m l with | some _=>_ | none=>_
 rw[h]
 refine ht _ ?_
 show match G.m l with | some xs=>_ | none=>_
 rw[h]
 exact⟨hz,q⟩
theorem zK9{i:Nat}{l:Addr}{zs xs:List D}{σ:S2}{G:Gp}{t:TL2}{R:Q2}(ho:look σ i=some (.adr l))(h:G.m l=some xs)(ht:∀ Q:List D→Gp→Prop,Q zs G→t σ G Q)(hz:xs.length+zs.length≤1000000)(q:R .non (zR G l (xs++zs))):zK2 (zB i) t σ G R:=by
 unfold zK2 zB
 rw[ho]
 show match G.m l with | some _=>_ | none=>_
 rw[h]
 refine ht _ ?_
 show match G.m l with | some xs=>_ | none=>_
 rw[h]
 exact⟨hz,q⟩
theorem zHV{ps:List Nat}{i:Nat}(h:i<ps.length):atI (ps.map nD) (i:Int)=some (nD (ps.getD i 0)):=zBw (by simp[List.getD,h])
theorem zHW{σ:S2}{G:Gp}{t u:zk}{ps:List Nat}{i:Nat}(h:zg t σ G (.tup (ps.map nD)))(h':zg u σ G (nD i))(hi:i<ps.length):zg (zP zy t u) σ G (nD (ps.getD i 0)):=wt h h' fun _ _ _ q=>by
 simp only[zy,zHV hi];exact q
theorem zEu{σ:S2}{G:Gp}{t:zk}{ps:List Nat}(h:zg t σ G (.tup (ps.map nD))):zg (zK yX (zA t zI)) σ G (nD ps.length):=zm (zF h zQ) fun _ _ _ q=>⟨ps.map nD,rfl,by rw[List.length_map];exact q⟩
def zBX:yy:=(zb (zp (zx (wf zI)) (gN 1)) (zb (wu (iR1 (zA (zB 0) zI)) (gN 2) (zAg (zK2 (zB 1) (za (iR2 (zA (zP yJ (zB 2) (xC (.int 1))) (zA (zB 0) zI))) bd1 yq (yK (zA (zB 2) (zA (zB 3) zI))))))) (yC (zB 1))))
theorem zII(ds:List D)(G:Gp)(R:Q2)(h:spL yQ ds G R):ds.length=1∧zBX (zn R) (zO ["many","found","one"] ds) G:=by
 obtain⟨n,rfl,hn,h⟩:=h
 refine⟨rfl,?_⟩
 unfold zBX
 walk_at "rd"
 intro l hl
 refine zMu (n:=n) (zF (zE rfl) zQ) (by omega) ?_
 refine zEq (fun i G'=>G'=zR G l ((zBM n i).map yN)) rfl (fun _ _ _=>trivial) ?_ ?_
 ·rintro i x hx G2 rfl
  obtain⟨rfl,hi⟩:=zJb hx
  have hlen:=zIH (n:=n) (i:=i+1) (by omega) hn
  rw[zDV,List.length_append,List.length_map,List.length_range] at hlen
  have hw:PuI (iR2 (zA (zP yJ (zB 2) (xC (.int 1))) (zA (zB 0) zI))) [some (nD n),some (.adr l),some (nD i)] (zR G l ((zBM n i).map yN)) (yL ((i:Int)+1) ((n:Int)-((i:Int)+1)).toNat) :=
   zIE (zF (wt (zE rfl) yH fun _ _ _ q=>q) (zF (zE rfl) zQ)) (by omega)
  have:=zAt (bd:=bd1) (te:=yK (zA (zB 2) (zA (zB 3) zI))) (fun d=>.tup [nD i,d]) (fun d=>[d]) hw fun x hx=>⟨rfl,wq (zF (zE rfl) (zF (zE rfl) zQ)) (by simp)⟩
  walk_at "rd"
  have e:((n:Int)-((i:Int)+1)).toNat=n-(i+1):=by omega
  have e2:List.map (fun d=>D.tup [nD i,d]) (yL ((i:Int)+1) ((n:Int)-((i:Int)+1)).toNat)=((List.range (n-(i+1))).map fun k=>(i,i+1+k)).map yN:=by
   rw[e]
   unfold yL
   rw[List.map_map,List.map_map]
   refine List.map_congr_left fun k _=>?_
   simp[yN,nD]
  rw[e2] at this
  refine zK9 rfl zH (fun Q q=>this _ (.refl _) Q q) (by simp only[List.length_map,List.length_range];omega) ⟨.keep (.keep (.skip .nil)),_,.refl _,?_⟩
  rw[zCY,zDV,List.map_append]
 ·rintro G2 rfl
  rw[List.length_map,List.length_range,zEJ]
  exact FgR.of (h l hl)
end K
namespace K
open PySem PySem.Spec PyProof.Rows L2 L3
local macro_rules | `(tactic| walk_at "rd") => `(tactic| simp only [yC, zb, zp, xIf, zAg, ye, gN, gNN, zP, yK, wf, zx, zA, zI, zK, yf, zX, zj, zB, look, zO, yl, wP, zAu, zCm, zB6, zDP, zBK, zBL, wK, yW, yJ, fEq, xC, xB, zBD, zB0, zA9, zGX, zAh, List.map, List.cons_append, List.nil_append, List.set_cons_zero, List.set_cons_succ, List.length_cons, List.length_nil, List.replicate_succ, List.replicate_zero, Nat.reduceSub, Nat.reduceAdd, zGZ, zGa, zGb, zGc, wX, zAv, zAw, if_true, if_false, Bool.false_eq_true])
theorem zJc(l:List Nat)(i:Nat):((l.map nD).any fun z=>wL z (nD i))=decide (i∈l):=by
 rw[List.any_map,Bool.eq_iff_iff]
 simp only[List.any_eq_true,Function.comp,zAx,decide_eq_true_eq,zCy]
 constructor
 ·rintro⟨x,h,rfl⟩;exact h
 ·intro h;exact⟨i,h,rfl⟩
theorem zDW(l:List Nat):∀ d∈l.map nD,flat 8 d=true:=by
 intro d hd
 obtain⟨k,_,rfl⟩:=List.mem_map.mp hd
 rfl
theorem zGf{σ:S2}{G:Gp}{t u:zk}{ng:Bool}{x:D}{ds:List D}{b:Bool}(h:zg t σ G x)(h':zg u σ G (.tup ds))(f:flat 8 x=true)(fs:∀ d∈ds,flat 8 d=true)(e:(if ng then !ds.any fun z=>wL z x else ds.any fun z=>wL z x)=b):zg (zP (fIn ng) t u) σ G (.bl b) :=
 wt h h' fun _ _ _ q=>⟨f,fs,by rw[e];exact q⟩
theorem zBN{σ:S2}{G:Gp}{t u:zk}{i j:Int}(h:zg t σ G (.int i))(h':zg u σ G (.int j)):zg (zP yJ t u) σ G (.int (i+j)):=wt h h' fun _ _ _ q=>q
def zA0(n:Nat)(r:List Nat):Prop:=r.Perm (List.range n++List.range n)
theorem zA0.len{n:Nat}{r:List Nat}(h:zA0 n r):r.length=2*n:=by
 have:=h.length_eq
 simp at this;omega
theorem zA0.mem{n:Nat}{r:List Nat}(h:zA0 n r){x:Nat}:x∈r↔x<n:=by
 rw[h.mem_iff];simp
theorem zFc{n i:Nat}:(List.range n).count i=if i<n then 1 else 0:=by
 induction n with
 | zero=>simp
 | succ n ih =>
  rw[List.range_succ,List.count_append,ih]
  by_cases h:i=n
  ·subst h;simp
  ·have:(n==i)=false:=by simpa using fun e=>h e.symm
   simp[List.count_cons,this]
   split<;>split<;>omega
theorem zA0.count{n:Nat}{r:List Nat}(h:zA0 n r){i:Nat}(hi:i<n):r.count i=2:=by
 rw[h.count_eq,List.count_append,zFc,if_pos hi]
def both(r:List Nat)(p:Nat×Nat):List Nat:=r.filter fun x=>decide (x=p.1)||decide (x=p.2)
def zAM(r:List Nat)(p:Nat×Nat):Bool:=match both r p with | a::b::c::_=>decide (a≠b)&&decide (b≠c) | _=>false
theorem zJd{n:Nat}{r:List Nat}(h:zA0 n r){p:Nat×Nat}(hp:p∈wQ n):(both r p).length=4:=by
 obtain⟨i,j⟩:=p
 obtain⟨h1,h2⟩:=wd.mp hp
 have:∀ l:List Nat,(l.filter fun x=>decide (x=i)||decide (x=j)).length=l.count i+l.count j:=by
  intro l
  induction l with
  | nil=>rfl
  | cons a r ih =>
   simp only[List.filter_cons,List.count_cons]
   by_cases ha:a=i
   ·subst ha
    have:¬ a=j:=by dsimp only at h1;omega
    simp[this,ih];omega
   ·by_cases hb:a=j
    ·subst hb;simp[ha,ih];omega
    ·simp[ha,hb,ih]
 unfold both
 rw[this,h.count (by dsimp only at h1 h2;omega),h.count h2]
theorem _root_.L3.Sub.put{G G':Gp}{f:Addr}{x:List D}(h:Sub G G')(n:G.m f=none):Sub G (zR G' f x) :=
 ⟨fun a o e=>by rw[zN (gne e n)];exact h.m a o e,fun a o e=>h.ro a o e⟩
def wl:Sp2:=fun ds G R=>∃(n:Nat) (r:List Nat),ds=[.tup (r.map nD)]∧zA0 n r∧n≤100∧R (zT n (zAM r)) G
def zA1:yy:=(zb (zp (zP (yW zI6 fun i j=>.int (i / j)) (zK yX (zA (zB 0) zI)) (xC (.int 2))) (gN 1)) (zb (zp (zx (wf zI)) (gN 2)) (zb (wu (iF (yf yQ (zA (zB 1) zI))) (gNN 3 4) (zb (zAh 5 (za (iV (zB 0)) bd1 (xB (zP (fIn false) (zB 6) (yK (zA (zB 3) (zA (zB 4) zI))))) (zB 6))) (xIf (zB0 (xB (zP (fEq true) (zP zy (zB 5) (xC (.int 0))) (zP zy (zB 5) (xC (.int 1))))) (xB (zP (fEq true) (zP zy (zB 5) (xC (.int 1))) (zP zy (zB 5) (xC (.int 2)))))) (zAg (zGW (zB 2) (zA (yK (zA (zB 3) (zA (zB 4) zI))) zI))) ye))) (yC (yK (zA (zB 1) (zA (zK zC1 (zA (zB 2) zI)) zI)))))))
theorem zLA{σ:S2}{G:Gp}{r:List Nat}{p:Nat×Nat}{x1 x2 x5:Option D}(h:σ=[some (.tup (r.map nD)),x1,x2,some (nD p.1),some (nD p.2),x5]) :
  PuL (za (iV (zB 0)) bd1 (xB (zP (fIn false) (zB 6) (yK (zA (zB 3) (zA (zB 4) zI))))) (zB 6)) σ G ((both r p).map nD):=by
 subst h
 have:=zAs (bd:=bd1) (tc:=(xB (zP (fIn false) (zB 6) (yK (zA (zB 3) (zA (zB 4) zI)))))) (te:=zB 6) (fun d=>match d with | .int x=>decide (x.toNat=p.1)||decide (x.toNat=p.2) | _=>false) (fun d=>d) (fun d=>[d])
  (zAi (σ:=[some (.tup (r.map nD)),x1,x2,some (nD p.1),some (nD p.2),x5]) (G:=G) (zE (i:=0) rfl)) fun x hx=>by
   obtain⟨k,hk,rfl⟩:=List.mem_map.mp hx
   refine⟨rfl,zAL (zGf (zE (d:=nD k) rfl) (wq (zF (zE (d:=nD p.1) rfl) (zF (zE (d:=nD p.2) rfl) zQ)) (by simp)) rfl (zDW [p.1,p.2]) ?_),fun _=>zE rfl⟩
   have:=zJc [p.1,p.2] k
   simp only[List.map] at this
   simp only[Bool.false_eq_true,if_false,this]
   rw[Bool.eq_iff_iff]
   simp
 have e:List.map (fun d=>d) (List.filter (fun d=>match d with | .int x=>decide (x.toNat=p.1)||decide (x.toNat=p.2) | _=>false) (r.map nD))=(both r p).map nD:=by
  rw[List.map_id',List.filter_map]
  rfl
 rw[e] at this
 exact this
theorem zAo{α:Type}{f:α→D}{l:List α}{i:Nat}{x:D}(h:(l.map f)[i]?=some x):∃ a,l[i]?=some a∧x=f a:=by
 rw[List.getElem?_map] at h
 cases q:l[i]? with
 | none=>rw[q] at h;cases h
 | some a=>rw[q] at h;cases h;exact⟨a,rfl,rfl⟩
theorem zGg(ds:List D)(G:Gp)(R:Q2)(h:wl ds G R):ds.length=1∧zA1 (zn R) (zO ["ring","many","found","one","other","some"] ds) G:=by
 obtain⟨n,r,rfl,hr,hn,h⟩:=h
 refine⟨rfl,?_⟩
 unfold zA1
 walk_at "rd"
 refine⟨r.map nD,rfl,?_⟩
 walk_at "rd"
 refine⟨⟨by decide,by decide⟩,fun f hf=>?_⟩
 have e:(((r.map nD).length:Int) / 2)=(n:Int):=by rw[List.length_map,hr.len];omega
 rw[e]
 refine zBq ⟨n,rfl,hn,fun a ha=>?_⟩
 have fa:a≠f:=fun e=>by rw[e,zH] at ha;cases ha
 have ga:G.m a=none:=by rw[zN fa] at ha;exact ha
 refine zEq (fun k G'=>G'.m f=some ((((wQ n).take k).filter (zAM r)).map yN)∧G'.m a=some ((wQ n).map yN)∧Sub G G') ⟨?_,zH,?_⟩ (fun _ _ h=>.inl h.2.1) ?_ ?_
 ·rw[zN (Ne.symm fa)];exact zH
 ·exact((Sub.refl G).put hf).put ga
 ·rintro k x hx G2 ⟨h1,h2,h3⟩
  obtain⟨p,hp,rfl⟩:=zAo hx
  have hp':=List.mem_of_getElem? hp
  have hc:(((wQ n).take (k+1)).filter (zAM r))=(((wQ n).take k).filter (zAM r))++(if zAM r p=true then [p] else []):=by
   rw[yj hp,List.filter_append]
   congr 1
   simp[List.filter_cons]
  show gNN 3 4 (.tup [nD p.1,nD p.2]) _ _ _
  walk_at "rd"
  refine zLA rfl G2 (.refl G2) _ fun s hs=>?_
  have hl:=zJd hr hp'
  have hz:((((wQ n).take k).filter (zAM r)).map yN).length≤1000000:=by
   rw[List.length_map]
   have:=List.length_filter_le (zAM r) ((wQ n).take k)
   rw[List.length_take] at this
   have:=zDR hn
   omega
  have sf:s≠f:=fun e=>by rw[e,h1] at hs;cases hs
  have sa:s≠a:=fun e=>by rw[e,h2] at hs;cases hs
  have gs:G.m s=none:=by
   cases q:G.m s with
   | none=>rfl
   | some o=>rw[h3.m s o q] at hs;cases hs
  match hb:both r p,hl with
  | [x,y,z,w],_ =>
   have hcr:zAM r p=(decide (x≠y)&&decide (y≠z)):=by unfold zAM;rw[hb]
   rw[hcr] at hc
   walk_at "rd"
   refine yu zH (zB5 _ _) (yu zH (zFW _ _ _) ?_)
   walk_at "rd"
   refine⟨rfl,rfl,?_⟩
   have exy:(!wL (nD x) (nD y))=decide (x≠y):=by rw[zAx];rw[Bool.eq_iff_iff];simp;omega
   have eyz:(!wL (nD y) (nD z))=decide (y≠z):=by rw[zAx];rw[Bool.eq_iff_iff];simp;omega
   rw[exy]
   have no:(decide (x≠y)&&decide (y≠z))=false→wy [some (.tup (r.map nD)),some (.int n),some (.adr f),none,none,none] [some (.tup (r.map nD)),some (.int n),some (.adr f),some (nD p.1),some (nD p.2),some (.adr s)]∧∃ G'',Sub G'' (zR G2 s ([x,y,z,w].map nD))∧(G''.m f=some ((((wQ n).take (k+1)).filter (zAM r)).map yN)∧G''.m a=some ((wQ n).map yN)∧Sub G G''):=fun hf=>by
    refine⟨.keep (.keep (.keep (.skip (.skip (.skip .nil))))),G2,.new hs,?_,h2,h3⟩
    rw[hc,hf];simpa using h1
   by_cases c1:x≠y
   ·rw[decide_eq_true c1]
    walk_at "rd"
    refine yu zH (zFW _ _ _) (yu zH (zJW _ _ _ _) ?_)
    walk_at "rd"
    refine⟨rfl,rfl,?_⟩
    rw[eyz]
    by_cases c2:y≠z
    ·rw[decide_eq_true c2]
     walk_at "rd"
     refine zHU (d:=yN p) rfl (by rw[zN (Ne.symm sf)];exact h1) (fun Q q=>by walk_at "rd";exact q) hz ⟨.keep (.keep (.keep (.skip (.skip (.skip .nil))))),_,.refl _,?_,?_,?_⟩
     ·rw[zH,hc,decide_eq_true c1,decide_eq_true c2]
      simp
     ·rw[zN fa,zN (Ne.symm sa)];exact h2
     ·exact(h3.put gs).put hf
    ·rw[decide_eq_false c2]
     walk_at "rd"
     exact no (by simp[c2])
   ·rw[decide_eq_false c1]
    walk_at "rd"
    exact no (by simp[c1])
 ·rintro G2 ⟨h1,h2,h3⟩
  rw[List.length_map,List.take_length] at h1
  walk_at "rd"
  refine⟨((wQ n).filter (zAM r)).map yN,.inl h1,?_⟩
  exact⟨G,h3,h⟩
end K
namespace K
open PySem PySem.Spec PyProof.Rows L2 L3
local macro_rules | `(tactic| walk_at "rd") => `(tactic| simp only [yC, zb, zp, xIf, zAg, ye, gN, gNN, zP, yK, wf, zx, zA, zI, zK, yf, zX, zj, zB, look, zO, yl, wP, zAu, zCm, zB6, zDP, zBK, zBL, wK, yW, yJ, fEq, xC, xB, zBD, zB0, zA9, zGX, zAh, List.map, List.cons_append, List.nil_append, List.set_cons_zero, List.set_cons_succ, List.length_cons, List.length_nil, List.replicate_succ, List.replicate_zero, Nat.reduceSub, Nat.reduceAdd, zGZ, zGa, zGb, zGc, wX, zAv, zAw, if_true, if_false, Bool.false_eq_true])
theorem zDX{α:Type}:∀(l:List α) (i:Nat) (h:i<l.length),(l[i]::l.eraseIdx i).Perm l
 | a::r,0,_=>by simp
 | a::r,i+1,h=>by
  have hi:i<r.length:=by simpa using h
  simp only[List.getElem_cons_succ,List.eraseIdx_cons_succ]
  exact(List.Perm.swap a (r[i]'hi) _).trans ((zDX r i (by simpa using h)).cons a)
theorem zBl{α β:Type}(f:α→β):∀(l:List α) (i:Nat),(l.map f).eraseIdx i=(l.eraseIdx i).map f
 | [],_=>by simp
 | a::r,0=>by simp
 | a::r,i+1=>by simp[zBl f r i]
def DrS(l:Addr)(G G':Gp):Prop:=∃ G1,Dr l G G1∧Sub G1 G'
theorem DrS.dr{l:Addr}{G G1 G2:Gp}(h:DrS l G G1)(d:Dr l G1 G2):DrS l G G2:=by
 obtain⟨G0,d0,s0⟩:=h
 obtain⟨G3,d3,s3⟩:=d.sub s0
 exact⟨G3,d0.trans d3,s3⟩
theorem DrS.put{l f:Addr}{G G1:Gp}{x:List D}(h:DrS l G G1)(s:wz G l)(n:G.m f=none):DrS l G (zR G1 f x):=by
 obtain⟨G0,d0,s0⟩:=h
 exact⟨G0,d0,s0.put (d0.none s n)⟩
theorem DrS.refl{l:Addr}{G:Gp}(s:wz G l):DrS l G G:=⟨G,.refl s,.refl G⟩
theorem DrS.st{l:Addr}{G G':Gp}(h:DrS l G G'):wz G' l:=by
 obtain⟨G0,d0,s0⟩:=h
 exact d0.st.ext s0
theorem DrS.own{l:Addr}{G G':Gp}(h:DrS l G G')(s:wz G l){a:Addr}(n:G'.m a=none):G.m a=none:=by
 obtain⟨G0,d0,s0⟩:=h
 have n0:G0.m a=none:=by
  cases q:G0.m a with
  | none=>rfl
  | some o=>rw[s0.m a o q] at n;cases n
 by_cases ha:a=l
 ·subst ha
  obtain⟨_,_,e,_⟩:=d0.st
  rw[e] at n0;cases n0
 ·rw[d0.ne ha] at n0;exact n0
theorem DrS.fin{l:Addr}{G G':Gp}{d:D}{R:Q2}(h:DrS l G G')(q:∀ G',Dr l G G'→R d G'):FgR R d G':=by
 obtain⟨G0,d0,s0⟩:=h
 exact⟨G0,s0,q G0 d0⟩
theorem drawn{σ:S2}{G G0:Gp}{st lf:Addr}{xs:List Nat}{i0 i2 k:Nat}{t:yt}{R:Q2}(h0:look σ i0=some (.adr st))(h2:look σ i2=some (.adr lf))(hk:σ.length=k)
  (ht:PuA t σ G [nD xs.length]) (hs:wz G st) (hs0:wz G0 st) (hne:lf≠st) (hx:G.m lf=some (xs.map nD)) (h0lf:G0.m lf=none) (hd:DrS st G0 G) (hlen:xs.length≤1000)
  (hR:∀(ys:List Nat) (G':Gp),ys.Perm xs→DrS st G0 G'→R (.tup (ys.map nD)) G') :
  zX zj (za (iR1 t) bd1 yq (zJQ (zB i2) (zA (zK zo (zA (zB i0) (zA (zK yX (zA (zB i2) zI)) zI))) zI))) σ G R:=by
 have lk:∀(j:Nat) (o:D) (d:D),look σ j=some o→look (σ++[some d]) j=some o:=fun j o d h=>by
  clear h0 h2 hk ht
  induction σ generalizing j with
  | nil=>cases h
  | cons a r ih =>
   cases j with
   | zero=>exact h
   | succ j=>exact ih j h
 refine zEr (ht G (.refl G) _ ⟨by omega,fun A hA=>?_⟩)
 rw[zAz]
 have Alf:A≠lf:=fun e=>by rw[e,hx] at hA;cases hA
 have Ast:A≠st:=hs.ne hA
 refine zDO (fun i acc G'=>∃ ys zs:List Nat,acc=ys.map nD∧ys.length=i∧(ys++zs).Perm xs∧G'.m A=some acc∧G'.m lf=some (zs.map nD)∧DrS st G0 G')
  ⟨[],xs,rfl,rfl,.refl _,zH,by rw[zN (Ne.symm Alf)];exact hx,hd.put hs0 (hd.own hs0 hA)⟩ (fun i acc G' ⟨ys,zs,h1,h2,h3,h4,h5,h6⟩=>⟨trivial,h4,by rw[h1,List.length_map];omega⟩) ?_ ?_
 ·rintro i x acc G' hi ⟨ys,zs,rfl,h2',h3,h4,h5,h6⟩
  obtain⟨rfl,hi⟩:=zJb hi
  refine⟨[nD i],rfl,?_⟩
  have hz:ys.length+zs.length=xs.length:=by have:=h3.length_eq;rwa [List.length_append] at this
  have st':=h6.st
  unfold yq
  dsimp only
  rw[if_pos rfl]
  unfold zJQ
  rw[show zB i2=fun σ G R=>match look σ i2 with | some d=>R d G | none=>False from rfl]
  dsimp only
  rw[show List.map some [nD i]=[some (nD i)] from rfl,lk i2 _ _ h2]
  dsimp only
  rw[h5]
  dsimp only
  simp only[zA,zK,zB,zI,lk i0 _ _ h0,lk i2 _ _ h2]
  refine⟨zs.map nD,.inl h5,?_⟩
  rw[List.length_map]
  refine⟨st,zs.length,rfl,st',by omega,by omega,fun r G1 hr d1=>?_⟩
  have e1:G1.m lf=some (zs.map nD):=by rw[d1.ne hne];exact h5
  dsimp only
  rw[e1]
  dsimp only
  refine⟨⟨by omega,by rw[List.length_map];omega,by omega⟩,?_⟩
  have e2:(List.map nD zs)[(r:Int).toNat]?=some (nD zs[r]):=by simp[hr]
  rw[e2]
  dsimp only
  have Aa:(zR G1 lf ((List.map nD zs).eraseIdx (r:Int).toNat)).m A=some (ys.map nD):=by rw[zN Alf,d1.ne Ast];exact h4
  refine⟨Aa,.of ⟨ys++[zs[r]],zs.eraseIdx r,by simp,by simp[h2'],?_,zH,?_,?_⟩⟩
  ·rw[List.append_assoc]
   exact((zDX zs r hr).append_left ys).trans h3
  ·rw[zN (Ne.symm Alf),zH]
   simp[zBl]
  ·have hA0:G0.m A=none:=hd.own hs0 hA
   exact(((h6.dr d1).put hs0 h0lf).put hs0 hA0)
 ·rintro acc G' ⟨ys,zs,rfl,h2',h3,h4,h5,h6⟩
  rw[List.length_map,List.length_range] at h2'
  have hz:ys.length+zs.length=xs.length:=by have:=h3.length_eq;rwa [List.length_append] at this
  have:zs=[]:=List.length_eq_zero_iff.mp (by omega)
  subst this
  rw[List.append_nil] at h3
  -- forget the list itself
  obtain⟨G1,d1,s1⟩:=h6
  refine⟨G1,d1.none hs0 (hd.own hs0 hA),s1,?_⟩
  exact hR ys G1 h3 ⟨G1,d1,.refl _⟩
def zAk:Sp2:=fun ds G R=>∃(l:Addr) (n:Nat),ds=[.adr l,nD n]∧wz G l∧n≤100∧∀(r:List Nat) (G':Gp),zA0 n r→Dr l G G'→R (.tup (r.map nD)) G'
def zB9:yy:=(zb (zp (zx (zMp (zx (zDM (zA (zB 1) zI))) (xC (.int 2)))) (gN 2)) (yC (zX zj (za (iR1 (zA (zP (yW zDz fun i j=>.int (i*j)) (xC (.int 2)) (zB 1)) zI)) bd1 yq (zJQ (zB 2) (zA (zK zo (zA (zB 0) (zA (zK yX (zA (zB 2) zI)) zI))) zI))))))
theorem zJe(ds:List D)(G:Gp)(R:Q2)(h:zAk ds G R):ds.length=2∧zB9 (zn R) (zO ["state","many","left"] ds) G:=by
 obtain⟨l,n,rfl,hs,hn,h⟩:=h
 refine⟨rfl,?_⟩
 unfold zB9 zb zp zx zMp zDM
 walk_at "rd"
 refine⟨by omega,fun a ha=>?_⟩
 rw[zH]
 dsimp only
 rw[zAz]
 refine⟨by omega,by simp;omega,fun lf hlf=>?_⟩
 have e:(List.replicate (2:Int).toNat (List.map nD (List.range n))).flatten=(List.range n++List.range n).map nD:=by
  show(List.replicate 2 _).flatten=_
  simp[List.replicate_succ]
 rw[e]
 have hlf0:G.m lf=none:=by
  have:lf≠a:=fun e=>by rw[e,zH] at hlf;cases hlf
  rw[zN this] at hlf;exact hlf
 have la:lf≠l:=hs.ne hlf0
 have hsG:wz (zR (zR G a (List.map nD (List.range n))) lf ((List.range n++List.range n).map nD)) l:=(hs.ext (.new ha)).ext (.new hlf)
 have hdr:DrS l G (zR (zR G a (List.map nD (List.range n))) lf ((List.range n++List.range n).map nD)):=((DrS.refl hs).put hs ha).put hs hlf0
 have hlen:(List.range n++List.range n).length=2*n:=by simp;omega
 refine drawn (k:=3) (xs:=List.range n++List.range n) (i0:=0) (i2:=2) rfl rfl rfl (zF ?_ zQ) hsG hs la zH hlf0 hdr (by omega) fun ys G' hp hd=>hd.fin fun G1 d1=>h ys G1 hp d1
 have:nD (List.range n++List.range n).length=.int (2*(n:Int)):=by rw[hlen];unfold nD;congr 1
 rw[this]
 exact wt yH (zE rfl) fun _ _ _ q=>⟨.inl ⟨by decide,by decide⟩,q⟩
theorem zDY{l s:List (Nat×Nat)}(h:s.Sublist l)(nd:l.Nodup):(l.filter fun x=>decide (x∈s))=s:=by
 induction h with
 | slnil=>rfl
 | @cons s l a h ih =>
  obtain⟨h1,h2⟩:=List.nodup_cons.mp nd
  have:a∉s:=fun m=>h1 (h.subset m)
  rw[List.filter_cons,if_neg (by simpa using this)]
  exact ih h2
 | @cons_cons s l a h ih =>
  obtain⟨h1,h2⟩:=List.nodup_cons.mp nd
  rw[List.filter_cons,if_pos (by simp)]
  congr 1
  refine Eq.trans (List.filter_congr fun x hx=>?_) (ih h2)
  have:x≠a:=fun e=>h1 (e▸hx)
  simp[this]
theorem zLB{n:Nat}{s:List (Nat×Nat)}(h:s.Sublist (wQ n)):zT n (fun p=>decide (p∈s))=.tup [nD n,.tup (s.map yN)]:=by
 unfold zT
 rw[zDY h (yz n)]
theorem picked{σ:S2}{G G0:Gp}{st pl:Addr}{n i0 i4 k:Nat}{tc:TT2}{R:List D→Gp→Prop}(h0:look σ i0=some (.adr st))(h4:look σ i4=some (.adr pl))(hk:σ.length=k)
  (hs0:wz G0 st) (hne:pl≠st) (hx:G.m pl=some ((wQ n).map yN)) (hd:DrS st G0 G)
  (hc:∀(p:Nat×Nat) (G':Gp) (Q:Bool→Gp→Prop),p∈wQ n→wz G' st→(∀ b G1,Dr st G' G1→Q b G1)→tc (σ++[some (yN p)]) G' Q)
  (hR:∀(s:List (Nat×Nat)) (G':Gp),s.Sublist (wQ n)→DrS st G0 G'→R (s.map yN) G') :
  za (iV (zB i4)) bd1 tc (zB k) σ G R:=by
 have lk:∀ d,look (σ++[some d]) k=some d:=fun d=>by
  subst hk
  clear h0 h4 hc
  induction σ with
  | nil=>rfl
  | cons a r ih=>exact ih
 refine zEr ?_
 unfold iV zB
 rw[h4]
 refine⟨(wQ n).map yN,.inl hx,fun A hA=>?_⟩
 have Apl:A≠pl:=fun e=>by rw[e,hx] at hA;cases hA
 have Ast:A≠st:=hd.st.ne hA
 have hA0:=hd.own hs0 hA
 refine zDO (fun i acc G'=>∃ s:List (Nat×Nat),acc=s.map yN∧s.Sublist ((wQ n).take i)∧G'.m A=some acc∧G'.m pl=some ((wQ n).map yN)∧DrS st G0 G')
  ⟨[],rfl,by simp,zH,by rw[zN (Ne.symm Apl)];exact hx,hd.put hs0 hA0⟩ (fun i acc G' ⟨s,h1,h2,h3,h4,h5⟩=>⟨.inl h4,h3,by rw[h1,List.length_map];exact Nat.le_trans h2.length_le (by rw[List.length_take];omega)⟩) ?_ ?_
 ·rintro i x acc G' hi ⟨s,rfl,h2,h3,h4',h5⟩
  obtain⟨p,hp,rfl⟩:=zAo hi
  refine⟨[yN p],rfl,hc p G' _ (List.mem_of_getElem? hp) h5.st fun b G1 d1=>?_⟩
  have m1:G1.m A=some (s.map yN):=by rw[d1.ne Ast];exact h3
  have m2:G1.m pl=some ((wQ n).map yN):=by rw[d1.ne hne];exact h4'
  cases b with
  | false =>
   rw[if_neg (by simp)]
   exact .of ⟨s,rfl,by rw[yj hp];exact h2.trans (List.sublist_append_left _ _),m1,m2,h5.dr d1⟩
  | true =>
   rw[if_pos rfl]
   show match look (σ++[some (yN p)]) k with | some d=>_ | none=>_
   rw[lk]
   refine⟨m1,.of ⟨s++[p],by simp,by rw[yj hp];exact h2.append (List.Sublist.refl _),zH,by rw[zN (Ne.symm Apl)];exact m2,(h5.dr d1).put hs0 hA0⟩⟩
 ·rintro acc G' ⟨s,rfl,h2,h3,h4',h5⟩
  rw[List.length_map,List.take_length] at h2
  obtain⟨G1,d1,s1⟩:=h5
  exact⟨G1,d1.none hs0 hA0,s1,hR s G1 h2 ⟨G1,d1,.refl _⟩⟩
def wm:Sp2:=fun ds G R=>∃(l:Addr) (m:Nat),ds=[.adr l,nD m]∧wz G l∧1≤m∧m≤50∧∀(n:Nat) (q:Nat×Nat→Bool) (G':Gp),1≤n→n≤m→Dr l G G'→R (zT n q) G'
def zC2:yy:=(zb (zp (zP yJ (xC (.int 1)) (zK zo (zA (zB 0) (zA (zB 1) zI)))) (gN 2)) (zb (zp (zK zo (zA (zB 0) (zA (xC (.int 5)) zI))) (gN 3)) (zb (zp (zx (yf yQ (zA (zB 2) zI))) (gN 4)) (zb (xIf (xB (zP (fEq false) (zB 3) (xC (.int 0)))) (yC (zK wl (zA (zK zAk (zA (zB 0) (zA (zB 2) zI))) zI))) ye) (zb (xIf (xB (zP (fEq false) (zB 3) (xC (.int 1)))) (yC (yK (zA (zB 2) (zA (zX zj (za (iV (zB 4)) bd1 (zBD (xB (zP (fEq false) (zP zy (zB 6) (xC (.int 1))) (zP yJ (zP zy (zB 6) (xC (.int 0))) (xC (.int 1))))) (xB (zP (fEq false) (zK zo (zA (zB 0) (zA (xC (.int 6)) zI))) (xC (.int 0))))) (zB 6))) zI)))) ye) (zb (zp (zP zy (zx (wf (zA (xC (.int 2)) (zA (xC (.int 3)) (zA (xC (.int 4)) zI))))) (zP (wK fun i j=>.int (i-j)) (zB 3) (xC (.int 2)))) (gN 5)) (yC (yK (zA (zB 2) (zA (zX zj (za (iV (zB 4)) bd1 (xB (zP (fEq false) (zK zo (zA (zB 0) (zA (zB 5) zI))) (xC (.int 0)))) (zB 6))) zI))))))))))
theorem zLC(ds:List D)(G:Gp)(R:Q2)(h:wm ds G R):ds.length=2∧zC2 (zn R) (zO ["state","most","many","way","pairs_v","far"] ds) G:=by
 obtain⟨l,m,rfl,hs,hm1,hm,h⟩:=h
 refine⟨rfl,?_⟩
 unfold zC2
 walk_at "rd"
 refine⟨l,m,rfl,hs,by omega,by omega,fun r G1 hr d1=>?_⟩
 walk_at "rd"
 refine⟨l,5,rfl,d1.st,by omega,by omega,fun way G2 hway d2=>?_⟩
 have d12:=d1.trans d2
 have e1:(1:Int)+(r:Int)=((r+1:Nat):Int):=by omega
 walk_at "rd"
 rw[e1]
 refine⟨r+1,rfl,by omega,fun pl hpl=>?_⟩
 have hpl0:G.m pl=none:=by
  have:pl≠l:=d2.st.ne hpl
  rw[d12.ne this] at hpl;exact hpl
 have hne:pl≠l:=hs.ne hpl0
 have hdr:DrS l G (zR G2 pl ((wQ (r+1)).map yN)):=(DrS.put (x:=(wQ (r+1)).map yN) ⟨G2,d12,.refl _⟩ hs hpl0)
 have fin:∀(s:List (Nat×Nat)) (G':Gp),s.Sublist (wQ (r+1))→DrS l G G'→FgR R (.tup [.int ((r+1:Nat):Int),.tup (s.map yN)]) G':=fun s G' hsub hd=>hd.fin fun G3 d3=>by
  have:=h (r+1) (fun p=>decide (p∈s)) G3 (by omega) (by omega) d3
  rw[zLB hsub] at this
  exact this
 have e0:wL (nD way) (.int 0)=decide (way=0):=by rw[zAx];rw[Bool.eq_iff_iff];simp
 have e1':wL (nD way) (.int 1)=decide (way=1):=by rw[zAx];rw[Bool.eq_iff_iff];simp;omega
 refine⟨rfl,rfl,?_⟩
 rw[e0]
 by_cases w0:way=0
 ·rw[decide_eq_true w0,if_pos rfl]
  refine⟨l,r+1,rfl,hdr.st,by omega,fun ring G3 hring d3=>?_⟩
  walk_at "rd"
  refine⟨r+1,ring,rfl,hring,by omega,?_⟩
  exact(hdr.dr d3).fin fun G4 d4=>h _ _ G4 (by omega) (by omega) d4
 ·rw[decide_eq_false w0,if_neg (by simp)]
  refine⟨rfl,rfl,?_⟩
  rw[e1']
  by_cases w1:way=1
  ·rw[decide_eq_true w1,if_pos rfl]
   refine picked (k:=6) (i0:=0) (n:=r+1) rfl rfl rfl hs hne zH hdr (fun p G' Q hp hst hQ=>?_) fun s G' hsub hd=>?_
   ·show zBD _ _ _ _ _
    unfold yN
    walk_at "rd"
    refine⟨rfl,rfl,?_⟩
    cases wL (nD p.2) (.int ((p.1:Int)+1)) with
    | true=>rw[if_pos rfl];exact hQ true G' (.refl hst)
    | false =>
     rw[if_neg (by simp)]
     refine⟨l,6,rfl,hst,by omega,by omega,fun x G3 hx d3=>?_⟩
     exact⟨rfl,rfl,hQ _ G3 d3⟩
   ·exact fin s G' hsub hd
  ·rw[decide_eq_false w1,if_neg (by simp)]
   intro a ha
   have hat:∃ far:Nat,atI [D.int 2,D.int 3,D.int 4] ((way:Int)-2)=some (nD far)∧0<far∧far≤4:=by
    have:way=2∨way=3∨way=4:=by omega
    rcases this with rfl | rfl | rfl
    ·exact⟨2,zB5 _ _,by omega,by omega⟩
    ·exact⟨3,zFW _ _ _,by omega,by omega⟩
    ·exact⟨4,zJW _ _ _ _,by omega,by omega⟩
   obtain⟨far,hat,hf1,hf2⟩:=hat
   refine yu zH hat ?_
   have apl:pl≠a:=fun e=>by rw[← e,zH] at ha;cases ha
   have ha0:=hdr.own hs ha
   refine picked (k:=6) (i0:=0) (n:=r+1) rfl rfl rfl hs hne (by rw[zN apl];exact zH) (hdr.put hs ha0) (fun p G' Q hp hst hQ=>?_) fun s G' hsub hd=>?_
   ·show xB _ _ _ _
    walk_at "rd"
    refine⟨l,far,rfl,hst,by omega,by omega,fun x G3 hx d3=>?_⟩
    exact⟨rfl,rfl,hQ _ G3 d3⟩
   ·exact fin s G' hsub hd
end K
namespace K
open PySem PySem.Spec PyProof.Rows L2 L3
local macro_rules | `(tactic| walk_at "rd") => `(tactic| simp only [yC, zb, zp, xIf, zAg, ye, gN, gNN, zP, yK, wf, zx, zA, zI, zK, yf, zX, zj, zB, look, zO, yl, wP, zAu, zCm, zB6, zDP, zBK, zBL, wK, yW, yJ, fEq, xC, xB, zBD, zB0, zA9, zGX, zAh, List.map, List.cons_append, List.nil_append, List.set_cons_zero, List.set_cons_succ, List.length_cons, List.length_nil, List.replicate_succ, List.replicate_zero, Nat.reduceSub, Nat.reduceAdd, zGZ, zGa, zGb, zGc, wX, zAv, zAw, if_true, if_false, Bool.false_eq_true])
section
variable {σ:S2} {G:Gp}
theorem zJf{x y:D}{ng:Bool}{G:Gp}{R:Q2}(hx:flat 8 x=true)(hy:flat 8 y=true)(q:R (.bl (if ng then !wL x y else wL x y)) G):fEq ng x y G R:=by
 cases x with
 | adr _=>simp[flat] at hx
 | _=>exact⟨hx,hy,q⟩
theorem zBO{ta tb:zk}{x y:D}{ng b:Bool}(ha:zg ta σ G x)(hb:zg tb σ G y)(hx:flat 8 x=true)(hy:flat 8 y=true)(e:(if ng then !wL x y else wL x y)=b):zg (zP (fEq ng) ta tb) σ G (.bl b) :=
 wt ha hb fun _ _ _ q=>zJf hx hy (by rw[e];exact q)
theorem zEK{ta tb:zk}{x:D}(ha:zg ta σ G x)(hb:zg tb σ G x)(hx:flat 8 x=true):zg (zP (fEq true) ta tb) σ G (.bl false) :=
 zBO ha hb hx hx (by rw[zDJ x 8 hx];rfl)
theorem zGh{T:String}{t:zk}{d:D}{b:Bool}(h:zg t σ G d)(hd:∀ l,d≠.adr l)(hi:zBI d T=b):zg (zBJ T t) σ G (.bl b):=fun G2 e R q=>h G2 e _ (by
 subst hi
 cases d with
 | adr l=>exact absurd rfl (hd l)
 | _=>exact q)
theorem zMw{T:String}{t:zk}{d:D}(h:zg t σ G d)(hi:zBI d T=true):zg (zBJ T t) σ G (.bl true):=zGh h (fun l z=>by subst z;cases hi) hi
theorem zGi{t u:TT2}(h:PuT t σ G false)(h':PuT u σ G false):PuT (zBD t u) σ G false:=zGY h fun _=>h'
theorem zLt{tc:TT2}{t u:yy}{E:yO}(h:PuT tc σ G false)(h':u E σ G):xIf tc t u E σ G:=h G (.refl G) _ (by rw[if_neg (by simp)];exact h')
theorem zJg{tc:TT2}{t u:yy}{E:yO}(h:PuT tc σ G true)(h':t E σ G):xIf tc t u E σ G:=h G (.refl G) _ (by rw[if_pos rfl];exact h')
theorem wA{tc:TT2}{t u:yy}{E:yO}(h:PuT tc σ G false)(h':u E σ G):zb (xIf tc t ye) u E σ G:=h G (.refl G) _ (by rw[if_neg (by simp)];exact h')
theorem ww{te:zk}{E:yO}{d:D}(h:zg te σ G d)(h':E.rt d G):yC te E σ G:=h G (.refl G) _ h'
theorem yg{te:zk}{g:TG2}{u:yy}{E:yO}(h:te σ G fun d G1=>g d σ G1 fun σ' G'=>u E σ' G'):zb (zp te g) u E σ G:=h
theorem zCc{sp:Sp2}{t:yt}{ds:List D}{R:Q2}(h:PuA t σ G ds)(h':sp ds G R):zK sp t σ G R:=h G (.refl G) _ h'
theorem zJh{ta:zk}{tr:yt}{d:D}{R:List D→Gp→Prop}(h:zg ta σ G d)(h':tr σ G fun xs G2=>R (d::xs) G2):zA ta tr σ G R:=h G (.refl G) _ h'
theorem zEv{ta:zk}{tr:yt}{R:List D→Gp→Prop}(h:ta σ G fun d G1=>tr σ G1 fun xs G2=>R (d::xs) G2):zA ta tr σ G R:=h
theorem zBP{tl:TL2}{ds:List D}{R:Q2}(h:PuL tl σ G ds)(h':∀ l,G.m l=none→R (.adr l) (zR G l ds)):zx tl σ G R:=h G (.refl G) _ h'
theorem zBY{te:zk}{g:TG2}{u:yy}{E:yO}{d:D}(h:zg te σ G d)(h':g d σ G fun σ' G'=>u E σ' G'):zb (zp te g) u E σ G:=h G (.refl G) _ h'
theorem zIJ{tl:TL2}{l s:List Nat}(h:PuL tl σ G (l.map nD))(hl:l.length<64)(hp:s.Perm l)(hs:s.Pairwise (·≤·)):PuL (zAK tl) σ G (s.map nD):=fun G2 e R q=>h G2 e _ (by
 have e1:l.map nD=(l.map fun(k:Nat)=>(k:Int)).map D.int:=by simp[nD]
 rw[e1,zDL]
 refine⟨by simpa using hl,fun ns' p1 p2=>?_⟩
 have:ns'=s.map fun(k:Nat)=>(k:Int):=by
  refine List.Perm.eq_of_pairwise (fun a b _ _ h1 h2=>Int.le_antisymm h1 h2) p2 ?_ (p1.trans (hp.map _).symm)
  exact List.Pairwise.map _ (fun a b h=>by omega) hs
 subst this
 rw[List.map_map]
 exact q)
end
theorem zEL(l:List Nat):flat 8 (.tup (l.map nD))=true:=by
 simp only[flat,List.all_eq_true]
 intro d hd
 obtain⟨k,_,rfl⟩:=List.mem_map.mp hd
 rfl
theorem zIK{σ:S2}{G:Gp}{a:Addr}{ns:List Int}{c:Int}(hc:1≤c∧c≤100)(h:look σ 0=some (.adr a))(ha:Ls G a (ns.map D.int)) :
  ∃ m:Nat,PuI (iR1 (zA (zK wP (zA (xC (.int 1)) (zA (zK yl (zA (zK yX (zA (zB 0) zI)) (zA (xC (.int c)) zI))) zI))) zI)) σ G ((List.range m).map nD):=by
 have h1:zg (zK yX (zA (zB 0) zI)) σ G (.int (ns.length:Int)):=zm (zF (zE h) zQ) fun G2 e R q=>⟨ns.map D.int,e.ls ha,by rw[List.length_map];exact q⟩
 have h2:zg (zK yl (zA (zK yX (zA (zB 0) zI)) (zA (xC (.int c)) zI))) σ G (.int (if c<(ns.length:Int) then c else ns.length)):=zm (zF h1 (zF yH zQ)) fun _ _ _ q=>q
 have h3:zg (zK wP (zA (xC (.int 1)) (zA (zK yl (zA (zK yX (zA (zB 0) zI)) (zA (xC (.int c)) zI))) zI))) σ G (.int (if (if c<(ns.length:Int) then c else ns.length)>1 then (if c<(ns.length:Int) then c else ns.length) else 1)):=zm (zF yH (zF h2 zQ)) fun _ _ _ q=>q
 have hb:(if (if c<(ns.length:Int) then c else ns.length)>1 then (if c<(ns.length:Int) then c else (ns.length:Int)) else 1)≤100∧1≤(if (if c<(ns.length:Int) then c else ns.length)>1 then (if c<(ns.length:Int) then c else (ns.length:Int)) else 1):=by
  split<;>split<;>omega
 generalize (if (if c<(ns.length:Int) then c else ns.length)>1 then (if c<(ns.length:Int) then c else (ns.length:Int)) else 1)=m at h3 hb
 refine⟨m.toNat,?_⟩
 have:(m.toNat:Int)=m:=by omega
 have q:=zBV (zF h3 zQ) (by omega)
 rw[← this,zAz] at q
 exact q
theorem zIL{a:Addr}{G:Gp}{σ:S2}{k:Nat}{ns:List Int}{i j:Nat}(hs:look σ i=some (.adr a))(hk:look σ j=some (nD k))(ha:Ls G a (ns.map D.int)){R:Q2}(h:∀ l s b,G.m l=none→OkS s b→R (.adr l) (zR G l [.int s,.bl b])):zx (yf yR (zA (zB i) (zA (zB j) zI))) σ G R:=by
 unfold zx yf zA zI zB
 simp only[hs,hk]
 exact⟨a,ns,k,rfl,ha,fun s b o l hl=>h l s b hl o⟩
theorem zIM{a:Addr}{G:Gp}{σ:S2}{k x:Nat}{ns:List Int}{i j:Nat}{u:yy}{E:yO}(hs:look σ i=some (.adr a))(hk:look σ j=some (nD k))(ha:Ls G a (ns.map D.int))(h:∀ l s b,G.m l=none→OkS s b→u E (σ.set x (some (.adr l))) (zR G l [.int s,.bl b])) :
  zb (zp (zx (yf yR (zA (zB i) (zA (zB j) zI)))) (gN x)) u E σ G:=by
 have:=zIL (σ:=σ) (G:=G) (R:=fun d G1=>gN x d σ G1 (u E)) hs hk ha fun l s b hl ok=>h l s b hl ok
 exact this
end K
namespace K
open PySem PySem.Spec PyProof.Rows L2 L3
local macro_rules | `(tactic| walk_at "rd") => `(tactic| simp only [yC, zb, zp, xIf, zAg, ye, gN, gNN, zP, yK, wf, zx, zA, zI, zK, yf, zX, zj, zB, look, zO, yl, wP, zAu, zCm, zB6, zDP, zBK, zBL, wK, yW, yJ, fEq, xC, xB, zBD, zB0, zA9, zGX, zAh, List.map, List.cons_append, List.nil_append, List.set_cons_zero, List.set_cons_succ, List.length_cons, List.length_nil, List.replicate_succ, List.replicate_zero, Nat.reduceSub, Nat.reduceAdd, zGZ, zGa, zGb, zGc, wX, zAv, zAw, if_true, if_false, Bool.false_eq_true])
theorem getD_mem{ps:List Nat}{i:Nat}(h:i<ps.length):ps.getD i 0∈ps:=by
 simp[List.getD,h]
theorem zJi{σ:S2}{G:Gp}{t:zk}{ds:List D}(h:zg t σ G (.tup ds)):zg (zK yX (zA t zI)) σ G (nD ds.length):=zm (zF h zQ) fun _ _ _ q=>⟨ds,rfl,q⟩
theorem zNz{σ:S2}{G:Gp}{t:zk}{p:Nat×Nat}(h:zg t σ G (yN p)):zg (zP zy t (xC (.int 1))) σ G (nD p.2):=wt h yH fun _ _ _ q=>by unfold yN;rw[zB6];exact q
end K
namespace K
open PySem PySem.Spec PyProof.Rows L2 L3
local macro_rules | `(tactic| walk_at "rd") => `(tactic| simp only [yC, zb, zp, xIf, zAg, ye, gN, gNN, zP, yK, wf, zx, zA, zI, zK, yf, zX, zj, zB, look, zO, yl, wP, zAu, zCm, zB6, zDP, zBK, zBL, wK, yW, yJ, fEq, xC, xB, zBD, zB0, zA9, zGX, zAh, List.map, List.cons_append, List.nil_append, List.set_cons_zero, List.set_cons_succ, List.length_cons, List.length_nil, List.replicate_succ, List.replicate_zero, Nat.reduceSub, Nat.reduceAdd, zGZ, zGa, zGb, zGc, wX, zAv, zAw, if_true, if_false, Bool.false_eq_true])
theorem zDZ(i j:Nat):wL (nD i) (nD j)=decide (i=j):=by rw[zAx,Bool.eq_iff_iff];simp;omega
theorem zMx{σ:S2}{G:Gp}{t:zk}{ds:List D}{R:List D→(Gp→Prop)→Gp→Prop}(h:zg t σ G (.tup ds))(h':R ds (fun _=>True) G):iV t σ G R:=h G (.refl G) _ h'
theorem zEM{σ:S2}{G:Gp}{t:yt}{R:List D→Gp→Prop}(h:t σ G fun ds G1=>ds.length≤sizeLine∧R ds G1):wf t σ G R:=h
theorem zFd{σ:S2}{G:Gp}{R:List D→Gp→Prop}(h:R [] G):zI σ G R:=h
theorem zMy{σ:S2}{G:Gp}{t u:zk}{xs ys:List D}(h:zg t σ G (.tup xs))(h':zg u σ G (.tup ys))(hl:xs.length+ys.length≤1000000):zg (zP yJ t u) σ G (.tup (xs++ys)):=wt h h' fun _ _ _ q=>⟨hl,q⟩
end K
namespace K
open PySem PySem.Spec PyProof.Rows L2 L3
def zJj:D→Bool
 | .int _=>true
 | _=>false
def yG:Sp2:=fun ds G R=>∃ d,ds=[d]∧(((∀ l,d≠.adr l)∧R (.bl (zJj d)) G)∨∃ l es,d=.adr l∧Ls G l es∧R (.bl false) G)
def zAY:yy:=(yC (zCZ (zBJ "int" (zB 0)) (zMe (zBJ "bool" (zB 0)))))
theorem zFe(ds:List D)(G:Gp)(R:Q2)(h:yG ds G R):ds.length=1∧zAY (zn R) (zO ["thing"] ds) G:=by
 obtain⟨d,rfl,h⟩:=h
 refine⟨rfl,?_⟩
 unfold zAY yC zCZ zMe zBJ zB
 rcases h with ⟨hd,h⟩ | ⟨l,es,rfl,hl,h⟩
 ·cases d with
  | adr l=>exact absurd rfl (hd l)
  | _=>exact .of h
 ·refine⟨⟨es,hl⟩,?_⟩
  exact .of h
theorem zCd{σ:S2}{G:Gp}{f g:Int→Int→Bool}{ta tb tc:zk}{i j k:Int}(ha:zg ta σ G (.int i))(hb:zg tb σ G (.int j))(hc:zg tc σ G (.int k)):zg (zAW (wK fun i j=>.bl (f i j)) (wK fun i j=>.bl (g i j)) ta tb tc) σ G (.bl (f i j&&g j k)):=fun G2 e R q=>ha G2 e _ (hb G2 e _ (by
 show if f i j=true then _ else _
 cases hf:f i j with
 | true=>rw[if_pos rfl];rw[hf] at q;exact hc G2 e _ q
 | false=>rw[if_neg (by simp)];rw[hf] at q;exact q))
def ltP(a b:Nat×Nat):Prop:=a.1<b.1∨a.1=b.1∧a.2<b.2
theorem zJk(n:Nat):(wQ n).Pairwise ltP:=by
 unfold wQ
 rw[List.pairwise_flatMap]
 refine⟨fun i _=>?_,?_⟩
 ·rw[List.pairwise_map]
  exact List.pairwise_lt_range.imp fun {a b} h=>.inr ⟨rfl,by dsimp only;omega⟩
 ·refine List.pairwise_lt_range.imp fun {a b} h x hx y hy=>?_
  obtain⟨_,_,rfl⟩:=List.mem_map.mp hx
  obtain⟨_,_,rfl⟩:=List.mem_map.mp hy
  exact .inl h
theorem zGj{σ:S2}{G:Gp}{tl:TL2}{bs:List Bool}(h:PuL tl σ G (bs.map D.bl)):zg (zX zGd tl) σ G (.bl (bs.all id)):=fun G2 e R q=>h G2 e _ ⟨bs,rfl,q⟩
theorem zEw{σ:S2}{G:Gp}{ta tb:zk}{b:Bool}(ha:zg ta σ G (.bl true))(hb:zg tb σ G (.bl b)):zg (zCZ ta tb) σ G (.bl b):=fun G2 e R q=>ha G2 e _ (by
 show if true=true then _ else _
 rw[if_pos rfl]
 exact hb G2 e _ q)
end K
namespace HT
open PySem PySem.Spec PyProof.Rows
open AutoSeq1 (wpAny_loadPart')
end HT
namespace HT
open PySem PySem.Spec PyProof.Rows
open AutoSeq1 (wpAny_loadPart')
section
variable {prog:Program} {w:World} {A:Around} {E:Value→Shared→Prop} {s:Shared}
def zMz(h:Heap)(a l:Addr)(i:Int):Prop:=∃ o,h.get? a=some o∧o.cls=.type "reversed"∧o.data=.fields #[.ref l,rawInt i]
theorem zMz.at'{h h':Heap}{a l:Addr}{i:Int}(x:zMz h a l i)(e:∀ o,h.get? a=some o→h'.get? a=some o):zMz h' a l i:=let ⟨o,ho,r⟩:=x;⟨o,e _ ho,r⟩
end
end HT
namespace L3
open PySem PySem.Spec PyProof.Rows L2
section
variable {X:Cx} {a b c e o:Expr} {es:List Expr} {pos p:Pos} {ta tb te:zk}
end
end L3
namespace L3
open PySem PySem.Spec PyProof.Rows L2
section
variable {X:Cx} {a b c e o:Expr} {es:List Expr} {pos p:Pos} {ta tb te:zk} {tl:TL2}
def zLu(K:PySem.W.Frag)(H:Hp)(as:List Addr)(nss:List (List Int)):Prop:=as.length=nss.length∧∀(i:Nat) a ns,as[i]?=some a→nss[i]?=some ns→SqT K H a (ns.map V.int)
theorem zLu.at{pins:List (Addr×Obj)}{s:Shared}{σ:L2.St}{H:Hp}{as:List Addr}{nss:List (List Int)}(I:zU X pins σ H s)(h:zLu X.K H as nss):HT.zCb s.heap as nss:=by
 refine⟨h.1,fun i a ns h1 h2=>?_⟩
 obtain⟨its,rv,ht,_⟩:=I.tuple (h.2 i a ns h1 h2)
 exact⟨its,ht,intsAre_of rv⟩
def tupI(ns:List Int):D:=.tup (ns.map D.int)
end
end L3
namespace HT
open PySem PyProof.Rows
section
open PySem.SeqAt
open PySem.AutoSeq1 (wpAny_loadPart')
open PySem.MeetsSeq PySem.MeetsSeq2 PySem.MeetsSeq3
end
section
variable {prog:Program} {w:World} {A:Around} {E:Value→Shared→Prop} {s:Shared}
end
end HT
namespace L3
open PySem PySem.Spec PyProof.Rows L2
section
variable {X:Cx} {a b c e o:Expr} {es:List Expr} {pos p:Pos} {ta tb te:zk}
end
end L3
namespace L3
open PySem PySem.Spec PyProof.Rows L2
section
variable {X:Cx} {a b c e o:Expr} {es:List Expr} {pos p:Pos} {ta tb te:zk}
def zM0(i j:Nat)(t:yt):yy:=fun E σ G=>t σ G fun ds G1=>match ds with | [d,e]=>E.nx ((σ.set i (some d)).set j (some e)) G1 | _=>False
theorem zN0(i j:Nat){x y:Str}{px py pt:Pos}{kt k2 pt2}{t:yt}(hc:X.calm=true)(hN:X.N.Nodup)(ha:A2 X [a,b] t)(hi:X.N[i]?=some x:=by rfl)(hj:X.N[j]?=some y:=by rfl)(hij:i≠j:=by decide)
  (hx:X.env.scope.names.lookup x=some .local:=by rfl) (hy:X.env.scope.names.lookup y=some .local:=by rfl)
  (hw:swappedStores [.Tuple [.Name x px,.Name y py] kt pt] (.Tuple [a,b] k2 pt2) X.env=pure (some [x,y]):=by rfl)
  (hs:swapsWithSole [.Tuple [.Name x px,.Name y py] kt pt] (.Tuple [a,b] k2 pt2) pos.line X.env=pure false:=by rfl) :
  P2 X (.Assign [.Tuple [.Name x px,.Name y py] kt pt] (.Tuple [a,b] k2 pt2) pos) (zM0 i j t):=by
 refine PS.mono (L2.zMM hc hN hi hj hij hx hy ha hw hs) fun E σ1 H h=>?_
 obtain⟨σ,G,D2,r,q,k⟩:=h
 refine⟨σ,G,_,r,q,fun ds G' q' vs H' g' r' d'=>?_⟩
 split at q'
 ·rename_i d e
  obtain⟨v,w,rfl,d1,d2⟩:=zLo d'
  exact⟨v,w,rfl,k.nx _ G' q' _ H' g' (((r.to g' r').set i d1).set j d2)⟩
 ·exact q'.elim
end
end L3
namespace L3
open PySem PySem.Spec PyProof.Rows L2
section
variable {X:Cx} {a b c e o:Expr} {es:List Expr} {pos p:Pos} {ta tb te:zk}
end
end L3
namespace HT
open PySem PySem.Spec PyProof.Rows
open PySem.AutoSeq1 (wpAny_loadPart')
theorem zD1(l:Addr)(items:Array Value)(n:Nat)(dd:Option Addr)(sl:Array (Option Value))(x:Int)(u:Tok)(h2:2≤x)(hne:items.isEmpty=false)(hz:items.size*x.toNat≤1000000) :
  Meets (Builtin.«tuple.__mul__» ⟨[.ref l,.int x u],[]⟩) (fun _ R s=>s.heap.get? l=some { cls:=.type "tuple",dict:=dd,data:=.seq items n,slots:=sl } ∧
   R (.ok (.ret (Value.ref s.heap.objs.size))) { s with heap:=s.heap.push { cls:=Value.type "tuple",data:=Data.seq (List.foldl (fun x1 x2=>x1++x2) #[] (List.replicate x.toNat items)) },toks:=s.toks }) :=
 .of_wp fun prog w A R s h=>by
  obtain⟨hp,g,d,tk,os⟩:=s;obtain⟨hl,h⟩:=h
  have hpos:0<items.size:=by
   cases q:items.size with
   | zero=>rw[Array.isEmpty_iff_size_eq_zero.mpr q] at hne;cases hne
   | succ k=>omega
  have hx:x.toNat≤1000000:=Nat.le_trans (Nat.le_mul_of_pos_left _ hpos) hz
  have hmz:(items.size:Int)*x=((items.size*x.toNat:Nat):Int):=by rw[Int.natCast_mul,Int.toNat_of_nonneg (by omega)]
  wp_walk using wpAny_loadPart' hl
  rw[if_neg (by simp;omega)]
  wp_walk using wpAny_loadPart' hl
  rw[if_neg (by rw[hne];simp;omega)]
  dsimp only
  rw[if_neg (by rw[hne];simp;omega),if_neg (by rw[hmz];omega)]
  have htm:Builtin.Tuple.tupleTooMany ((items.size:Int)*x)=false:=by rw[hmz];unfold Builtin.Tuple.tupleTooMany;rw[sizeLine_eq];exact decide_eq_false (by omega)
  rw[htm,if_neg (by simp)]
  unfold Builtin.Tuple.tupleExact
  have hsize:∀(m:Nat) (acc:Array Value),((List.replicate m items).foldl (fun x1 x2=>x1++x2) acc).size=acc.size+m*items.size:=fun m=>by
   induction m with
   | zero=>intro acc;simp
   | succ m ih=>intro acc;rw[List.replicate_succ,List.foldl_cons,ih,Array.size_append,Nat.succ_mul];omega
  refine wpAny_bind (wpAny_newObj_type ?_ (by show(Array.size _)≤sizeLine;rw[hsize,sizeLine_eq,Nat.mul_comm];simp;omega))
  exact wpAny_pure ⟨_,rfl,h⟩
section
variable {prog:Program} {w:World} {A:Around} {E:Value→Shared→Prop} {s:Shared}
theorem wY:fillsNumberSlot (.type "tuple") "mul"=pure false :=
 PySem.fillsNumberSlot_seq (id:="tuple.__mul__") (r:=some (.builtin "tuple.__rmul__")) PySem.F.slot_tuple_mul.lookup (by decide +kernel) PySem.F.slot_tuple_rmul.lookup (by decide +kernel)
theorem zA2:seqRepeat? (.type "tuple")=pure (some (.builtin "tuple.__mul__")):=by
 unfold seqRepeat?
 rw[PySem.seqSlot_of (T:="tuple") (name:="__mul__") (id:="tuple.__mul__") PySem.F.slot_tuple_mul.lookup (by decide +kernel),PySem.seqSlot_of (T:="tuple") (name:="__rmul__") (id:="tuple.__rmul__") PySem.F.slot_tuple_rmul.lookup (by decide +kernel)]
 rfl
theorem zAN(a:Int)(t:Tok)(l:Addr)(items:Array Value)(n:Nat)(dd:Option Addr)(sl:Array (Option Value)) :
  Meets (Builtin.«int.__rmul__» ⟨[.int a t,.ref l],[]⟩) (fun _ R s=>s.heap.get? l=some { cls:=.type "tuple",dict:=dd,data:=.seq items n,slots:=sl }∧R (.ok (.ret Value.notImplemented)) s) :=
 .of_wp fun prog w A R s h=>by obtain⟨hp,g,d,tk,os⟩:=s;obtain⟨hl,h⟩:=h;wp_walk;exact⟨_,rfl,h⟩
theorem zLD{t:Addr}{vs:List Value}{x:Int}{u:Tok}{Q:Value→Shared→Prop}(ht:IsTup s.heap t vs.toArray)(hv:vs≠[])(h2:2≤x)(hz:vs.length*x.toNat≤1000000)
  (h:Q (.ref s.heap.objs.size) { s with heap:=s.heap.push { cls:=.type "tuple",data:=.seq (List.replicate x.toNat vs).flatten.toArray } }):wpAny (model prog w) A (binaryOp .Mult (.ref t) (.int x u)) Q E s:=by
 obtain⟨⟨cls,dd,data,sl⟩,ho,hc,n,hd⟩:=id ht
 simp only at hc hd
 subst hc hd
 have e:List.foldl (fun x1 x2=>x1++x2) #[] (List.replicate x.toNat vs.toArray)=(List.replicate x.toNat vs).flatten.toArray:=by rw[listMul_foldl];simp
 refine wpAny_binaryOp_repeat_ref (T:="tuple") (U:="int") (by decide) ⟨_,ho,rfl⟩ (fun s'=>typeIs_int s' x u) wY PySem.F.fills_int_mul PySem.F.slot_int_rmul zA2 PySem.F.slot_int_index.lookup
  (call_meets PySem.F.slot_int_rmul (typeIs_int s x u) PySem.F.entry_int_rmul (PySem.F.args_int_rmul_2 _ _) (zAN x u t vs.toArray n dd sl)
   ⟨ho,rfl,⟨_,ho,rfl⟩,call_meets PySem.F.slot_tuple_mul ⟨_,ho,rfl⟩ PySem.F.entry_tuple_mul (PySem.F.args_tuple_mul_2 _ _)
    (zD1 t vs.toArray n dd sl x u h2 (by simpa using hv) (by simpa using hz)) ⟨ho,?_⟩⟩)
 rw[e]
 exact h
end
end HT
namespace L3
open PySem PySem.Spec PyProof.Rows L2
section
variable {X:Cx} {a b c e o:Expr} {es:List Expr} {pos p:Pos} {ta tb te:zk}
def zHX(K:PySem.W.Frag):R2:=fun x y H Q=>∃ a xs k,x=.ref a∧y=.int k∧SqT K H a xs∧xs≠[]∧2≤k∧xs.length*k.toNat≤1000000∧∀ p,H p=none→Q (.ref p) (yc H p (.tup (List.replicate k.toNat xs).flatten))
theorem zW.rep{xs:List V}{us:List Value}(r:zW xs us):∀ n:Nat,zW (List.replicate n xs).flatten (List.replicate n us).flatten
 | 0=>.nil
 | n+1=>by
  rw[List.replicate_succ,List.replicate_succ,List.flatten_cons,List.flatten_cons]
  exact r.append (zW.rep r n)
theorem zLE:OpR X (binaryOp .Mult) (zHX X.K):=by
 intro pins s σ H x y v u Q I rx ry h
 obtain⟨a,xs,k,rfl,rfl,ha,hne,h2,hz,q⟩:=h
 cases rx
 obtain⟨tk,rfl⟩:=ry
 obtain⟨its,r1,p1,_⟩:=I.tuple ha
 have hl:=r1.length
 refine HT.zLD p1 (fun z=>hne (r1.nil_iff.mp z)) h2 (by rw[← hl];exact hz) ?_
 have hn:H s.heap.objs.size=none:=I.hok.fresh (Nat.le_refl _)
 refine⟨.ref s.heap.objs.size,_,I.laid (t':=s.toks) (o:=.tup (List.replicate k.toNat xs).flatten) (fun b ob q=>Heap.get?_push_of_some _ q) (Nat.le_refl _) ?_,rfl,q _ hn⟩
 refine⟨?_,_,zW.rep r1 _,zCQ.new _ _⟩
 have:(List.replicate k.toNat xs).flatten.length=k.toNat*xs.length:=by simp
 rw[this,sizeLine_eq,Nat.mul_comm]
 omega
def zLv:D→D→Gp→Q2→Prop:=fun x y G R=>match x,y with
 | .tup xs,.int k=>xs≠[]∧2≤k∧xs.length*k.toNat≤1000000∧R (.tup (List.replicate k.toNat xs).flatten) G
 | _,_=>False
theorem zJl{K:PySem.W.Frag}:Fit K (zHX K) zLv:=by
 intro dx dy G R x y H Q h r d1 d2 k
 unfold zLv at h
 split at h
 ·rename_i xs j
  obtain⟨hne,h2,hz,h⟩:=h
  unfold zS at d1 d2
  obtain⟨a,us,rfl,s1,t1⟩:=d1
  subst d2
  have hl:=t1.length
  refine⟨a,us,j,rfl,rfl,s1,fun z=>hne (List.length_eq_zero_iff.mp (by rw[hl,z];rfl)),h2,by rw[← hl];exact hz,fun p hp=>k _ G h _ _ (.fresh hp) (r.fresh hp) ?_⟩
  unfold zS
  exact⟨p,_,rfl,.of zi,(Dens.rep t1 _).grow (.fresh hp)⟩
 ·exact h.elim
end
end L3
namespace HT
open PySem PySem.Spec PyProof.Rows
open PySem.AutoSeq1 (wpAny_loadPart')
section
variable {prog:Program} {w:World} {A:Around} {E:Value→Shared→Prop} {s:Shared}
end
end HT
namespace L3
open PySem PySem.Spec PyProof.Rows L2
section
variable {X:Cx} {a b c e o:Expr} {es:List Expr} {pos p:Pos} {ta tb te:zk}
end
end L3
namespace HZ
open PySem PySem.Spec PyProof.Rows
structure Zs (prog:Program) (w:World) (i l:Addr) (xs:Array Value) where
 It:Nat→Heap→Prop
 Sq:Heap→Prop
 item:∀(A:Around) (E:Value→Shared→Prop) (s:Shared) (k:Nat) (x:Value) (Q:Value→Shared→Prop),It k s.heap→Sq s.heap→xs[k]?=some x→(∀ h',It (k+1) h'→Heap.SameBut i s.heap h'→Q x { s with heap:=h' })→wpAny (model prog w) A (Builtin.SmallTypes.nextOf (.ref i)) Q E s
 fin:∀(A:Around) (E:Value→Shared→Prop) (s:Shared) (k:Nat) (Q:Value→Shared→Prop),A.handled=none→It k s.heap→Sq s.heap→xs[k]?=none→(∀ h' e,Heap.ExtBut i s.heap h'→(∃ o,h'.get? e=some o∧o.cls=.type "StopIteration")→E (.ref e) { s with heap:=h' })→wpAny (model prog w) A (Builtin.SmallTypes.nextOf (.ref i)) Q E s
 itAt:∀ {k:Nat} {h h':Heap},It k h→(∀ o,h.get? i=some o→h'.get? i=some o)→It k h'
 sqAt:∀ {h h':Heap},Sq h→(∀ o,h.get? l=some o→h'.get? l=some o)→Sq h'
 itHas:∀ {k:Nat} {h:Heap},It k h→∃ o,h.get? i=some o∧∀ v,o.data≠.cell v
theorem Zs.lt{prog:Program}{w:World}{i l:Addr}{xs:Array Value}(Z:Zs prog w i l xs){k:Nat}{h:Heap}(x:Z.It k h):i<h.objs.size:=let ⟨_,e,_⟩:=Z.itHas x;Heap.lt_size e
section
variable {prog:Program} {w:World} {A:Around} {E:Value→Shared→Prop} {s:Shared}
theorem zCA{nt tp:Addr}{i:Nat}{its:Array Value}{x:Value}{Q:Value→Shared→Prop}(hit:s.heap.IsTupleIter nt tp i)(ht:s.heap.IsTuple tp its)(hx:its[i]?=some x)
  (hQ:∀ h',h'.IsTupleIter nt tp (i+1)→Heap.SameBut nt s.heap h'→Q x { s with heap:=h' }):wpAny (model prog w) A (Builtin.SmallTypes.nextOf (.ref nt)) Q E s:=by
 obtain⟨o,ho,hc,hd⟩:=id hit
 obtain⟨ol,hol,_,nl,hdl⟩:=ht
 unfold Builtin.SmallTypes.nextOf
 refine wpAny_bind (wpAny_callSpecial?_slot (name:=Str.ofString "__next__") hit.typeIs F.slot_tuple_iterator_next (wpAny_call_entry F.slot_tuple_iterator_next hit.typeIs F.entry_tuple_iterator_next ?_ (F.args_tuple_iterator_next_1 _)))
 show wpAny _ _ (field (.ref nt) 0>>=_) _ _ s
 refine wpAny_bind (wpAny_field ho hd (x:=.ref tp) rfl ?_)
 show wpAny _ _ (if (Value.ref tp==Value.none)=true then _ else _) _ _ s
 rw[if_neg (show ¬ ((Value.ref tp==Value.none)=true) from Bool.false_ne_true)]
 show wpAny _ _ (field (.ref nt) 1>>=_) _ _ s
 refine wpAny_bind (wpAny_field ho hd (x:=.int i 0) rfl (show wpAny _ _ (seqItems? (.ref tp)>>=_) _ _ s from wpAny_bind (wpAny_seqItems hol hdl ?_)))
 simp only[Int.toNat_natCast,hx]
 refine wpAny_bind (wpAny_setField ho hd (by simp) (wpAny_pure ⟨x,rfl,wpAny_pure (hQ _ ⟨_,Heap.get?_update_self _ ho (Obj.isFreed_of_fields (Obj.data_mapFields hd _)),(Obj.cls_mapFields ..).trans hc,?_⟩ (Heap.SameBut.update ..))⟩))
 rw[Obj.data_mapFields hd];simp[rawInt]
theorem zCe{nt tp:Addr}{i:Nat}{its:Array Value}{Q:Value→Shared→Prop}(hh:A.handled=none)(hit:s.heap.IsTupleIter nt tp i)(ht:s.heap.IsTuple tp its)(hx:its[i]?=none)
  (hE:∀ h' e,Heap.ExtBut nt s.heap h'→(∃ o,h'.get? e=some o∧o.cls=.type "StopIteration")→E (.ref e) { s with heap:=h' }):wpAny (model prog w) A (Builtin.SmallTypes.nextOf (.ref nt)) Q E s:=by
 obtain⟨o,ho,hc,hd⟩:=id hit
 obtain⟨ol,hol,_,nl,hdl⟩:=ht
 unfold Builtin.SmallTypes.nextOf
 refine wpAny_bind (wpAny_callSpecial?_slot (name:=Str.ofString "__next__") hit.typeIs F.slot_tuple_iterator_next (wpAny_call_entry F.slot_tuple_iterator_next hit.typeIs F.entry_tuple_iterator_next ?_ (F.args_tuple_iterator_next_1 _)))
 show wpAny _ _ (field (.ref nt) 0>>=_) _ _ s
 refine wpAny_bind (wpAny_field ho hd (x:=.ref tp) rfl ?_)
 show wpAny _ _ (if (Value.ref tp==Value.none)=true then _ else _) _ _ s
 rw[if_neg (show ¬ ((Value.ref tp==Value.none)=true) from Bool.false_ne_true)]
 show wpAny _ _ (field (.ref nt) 1>>=_) _ _ s
 refine wpAny_bind (wpAny_field ho hd (x:=.int i 0) rfl (show wpAny _ _ (seqItems? (.ref tp)>>=_) _ _ s from wpAny_bind (wpAny_seqItems hol hdl ?_)))
 simp only[Int.toNat_natCast,hx]
 refine wpAny_bind (wpAny_rule (wpAny_bind (wpAny_setField ho hd (by simp) (show wpAny _ _ (newExc (.type "StopIteration") []>>=_) _ _ _ from wpAny_bind ?_))))
 simp only[newExc,newTuple]
 refine wpAny_bind (wpAny_newObj_type (wpAny_bind (m:=firstArgMember _ _) (wpAny_of_eq (a:=Value.none) (by first | rfl | (simp only[firstArgMember];rfl)) (wpAny_newObj_type ?_ (by size_fits)))) (by size_fits))
 simp only[raiseNew]
 refine wpAny_bind (wpAny_handled ?_)
 first | rw[show A.in1.handled=none from hh] | rw[hh]
 exact wpAny_bind (wpAny_pure (wpAny_throw (hE _ _ (((Heap.SameBut.update ..).extBut.push _).push _) ⟨_,Heap.get?_push_size _ rfl,rfl⟩)))
end
theorem IsTupleIter.at'{h h':Heap}{a t:Addr}{i:Nat}(x:h.IsTupleIter a t i)(k:∀ o,h.get? a=some o→h'.get? a=some o):h'.IsTupleIter a t i:=let ⟨o,e,r⟩:=x;⟨o,k o e,r⟩
theorem IsTuple.at'{h h':Heap}{a:Addr}{its:Array Value}(x:h.IsTuple a its)(k:∀ o,h.get? a=some o→h'.get? a=some o):h'.IsTuple a its:=let ⟨o,e,r⟩:=x;⟨o,k o e,r⟩
def zHY(prog:Program)(w:World)(i l:Addr)(xs:Array Value):Zs prog w i l xs where
 It:=fun k h=>h.IsTupleIter i l k
 Sq:=fun h=>h.IsTuple l xs
 item:=fun A E s k x Q a b c d=>zCA a b c d
 fin:=fun A E s k Q hh a b c d=>zCe hh a b c d
 itAt:=fun x k=>IsTupleIter.at' x k
 sqAt:=fun x k=>IsTuple.at' x k
 itHas:=fun⟨o,e,c,d⟩=>⟨o,e,fun v z=>by rw[d] at z;cases z⟩
def zHZ(prog:Program)(w:World)(i l:Addr)(xs:Array Value):Zs prog w i l xs where
 It:=fun k h=>h.IsListIter i l k
 Sq:=fun h=>h.IsList l xs
 item:=fun A E s k x Q a b c d=>wpAny_nextOf_list_item a b c d
 fin:=fun A E s k Q hh a b c d=>wpAny_nextOf_list_end hh a b c d
 itAt:=fun x k=>x.at k
 sqAt:=fun x k=>x.at k
 itHas:=fun⟨o,e,c,d⟩=>⟨o,e,fun v z=>by rw[d] at z;cases z⟩
structure Ap (z a b i j l m:Addr):Prop where
 az:a≠z
 bz:b≠z
 iz:i≠z
 jz:j≠z
 ab:a≠b
 ai:a≠i
 aj:a≠j
 bi:b≠i
 bj:b≠j
 ij:i≠j
 lz:l≠z
 lb:l≠b
 li:l≠i
 lj:l≠j
 mz:m≠z
 mb:m≠b
 mi:m≠i
 mj:m≠j
section
variable {prog:Program} {w:World} {A:Around} {E:Value→Shared→Prop} {s:Shared} {z a b i j l m:Addr} {xs ys:Array Value} (Z1:Zs prog w i l xs) (Z2:Zs prog w j m ys)
theorem zLF{k1 k2:Nat}{x y u v:Value}{Q:Value→Shared→Prop}(D:Ap z a b i j l m)(hz:IsZip s.heap z a b .none)(hTI:IsPair s.heap a (.ref i) (.ref j))(hTO:IsPair s.heap b u v)
  (h1:Z1.It k1 s.heap) (h2:Z2.It k2 s.heap) (hl1:Z1.Sq s.heap) (hl2:Z2.Sq s.heap) (hx:xs[k1]?=some x) (hy:ys[k2]?=some y)
  (hQ:∀ h',IsZip h' z a b (rawInt s.heap.objs.size)→IsPair h' b x y→Z1.It (k1+1) h'→Z2.It (k2+1) h'→IsPair h' s.heap.objs.size x y→h'.objs.size=s.heap.objs.size+1 →
   (∀ c o,c≠z→c≠b→c≠i→c≠j→s.heap.get? c=some o→h'.get? c=some o)→Q (.ref s.heap.objs.size) { s with heap:=h' }) :
  wpAny (model prog w) A (Builtin.«zip.__next__» ⟨[.ref z],[]⟩) (fun fin s'=>∃ v,fin=.done (.ret v)∧Q v s') E s:=by
 show wpAny _ _ (field (.ref z) 2>>=_) _ _ s
 refine wpAny_bind (wpAny_field hz rfl (x:=.bool false) rfl (show wpAny _ _ (field (.ref z) 3>>=_) _ _ s from wpAny_bind (wpAny_field hz rfl (x:=.ref a) rfl (wpAny_bind (wpAny_seqItems hTI rfl ?_)))))
 show wpAny _ _ (Builtin.SmallTypes.ownedTupleIsFree (.ref z)>>=_) _ _ s
 refine wpAny_bind ?_
 unfold Builtin.SmallTypes.ownedTupleIsFree
 refine wpAny_bind (wpAny_field hz rfl (x:=.none) rfl (wpAny_pure ?_))
 simp only[if_true]
 refine wpAny_bind (wpAny_rule (wpAny_bind (wpAny_field hz rfl (x:=.ref b) rfl (wpAny_bind (wpAny_setField_rec hz (by simp) fun g1 hz1 s1=>?_)))))
 replace hz1:IsZip g1 z a b .ellipsis:=hz1
 refine wpAny_bind ?_
 simp only[List.zipIdx_cons,List.zipIdx_nil,List.forIn_cons,List.forIn_nil]
 refine wpAny_bind (wpAny_bind (wpAny_onRaise (show wpAny _ _ (Builtin.SmallTypes.nextOf (.ref i)>>=_) _ _ _ from wpAny_bind (Z1.item _ _ _ _ _ _ (Z1.itAt h1 fun o e=>s1.extBut _ _ D.iz e) (Z1.sqAt hl1 fun o e=>s1.extBut _ _ D.lz e) hx fun g2 i2 s2=>wpAny_pure ?_))))
 have t2:IsPair g2 b u v:=s2.extBut _ _ D.bi (s1.extBut _ _ D.bz hTO)
 refine wpAny_bind (wpAny_seqItems t2 rfl (wpAny_bind (wpAny_updateSeq_pair t2 fun g3 t3 s3=>?_)))
 replace t3:IsPair g3 b x v:=t3
 refine wpAny_bind (wpAny_letGo (wpAny_pure (wpAny_bind (wpAny_bind (wpAny_onRaise (show wpAny _ _ (Builtin.SmallTypes.nextOf (.ref j)>>=_) _ _ _ from wpAny_bind (Z2.item _ _ _ _ _ _ (Z2.itAt h2 fun o e=>s3.extBut _ _ D.bj.symm (s2.extBut _ _ D.ij.symm (s1.extBut _ _ D.jz e))) (Z2.sqAt hl2 fun o e=>s3.extBut _ _ D.mb (s2.extBut _ _ D.mi (s1.extBut _ _ D.mz e))) hy fun g4 j4 s4=>wpAny_pure ?_)))))))
 have t4:IsPair g4 b x v:=s4.extBut _ _ D.bj t3
 refine wpAny_bind (wpAny_seqItems t4 rfl (wpAny_bind (wpAny_updateSeq_pair t4 fun g5 t5 s5=>?_)))
 replace t5:IsPair g5 b x y:=t5
 refine wpAny_bind (wpAny_letGo (wpAny_pure (wpAny_pure (wpAny_bind (wpAny_seqItems t5 rfl (wpAny_bind (wpAny_newTuple ?_)))))))
 have hsz:g5.objs.size=s.heap.objs.size:=by rw[s5.1,s4.1,s3.1,s2.1,s1.1]
 have z5:IsZip g5 z a b .ellipsis:=s5.extBut _ _ D.bz.symm (s4.extBut _ _ D.jz.symm (s3.extBut _ _ D.bz.symm (s2.extBut _ _ D.iz.symm hz1)))
 have k5:∀ c o,c≠z→c≠b→c≠i→c≠j→s.heap.get? c=some o→g5.get? c=some o:=fun c o c1 c2 c3 c4 e=>s5.extBut _ _ c2 (s4.extBut _ _ c4 (s3.extBut _ _ c2 (s2.extBut _ _ c3 (s1.extBut _ _ c1 e))))
 have i5:Z1.It (k1+1) g5:=Z1.itAt i2 fun o e=>s5.extBut _ _ D.bi.symm (s4.extBut _ _ D.ij (s3.extBut _ _ D.bi.symm e))
 have j5:Z2.It (k2+1) g5:=Z2.itAt j4 fun o e=>s5.extBut _ _ D.bj.symm e
 have zl:z<g5.objs.size:=Heap.lt_size z5
 show wpAny _ _ (Builtin.SmallTypes.ownedTupleHandOut (.ref z) (.ref g5.objs.size)>>=_) _ _ _
 refine wpAny_bind ?_
 unfold Builtin.SmallTypes.ownedTupleHandOut
 have z6:IsZip (g5.push { cls:=.type "tuple",data:=.seq #[x,y] }) z a b .ellipsis:=Heap.get?_push_of_some _ z5
 refine wpAny_bind (wpAny_setField_rec z6 (by simp) fun g7 z7 s7=>?_)
 replace z7:IsZip g7 z a b (rawInt g5.objs.size):=z7
 refine wpAny_setField_rec z7 (by simp) fun g8 z8 s8=>?_
 replace z8:IsZip g8 z a b (rawInt g5.objs.size):=z8
 have up:∀ c o,c≠z→g5.get? c=some o→g8.get? c=some o:=fun c o c1 e=>s8.extBut _ _ c1 (s7.extBut _ _ c1 (Heap.get?_push_of_some _ e))
 have p8:IsPair g8 g5.objs.size x y:=s8.extBut _ _ (Nat.ne_of_gt zl) (s7.extBut _ _ (Nat.ne_of_gt zl) (Heap.get?_push_size _ rfl))
 have n8:g8.objs.size=g5.objs.size+1:=by rw[s8.1,s7.1,Heap.size_push]
 rw[hsz] at z8 p8 n8
 refine wpAny_pure ⟨_,rfl,?_⟩
 show Q (.ref g5.objs.size) _
 rw[hsz]
 exact hQ g8 z8 (up _ _ D.bz t5) (Z1.itAt i5 fun o e=>up _ o D.iz e) (Z2.itAt j5 fun o e=>up _ o D.jz e) p8 n8 fun c o c1 c2 c3 c4 e=>up c o c1 (k5 c o c1 c2 c3 c4 e)
theorem zM1{k1 k2:Nat}{u v:Value}{Q:Fin→Shared→Prop}(hh:A.handled=none)(D:Ap z a b i j l m)(hz:IsZip s.heap z a b .none)(hTI:IsPair s.heap a (.ref i) (.ref j))(hTO:IsPair s.heap b u v)
  (h1:Z1.It k1 s.heap) (h2:Z2.It k2 s.heap) (hl1:Z1.Sq s.heap) (hl2:Z2.Sq s.heap) (hend:xs[k1]?=none∨ys[k2]?=none)
  (hE:∀ h' e,(∀ c o,c≠z→c≠b→c≠i→c≠j→s.heap.get? c=some o→h'.get? c=some o)→(∃ o,h'.get? e=some o∧o.cls=.type "StopIteration")→E (.ref e) { s with heap:=h' }) :
  wpAny (model prog w) A (Builtin.«zip.__next__» ⟨[.ref z],[]⟩) Q E s:=by
 show wpAny _ _ (field (.ref z) 2>>=_) _ _ s
 refine wpAny_bind (wpAny_field hz rfl (x:=.bool false) rfl (show wpAny _ _ (field (.ref z) 3>>=_) _ _ s from wpAny_bind (wpAny_field hz rfl (x:=.ref a) rfl (wpAny_bind (wpAny_seqItems hTI rfl ?_)))))
 show wpAny _ _ (Builtin.SmallTypes.ownedTupleIsFree (.ref z)>>=_) _ _ s
 refine wpAny_bind ?_
 unfold Builtin.SmallTypes.ownedTupleIsFree
 refine wpAny_bind (wpAny_field hz rfl (x:=.none) rfl (wpAny_pure ?_))
 simp only[if_true]
 refine wpAny_bind (wpAny_rule (wpAny_bind (wpAny_field hz rfl (x:=.ref b) rfl (wpAny_bind (wpAny_setField_rec hz (by simp) fun g1 hz1 s1=>?_)))))
 replace hz1:IsZip g1 z a b .ellipsis:=hz1
 refine wpAny_bind ?_
 simp only[List.zipIdx_cons,List.zipIdx_nil,List.forIn_cons,List.forIn_nil]
 refine wpAny_bind (wpAny_bind (wpAny_onRaise ?_))
 show wpAny _ _ (Builtin.SmallTypes.nextOf (.ref i)>>=_) _ _ _
 have w1:Z1.It k1 g1:=Z1.itAt h1 fun o e=>s1.extBut _ _ D.iz e
 have w2:Z1.Sq g1:=Z1.sqAt hl1 fun o e=>s1.extBut _ _ D.lz e
 cases hx:xs[k1]? with
 | none =>
  refine wpAny_bind (Z1.fin _ _ _ _ _ hh w1 w2 hx fun g2 e s2 he=>?_)
  obtain⟨oe,hoe,hce⟩:=he
  have z2:IsZip g2 z a b .ellipsis:=s2 _ _ D.iz.symm hz1
  have hez:e≠z:=fun q=>by subst q;rw[z2] at hoe;cases hoe;simp at hce
  refine wpAny_setField_rec z2 (by simp) fun g3 _ s3=>hE g3 e (fun c o c1 _ c3 _ q=>s3.extBut _ _ c1 (s2 _ _ c3 (s1.extBut _ _ c1 q))) ⟨oe,s3.extBut _ _ hez hoe,hce⟩
 | some x =>
  have hy:ys[k2]?=none:=by rcases hend with h | h;rw[hx] at h;cases h;exact h
  refine wpAny_bind (Z1.item _ _ _ _ _ _ w1 w2 hx fun g2 i2 s2=>wpAny_pure ?_)
  have t2:IsPair g2 b u v:=s2.extBut _ _ D.bi (s1.extBut _ _ D.bz hTO)
  refine wpAny_bind (wpAny_seqItems t2 rfl (wpAny_bind (wpAny_updateSeq_pair t2 fun g3 t3 s3=>wpAny_bind (wpAny_letGo (wpAny_pure (wpAny_bind (wpAny_bind (wpAny_onRaise ?_))))))))
  show wpAny _ _ (Builtin.SmallTypes.nextOf (.ref j)>>=_) _ _ _
  refine wpAny_bind (Z2.fin _ _ _ _ _ hh (Z2.itAt h2 fun o e=>s3.extBut _ _ D.bj.symm (s2.extBut _ _ D.ij.symm (s1.extBut _ _ D.jz e))) (Z2.sqAt hl2 fun o e=>s3.extBut _ _ D.mb (s2.extBut _ _ D.mi (s1.extBut _ _ D.mz e))) hy fun g4 e s4 he=>?_)
  obtain⟨oe,hoe,hce⟩:=he
  have z4:IsZip g4 z a b .ellipsis:=s4 _ _ D.jz.symm (s3.extBut _ _ D.bz.symm (s2.extBut _ _ D.iz.symm hz1))
  have hez:e≠z:=fun q=>by subst q;rw[z4] at hoe;cases hoe;simp at hce
  refine wpAny_setField_rec z4 (by simp) fun g5 _ s5=>hE g5 e (fun c o c1 c2 c3 c4 q=>s5.extBut _ _ c1 (s4 _ _ c4 (s3.extBut _ _ c2 (s2.extBut _ _ c3 (s1.extBut _ _ c1 q))))) ⟨oe,s5.extBut _ _ hez hoe,hce⟩
theorem zHa{k1 k2:Nat}{x y u v:Value}{Q:Option Value→Shared→Prop}(D:Ap z a b i j l m)(hz:IsZip s.heap z a b .none)(hTI:IsPair s.heap a (.ref i) (.ref j))(hTO:IsPair s.heap b u v)
  (h1:Z1.It k1 s.heap) (h2:Z2.It k2 s.heap) (hl1:Z1.Sq s.heap) (hl2:Z2.Sq s.heap) (hx:xs[k1]?=some x) (hy:ys[k2]?=some y)
  (hQ:∀ h',IsZip h' z a b (rawInt s.heap.objs.size)→IsPair h' b x y→Z1.It (k1+1) h'→Z2.It (k2+1) h'→IsPair h' s.heap.objs.size x y→h'.objs.size=s.heap.objs.size+1 →
   (∀ c o,c≠z→c≠b→c≠i→c≠j→s.heap.get? c=some o→h'.get? c=some o)→Q (some (.ref s.heap.objs.size)) { s with heap:=h' }) :
  wpAny (model prog w) A (pyNext (.ref z)) Q E s:=by
 have hT:s.TypeIs (.ref z) "zip":=⟨_,hz,rfl⟩
 unfold pyNext
 exact wpAny_bind (wpAny_attempt (wpAny_callSpecial?_slot (name:=Str.ofString "__next__") hT F.slot_zip_next (wpAny_call_entry F.slot_zip_next hT F.entry_zip_next (zLF Z1 Z2 D hz hTI hTO h1 h2 hl1 hl2 hx hy fun h' a1 a2 a3 a4 a5 a6 a7=>wpAny_pure (hQ h' a1 a2 a3 a4 a5 a6 a7)) (F.args_zip_next_1 _))))
theorem zJm{k1 k2:Nat}{u v:Value}{Q:Option Value→Shared→Prop}(hh:A.handled=none)(D:Ap z a b i j l m)(hz:IsZip s.heap z a b .none)(hTI:IsPair s.heap a (.ref i) (.ref j))(hTO:IsPair s.heap b u v)
  (h1:Z1.It k1 s.heap) (h2:Z2.It k2 s.heap) (hl1:Z1.Sq s.heap) (hl2:Z2.Sq s.heap) (hend:xs[k1]?=none∨ys[k2]?=none)
  (hQ:∀ h',(∀ c o,c≠z→c≠b→c≠i→c≠j→s.heap.get? c=some o→h'.get? c=some o)→Q none { s with heap:=h' }):wpAny (model prog w) A (pyNext (.ref z)) Q E s:=by
 have hT:s.TypeIs (.ref z) "zip":=⟨_,hz,rfl⟩
 unfold pyNext
 refine wpAny_bind (wpAny_attempt (wpAny_callSpecial?_slot (name:=Str.ofString "__next__") hT F.slot_zip_next (wpAny_call_entry F.slot_zip_next hT F.entry_zip_next (zM1 Z1 Z2 hh D hz hTI hTO h1 h2 hl1 hl2 hend fun h' e hk he=>?_) (F.args_zip_next_1 _))))
 obtain⟨o,ho,hc⟩:=he
 exact wpAny_bind (wpAny_isInstance (T:="StopIteration") (b:=true) ⟨o,ho,hc⟩ isSubtype_stop (wpAny_pure (hQ _ hk)))
end
end HZ
namespace HZ
open PySem PySem.Spec PyProof.Rows
theorem yd{a b:Nat}(h:a<b∨b<a):@Ne Addr a b:=fun z=>by
 have z':(a:Nat)=b:=z
 omega
theorem zGk{n a b:Nat}(h1:a<n)(h2:b<n):Ap (n+4) (n+2) (n+3) n (n+1) a b :=
 ⟨yd (by omega),yd (by omega),yd (by omega),yd (by omega),yd (by omega),yd (by omega),yd (by omega),yd (by omega),yd (by omega),yd (by omega),yd (by omega),yd (by omega),yd (by omega),yd (by omega),yd (by omega),yd (by omega),yd (by omega),yd (by omega)⟩
abbrev zt1(h:Heap)(p:Addr):Heap:=h.push { cls:=.type "tuple_iterator",data:=.fields #[.ref p,.int 0 0] }
abbrev zt2(h:Heap)(p q:Addr):Heap:=(zt1 h p).push { cls:=.type "tuple_iterator",data:=.fields #[.ref q,.int 0 0] }
abbrev zt3(h:Heap)(p q:Addr):Heap:=(zt2 h p q).push { cls:=.type "tuple",data:=.seq #[.ref h.objs.size,.ref (zt1 h p).objs.size] }
abbrev zt4(h:Heap)(p q:Addr):Heap:=(zt3 h p q).push { cls:=.type "tuple",data:=.seq #[.none,.none] }
abbrev zt5(h:Heap)(p q:Addr):Heap:=(zt4 h p q).push { cls:=.type "zip",data:=.fields #[.none,.bool false,.bool false,.ref (zt2 h p q).objs.size,.ref (zt3 h p q).objs.size] }
theorem zGl(p q:Addr)(xs ys:Array Value) :
  Meets (Builtin.«zip.__new__» ⟨[.type "zip",.ref p,.ref q],[]⟩) (fun _ R s=>s.heap.IsTuple p xs∧s.heap.IsTuple q ys∧R (.ok (.ret (.ref (zt4 s.heap p q).objs.size))) { s with heap:=zt5 s.heap p q }) :=
 .of_wp fun prog w A R s h=>by
  obtain⟨hp,g,d,tk,os⟩:=s;obtain⟨hl1,hl2,h⟩:=h
  have hsub:=sub_zip
  have w1:Heap.IsTuple (Shared.heap ⟨hp,g,d,tk,os⟩) p xs:=hl1
  have w2:Heap.IsTuple (Shared.heap ⟨hp.push { cls:=.type "tuple_iterator",data:=.fields #[.ref p,.int 0 0] },g,d,tk,os⟩) q ys:=Heap.IsTuple.push hl2 _
  wp_walk using wpAny_pyIter_tuple w1,wpAny_pyIter_tuple w2
  exact⟨_,rfl,h⟩
theorem zEN{prog:Program}{w:World}{A:Around}{E:Value→Shared→Prop}{s:Shared}{p q:Addr}{xs ys:Array Value}{Q:Value→Shared→Prop}(hl1:s.heap.IsTuple p xs)(hl2:s.heap.IsTuple q ys)
  (h:∀ h',IsZip h' (s.heap.objs.size+4) (s.heap.objs.size+2) (s.heap.objs.size+3) .none→IsPair h' (s.heap.objs.size+2) (.ref s.heap.objs.size) (.ref (s.heap.objs.size+1)) →
   IsPair h' (s.heap.objs.size+3) .none .none→h'.IsTupleIter s.heap.objs.size p 0→h'.IsTupleIter (s.heap.objs.size+1) q 0→h'.objs.size=s.heap.objs.size+5 →
   (∀ c o,s.heap.get? c=some o→h'.get? c=some o)→Q (.ref (s.heap.objs.size+4)) { s with heap:=h' }) :
  wpAny (model prog w) A (call (.type "zip") [.ref p,.ref q]) Q E s:=by
 refine callType_new F.called_zip (by decide) (F.typeCall_zip_2 _ _) (F.newCall_zip_2 _ _) (fun obj=>F.args_object_init_3 obj _ _) F.entry_zip_new (zGl p q xs ys) ⟨hl1,hl2,?_⟩
 have z1:(zt1 s.heap p).objs.size=s.heap.objs.size+1:=Heap.size_push ..
 have z2:(zt2 s.heap p q).objs.size=s.heap.objs.size+2:=by rw[Heap.size_push,z1]
 have z3:(zt3 s.heap p q).objs.size=s.heap.objs.size+3:=by rw[Heap.size_push,z2]
 have z4:(zt4 s.heap p q).objs.size=s.heap.objs.size+4:=by rw[Heap.size_push,z3]
 have z5:(zt5 s.heap p q).objs.size=s.heap.objs.size+5:=by rw[Heap.size_push,z4]
 have g5:(zt5 s.heap p q).get? (zt4 s.heap p q).objs.size=some _:=Heap.get?_push_size _ rfl
 have g4:(zt5 s.heap p q).get? (zt3 s.heap p q).objs.size=some _:=Heap.get?_push_of_some _ (Heap.get?_push_size _ rfl)
 have g3:(zt5 s.heap p q).get? (zt2 s.heap p q).objs.size=some _:=Heap.get?_push_of_some _ (Heap.get?_push_of_some _ (Heap.get?_push_size _ rfl))
 have g2:(zt5 s.heap p q).get? (zt1 s.heap p).objs.size=some _:=Heap.get?_push_of_some _ (Heap.get?_push_of_some _ (Heap.get?_push_of_some _ (Heap.get?_push_size _ rfl)))
 have g1:(zt5 s.heap p q).get? s.heap.objs.size=some _:=Heap.get?_push_of_some _ (Heap.get?_push_of_some _ (Heap.get?_push_of_some _ (Heap.get?_push_of_some _ (Heap.get?_push_size _ rfl))))
 show _∧_
 rw[z2,z3,z4] at g5
 rw[z1,z2] at g3
 rw[z3] at g4
 rw[z1] at g2
 rw[z4]
 exact⟨⟨_,g5,rfl⟩,h _ g5 g3 g4 ⟨_,g1,rfl,rfl⟩ ⟨_,g2,rfl,rfl⟩ z5 fun c o x=>Heap.get?_push_of_some _ (Heap.get?_push_of_some _ (Heap.get?_push_of_some _ (Heap.get?_push_of_some _ (Heap.get?_push_of_some _ x))))⟩
end HZ
namespace L2
open PySem PySem.Spec PyProof.Rows HZ
theorem zU.turnedL{X:Cx}{pins:List (Addr×Obj)}{σ:List (Option V)}{H:Hp}{s:Shared}{h':Heap}{t':Nat}{fp:List Addr}(I:zU X pins σ H s)(k:∀ b o,b∉fp→s.heap.get? b=some o→h'.get? b=some o)(hf:∀ b∈fp,zBC X pins H b):zU X pins σ H { s with heap:=h',toks:=t' }:=by
 have nit:∀ b u,H b=some u→b∉fp:=fun b u e z=>by rw[(hf b z).1] at e;cases e
 refine I.step (g':=s.gens) (d':=s.drawn) (ch:=fp) (fun b hb=>?_) (fun b o _ _ hc e _=>k b o hc e) (fun b o _ _ hc e _=>⟨o.slots,k b o hc e⟩) (fun _ _ _ _ n=>n)
  (fun b o hc e=>⟨o,k b o hc e⟩) (fun _ _ e=>e) (fun _ _ _ e=>e) (fun _ _ e=>e) (fun m hm=>?_) (fun b u e=>?_) I.bare
 ·obtain⟨f0,f1,f2,f3,f4,f5⟩:=hf b hb
  exact⟨f3,f1,f4,f5⟩
 ·obtain⟨o,es,ep,ho,r⟩:=hm
  exact⟨o,es,ep,k _ o (fun z=>(hf _ z).2.1 rfl) ho,r⟩
 ·refine(I.hok b u e).stay (fun c v hc q=>k c v ?_ q) (fun _ q=>q) (fun _ _ q=>q) fun _ _ _ q=>q
  rcases hc with z | z
  ·rw[z];exact nit b u e
  ·exact nit c _ z
def Itz(K:PySem.W.Frag)(a b:Addr):It :=
  ⟨fun i H=>∃ xs ys x y,SqT K H a xs∧SqT K H b ys∧xs[i]?=some x∧ys[i]?=some y,
   fun i H v H'=>∃ t,v=.ref t∧H t=none∧∃ x y,(∀ xs,SqT K H a xs→xs[i]?=some x)∧(∀ ys,SqT K H b ys→ys[i]?=some y)∧H'=yc H t (.tup [x,y]),
   fun i H=>∃ xs ys,SqT K H a xs∧SqT K H b ys∧(xs.length≤i∨ys.length≤i)⟩
theorem zEO{P:Program}{w:World}{K:PySem.W.Frag}{es:List Expr}{kk:Nat}{pt:Pos}{z a b i1 i2 l m:Addr}(D:Ap z a b i1 i2 l m) :
  Turn P w K (.Tuple es kk pt) (Itz K l m) [z,a,b,i1,i2] z (fun i h=>IsZip h z a b .none∧IsPair h a (.ref i1) (.ref i2)∧(∃ u v,IsPair h b u v)∧h.IsTupleIter i1 l i∧h.IsTupleIter i2 m i) where
 mem:=by simp
 obj:=fun i h st c hc=>by
  obtain⟨h1,h2,⟨u,v,h3⟩,h4,h5⟩:=st
  simp only[List.mem_cons,List.not_mem_nil,or_false] at hc
  rcases hc with rfl | rfl | rfl | rfl | rfl
  ·exact⟨_,h1,fun v q=>by cases q⟩
  ·exact⟨_,h2,fun v q=>by cases q⟩
  ·exact⟨_,h3,fun v q=>by cases q⟩
  ·obtain⟨o,e,c,d⟩:=h4;exact⟨o,e,fun v q=>by rw[d] at q;cases q⟩
  ·obtain⟨o,e,c,d⟩:=h5;exact⟨o,e,fun v q=>by rw[d] at q;cases q⟩
 keep:=fun i h h' st k=>by
  obtain⟨h1,h2,⟨u,v,h3⟩,h4,h5⟩:=st
  exact⟨k z (by simp) _ h1,k a (by simp) _ h2,⟨u,v,k b (by simp) _ h3⟩,IsTupleIter.at' h4 fun o e=>k i1 (by simp) o e,IsTupleIter.at' h5 fun o e=>k i2 (by simp) o e⟩
 item:=by
  intro X hP hw hK hc i pins s σ H E I hf st hg
  subst hP hw hK
  obtain⟨xs,ys,x,y,q1,q2,hx,hy⟩:=hg
  obtain⟨its1,rv1,p1,hz1⟩:=I.tuple q1
  obtain⟨its2,rv2,p2,hz2⟩:=I.tuple q2
  obtain⟨u1,hu1,ru1⟩:=rv1.get hx
  obtain⟨u2,hu2,ru2⟩:=rv2.get hy
  obtain⟨h1,h2,⟨u,v,h3⟩,h4,h5⟩:=st
  have fl:∀ c∈[z,a,b,i1,i2],c<s.heap.objs.size:=fun c hc=>by
   simp only[List.mem_cons,List.not_mem_nil,or_false] at hc
   rcases hc with rfl | rfl | rfl | rfl | rfl
   ·exact Heap.lt_size h1
   ·exact Heap.lt_size h2
   ·exact Heap.lt_size h3
   ·obtain⟨o,e,_⟩:=h4;exact Heap.lt_size e
   ·obtain⟨o,e,_⟩:=h5;exact Heap.lt_size e
  have hfr:H s.heap.objs.size=none:=I.hok.fresh (Nat.le_refl _)
  refine zHa (zHY X.prog X.w i1 l its1.toArray) (zHY X.prog X.w i2 m its2.toArray) D h1 h2 h3 h4 h5 (show s.heap.IsTuple l its1.toArray from p1) (show s.heap.IsTuple m its2.toArray from p2) (x:=u1) (y:=u2) (by simpa using hu1) (by simpa using hu2) fun h' a1 a2 a3 a4 a5 a6 a7=>?_
  refine⟨_,rfl,wpAny_letOwnedTupleGo_zip (s:={ s with heap:=h' }) a1 fun h'' z1 sb=>?_⟩
  have nT:∀ c∈[z,a,b,i1,i2],c≠s.heap.objs.size:=fun c hc e=>absurd (fl c hc) (by rw[e];exact Nat.lt_irrefl _)
  have I1:zU X pins σ (yc H s.heap.objs.size (.tup [x,y])) { s with heap:=s.heap.push { cls:=.type "tuple",data:=.seq #[u1,u2] },toks:=s.toks } :=
   I.laid (t':=s.toks) (fun b u e=>Heap.get?_push_of_some _ e) (Nat.le_refl _) ⟨by show 2≤sizeLine;decide,[u1,u2],.cons ru1 (.cons ru2 .nil),zCQ.new _ _⟩
  have hf':∀ c∈[z,a,b,i1,i2],zBC X pins (yc H s.heap.objs.size (.tup [x,y])) c:=fun c hc=>by
   obtain⟨f0,f1⟩:=hf c hc
   exact⟨by rw[zu (nT c hc)];exact f0,f1⟩
  have I2:zU X pins σ (yc H s.heap.objs.size (.tup [x,y])) { s with heap:=h'' }:=by
   refine I1.turnedL (t':=s.toks) (h':=h'') (fun c o hc e=>?_) hf'
   have cz:c≠z:=fun q=>hc (by simp[q])
   refine sb.extBut _ _ cz ?_
   by_cases hT:c=s.heap.objs.size
   ·subst hT
    have e':(s.heap.push { cls:=.type "tuple",data:=.seq #[u1,u2] }).get? s.heap.objs.size=some o:=e
    rw[Heap.get?_push_size _ rfl] at e'
    cases e'
    exact a5
   ·have e':(s.heap.push { cls:=.type "tuple",data:=.seq #[u1,u2] }).get? c=some o:=e
    have:s.heap.get? c=some o:=by rw[Heap.get?_push_ne _ _ _ hT] at e';exact e'
    exact a7 c o cz (fun q=>hc (by simp[q])) (fun q=>hc (by simp[q])) (fun q=>hc (by simp[q])) this
  refine⟨.ref s.heap.objs.size,_,I2,rfl,⟨s.heap.objs.size,rfl,hfr,x,y,fun zs hzs=>by rw[I.tuple_inj hzs q1];exact hx,fun zs hzs=>by rw[I.tuple_inj hzs q2];exact hy,rfl⟩,?_,fun c hc=>(hf' c hc).1⟩
  refine⟨z1,sb.extBut _ _ D.az (a7 _ _ D.az D.ab D.ai D.aj h2),⟨_,_,sb.extBut _ _ D.bz a2⟩,IsTupleIter.at' a3 fun o e=>sb.extBut _ _ D.iz e,IsTupleIter.at' a4 fun o e=>sb.extBut _ _ D.jz e⟩
 done:=by
  intro X hP hw hK hc i pins s σ H E I hf st hg
  subst hP hw hK
  obtain⟨xs,ys,q1,q2,hx⟩:=hg
  obtain⟨its1,rv1,p1,hz1⟩:=I.tuple q1
  obtain⟨its2,rv2,p2,hz2⟩:=I.tuple q2
  obtain⟨h1,h2,⟨u,v,h3⟩,h4,h5⟩:=st
  have l1:=rv1.length
  have l2:=rv2.length
  refine zJm (zHY X.prog X.w i1 l its1.toArray) (zHY X.prog X.w i2 m its2.toArray) (I.ok.hd hc) D h1 h2 h3 h4 h5 (show s.heap.IsTuple l its1.toArray from p1) (show s.heap.IsTuple m its2.toArray from p2) (by
   rcases hx with h | h
   ·left;simp;omega
   ·right;simp;omega) fun h' hk=>⟨rfl,I.turnedL (t':=s.toks) (fun c o hc e=>hk c o (fun q=>hc (by simp[q])) (fun q=>hc (by simp[q])) (fun q=>hc (by simp[q])) (fun q=>hc (by simp[q])) e) hf⟩
 self:=fun _ _ _ _ _ st h=>wpAny_pyIter_zip st.1 h
def iZp(K:PySem.W.Frag)(ta:TA):TI:=fun σ H R=>ta σ H fun vs H1=>∃ a b xs ys,vs=[.ref a,.ref b]∧SqT K H1 a xs∧SqT K H1 b ys∧(xs.length≤sizeLine→R (Itz K a b) H1)
theorem zLG{X:Cx}{a b:Expr}{ta:TA}{p pos pt:Pos}{es:List Expr}{kk:Nat}(hg:Gl X "zip")(hm:X.mg "zip"=none)(ha:PA X [a,b] ta)(hs:starEach [a,b] X.env=[(false,eval a X.env),(false,eval b X.env)]:=by rfl)(hs2:starEach [b] X.env=[(false,eval b X.env)]:=by rfl) :
  PI X (.Tuple es kk pt) (.Call (.Name "zip" p) [a,b] [] pos) (iZp X.K ta):=by
 intro pins s σ H R I h
 refine Call_ (zBE I hg hm boot_zip (PyProof.Rows.callWith_type1 (yV (ha pos pins s σ H _ I h) fun us s1 ⟨vs,H1,I1,r1,q1⟩=>?_) (by rw[hs,hs2]) (by rw[hs2];rfl)))
 obtain⟨a1,b1,xs,ys,e,q1,q2,q⟩:=q1
 subst e
 cases r1 with
 | cons r rr =>
  cases rr with
  | cons r' rr =>
   cases rr
   cases r
   cases r'
   obtain⟨its1,rv1,p1,hz1⟩:=I1.tuple q1
   obtain⟨its2,rv2,p2,hz2⟩:=I1.tuple q2
   have lt1:=p1.lt
   have lt2:=p2.lt
   refine zEN (show s1.heap.IsTuple a1 its1.toArray from p1) (show s1.heap.IsTuple b1 its2.toArray from p2) fun h' z1 z2 z3 z4 z5 z6 z7=>?_
   refine wpAny_pyIter_zip z1 ⟨_,[s1.heap.objs.size+4,s1.heap.objs.size+2,s1.heap.objs.size+3,s1.heap.objs.size,s1.heap.objs.size+1],_,_,H1,rfl,I1.kept (t':=s1.toks) z7,zEO (z:=s1.heap.objs.size+4) (a:=s1.heap.objs.size+2) (b:=s1.heap.objs.size+3) (i1:=s1.heap.objs.size) (i2:=s1.heap.objs.size+1) (l:=a1) (m:=b1) ?_,⟨z1,z2,⟨_,_,z3⟩,z4,z5⟩,fun c hc=>?_,q hz1⟩
   ·exact zGk lt1 lt2
   ·have:s1.heap.objs.size≤c:=by
     simp only[List.mem_cons,List.not_mem_nil,or_false] at hc
     rcases hc with e | e | e | e | e<;>(rw[e];first | exact Nat.le_add_right _ _ | exact Nat.le_refl _)
    exact I1.fpOk this (I1.hok.fresh this)
end L2
namespace L3
open PySem PySem.Spec PyProof.Rows L2
theorem zFf{K:PySem.W.Frag}{H0:Hp}{a b:Addr}{xs ys:List V}{ds es:List D}(h:SqT K H0 a xs)(hd:Dens K H0 ds xs)(h':SqT K H0 b ys)(hd':Dens K H0 es ys) :
  Walk K H0 ((ds.zip es).map fun p=>D.tup [p.1,p.2]) (fun _=>True) (Itz K a b) where
 go:=fun i G H _ r g hi=>by
  have hl:i<xs.length∧i<ys.length:=by rw[List.length_map,List.length_zip] at hi;rw[← hd.length,← hd'.length];omega
  exact⟨xs,ys,xs[i]'hl.1,ys[i]'hl.2,g.sqT h,g.sqT h',by simp,by simp⟩
 stop:=fun G H _ r g=>⟨xs,ys,g.sqT h,g.sqT h',by rw[← hd.length,← hd'.length,List.length_map,List.length_zip];omega⟩
 yld:=fun i G H x H' _ r g hi y=>by
  obtain⟨t,rfl,hn,u,v,y1,y2,rfl⟩:=y
  obtain⟨d1,e1,e2⟩:=(hd.grow g).got (y1 xs (g.sqT h))
  obtain⟨d2,e3,e4⟩:=(hd'.grow g).got (y2 ys (g.sqT h'))
  have gr:yA H (yc H t (.tup [u,v])):=.fresh hn
  refine⟨gr,r.fresh hn,D.tup [d1,d2],by simp[List.getElem?_zip_eq_some,e1,e3],?_⟩
  unfold zS
  exact⟨t,[u,v],rfl,.inl (.of zi),.cons (e2.grow gr) (.cons (e4.grow gr) .nil)⟩
def iZ(t:yt):TI2:=fun σ G R=>t σ G fun ds G1=>match ds with | [.tup xs,.tup ys]=>R ((xs.zip ys).map fun p=>D.tup [p.1,p.2]) (fun _=>True) G1 | _=>False
theorem zN1{X:Cx}{a b:Expr}{t:yt}{p pos pt:Pos}{es:List Expr}{kk:Nat}(hg:Gl X "zip")(hm:X.mg "zip"=none)(ha:A2 X [a,b] t)(hs:starEach [a,b] X.env=[(false,eval a X.env),(false,eval b X.env)]:=by rfl)(hs2:starEach [b] X.env=[(false,eval b X.env)]:=by rfl) :
  I2 X (.Tuple es kk pt) (.Call (.Name "zip" p) [a,b] [] pos) (iZ t):=by
 refine PI.mono (zLG hg hm ha hs hs2) ?_
 rintro σ1 H R ⟨σ,G,R2,r,q,k⟩
 refine⟨σ,G,_,r,q,fun ds G1 q1 vs H1 g1 r1 d1=>?_⟩
 split at q1
 ·rename_i xs ys
  unfold Dens at d1
  obtain⟨x,r',rfl,d1,d2⟩:=d1
  unfold Dens at d2
  obtain⟨y,r',rfl,d2,d3⟩:=d2
  unfold zS at d1 d2
  unfold Dens at d3
  subst d3
  obtain⟨a1,us,rfl,h1,h2⟩:=d1
  obtain⟨b1,vs,rfl,h3,h4⟩:=d2
  refine⟨a1,b1,us,vs,rfl,h1,h3,fun hz=>k _ _ G1 q1 _ H1 g1 r1 (zFf h1 h2 h3 h4) ?_⟩
  rw[List.length_map,List.length_zip,h2.length];omega
 ·exact q1.elim
theorem zM2{σ:S2}{G:Gp}{t:yt}{xs ys:List D}(h:PuA t σ G [.tup xs,.tup ys]):PuI (iZ t) σ G ((xs.zip ys).map fun p=>D.tup [p.1,p.2]):=fun G2 e R q=>h G2 e _ (q _ G2 (.refl _) fun _ _=>trivial)
end L3
namespace HZ
open PySem PySem.Spec PyProof.Rows
section
variable {prog:Program} {w:World} {A:Around} {E:Value→Shared→Prop}
end
end HZ
namespace L2
open PySem PySem.Spec PyProof.Rows HZ
variable {X:Cx} {pos:Pos}
end L2
namespace L3
open PySem PySem.Spec PyProof.Rows L2
section
variable {X:Cx} {e:Expr} {te:zk} {pos p p2 p3 p4:Pos}
theorem zN2{body:List Stmt}:Ps2 X body (fun _ _ _=>False):=by
 rintro pins s σ H E I ⟨σ',G,D2,r,q,k⟩
 exact q.elim
theorem zIN:yk X (.builtin "isinstance") (fun xs H Q=>∃ x d p,xs=[x,.ref p]∧SqT X.K H p [.ty "tuple",.ty "list"]∧zS X.K H d x∧((∀ l,d≠.adr l)∧Q (.bl (zBI d "tuple")) H∨∃ l ys,d=.adr l∧SqL X.K H l ys∧Q (.bl true) H)):=by
 intro pins s σ H xs us Q I r h
 obtain⟨x,d,pp,rfl,hsp,hd,q⟩:=h
 obtain⟨u,u',rfl,rx,ry⟩:=vals2 r
 obtain rfl:u'=Value.ref pp:=ry
 obtain⟨its,rv,⟨o,h1,h2,n,h3⟩,_⟩:=I.tuple hsp
 obtain⟨v1,v2,rfl,rv1,rv2⟩:=vals2 rv
 obtain rfl:v1=Value.type "tuple":=rv1
 obtain rfl:v2=Value.type "list":=rv2
 obtain⟨oc,od,oda,osl⟩:=o
 simp only at h2 h3
 subst h2 h3
 rcases q with ⟨hna,q⟩ | ⟨l,ys,rfl,hs,q⟩
 ·cases d with
  | tup _ =>
   unfold zS at hd
   obtain⟨a,ys,rfl,hs,_⟩:=hd
   cases (show u=Value.ref a from rx)
   obtain⟨_,_,⟨o',h4,h5,_⟩,_⟩:=I.tuple hs
   exact PySem.W.kia_tup PySem.W.kitx_tuple I.kIn ⟨o',h4,h5⟩ h1 (by rfl) (fun z=>nomatch z) fun tk=>⟨.bl _,H,I.tok _,rfl,q⟩
  | bl y =>
   unfold zS at hd
   subst hd
   cases (show u=Value.bool y from rx)
   exact PySem.W.kia_tup PySem.W.kitx_bool I.kIn True.intro h1 (by rfl) (fun z=>nomatch z) fun tk=>⟨.bl _,H,I.tok _,rfl,q⟩
  | int i =>
   unfold zS at hd
   subst hd
   obtain⟨t,e⟩:=(show ∃ t,u=Value.int i t from rx)
   cases e
   exact PySem.W.kia_tup PySem.W.kitx_int I.kIn True.intro h1 (by rfl) (fun z=>nomatch z) fun tk=>⟨.bl _,H,I.tok _,rfl,q⟩
  | str y =>
   unfold zS at hd
   subst hd
   obtain⟨t,e⟩:=(show ∃ t,u=Value.str y t from rx)
   cases e
   exact PySem.W.kia_tup PySem.W.kitx_str I.kIn True.intro h1 (by rfl) (fun z=>nomatch z) fun tk=>⟨.bl _,H,I.tok _,rfl,q⟩
  | non =>
   unfold zS at hd
   subst hd
   cases (show u=Value.none from rx)
   exact PySem.W.kia_tup PySem.W.kitx_none I.kIn True.intro h1 (by rfl) (fun z=>nomatch z) fun tk=>⟨.bl _,H,I.tok _,rfl,q⟩
  | dic a =>
   unfold zS at hd
   obtain⟨rfl,o',y,hs,hc⟩:=hd
   cases (show u=Value.ref a from rx)
   have h4:=(I.hok a _ hs).1
   exact PySem.W.kia_tup PySem.W.kitx_dict I.kIn ⟨o',h4,hc⟩ h1 (by rfl) (fun z=>nomatch z) fun tk=>⟨.bl _,H,I.tok _,rfl,q⟩
  | adr l=>exact absurd rfl (hna l)
 ·unfold zS at hd
  subst hd
  cases (show u=Value.ref l from rx)
  obtain⟨_,_,pl,_⟩:=I.list hs
  obtain⟨o',h4,h5,_⟩:=pl.isList
  exact PySem.W.kia_tup PySem.W.kitx_list I.kIn ⟨o',h4,h5⟩ h1 (by rfl) (fun z=>nomatch z) fun tk=>⟨.bl _,H,I.tok _,rfl,q⟩
def zHb(te:zk):zk:=fun σ G R=>te σ G fun d G1=>match d with
 | .adr l=>(∃ ds,Ls G1 l ds)∧R (.bl true) G1
 | d=>R (.bl (zBI d "tuple")) G1
theorem zM3{kk:Nat}(hg:Gl X "isinstance")(hm:X.mg "isinstance"=none)(hg2:Gl X "tuple")(hm2:X.mg "tuple"=none)(hg3:Gl X "list")(hm3:X.mg "list"=none)(ha:E2 X e te)
  (he:starEach [e,.Tuple [.Name "tuple" p2,.Name "list" p3] kk p4] X.env=(false,eval e X.env)::starEach [.Tuple [.Name "tuple" p2,.Name "list" p3] kk p4] X.env:=by rfl) (he2:starEach [.Tuple [.Name "tuple" p2,.Name "list" p3] kk p4] X.env=(false,eval (.Tuple [.Name "tuple" p2,.Name "list" p3] kk p4) X.env)::starEach [] X.env:=by rfl)
  (he3:starEach [.Name "tuple" p2,.Name "list" p3] X.env=(false,eval (.Name "tuple" p2) X.env)::starEach [.Name "list" p3] X.env:=by rfl) (he4:starEach [.Name "list" p3] X.env=(false,eval (.Name "list" p3) X.env)::starEach [] X.env:=by rfl)
  (hpl:(backTo pos (starEach [.Tuple [.Name "tuple" p2,.Name "list" p3] kk p4] X.env)).any (·.1)=false:=by rfl) :
  E2 X (.Call (.Name "isinstance" p) [e,.Tuple [.Name "tuple" p2,.Name "list" p3] kk p4] [] pos) (zHb te):=by
 refine PE.mono (zAH zIN hg hm (by decide +kernel) (yi ha (yi (zI9 (yi (zEe (v:=.ty "tuple") hg2 hm2 (by decide +kernel) rfl) (yi (zEe (v:=.ty "list") hg3 hm3 (by decide +kernel) rfl) zAd he4) he3)) zAd he2) he) (by decide) (by decide) he hpl) ?_
 rintro σ1 H Q ⟨σ,G,R,rl,q,k⟩
 refine⟨σ,G,_,rl,q,fun d G1 q1 v H1 g1 r1 d1=>⟨by show 2≤sizeLine;decide,fun pp hp=>?_⟩⟩
 have gr:yA H1 (yc H1 pp (.tup [.ty "tuple",.ty "list"])):=.fresh hp
 refine⟨v,d,pp,rfl,.inl (.of zi),d1.grow gr,?_⟩
 cases d with
 | adr l =>
  obtain⟨⟨ds,hl⟩,q1⟩:=q1
  obtain⟨xs,hs,_⟩:=(r1.fresh (o:=.tup [.ty "tuple",.ty "list"]) hp).sq hl
  exact .inr ⟨l,xs,rfl,hs,k _ G1 q1 _ _ (g1.trans gr) (r1.fresh hp) (by unfold zS;rfl)⟩
 | _=>exact .inl ⟨fun l z=>(by cases z),k _ G1 q1 _ _ (g1.trans gr) (r1.fresh hp) (by unfold zS;rfl)⟩
end
end L3
namespace HS
open PySem PySem.Spec PyProof.Rows
structure SB (a0:Array Keyed) (kd:SortKind) (z:SortSt):Prop where
 pm:(arrOf z).Perm a0
 kd:kindOf z=kd
 fl:failedOf z=none
 pe:pendingOf z=#[]
theorem SB.sz{a0:Array Keyed}{kd:SortKind}{z:SortSt}(b:SB a0 kd z):(arrOf z).size=a0.size:=b.pm.size_eq
section
variable {prog:Program} {w:World} {A:Around} {E:Value→Shared→Prop} {s:Shared} {a0:Array Keyed} {kd:SortKind} {κ:KeyKind}
abbrev Ky(κ:KeyKind)(z:SortSt)(i:Nat):κ.α:=KK κ (arrOf z) i
abbrev Up(κ:KeyKind)(z:SortSt)(m:Nat):Prop:=SortedToK κ (arrOf z) m
theorem Up.more{z:SortSt}{m:Nat}(u:Up κ z m)(h:1≤m→κ.kle (Ky κ z (m-1)) (Ky κ z m)):Up κ z (m+1):=fun i j ij jm=>by
 rcases Nat.lt_or_ge j m with q | q
 ·exact u i j ij q
 obtain rfl:j=m:=by omega
 rcases Nat.lt_or_ge i j with p | p
 ·exact KeyOrd.kle_trans (u i (j-1) (by omega) (by omega)) (h (by omega))
 ·obtain rfl:i=j:=by omega
  exact KeyOrd.kle_refl _
structure zN3 (κ:KeyKind) (xs:Array Keyed) (m c:Nat):Prop where
 dn:NonIncK κ xs m
 le:c+1≤m
 eq:∀ i,m-(c+1)≤i→i<m→KK κ xs i=KK κ xs (m-1)
theorem zN3.one{xs:Array Keyed}{m:Nat}(d:NonIncK κ xs m)(h:1≤m):zN3 κ xs m 0:=⟨d,h,fun i h1 h2=>by rw[show i=m-1 by omega]⟩
variable (L:∀(z:SortSt) (i j:Nat) (Q:Option Bool→SortSt→Prop),SB a0 kd z→i<a0.size→j<a0.size→Q (some (κ.blt (Ky κ z i) (Ky κ z j))) z→wpS (model prog w) A E s (ltAt' i j) Q z)
include L
end
end HS
namespace HM
open PySem PySem.Spec PyProof.Rows HS
abbrev SM:=StateT SortSt Sem
def zAA:Bool→Keyed→Array Keyed→Nat→Nat→Nat→SM (Option Nat):=sortPriv% PySem.Builtin.gallop
def zFg:Array Keyed→Array Keyed→SM (Array Keyed):=sortPriv% PySem.Builtin.mergeLo
def zFh:Array Keyed→Array Keyed→SM (Array Keyed):=sortPriv% PySem.Builtin.mergeHi
def zFi:Nat→SM Unit:=sortPriv% PySem.Builtin.setMinGallop
def ky(κ:KeyKind)(p:Keyed):κ.α:=(κ.keyOf p.1).getD κ.dflt
def byd(left:Bool)(key:Keyed)(arr:Array Keyed)(base i:Nat):SM (Option Bool):=do
 let x ← elem' arr (base+i)
 if left=true then lt' x key
 else do
  let r ← lt' key x
  pure (r.map fun c=>!c)
section
variable {prog:Program} {w:World} {A:Around} {E:Value→Shared→Prop} {s:Shared} {kd:SortKind} {κ:KeyKind} {P:Keyed→Prop}
theorem zY{arr:Array Keyed}{i:Nat}{p:Keyed}{Q:Keyed→SortSt→Prop}{z:SortSt}(h:arr[i]?=some p)(q:Q p z):wpS (model prog w) A E s (elem' arr i) Q z:=by
 rw[elem'_eq,h]
 exact wpS_pure q
variable (L:∀(z:SortSt) (x y:Keyed) (Q:Option Bool→SortSt→Prop),kindOf z=kd→P x→P y→Q (some (κ.blt (ky κ x) (ky κ y))) z→wpS (model prog w) A E s (lt' x y) Q z)
include L
theorem zM4{left:Bool}{key:Keyed}{arr:Array Keyed}{base i:Nat}{z:SortSt}{Q:Option Bool→SortSt→Prop}(hz:kindOf z=kd)(hk:P key)(ha:∀ p∈arr,P p)(hi:base+i<arr.size)
  (h:Q (some (if left=true then κ.blt (ky κ arr[base+i]) (ky κ key) else !κ.blt (ky κ key) (ky κ arr[base+i]))) z):wpS (model prog w) A E s (byd left key arr base i) Q z:=by
 unfold byd
 refine wpS_bind (zY (getElem?_pos arr _ hi) ?_)
 cases left with
 | true =>
  simp only[if_true] at h ⊢
  exact L _ _ _ _ hz (ha _ (Array.getElem_mem hi)) hk h
 | false =>
  simp only[Bool.false_eq_true,if_false] at h ⊢
  exact wpS_bind (L _ _ _ _ hz hk (ha _ (Array.getElem_mem hi)) (wpS_pure h))
structure Turn (B:Nat→Bool) (n r:Nat):Prop where
 le:r≤n
 yes:∀ i,i<r→B i=true
 no:∀ i,r≤i→i<n→B i=false
theorem wB{left:Bool}{key:Keyed}{arr:Array Keyed}{base n hint:Nat}{z:SortSt}{Q:Option Nat→SortSt→Prop}{B:Nat→Bool}(hz:kindOf z=kd)(hk:P key)(ha:∀ p∈arr,P p)(hb:base+n≤arr.size)(hh:hint<n)
  (hB:∀ i,(hi:base+i<arr.size)→i<n→(if left=true then κ.blt (ky κ arr[base+i]) (ky κ key) else !κ.blt (ky κ key) (ky κ arr[base+i]))=B i)
  (mo:∀ i j,i≤j→j<n→B j=true→B i=true) (h:∀ r,Turn B n r→Q (some r) z):wpS (model prog w) A E s (zAA left key arr base n hint) Q z:=by
 have bd:∀ {i:Nat} {Q:Option Bool→SortSt→Prop},i<n→Q (some (B i)) z→wpS (model prog w) A E s (byd left key arr base i) Q z:=fun {i Q} hi q=>zM4 L hz hk ha (by omega) (by rw[hB i (by omega) hi];exact q)
 refine wpS_bind (m:=byd left key arr base hint) (bd hh ?_)
 dsimp only
 cases hr:B hint with
 | true =>
  rw[if_pos rfl]
  refine wpS_bind (wpS_mono (wpS_forRange (β:=Option (Option Nat)×Nat×Nat) (I:=fun x c z'=>z'=z∧c.1=none∧c.2.1<c.2.2∧x+1≤c.2.2∧hint+c.2.1<n∧B (hint+c.2.1)=true) (Q:=fun c z'=>z'=z∧c.1=none∧c.2.1<c.2.2∧hint+c.2.1<n∧B (hint+c.2.1)=true∧(c.2.2≥n-hint∨B (hint+c.2.2)=false)) (fun x c z' x1 x2 ⟨e1,e2,q1,q2,q3,q4⟩=>?stp) (fun c z' ⟨e1,e2,q1,q2,q3,q4⟩=>⟨e1,e2,q1,q3,q4,.inl (by omega)⟩) ⟨rfl,rfl,Nat.zero_lt_one,Nat.le_refl _,hh,hr⟩) fun c z' ⟨e1,e2,q1,q3,q4,q5⟩=>?pst)
  case stp =>
   obtain⟨c0,la,of⟩:=c
   subst e1
   dsimp only at e2 q1 q2 q3 q4 ⊢
   by_cases g:of≥n-hint
   ·rw[if_pos g]
    exact wpS_pure ⟨rfl,rfl,q1,q3,q4,.inl g⟩
   ·rw[if_neg g]
    refine wpS_bind (m:=byd left key arr base (hint+of)) (bd (by omega) ?_)
    dsimp only
    cases e:B (hint+of) with
    | true=>exact wpS_pure ⟨rfl,rfl,by dsimp only;omega,by dsimp only;omega,by dsimp only;omega,e⟩
    | false=>exact wpS_pure ⟨rfl,rfl,q1,q3,q4,.inr e⟩
  case pst =>
   obtain⟨c0,la,of⟩:=c
   subst e1
   dsimp only at e2 q1 q3 q4 q5 ⊢
   rw[e2]
   dsimp only
   have y1:∀ i,i<hint+la+1→B i=true:=fun i hi=>by
    exact mo i (hint+la) (by omega) q3 q4
   have y2:∀ i,hint+min of (n-hint)≤i→i<n→B i=false:=fun i i1 i2=>by
    rcases q5 with q5 | q5
    ·omega
    ·cases e':B i with
     | false=>rfl
     | true=>rw[mo _ i (by omega) i2 e'] at q5;cases q5
   have l1:hint+la+1≤hint+min of (n-hint):=by omega
   have l2:hint+min of (n-hint)≤n:=by omega
   refine wpS_bind (wpS_mono (wpS_forRange (β:=Option (Option Nat)×Nat×Nat) (I:=fun x c z''=>z''=z'∧c.1=none∧c.2.1≤c.2.2∧c.2.2≤n∧c.2.2-c.2.1≤n-x∧(∀ i,i<c.2.1→B i=true)∧∀ i,c.2.2≤i→i<n→B i=false) (Q:=fun c z''=>z''=z'∧c.1=none∧Turn B n c.2.2) (fun x c z'' x1 x2 ⟨e1,e2,q1,q2,q3,q4,q5⟩=>?st2) (fun c z'' ⟨e1,e2,q1,q2,q3,q4,q5⟩=>⟨e1,e2,q2,fun i hi'=>q4 i (by omega),q5⟩) ⟨rfl,rfl,l1,l2,by dsimp only;omega,y1,y2⟩) fun c z'' ⟨e1,e2,e3⟩=>?ps2)
   case st2 =>
    clear y1 y2 l1 l2
    obtain⟨c0,lo,hi⟩:=c
    subst e1
    dsimp only at e2 q1 q2 q3 q4 q5 ⊢
    by_cases g:lo≥hi
    ·rw[if_pos g]
     exact wpS_pure ⟨rfl,rfl,q2,fun i hi'=>q4 i (by dsimp only at hi';omega),q5⟩
    ·rw[if_neg g]
     refine wpS_bind (m:=byd left key arr base (lo+(hi-lo) / 2)) (bd (by omega) ?_)
     dsimp only
     cases e:B (lo+(hi-lo) / 2) with
     | true=>exact wpS_pure ⟨rfl,rfl,by dsimp only;omega,q2,by dsimp only;omega,fun i hi'=>mo i (lo+(hi-lo) / 2) (by dsimp only at hi';omega) (by omega) e,q5⟩
     | false =>
      refine wpS_pure ⟨rfl,rfl,by dsimp only;omega,by dsimp only;omega,by dsimp only;omega,q4,fun i i1 i2=>?_⟩
      dsimp only at i1
      cases e':B i with
      | false=>rfl
      | true=>rw[mo _ i i1 i2 e'] at e;cases e
   case ps2 =>
    obtain⟨c0,lo,hi⟩:=c
    dsimp only at e2 e3 ⊢
    subst e1
    rw[e2]
    exact wpS_pure (h _ e3)
 | false =>
  rw[if_neg (by simp)]
  refine wpS_bind (wpS_mono (wpS_forRange (β:=Option (Option Nat)×Nat×Nat) (I:=fun x c z'=>z'=z∧c.1=none∧c.2.1<c.2.2∧x+1≤c.2.2∧c.2.1≤hint∧B (hint-c.2.1)=false) (Q:=fun c z'=>z'=z∧c.1=none∧c.2.1<c.2.2∧c.2.1≤hint∧B (hint-c.2.1)=false∧(c.2.2≥hint+1∨(c.2.2≤hint∧B (hint-c.2.2)=true))) (fun x c z' x1 x2 ⟨e1,e2,q1,q2,q3,q4⟩=>?stp) (fun c z' ⟨e1,e2,q1,q2,q3,q4⟩=>⟨e1,e2,q1,q3,q4,.inl (by omega)⟩) ⟨rfl,rfl,Nat.zero_lt_one,Nat.le_refl _,Nat.zero_le _,hr⟩) fun c z' ⟨e1,e2,q1,q3,q4,q5⟩=>?pst)
  case stp =>
   obtain⟨c0,la,of⟩:=c
   subst e1
   dsimp only at e2 q1 q2 q3 q4 ⊢
   by_cases g:of≥hint+1
   ·rw[if_pos g]
    exact wpS_pure ⟨rfl,rfl,q1,q3,q4,.inl g⟩
   ·rw[if_neg g]
    refine wpS_bind (m:=byd left key arr base (hint-of)) (bd (by omega) ?_)
    dsimp only
    cases e:B (hint-of) with
    | true=>exact wpS_pure ⟨rfl,rfl,q1,q3,q4,.inr ⟨by dsimp only;omega,e⟩⟩
    | false=>exact wpS_pure ⟨rfl,rfl,by dsimp only;omega,by dsimp only;omega,by dsimp only;omega,e⟩
  case pst =>
   obtain⟨c0,la,of⟩:=c
   subst e1
   dsimp only at e2 q1 q3 q4 q5 ⊢
   rw[e2]
   dsimp only
   have y1:∀ i,i<hint+1-min of (hint+1)→B i=true:=fun i hi=>by
    rcases q5 with q5 | ⟨q5,q6⟩
    ·omega
    ·exact mo i (hint-of) (by omega) (by omega) q6
   have y2:∀ i,hint-la≤i→i<n→B i=false:=fun i i1 i2=>by
    cases e':B i with
    | false=>rfl
    | true=>rw[mo _ i i1 i2 e'] at q4;cases q4
   have l1:hint+1-min of (hint+1)≤hint-la:=by omega
   have l2:hint-la≤n:=by omega
   refine wpS_bind (wpS_mono (wpS_forRange (β:=Option (Option Nat)×Nat×Nat) (I:=fun x c z''=>z''=z'∧c.1=none∧c.2.1≤c.2.2∧c.2.2≤n∧c.2.2-c.2.1≤n-x∧(∀ i,i<c.2.1→B i=true)∧∀ i,c.2.2≤i→i<n→B i=false) (Q:=fun c z''=>z''=z'∧c.1=none∧Turn B n c.2.2) (fun x c z'' x1 x2 ⟨e1,e2,q1,q2,q3,q4,q5⟩=>?st2) (fun c z'' ⟨e1,e2,q1,q2,q3,q4,q5⟩=>⟨e1,e2,q2,fun i hi'=>q4 i (by omega),q5⟩) ⟨rfl,rfl,l1,l2,by dsimp only;omega,y1,y2⟩) fun c z'' ⟨e1,e2,e3⟩=>?ps2)
   case st2 =>
    clear y1 y2 l1 l2
    obtain⟨c0,lo,hi⟩:=c
    subst e1
    dsimp only at e2 q1 q2 q3 q4 q5 ⊢
    by_cases g:lo≥hi
    ·rw[if_pos g]
     exact wpS_pure ⟨rfl,rfl,q2,fun i hi'=>q4 i (by dsimp only at hi';omega),q5⟩
    ·rw[if_neg g]
     refine wpS_bind (m:=byd left key arr base (lo+(hi-lo) / 2)) (bd (by omega) ?_)
     dsimp only
     cases e:B (lo+(hi-lo) / 2) with
     | true=>exact wpS_pure ⟨rfl,rfl,by dsimp only;omega,q2,by dsimp only;omega,fun i hi'=>mo i (lo+(hi-lo) / 2) (by dsimp only at hi';omega) (by omega) e,q5⟩
     | false =>
      refine wpS_pure ⟨rfl,rfl,by dsimp only;omega,by dsimp only;omega,by dsimp only;omega,q4,fun i i1 i2=>?_⟩
      dsimp only at i1
      cases e':B i with
      | false=>rfl
      | true=>rw[mo _ i i1 i2 e'] at e;cases e
   case ps2 =>
    obtain⟨c0,lo,hi⟩:=c
    dsimp only at e2 e3 ⊢
    subst e1
    rw[e2]
    exact wpS_pure (h _ e3)
end
end HM
namespace HM
open PySem PySem.Spec PyProof.Rows HS
section
variable {κ:KeyKind}
theorem zf{xs:Array Keyed}{i:Nat}(h:i<xs.size):KK κ xs i=ky κ xs[i]:=by
 unfold KK ky
 rw[getElem?_pos xs i h]
def Srt(κ:KeyKind)(l:List Keyed):Prop:=l.Pairwise fun x y=>κ.kle (ky κ x) (ky κ y)
structure MO (κ:KeyKind) (a b r:Array Keyed):Prop where
 sr:Srt κ r.toList
 pm:r.toList.Perm (a.toList++b.toList)
structure MI (κ:KeyKind) (a b out:Array Keyed) (ia ib:Nat):Prop where
 sr:Srt κ out.toList
 pm:(out.toList++(a.toList.drop ia++b.toList.drop ib)).Perm (a.toList++b.toList)
 la:∀ x∈out.toList,∀ j,ia≤j→j<a.size→κ.kle (ky κ x) (KK κ a j)
 lb:∀ x∈out.toList,∀ j,ib≤j→j<b.size→κ.kle (ky κ x) (KK κ b j)
 sz:out.size=ia+ib
theorem zBQ{a:Array Keyed}{i:Nat}(h:SortedToK κ a a.size):Srt κ (a.toList.drop i):=by
 unfold Srt
 rw[List.pairwise_iff_getElem]
 intro j k hj hk jk
 rw[List.length_drop,Array.length_toList] at hj hk
 have:=h (i+j) (i+k) (by omega) (by omega)
 rw[zf (by omega),zf (by omega)] at this
 simpa using this
theorem wC{a:Array Keyed}{i:Nat}{y:Keyed}(h:y∈a.toList.drop i):∃ j,i≤j∧j<a.size∧ky κ y=KK κ a j:=by
 obtain⟨j,hj,rfl⟩:=List.mem_iff_getElem.mp h
 rw[List.length_drop,Array.length_toList] at hj
 refine⟨i+j,by omega,by omega,?_⟩
 rw[zf (by omega)]
 simp
theorem zBZ{a:Array Keyed}{i:Nat}:(a.extract i a.size).toList=a.toList.drop i:=by
 rw[Array.toList_extract,List.extract_eq_drop_take]
 rw[List.take_of_length_le (by simp)]
theorem wS{l m:List Keyed}(h1:Srt κ l)(h2:Srt κ m)(h:∀ x∈l,∀ y∈m,κ.kle (ky κ x) (ky κ y)):Srt κ (l++m):=List.pairwise_append.mpr ⟨h1,h2,h⟩
variable {a b out:Array Keyed} {ia ib:Nat}
theorem MI.doneA(m:MI κ a b out ia ib)(sa:SortedToK κ a a.size)(e:ib=b.size):MO κ a b (out++a.extract ia a.size++b.extract ib b.size):=by
 have e1:(out++a.extract ia a.size++b.extract ib b.size).toList=out.toList++(a.toList.drop ia++b.toList.drop ib):=by
  rw[Array.toList_append,Array.toList_append,zBZ,zBZ,List.append_assoc]
 have e2:b.toList.drop ib=[]:=by rw[e,← Array.length_toList,List.drop_length]
 refine⟨?_,by rw[e1];exact m.pm⟩
 rw[e1,e2,List.append_nil]
 refine wS m.sr (zBQ sa) fun x hx y hy=>?_
 obtain⟨j,j1,j2,j3⟩:=wC (κ:=κ) hy
 rw[j3]
 exact m.la x hx j j1 j2
theorem MI.doneB(m:MI κ a b out ia ib)(sb:SortedToK κ b b.size)(e:ia=a.size):MO κ a b (out++a.extract ia a.size++b.extract ib b.size):=by
 have e1:(out++a.extract ia a.size++b.extract ib b.size).toList=out.toList++(a.toList.drop ia++b.toList.drop ib):=by
  rw[Array.toList_append,Array.toList_append,zBZ,zBZ,List.append_assoc]
 have e2:a.toList.drop ia=[]:=by rw[e,← Array.length_toList,List.drop_length]
 refine⟨?_,by rw[e1];exact m.pm⟩
 rw[e1,e2,List.nil_append]
 refine wS m.sr (zBQ sb) fun x hx y hy=>?_
 obtain⟨j,j1,j2,j3⟩:=wC (κ:=κ) hy
 rw[j3]
 exact m.lb x hx j j1 j2
theorem MI.lastA(m:MI κ a b out ia ib)(sa:SortedToK κ a a.size)(sb:SortedToK κ b b.size)(la:∀ j,j<b.size→κ.kle (KK κ b j) (KK κ a (a.size-1)))(e:ia+1=a.size):MO κ a b (out++b.extract ib b.size++a.extract ia a.size):=by
 have e1:(out++b.extract ib b.size++a.extract ia a.size).toList=out.toList++(b.toList.drop ib++a.toList.drop ia):=by
  rw[Array.toList_append,Array.toList_append,zBZ,zBZ,List.append_assoc]
 refine⟨?_,by rw[e1];exact(List.Perm.append_left _ List.perm_append_comm).trans m.pm⟩
 rw[e1]
 refine wS m.sr (wS (zBQ sb) (zBQ sa) fun x hx y hy=>?_) fun x hx y hy=>?_
 ·obtain⟨j,j1,j2,j3⟩:=wC (κ:=κ) hx
  obtain⟨k,k1,k2,k3⟩:=wC (κ:=κ) hy
  rw[j3,k3,show k=a.size-1 by omega]
  exact la j j2
 ·rcases List.mem_append.mp hy with hy | hy
  ·obtain⟨j,j1,j2,j3⟩:=wC (κ:=κ) hy
   rw[j3]
   exact m.lb x hx j j1 j2
  ·obtain⟨j,j1,j2,j3⟩:=wC (κ:=κ) hy
   rw[j3]
   exact m.la x hx j j1 j2
theorem zEP{a:Array Keyed}{i:Nat}(h:i<a.size):a.toList.drop i=a[i]::a.toList.drop (i+1):=by
 rw[List.drop_eq_getElem_cons (by simpa using h)]
 simp
theorem MI.pushA(m:MI κ a b out ia ib)(sa:SortedToK κ a a.size)(h:ia<a.size)(hb:∀ j,ib≤j→j<b.size→κ.kle (KK κ a ia) (KK κ b j)):MI κ a b (out.push a[ia]) (ia+1) ib:=by
 refine⟨?_,?_,fun x hx j j1 j2=>?_,fun x hx j j1 j2=>?_,by rw[Array.size_push,m.sz];omega⟩
 ·rw[Array.toList_push]
  refine wS m.sr (List.pairwise_singleton _ _) fun x hx y hy=>?_
  rw[List.mem_singleton.mp hy,← zf h]
  exact m.la x hx ia (Nat.le_refl _) h
 ·rw[Array.toList_push,List.append_assoc]
  have:=m.pm
  rw[zEP h] at this
  exact this
 ·rw[Array.toList_push] at hx
  rcases List.mem_append.mp hx with hx | hx
  ·exact m.la x hx j (by omega) j2
  ·rw[List.mem_singleton.mp hx,← zf h]
   exact sa ia j (by omega) j2
 ·rw[Array.toList_push] at hx
  rcases List.mem_append.mp hx with hx | hx
  ·exact m.lb x hx j j1 j2
  ·rw[List.mem_singleton.mp hx,← zf h]
   exact hb j j1 j2
theorem MI.pushB(m:MI κ a b out ia ib)(sb:SortedToK κ b b.size)(h:ib<b.size)(ha:∀ j,ia≤j→j<a.size→κ.kle (KK κ b ib) (KK κ a j)):MI κ a b (out.push b[ib]) ia (ib+1):=by
 refine⟨?_,?_,fun x hx j j1 j2=>?_,fun x hx j j1 j2=>?_,by rw[Array.size_push,m.sz];omega⟩
 ·rw[Array.toList_push]
  refine wS m.sr (List.pairwise_singleton _ _) fun x hx y hy=>?_
  rw[List.mem_singleton.mp hy,← zf h]
  exact m.lb x hx ib (Nat.le_refl _) h
 ·rw[Array.toList_push,List.append_assoc]
  refine List.Perm.trans ?_ m.pm
  rw[zEP h]
  refine List.Perm.append_left _ ?_
  show(b[ib]::(List.drop ia a.toList++List.drop (ib+1) b.toList)).Perm _
  exact List.perm_middle.symm
 ·rw[Array.toList_push] at hx
  rcases List.mem_append.mp hx with hx | hx
  ·exact m.la x hx j j1 j2
  ·rw[List.mem_singleton.mp hx,← zf h]
   exact ha j j1 j2
 ·rw[Array.toList_push] at hx
  rcases List.mem_append.mp hx with hx | hx
  ·exact m.lb x hx j (by omega) j2
  ·rw[List.mem_singleton.mp hx,← zf h]
   exact sb ib j (by omega) j2
theorem zDa{a:Array Keyed}{i k:Nat}(h:i+k<a.size):a.extract i (i+(k+1))=(a.extract i (i+k)).push a[i+k]:=by
 apply Array.ext'
 rw[Array.toList_push,Array.toList_extract,Array.toList_extract,List.extract_eq_drop_take,List.extract_eq_drop_take,show i+(k+1)-i=k+1 by omega,show i+k-i=k by omega,List.take_add_one]
 congr 1
 rw[List.getElem?_drop,List.getElem?_eq_getElem (by simpa using h)]
 simp
theorem zCB{a:Array Keyed}{i:Nat}:a.extract i (i+0)=#[]:=by
 apply Array.ext'
 rw[Array.toList_extract,List.extract_eq_drop_take]
 simp
theorem MI.manyA(sa:SortedToK κ a a.size)(m:MI κ a b out ia ib):∀ k,ia+k≤a.size→(∀ i,ia≤i→i<ia+k→∀ j,ib≤j→j<b.size→κ.kle (KK κ a i) (KK κ b j))→MI κ a b (out++a.extract ia (ia+k)) (ia+k) ib
 | 0,_,_=>by rw[zCB,Array.append_empty];exact m
 | k+1,hk,h=>by
  have:=(MI.manyA sa m k (by omega) fun i i1 i2=>h i i1 (by omega)).pushA sa (by omega) (h (ia+k) (by omega) (by omega))
  rw[zDa (by omega),Array.append_push]
  exact this
theorem MI.manyB(sb:SortedToK κ b b.size)(m:MI κ a b out ia ib):∀ k,ib+k≤b.size→(∀ i,ib≤i→i<ib+k→∀ j,ia≤j→j<a.size→κ.kle (KK κ b i) (KK κ a j))→MI κ a b (out++b.extract ib (ib+k)) ia (ib+k)
 | 0,_,_=>by rw[zCB,Array.append_empty];exact m
 | k+1,hk,h=>by
  have:=(MI.manyB sb m k (by omega) fun i i1 i2=>h i i1 (by omega)).pushB sb (by omega) (h (ib+k) (by omega) (by omega))
  rw[zDa (by omega),Array.append_push]
  exact this
end
end HM
namespace HM
open PySem PySem.Spec PyProof.Rows HS
structure Kp (z z':SortSt):Prop where
 kd:kindOf z'=kindOf z
 ar:arrOf z'=arrOf z
 pe:pendingOf z'=pendingOf z
 fl:failedOf z'=failedOf z
theorem Kp.refl(z:SortSt):Kp z z:=⟨rfl,rfl,rfl,rfl⟩
theorem Kp.trans{z z' z'':SortSt}(h:Kp z z')(h':Kp z' z''):Kp z z'':=⟨h'.kd.trans h.kd,h'.ar.trans h.ar,h'.pe.trans h.pe,h'.fl.trans h.fl⟩
section
variable {prog:Program} {w:World} {A:Around} {E:Value→Shared→Prop} {s:Shared} {kd:SortKind} {κ:KeyKind} {P:Keyed→Prop}
theorem zCC{g:Nat}{z:SortSt}{Q:Unit→SortSt→Prop}(h:∀ z',Kp z z'→Q () z'):wpS (model prog w) A E s (zFi g) Q z:=wpS_modify (h _ ⟨rfl,rfl,rfl,rfl⟩)
variable (L:∀(z:SortSt) (x y:Keyed) (Q:Option Bool→SortSt→Prop),kindOf z=kd→P x→P y→Q (some (κ.blt (ky κ x) (ky κ y))) z→wpS (model prog w) A E s (lt' x y) Q z)
include L
theorem zGm{a b:Array Keyed}{z:SortSt}{Q:Array Keyed→SortSt→Prop}(hz:kindOf z=kd)(pa:∀ p∈a,P p)(pb:∀ p∈b,P p)(ha:1≤a.size)(hb:1≤b.size)(sa:SortedToK κ a a.size)(sb:SortedToK κ b b.size)
  (fst:∀ j,j<a.size→κ.kle (KK κ b 0) (KK κ a j)) (lst:∀ j,j<b.size→κ.kle (KK κ b j) (KK κ a (a.size-1))) (h:∀ r z',MO κ a b r→Kp z z'→Q r z'):wpS (model prog w) A E s (zFg a b) Q z:=by
 refine wpS_bind (wpS_lift (wpAny_rule ⟨rfl,?_⟩))
 refine wpS_bind (m:=elem' b 0) (zY (getElem?_pos b 0 (by omega)) ?_)
 dsimp only
 have m0:MI κ a b #[b[0]] 0 1:=by
  have:MI κ a b #[] 0 0:=⟨List.Pairwise.nil,by simp,fun x hx=>by simp at hx,fun x hx=>by simp at hx,rfl⟩
  exact this.pushB sb (by omega) fun j _ j2=>fst j j2
 by_cases c1:1=b.size
 ·rw[if_pos (by simpa using c1)]
  exact wpS_pure (h _ _ (m0.doneA sa c1) (.refl z))
 rw[if_neg (by simpa using c1)]
 by_cases c2:0+1=a.size
 ·rw[if_pos (by simpa using c2)]
  exact wpS_pure (h _ _ (m0.lastA sa sb lst c2) (.refl z))
 rw[if_neg (by simpa using c2)]
 refine wpS_bind (wpS_get ?_)
 skip
 refine wpS_bind (wpS_mono (wpS_forRange (β:=Option (Array Keyed)×Array Keyed×Nat×Nat×Nat) (I:=fun x c z'=>Kp z z'∧c.1=none∧MI κ a b c.2.1 c.2.2.1 c.2.2.2.1∧c.2.2.1+1<a.size∧c.2.2.2.1<b.size∧x≤c.2.1.size) (Q:=fun c z'=>Kp z z'∧∃ r,c.1=some r∧MO κ a b r) (fun x c z1 x1 x2 ⟨k1,e2,m1,q1,q2,q3⟩=>?stp) (fun c z1 ⟨k1,e2,m1,q1,q2,q3⟩=>?fin) ⟨.refl z,rfl,m0,by dsimp only;omega,by dsimp only;omega,Nat.zero_le _⟩) fun c z1 ⟨k1,r,e2,mo⟩=>?pst)
 case pst =>
  rw[e2]
  exact wpS_pure (h _ _ mo k1)
 case fin =>
  have:=m1.sz
  omega
 case stp =>
  clear m0
  obtain⟨c0,out,ia,ib,mg⟩:=c
  dsimp only at e2 m1 q1 q2 q3 ⊢
  refine wpS_bind (wpS_mono (wpS_forRange (β:=Option (Array Keyed)×Array Keyed×Nat×Nat×Nat×Nat) (I:=fun y c z'=>Kp z z'∧c.1=none∧MI κ a b c.2.1 c.2.2.1 c.2.2.2.1∧c.2.2.1+1<a.size∧c.2.2.2.1<b.size∧out.size+y≤c.2.1.size) (Q:=fun c z'=>Kp z z'∧((∃ r,c.1=some r∧MO κ a b r)∨(c.1=none∧MI κ a b c.2.1 c.2.2.1 c.2.2.2.1∧c.2.2.1+1<a.size∧c.2.2.2.1<b.size∧out.size+1≤c.2.1.size))) (fun y c z2 y1 y2 ⟨k2,e3,m2,p1,p2,p3⟩=>?stp1) (fun c z2 ⟨k2,e3,m2,p1,p2,p3⟩=>⟨k2,.inr ⟨e3,m2,p1,p2,by omega⟩⟩) ⟨k1,rfl,m1,q1,q2,by dsimp only;omega⟩) fun c z2 ⟨k2,o⟩=>?pst1)
  case stp1 =>
   obtain⟨c0',out',ia',ib',ac,bc⟩:=c
   dsimp only at e3 m2 p1 p2 p3 ⊢
   refine wpS_bind (m:=elem' b ib') (zY (getElem?_pos b ib' p2) ?_)
   refine wpS_bind (m:=elem' a ia') (zY (getElem?_pos a ia' (by omega)) ?_)
   refine wpS_bind (m:=lt' b[ib'] a[ia']) (L _ _ _ _ (k2.kd.trans hz) (pb _ (Array.getElem_mem p2)) (pa _ (Array.getElem_mem _)) ?_)
   dsimp only
   cases e:κ.blt (ky κ b[ib']) (ky κ a[ia']) with
   | true =>
    rw[if_pos rfl]
    refine wpS_bind (m:=elem' b ib') (zY (getElem?_pos b ib' p2) ?_)
    have m3:=m2.pushB sb p2 fun j j1 j2=>KeyOrd.kle_trans (KeyOrd.kle_of_klt (by rw[zf p2,zf (by omega)];exact e)) (sa ia' j j1 j2)
    by_cases c3:ib'+1=b.size
    ·rw[if_pos (by simpa using c3)]
     exact wpS_pure ⟨k2,.inl ⟨_,rfl,m3.doneA sa c3⟩⟩
    rw[if_neg (by simpa using c3)]
    split
    ·exact wpS_pure ⟨k2,.inr ⟨rfl,m3,p1,by dsimp only;omega,by dsimp only;rw[Array.size_push];omega⟩⟩
    ·exact wpS_pure ⟨k2,rfl,m3,p1,by dsimp only;omega,by dsimp only;rw[Array.size_push];omega⟩
   | false =>
    rw[if_neg (by simp)]
    refine wpS_bind (m:=elem' a ia') (zY (getElem?_pos a ia' (by omega)) ?_)
    have m3:=m2.pushA sa (by omega) fun j j1 j2=>KeyOrd.kle_trans (show κ.kle (KK κ a ia') (KK κ b ib') by rw[zf p2,zf (by omega)];exact e) (sb ib' j j1 j2)
    by_cases c3:ia'+1+1=a.size
    ·rw[if_pos (by simpa using c3)]
     exact wpS_pure ⟨k2,.inl ⟨_,rfl,m3.lastA sa sb lst c3⟩⟩
    rw[if_neg (by simpa using c3)]
    split
    ·exact wpS_pure ⟨k2,.inr ⟨rfl,m3,by dsimp only;omega,p2,by dsimp only;rw[Array.size_push];omega⟩⟩
    ·exact wpS_pure ⟨k2,rfl,m3,by dsimp only;omega,p2,by dsimp only;rw[Array.size_push];omega⟩
  case pst1 =>
   obtain⟨c0',out',ia',ib',ac,bc⟩:=c
   dsimp only at o ⊢
   rcases o with ⟨r,e3,mo⟩ | ⟨e3,m2,p1,p2,p3⟩
   ·rw[e3]
    exact wpS_pure ⟨k2,r,rfl,mo⟩
   rw[e3]
   dsimp only
   refine wpS_bind (wpS_lift (wpAny_rule ⟨rfl,?_⟩))
   refine wpS_bind (wpS_mono (wpS_forRange (β:=Option (Array Keyed)×Array Keyed×Nat×Nat×Nat×Nat×Nat) (I:=fun y c z'=>Kp z z'∧c.1=none∧MI κ a b c.2.1 c.2.2.1 c.2.2.2.1∧c.2.2.1+1<a.size∧c.2.2.2.1<b.size∧out.size+1≤c.2.1.size) (Q:=fun c z'=>Kp z z'∧((∃ r,c.1=some r∧MO κ a b r)∨(c.1=none∧MI κ a b c.2.1 c.2.2.1 c.2.2.2.1∧c.2.2.1+1<a.size∧c.2.2.2.1<b.size∧out.size+1≤c.2.1.size))) (fun y c z3 y1 y2 ⟨k3,e4,m3,r1,r2,r3⟩=>?stp2) (fun c z3 ⟨k3,e4,m3,r1,r2,r3⟩=>⟨k3,.inr ⟨e4,m3,r1,r2,r3⟩⟩) ⟨k2,rfl,m2,p1,p2,p3⟩) fun c z3 ⟨k3,o⟩=>?pst2)
   case pst2 =>
    obtain⟨c0'',out'',ia'',ib'',mg',ac',bc'⟩:=c
    dsimp only at o ⊢
    rcases o with ⟨r,e4,mo⟩ | ⟨e4,m3,r1,r2,r3⟩
    ·rw[e4]
     exact wpS_pure ⟨k3,r,rfl,mo⟩
    rw[e4]
    dsimp only
    refine wpS_bind (m:=zFi (mg'+1)) (zCC fun z4 k4=>?_)
    exact wpS_pure ⟨k3.trans k4,rfl,m3,r1,r2,by dsimp only;omega⟩
   case stp2 =>
    clear m2 p1 p2 p3 m1 q1 q2 e3 e2 k1 k2
    obtain⟨c0'',out'',ia'',ib'',mg',ac',bc'⟩:=c
    dsimp only at e4 m3 r1 r2 r3 ⊢
    have s3:=m3.sz
    rcases Classical.em (mg'>1) with hm | hm
    rw[if_pos hm]
    rotate_left
    rw[if_neg hm]
    all_goals
     refine wpS_bind (m:=zFi _) (zCC fun z4 k4=>?_)
     have kz:=k3.trans k4
     refine wpS_bind (m:=elem' b ib'') (zY (getElem?_pos b ib'' r2) ?_)
     refine wpS_bind (m:=zAA false b[ib''] a ia'' (a.size-ia'') 0) (wB L (B:=fun t=>!κ.blt (KK κ b ib'') (KK κ a (ia''+t))) (kz.kd.trans hz) (pb _ (Array.getElem_mem r2)) pa (by omega) (by omega) (fun t h1 h2=>by rw[if_neg (by simp),zf h1,zf r2]) (fun t u tu un q=>?_) fun k tk=>?_)
     ·simp only[Bool.not_eq_true'] at q ⊢
      exact KeyOrd.kle_trans (sa _ _ (by omega) (by omega)) q
     dsimp only
     have l4:=tk.le
     have ya:∀ t,ia''≤t→t<ia''+k→∀ j,ib''≤j→j<b.size→κ.kle (KK κ a t) (KK κ b j):=fun t t1 t2 j j1 j2=>by
      have q:=tk.yes (t-ia'') (by omega)
      rw[show ia''+(t-ia'')=t by omega,Bool.not_eq_true'] at q
      exact KeyOrd.kle_trans q (sb _ _ j1 j2)
     have na:∀ t,ia''+k≤t→t<a.size→κ.kle (KK κ b ib'') (KK κ a t):=fun t t1 t2=>by
      have q:=tk.no (t-ia'') (by omega) (by omega)
      rw[show ia''+(t-ia'')=t by omega,Bool.not_eq_false'] at q
      exact KeyOrd.kle_of_klt q
     by_cases hk:k>0
     ·rw[if_pos hk]
      have m4:=MI.manyA sa m3 k (by omega) ya
      have s4:=m4.sz
      by_cases c3:ia''+k+1=a.size
      ·rw[if_pos (by simpa using c3)]
       exact wpS_pure ⟨kz,.inl ⟨_,rfl,m4.lastA sa sb lst c3⟩⟩
      rw[if_neg (by simpa using c3)]
      by_cases c4:ia''+k=a.size
      ·rw[if_pos (by simpa using c4)]
       exact wpS_pure ⟨kz,.inl ⟨_,rfl,m4.doneB sb c4⟩⟩
      rw[if_neg (by simpa using c4)]
      refine wpS_bind (m:=elem' b ib'') (zY (getElem?_pos b ib'' r2) ?_)
      have m5:=MI.pushB m4 sb r2 na
      have s5:=m5.sz
      by_cases c5:ib''+1=b.size
      ·rw[if_pos (by simpa using c5)]
       exact wpS_pure ⟨kz,.inl ⟨_,rfl,m5.doneA sa c5⟩⟩
      rw[if_neg (by simpa using c5)]
      have i5:ia''+k<a.size:=by omega
      refine wpS_bind (m:=elem' a (ia''+k)) (zY (getElem?_pos a (ia''+k) i5) ?_)
      refine wpS_bind (m:=zAA true a[ia''+k] b (ib''+1) (b.size-(ib''+1)) 0) (wB L (B:=fun t=>κ.blt (KK κ b (ib''+1+t)) (KK κ a (ia''+k))) (kz.kd.trans hz) (pa _ (Array.getElem_mem i5)) pb (by omega) (by omega) (fun t h1 h2=>by rw[if_pos rfl,zf h1,zf i5]) (fun t u tu un q=>KeyOrd.klt_of_kle_of_klt (sb _ _ (by omega) (by omega)) q) fun k' tk'=>?_)
      dsimp only
      have l6:=tk'.le
      have ym:∀ t,ib''+1≤t→t<ib''+1+k'→∀ j,ia''+k≤j→j<a.size→κ.kle (KK κ b t) (KK κ a j):=fun t t1 t2 j j1 j2=>by
       have q:=tk'.yes (t-(ib''+1)) (by omega)
       rw[show ib''+1+(t-(ib''+1))=t by omega] at q
       exact KeyOrd.kle_trans (KeyOrd.kle_of_klt q) (sa _ _ j1 j2)
      have nm:∀ t,ib''+1+k'≤t→t<b.size→κ.kle (KK κ a (ia''+k)) (KK κ b t):=fun t t1 t2=>by
       have q:=tk'.no (t-(ib''+1)) (by omega) (by omega)
       rw[show ib''+1+(t-(ib''+1))=t by omega] at q
       exact q
      by_cases hk':k'>0
      ·rw[if_pos hk']
       have m6:=MI.manyB sb m5 k' (by omega) ym
       have s6:=m6.sz
       by_cases c6:ib''+1+k'=b.size
       ·rw[if_pos (by simpa using c6)]
        exact wpS_pure ⟨kz,.inl ⟨_,rfl,m6.doneA sa c6⟩⟩
       rw[if_neg (by simpa using c6)]
       have iu:ia''+k<a.size:=by omega
       refine wpS_bind (m:=elem' a (ia''+k)) (zY (getElem?_pos a (ia''+k) iu) ?_)
       have m7:=MI.pushA m6 sa iu nm
       have s7:=m7.sz
       by_cases c7:ia''+k+1+1=a.size
       ·rw[if_pos (by simpa using c7)]
        exact wpS_pure ⟨kz,.inl ⟨_,rfl,m7.lastA sa sb lst c7⟩⟩
       rw[if_neg (by simpa using c7)]
       split
       ·exact wpS_pure ⟨kz,.inr ⟨rfl,m7,by dsimp only;omega,by dsimp only;omega,by dsimp only;rw[s7];omega⟩⟩
       ·exact wpS_pure ⟨kz,rfl,m7,by dsimp only;omega,by dsimp only;omega,by dsimp only;rw[s7];omega⟩
      ·rw[if_neg hk']
       have iu:ia''+k<a.size:=by omega
       refine wpS_bind (m:=elem' a (ia''+k)) (zY (getElem?_pos a (ia''+k) iu) ?_)
       have m7:=MI.pushA m5 sa iu (fun t t1 t2=>nm t (by omega) t2)
       have s7:=m7.sz
       by_cases c7:ia''+k+1+1=a.size
       ·rw[if_pos (by simpa using c7)]
        exact wpS_pure ⟨kz,.inl ⟨_,rfl,m7.lastA sa sb lst c7⟩⟩
       rw[if_neg (by simpa using c7)]
       split
       ·exact wpS_pure ⟨kz,.inr ⟨rfl,m7,by dsimp only;omega,by dsimp only;omega,by dsimp only;rw[s7];omega⟩⟩
       ·exact wpS_pure ⟨kz,rfl,m7,by dsimp only;omega,by dsimp only;omega,by dsimp only;rw[s7];omega⟩
     ·rw[if_neg hk]
      refine wpS_bind (m:=elem' b ib'') (zY (getElem?_pos b ib'' r2) ?_)
      have m5:=MI.pushB m3 sb r2 (fun t t1 t2=>na t (by omega) t2)
      have s5:=m5.sz
      by_cases c5:ib''+1=b.size
      ·rw[if_pos (by simpa using c5)]
       exact wpS_pure ⟨kz,.inl ⟨_,rfl,m5.doneA sa c5⟩⟩
      rw[if_neg (by simpa using c5)]
      have i5:ia''<a.size:=by omega
      refine wpS_bind (m:=elem' a (ia'')) (zY (getElem?_pos a (ia'') i5) ?_)
      refine wpS_bind (m:=zAA true a[ia''] b (ib''+1) (b.size-(ib''+1)) 0) (wB L (B:=fun t=>κ.blt (KK κ b (ib''+1+t)) (KK κ a (ia''))) (kz.kd.trans hz) (pa _ (Array.getElem_mem i5)) pb (by omega) (by omega) (fun t h1 h2=>by rw[if_pos rfl,zf h1,zf i5]) (fun t u tu un q=>KeyOrd.klt_of_kle_of_klt (sb _ _ (by omega) (by omega)) q) fun k' tk'=>?_)
      dsimp only
      have l6:=tk'.le
      have ym:∀ t,ib''+1≤t→t<ib''+1+k'→∀ j,ia''≤j→j<a.size→κ.kle (KK κ b t) (KK κ a j):=fun t t1 t2 j j1 j2=>by
       have q:=tk'.yes (t-(ib''+1)) (by omega)
       rw[show ib''+1+(t-(ib''+1))=t by omega] at q
       exact KeyOrd.kle_trans (KeyOrd.kle_of_klt q) (sa _ _ j1 j2)
      have nm:∀ t,ib''+1+k'≤t→t<b.size→κ.kle (KK κ a (ia'')) (KK κ b t):=fun t t1 t2=>by
       have q:=tk'.no (t-(ib''+1)) (by omega) (by omega)
       rw[show ib''+1+(t-(ib''+1))=t by omega] at q
       exact q
      by_cases hk':k'>0
      ·rw[if_pos hk']
       have m6:=MI.manyB sb m5 k' (by omega) ym
       have s6:=m6.sz
       by_cases c6:ib''+1+k'=b.size
       ·rw[if_pos (by simpa using c6)]
        exact wpS_pure ⟨kz,.inl ⟨_,rfl,m6.doneA sa c6⟩⟩
       rw[if_neg (by simpa using c6)]
       have iu:ia''<a.size:=by omega
       refine wpS_bind (m:=elem' a (ia'')) (zY (getElem?_pos a (ia'') iu) ?_)
       have m7:=MI.pushA m6 sa iu nm
       have s7:=m7.sz
       by_cases c7:ia''+1+1=a.size
       ·rw[if_pos (by simpa using c7)]
        exact wpS_pure ⟨kz,.inl ⟨_,rfl,m7.lastA sa sb lst c7⟩⟩
       rw[if_neg (by simpa using c7)]
       split
       ·exact wpS_pure ⟨kz,.inr ⟨rfl,m7,by dsimp only;omega,by dsimp only;omega,by dsimp only;rw[s7];omega⟩⟩
       ·exact wpS_pure ⟨kz,rfl,m7,by dsimp only;omega,by dsimp only;omega,by dsimp only;rw[s7];omega⟩
      ·rw[if_neg hk']
       have iu:ia''<a.size:=by omega
       refine wpS_bind (m:=elem' a (ia'')) (zY (getElem?_pos a (ia'') iu) ?_)
       have m7:=MI.pushA m5 sa iu (fun t t1 t2=>nm t (by omega) t2)
       have s7:=m7.sz
       by_cases c7:ia''+1+1=a.size
       ·rw[if_pos (by simpa using c7)]
        exact wpS_pure ⟨kz,.inl ⟨_,rfl,m7.lastA sa sb lst c7⟩⟩
       rw[if_neg (by simpa using c7)]
       split
       ·exact wpS_pure ⟨kz,.inr ⟨rfl,m7,by dsimp only;omega,by dsimp only;omega,by dsimp only;rw[s7];omega⟩⟩
       ·exact wpS_pure ⟨kz,rfl,m7,by dsimp only;omega,by dsimp only;omega,by dsimp only;rw[s7];omega⟩
end
end HM
namespace HM
open PySem PySem.Spec PyProof.Rows HS
section
variable {κ:KeyKind}
structure MJ (κ:KeyKind) (a b:Array Keyed) (na nb:Nat) (out:Array Keyed):Prop where
 sr:Srt κ out.toList.reverse
 pm:(a.toList.take na++b.toList.take nb++out.toList.reverse).Perm (a.toList++b.toList)
 la:∀ x∈out.toList,∀ j,j<na→κ.kle (KK κ a j) (ky κ x)
 lb:∀ x∈out.toList,∀ j,j<nb→κ.kle (KK κ b j) (ky κ x)
 sz:out.size+(na+nb)=a.size+b.size
 ha:na≤a.size
 hb:nb≤b.size
theorem zCD{a:Array Keyed}{i:Nat}(h:SortedToK κ a a.size):Srt κ (a.toList.take i):=(zBQ (i:=0) h).sublist (List.take_sublist _ _)
theorem wD{a:Array Keyed}{i:Nat}{y:Keyed}(h:y∈a.toList.take i):∃ j,j<i∧j<a.size∧ky κ y=KK κ a j:=by
 obtain⟨j,hj,rfl⟩:=List.mem_iff_getElem.mp h
 rw[List.length_take,Array.length_toList] at hj
 refine⟨j,by omega,by omega,?_⟩
 rw[zf (by omega)]
 simp
theorem zC3{a:Array Keyed}{i:Nat}:(a.extract 0 i).toList=a.toList.take i:=by
 rw[Array.toList_extract,List.extract_eq_drop_take]
 simp
variable {a b out:Array Keyed} {na nb:Nat}
theorem MJ.fin(m:MJ κ a b na nb out)(s:Srt κ (a.toList.take na++b.toList.take nb)):MO κ a b (a.extract 0 na++b.extract 0 nb++out.reverse):=by
 have e1:(a.extract 0 na++b.extract 0 nb++out.reverse).toList=a.toList.take na++b.toList.take nb++out.toList.reverse:=by
  rw[Array.toList_append,Array.toList_append,zC3,zC3,Array.toList_reverse]
 refine⟨?_,by rw[e1];exact m.pm⟩
 rw[e1]
 refine wS s m.sr fun x hx y hy=>?_
 rw[List.mem_reverse] at hy
 rcases List.mem_append.mp hx with hx | hx
 ·obtain⟨j,j1,j2,j3⟩:=wD (κ:=κ) hx
  rw[j3];exact m.la y hy j j1
 ·obtain⟨j,j1,j2,j3⟩:=wD (κ:=κ) hx
  rw[j3];exact m.lb y hy j j1
theorem MJ.doneA(m:MJ κ a b na nb out)(sb:SortedToK κ b b.size)(e:na=0):MO κ a b (a.extract 0 na++b.extract 0 nb++out.reverse):=m.fin (by subst e;simpa using zCD sb)
theorem MJ.doneB(m:MJ κ a b na nb out)(sa:SortedToK κ a a.size)(e:nb=0):MO κ a b (a.extract 0 na++b.extract 0 nb++out.reverse):=m.fin (by subst e;simpa using zCD sa)
theorem MJ.fstB(m:MJ κ a b na nb out)(sa:SortedToK κ a a.size)(sb:SortedToK κ b b.size)(f:∀ j,j<a.size→κ.kle (KK κ b 0) (KK κ a j))(e:nb=1):MO κ a b (b.extract 0 nb++a.extract 0 na++out.reverse):=by
 have e1:(b.extract 0 nb++a.extract 0 na++out.reverse).toList=b.toList.take nb++a.toList.take na++out.toList.reverse:=by
  rw[Array.toList_append,Array.toList_append,zC3,zC3,Array.toList_reverse]
 refine⟨?_,by rw[e1];exact(List.Perm.append_right _ List.perm_append_comm).trans m.pm⟩
 rw[e1]
 refine wS (wS (zCD sb) (zCD sa) fun x hx y hy=>?_) m.sr fun x hx y hy=>?_
 ·obtain⟨j,j1,j2,j3⟩:=wD (κ:=κ) hx
  obtain⟨k,k1,k2,k3⟩:=wD (κ:=κ) hy
  rw[j3,k3,show j=0 by omega]
  exact f k k2
 ·rw[List.mem_reverse] at hy
  rcases List.mem_append.mp hx with hx | hx
  ·obtain⟨j,j1,j2,j3⟩:=wD (κ:=κ) hx
   rw[j3];exact m.lb y hy j j1
  ·obtain⟨j,j1,j2,j3⟩:=wD (κ:=κ) hx
   rw[j3];exact m.la y hy j j1
theorem take_snoc{a:Array Keyed}{i:Nat}(h:i<a.size):a.toList.take (i+1)=a.toList.take i++[a[i]]:=by
 rw[List.take_add_one,List.getElem?_eq_getElem (by simpa using h)]
 simp
theorem MJ.pushA(m:MJ κ a b (na+1) nb out)(sa:SortedToK κ a a.size)(h:na<a.size)(hb:∀ j,j<nb→κ.kle (KK κ b j) (KK κ a na)):MJ κ a b na nb (out.push a[na]):=by
 refine⟨?_,?_,fun x hx j j1=>?_,fun x hx j j1=>?_,by have:=m.sz;rw[Array.size_push];omega,by omega,m.hb⟩
 ·rw[Array.toList_push,List.reverse_append]
  refine wS (List.pairwise_singleton _ _) m.sr fun x hx y hy=>?_
  rw[List.mem_reverse] at hy
  rw[List.reverse_singleton] at hx
  rw[List.mem_singleton.mp hx,← zf h]
  exact m.la y hy na (by omega)
 ·rw[Array.toList_push,List.reverse_append]
  refine List.Perm.trans ?_ m.pm
  rw[take_snoc h]
  simp only[List.reverse_singleton,List.append_assoc]
  refine List.Perm.append_left _ ?_
  show(b.toList.take nb++(a[na]::out.toList.reverse)).Perm (a[na]::(b.toList.take nb++out.toList.reverse))
  exact List.perm_middle
 ·rw[Array.toList_push] at hx
  rcases List.mem_append.mp hx with hx | hx
  ·exact m.la x hx j (by omega)
  ·rw[List.mem_singleton.mp hx,← zf h]
   exact sa j na (by omega) h
 ·rw[Array.toList_push] at hx
  rcases List.mem_append.mp hx with hx | hx
  ·exact m.lb x hx j j1
  ·rw[List.mem_singleton.mp hx,← zf h]
   exact hb j j1
theorem MJ.pushB(m:MJ κ a b na (nb+1) out)(sb:SortedToK κ b b.size)(h:nb<b.size)(ha:∀ j,j<na→κ.kle (KK κ a j) (KK κ b nb)):MJ κ a b na nb (out.push b[nb]):=by
 refine⟨?_,?_,fun x hx j j1=>?_,fun x hx j j1=>?_,by have:=m.sz;rw[Array.size_push];omega,m.ha,by omega⟩
 ·rw[Array.toList_push,List.reverse_append]
  refine wS (List.pairwise_singleton _ _) m.sr fun x hx y hy=>?_
  rw[List.mem_reverse] at hy
  rw[List.reverse_singleton] at hx
  rw[List.mem_singleton.mp hx,← zf h]
  exact m.lb y hy nb (by omega)
 ·rw[Array.toList_push,List.reverse_append]
  have:=m.pm
  rw[take_snoc h] at this
  simp only[List.reverse_singleton,List.append_assoc] at this ⊢
  exact this
 ·rw[Array.toList_push] at hx
  rcases List.mem_append.mp hx with hx | hx
  ·exact m.la x hx j j1
  ·rw[List.mem_singleton.mp hx,← zf h]
   exact ha j j1
 ·rw[Array.toList_push] at hx
  rcases List.mem_append.mp hx with hx | hx
  ·exact m.lb x hx j (by omega)
  ·rw[List.mem_singleton.mp hx,← zf h]
   exact sb j nb (by omega) h
theorem zHc{a:Array Keyed}{i k:Nat}(h:i+k<a.size){out:Array Keyed}:out++(a.extract i (i+(k+1))).reverse=out.push a[i+k]++(a.extract i (i+k)).reverse:=by
 apply Array.ext'
 rw[zDa h,Array.toList_append,Array.toList_append,Array.toList_reverse,Array.toList_reverse,Array.toList_push,Array.toList_push,List.reverse_append,List.reverse_singleton,List.append_assoc]
theorem MJ.manyA(sa:SortedToK κ a a.size):∀ k na out,MJ κ a b (na+k) nb out→(∀ i,na≤i→i<na+k→∀ j,j<nb→κ.kle (KK κ b j) (KK κ a i))→MJ κ a b na nb (out++(a.extract na (na+k)).reverse)
 | 0,na,out,m,_=>by rw[zCB];simpa using m
 | k+1,na,out,m,h=>by
  have hk:na+k<a.size:=by have:=m.ha;omega
  rw[zHc hk]
  exact MJ.manyA sa k na _ (MJ.pushA m sa hk (h (na+k) (by omega) (by omega))) fun i i1 i2=>h i i1 (by omega)
theorem MJ.manyB(sb:SortedToK κ b b.size):∀ k nb out,MJ κ a b na (nb+k) out→(∀ i,nb≤i→i<nb+k→∀ j,j<na→κ.kle (KK κ a j) (KK κ b i))→MJ κ a b na nb (out++(b.extract nb (nb+k)).reverse)
 | 0,nb,out,m,_=>by rw[zCB];simpa using m
 | k+1,nb,out,m,h=>by
  have hk:nb+k<b.size:=by have:=m.hb;omega
  rw[zHc hk]
  exact MJ.manyB sb k nb _ (MJ.pushB m sb hk (h (nb+k) (by omega) (by omega))) fun i i1 i2=>h i i1 (by omega)
theorem MJ.pushA'(m:MJ κ a b na nb out)(sa:SortedToK κ a a.size)(h1:1≤na)(h:na-1<a.size)(hb:∀ j,j<nb→κ.kle (KK κ b j) (KK κ a (na-1))):MJ κ a b (na-1) nb (out.push a[na-1]):=MJ.pushA (by rwa [Nat.sub_add_cancel h1]) sa h hb
theorem MJ.pushB'(m:MJ κ a b na nb out)(sb:SortedToK κ b b.size)(h1:1≤nb)(h:nb-1<b.size)(ha:∀ j,j<na→κ.kle (KK κ a j) (KK κ b (nb-1))):MJ κ a b na (nb-1) (out.push b[nb-1]):=MJ.pushB (by rwa [Nat.sub_add_cancel h1]) sb h ha
theorem MJ.manyA'{at':Nat}(m:MJ κ a b na nb out)(sa:SortedToK κ a a.size)(h:at'≤na)(hb:∀ i,at'≤i→i<na→∀ j,j<nb→κ.kle (KK κ b j) (KK κ a i)):MJ κ a b at' nb (out++(a.extract at' na).reverse):=by
 have e:na=at'+(na-at'):=by omega
 have:=MJ.manyA sa (na-at') at' out (by rw[← e];exact m) fun i i1 i2=>hb i i1 (by omega)
 rwa [← e] at this
theorem MJ.manyB'{at':Nat}(m:MJ κ a b na nb out)(sb:SortedToK κ b b.size)(h:at'≤nb)(ha:∀ i,at'≤i→i<nb→∀ j,j<na→κ.kle (KK κ a j) (KK κ b i)):MJ κ a b na at' (out++(b.extract at' nb).reverse):=by
 have e:nb=at'+(nb-at'):=by omega
 have:=MJ.manyB sb (nb-at') at' out (by rw[← e];exact m) fun i i1 i2=>ha i i1 (by omega)
 rwa [← e] at this
end
section
variable {prog:Program} {w:World} {A:Around} {E:Value→Shared→Prop} {s:Shared} {kd:SortKind} {κ:KeyKind} {P:Keyed→Prop}
variable (L:∀(z:SortSt) (x y:Keyed) (Q:Option Bool→SortSt→Prop),kindOf z=kd→P x→P y→Q (some (κ.blt (ky κ x) (ky κ y))) z→wpS (model prog w) A E s (lt' x y) Q z)
include L
theorem zGn{a b:Array Keyed}{z:SortSt}{Q:Array Keyed→SortSt→Prop}(hz:kindOf z=kd)(pa:∀ p∈a,P p)(pb:∀ p∈b,P p)(ha:1≤a.size)(hb:1≤b.size)(sa:SortedToK κ a a.size)(sb:SortedToK κ b b.size)
  (fst:∀ j,j<a.size→κ.kle (KK κ b 0) (KK κ a j)) (lst:∀ j,j<b.size→κ.kle (KK κ b j) (KK κ a (a.size-1))) (h:∀ r z',MO κ a b r→Kp z z'→Q r z'):wpS (model prog w) A E s (zFh a b) Q z:=by
 refine wpS_bind (wpS_lift (wpAny_rule ⟨rfl,?_⟩))
 have ia0:a.size-1<a.size:=by omega
 refine wpS_bind (m:=elem' a (a.size-1)) (zY (getElem?_pos a (a.size-1) ia0) ?_)
 have m0:MJ κ a b (a.size-1) b.size #[a[a.size-1]]:=by
  have:MJ κ a b a.size b.size #[]:=⟨List.Pairwise.nil,by
   rw[← Array.length_toList,← Array.length_toList,List.take_length,List.take_length];simp,fun x hx=>by simp at hx,fun x hx=>by simp at hx,by simp,Nat.le_refl _,Nat.le_refl _⟩
  exact this.pushA' sa ha ia0 fun j j1=>lst j j1
 by_cases c1:a.size-1=0
 ·rw[if_pos (by simpa using c1)]
  exact wpS_pure (h _ _ (m0.doneA sb c1) (.refl z))
 rw[if_neg (by simpa using c1)]
 by_cases c2:b.size=1
 ·rw[if_pos (by simpa using c2)]
  exact wpS_pure (h _ _ (m0.fstB sa sb fst c2) (.refl z))
 rw[if_neg (by simpa using c2)]
 refine wpS_bind (wpS_get ?_)
 dsimp only
 refine wpS_bind (wpS_mono (wpS_forRange (β:=Option (Array Keyed)×Nat×Nat×Array Keyed×Nat) (I:=fun x c z'=>Kp z z'∧c.1=none∧MJ κ a b c.2.1 c.2.2.1 c.2.2.2.1∧1≤c.2.1∧2≤c.2.2.1∧x≤c.2.2.2.1.size) (Q:=fun c z'=>Kp z z'∧∃ r,c.1=some r∧MO κ a b r) (fun x c z1 x1 x2 ⟨k1,e2,m1,q1,q2,q3⟩=>?stp) (fun c z1 ⟨k1,e2,m1,q1,q2,q3⟩=>?fin) ⟨.refl z,rfl,m0,by dsimp only;omega,by dsimp only;omega,Nat.zero_le _⟩) fun c z1 ⟨k1,r,e2,mo⟩=>?pst)
 case pst =>
  rw[e2]
  exact wpS_pure (h _ _ mo k1)
 case fin =>
  have:=m1.sz
  omega
 case stp =>
  clear m0
  obtain⟨c0,na,nb,out,mg⟩:=c
  dsimp only at e2 m1 q1 q2 q3 ⊢
  refine wpS_bind (wpS_mono (wpS_forRange (β:=Option (Array Keyed)×Nat×Nat×Array Keyed×Nat×Nat) (I:=fun y c z'=>Kp z z'∧c.1=none∧MJ κ a b c.2.1 c.2.2.1 c.2.2.2.1∧1≤c.2.1∧2≤c.2.2.1∧out.size+y≤c.2.2.2.1.size) (Q:=fun c z'=>Kp z z'∧((∃ r,c.1=some r∧MO κ a b r)∨(c.1=none∧MJ κ a b c.2.1 c.2.2.1 c.2.2.2.1∧1≤c.2.1∧2≤c.2.2.1∧out.size+1≤c.2.2.2.1.size))) (fun y c z2 y1 y2 ⟨k2,e3,m2,p1,p2,p3⟩=>?stp1) (fun c z2 ⟨k2,e3,m2,p1,p2,p3⟩=>⟨k2,.inr ⟨e3,m2,p1,p2,by omega⟩⟩) ⟨k1,rfl,m1,q1,q2,by dsimp only;omega⟩) fun c z2 ⟨k2,o⟩=>?pst1)
  case stp1 =>
   obtain⟨c0',na',nb',out',ac,bc⟩:=c
   dsimp only at e3 m2 p1 p2 p3 ⊢
   have ja:na'-1<a.size:=by have:=m2.ha;omega
   have jb:nb'-1<b.size:=by have:=m2.hb;omega
   refine wpS_bind (m:=elem' b (nb'-1)) (zY (getElem?_pos b _ jb) ?_)
   refine wpS_bind (m:=elem' a (na'-1)) (zY (getElem?_pos a _ ja) ?_)
   refine wpS_bind (m:=lt' b[nb'-1] a[na'-1]) (L _ _ _ _ (k2.kd.trans hz) (pb _ (Array.getElem_mem jb)) (pa _ (Array.getElem_mem ja)) ?_)
   dsimp only
   cases e:κ.blt (ky κ b[nb'-1]) (ky κ a[na'-1]) with
   | true =>
    rw[if_pos rfl]
    refine wpS_bind (m:=elem' a (na'-1)) (zY (getElem?_pos a _ ja) ?_)
    have m3:=m2.pushA' sa p1 ja fun j j1=>KeyOrd.kle_trans (sb j (nb'-1) (by omega) jb) (KeyOrd.kle_of_klt (by rw[zf jb,zf ja];exact e))
    by_cases c3:na'-1=0
    ·rw[if_pos (by simpa using c3)]
     exact wpS_pure ⟨k2,.inl ⟨_,rfl,m3.doneA sb c3⟩⟩
    rw[if_neg (by simpa using c3)]
    split
    ·exact wpS_pure ⟨k2,.inr ⟨rfl,m3,by dsimp only;omega,p2,by dsimp only;rw[Array.size_push];omega⟩⟩
    ·exact wpS_pure ⟨k2,rfl,m3,by dsimp only;omega,p2,by dsimp only;rw[Array.size_push];omega⟩
   | false =>
    rw[if_neg (by simp)]
    refine wpS_bind (m:=elem' b (nb'-1)) (zY (getElem?_pos b _ jb) ?_)
    have m3:=m2.pushB' sb (by omega) jb fun j j1=>KeyOrd.kle_trans (sa j (na'-1) (by omega) ja) (show κ.kle (KK κ a (na'-1)) (KK κ b (nb'-1)) by rw[zf jb,zf ja];exact e)
    by_cases c3:nb'-1=1
    ·rw[if_pos (by simpa using c3)]
     exact wpS_pure ⟨k2,.inl ⟨_,rfl,m3.fstB sa sb fst c3⟩⟩
    rw[if_neg (by simpa using c3)]
    split
    ·exact wpS_pure ⟨k2,.inr ⟨rfl,m3,p1,by dsimp only;omega,by dsimp only;rw[Array.size_push];omega⟩⟩
    ·exact wpS_pure ⟨k2,rfl,m3,p1,by dsimp only;omega,by dsimp only;rw[Array.size_push];omega⟩
  case pst1 =>
   obtain⟨c0',na',nb',out',ac,bc⟩:=c
   dsimp only at o ⊢
   rcases o with ⟨r,e3,mo⟩ | ⟨e3,m2,p1,p2,p3⟩
   ·rw[e3]
    exact wpS_pure ⟨k2,r,rfl,mo⟩
   rw[e3]
   dsimp only
   refine wpS_bind (wpS_lift (wpAny_rule ⟨rfl,?_⟩))
   refine wpS_bind (wpS_mono (wpS_forRange (β:=Option (Array Keyed)×Nat×Nat×Array Keyed×Nat×Nat×Nat) (I:=fun y c z'=>Kp z z'∧c.1=none∧MJ κ a b c.2.1 c.2.2.1 c.2.2.2.1∧1≤c.2.1∧2≤c.2.2.1∧out.size+1≤c.2.2.2.1.size) (Q:=fun c z'=>Kp z z'∧((∃ r,c.1=some r∧MO κ a b r)∨(c.1=none∧MJ κ a b c.2.1 c.2.2.1 c.2.2.2.1∧1≤c.2.1∧2≤c.2.2.1∧out.size+1≤c.2.2.2.1.size))) (fun y c z3 y1 y2 ⟨k3,e4,m3,r1,r2,r3⟩=>?stp2) (fun c z3 ⟨k3,e4,m3,r1,r2,r3⟩=>⟨k3,.inr ⟨e4,m3,r1,r2,r3⟩⟩) ⟨k2,rfl,m2,p1,p2,p3⟩) fun c z3 ⟨k3,o⟩=>?pst2)
   case pst2 =>
    obtain⟨c0'',na'',nb'',out'',mg',ac',bc'⟩:=c
    dsimp only at o ⊢
    rcases o with ⟨r,e4,mo⟩ | ⟨e4,m3,r1,r2,r3⟩
    ·rw[e4]
     exact wpS_pure ⟨k3,r,rfl,mo⟩
    rw[e4]
    dsimp only
    refine wpS_bind (m:=zFi (mg'+1)) (zCC fun z4 k4=>?_)
    exact wpS_pure ⟨k3.trans k4,rfl,m3,r1,r2,by dsimp only;omega⟩
   case stp2 =>
    clear m2 p1 p2 p3 m1 q1 q2 e3 e2 k1 k2
    obtain⟨c0'',na'',nb'',out'',mg',ac',bc'⟩:=c
    dsimp only at e4 m3 r1 r2 r3 ⊢
    have s3:=m3.sz
    have h3a:=m3.ha
    have h3b:=m3.hb
    have jb:nb''-1<b.size:=by omega
    rcases Classical.em (mg'>1) with hm | hm
    rw[if_pos hm]
    rotate_left
    rw[if_neg hm]
    all_goals
     refine wpS_bind (m:=zFi _) (zCC fun z4 k4=>?_)
     have kz:=k3.trans k4
     refine wpS_bind (m:=elem' b (nb''-1)) (zY (getElem?_pos b _ jb) ?_)
     refine wpS_bind (m:=zAA false b[nb''-1] a 0 na'' (na''-1)) (wB L (B:=fun t=>!κ.blt (KK κ b (nb''-1)) (KK κ a t)) (kz.kd.trans hz) (pb _ (Array.getElem_mem jb)) pa (by omega) (by omega) (fun t h1 h2=>by rw[if_neg (by simp),← zf h1,← zf jb,Nat.zero_add]) (fun t u tu un q=>?_) fun k tk=>?_)
     ·simp only[Bool.not_eq_true'] at q ⊢
      exact KeyOrd.kle_trans (sa _ _ tu (by omega)) q
     dsimp only
     have l4:=tk.le
     have ya:∀ t,k≤t→t<na''→∀ j,j<nb''→κ.kle (KK κ b j) (KK κ a t):=fun t t1 t2 j j1=>by
      have q:=tk.no t t1 t2
      rw[Bool.not_eq_false'] at q
      exact KeyOrd.kle_trans (sb j (nb''-1) (by omega) jb) (KeyOrd.kle_of_klt q)
     have yn:∀ t,t<k→κ.kle (KK κ a t) (KK κ b (nb''-1)):=fun t t1=>by
      have q:=tk.yes t t1
      rw[Bool.not_eq_true'] at q
      exact q
     by_cases hk:na''-k>0
     ·rw[if_pos hk]
      have m4:=MJ.manyA' m3 sa l4 ya
      have s4:=m4.sz
      by_cases c3:k=0
      ·rw[if_pos (by simpa using c3)]
       exact wpS_pure ⟨kz,.inl ⟨_,rfl,m4.doneA sb c3⟩⟩
      rw[if_neg (by simpa using c3)]
      refine wpS_bind (m:=elem' b (nb''-1)) (zY (getElem?_pos b _ jb) ?_)
      have m5:=MJ.pushB' m4 sb (by omega) jb yn
      have s5:=m5.sz
      by_cases c5:nb''-1=1
      ·rw[if_pos (by simpa using c5)]
       exact wpS_pure ⟨kz,.inl ⟨_,rfl,m5.fstB sa sb fst c5⟩⟩
      rw[if_neg (by simpa using c5)]
      have i5:k-1<a.size:=by omega
      refine wpS_bind (m:=elem' a (k-1)) (zY (getElem?_pos a (k-1) i5) ?_)
      refine wpS_bind (m:=zAA true a[k-1] b 0 (nb''-1) (nb''-1-1)) (wB L (B:=fun t=>κ.blt (KK κ b t) (KK κ a (k-1))) (kz.kd.trans hz) (pa _ (Array.getElem_mem i5)) pb (by omega) (by omega) (fun t h1 h2=>by rw[if_pos rfl,← zf h1,← zf i5,Nat.zero_add]) (fun t u tu un q=>KeyOrd.klt_of_kle_of_klt (sb _ _ tu (by omega)) q) fun k' tk'=>?_)
      dsimp only
      have l6:=tk'.le
      have ym:∀ t,k'≤t→t<nb''-1→∀ j,j<k→κ.kle (KK κ a j) (KK κ b t):=fun t t1 t2 j j1=>by
       have q:=tk'.no t t1 t2
       exact KeyOrd.kle_trans (sa j (k-1) (by omega) i5) q
      have nm:∀ t,t<k'→κ.kle (KK κ b t) (KK κ a (k-1)):=fun t t1=>KeyOrd.kle_of_klt (tk'.yes t t1)
      by_cases hk':nb''-1-k'>0
      ·rw[if_pos hk']
       have m6:=MJ.manyB' m5 sb l6 ym
       have s6:=m6.sz
       by_cases c6:k'=1
       ·rw[if_pos (by simpa using c6)]
        exact wpS_pure ⟨kz,.inl ⟨_,rfl,m6.fstB sa sb fst c6⟩⟩
       rw[if_neg (by simpa using c6)]
       by_cases c8:k'=0
       ·rw[if_pos (by simpa using c8)]
        exact wpS_pure ⟨kz,.inl ⟨_,rfl,m6.doneB sa c8⟩⟩
       rw[if_neg (by simpa using c8)]
       have iu:k-1<a.size:=by omega
       refine wpS_bind (m:=elem' a (k-1)) (zY (getElem?_pos a (k-1) iu) ?_)
       have m7:=MJ.pushA' m6 sa (by omega) iu nm
       have s7:=m7.sz
       by_cases c7:k-1=0
       ·rw[if_pos (by simpa using c7)]
        exact wpS_pure ⟨kz,.inl ⟨_,rfl,m7.doneA sb c7⟩⟩
       rw[if_neg (by simpa using c7)]
       split
       ·exact wpS_pure ⟨kz,.inr ⟨rfl,m7,by dsimp only;omega,by dsimp only;omega,by dsimp only;omega⟩⟩
       ·exact wpS_pure ⟨kz,rfl,m7,by dsimp only;omega,by dsimp only;omega,by dsimp only;omega⟩
      ·rw[if_neg hk']
       have iu:k-1<a.size:=by omega
       refine wpS_bind (m:=elem' a (k-1)) (zY (getElem?_pos a (k-1) iu) ?_)
       have m7:=MJ.pushA' m5 sa (by omega) iu (fun t t1=>nm t (by omega))
       have s7:=m7.sz
       by_cases c7:k-1=0
       ·rw[if_pos (by simpa using c7)]
        exact wpS_pure ⟨kz,.inl ⟨_,rfl,m7.doneA sb c7⟩⟩
       rw[if_neg (by simpa using c7)]
       split
       ·exact wpS_pure ⟨kz,.inr ⟨rfl,m7,by dsimp only;omega,by dsimp only;omega,by dsimp only;omega⟩⟩
       ·exact wpS_pure ⟨kz,rfl,m7,by dsimp only;omega,by dsimp only;omega,by dsimp only;omega⟩
     ·rw[if_neg hk]
      refine wpS_bind (m:=elem' b (nb''-1)) (zY (getElem?_pos b _ jb) ?_)
      have m5:=MJ.pushB' m3 sb (by omega) jb (fun t t1=>yn t (by omega))
      have s5:=m5.sz
      by_cases c5:nb''-1=1
      ·rw[if_pos (by simpa using c5)]
       exact wpS_pure ⟨kz,.inl ⟨_,rfl,m5.fstB sa sb fst c5⟩⟩
      rw[if_neg (by simpa using c5)]
      have i5:na''-1<a.size:=by omega
      refine wpS_bind (m:=elem' a (na''-1)) (zY (getElem?_pos a (na''-1) i5) ?_)
      refine wpS_bind (m:=zAA true a[na''-1] b 0 (nb''-1) (nb''-1-1)) (wB L (B:=fun t=>κ.blt (KK κ b t) (KK κ a (na''-1))) (kz.kd.trans hz) (pa _ (Array.getElem_mem i5)) pb (by omega) (by omega) (fun t h1 h2=>by rw[if_pos rfl,← zf h1,← zf i5,Nat.zero_add]) (fun t u tu un q=>KeyOrd.klt_of_kle_of_klt (sb _ _ tu (by omega)) q) fun k' tk'=>?_)
      dsimp only
      have l6:=tk'.le
      have ym:∀ t,k'≤t→t<nb''-1→∀ j,j<na''→κ.kle (KK κ a j) (KK κ b t):=fun t t1 t2 j j1=>by
       have q:=tk'.no t t1 t2
       exact KeyOrd.kle_trans (sa j (na''-1) (by omega) i5) q
      have nm:∀ t,t<k'→κ.kle (KK κ b t) (KK κ a (na''-1)):=fun t t1=>KeyOrd.kle_of_klt (tk'.yes t t1)
      by_cases hk':nb''-1-k'>0
      ·rw[if_pos hk']
       have m6:=MJ.manyB' m5 sb l6 ym
       have s6:=m6.sz
       by_cases c6:k'=1
       ·rw[if_pos (by simpa using c6)]
        exact wpS_pure ⟨kz,.inl ⟨_,rfl,m6.fstB sa sb fst c6⟩⟩
       rw[if_neg (by simpa using c6)]
       by_cases c8:k'=0
       ·rw[if_pos (by simpa using c8)]
        exact wpS_pure ⟨kz,.inl ⟨_,rfl,m6.doneB sa c8⟩⟩
       rw[if_neg (by simpa using c8)]
       have iu:na''-1<a.size:=by omega
       refine wpS_bind (m:=elem' a (na''-1)) (zY (getElem?_pos a (na''-1) iu) ?_)
       have m7:=MJ.pushA' m6 sa (by omega) iu nm
       have s7:=m7.sz
       by_cases c7:na''-1=0
       ·rw[if_pos (by simpa using c7)]
        exact wpS_pure ⟨kz,.inl ⟨_,rfl,m7.doneA sb c7⟩⟩
       rw[if_neg (by simpa using c7)]
       split
       ·exact wpS_pure ⟨kz,.inr ⟨rfl,m7,by dsimp only;omega,by dsimp only;omega,by dsimp only;omega⟩⟩
       ·exact wpS_pure ⟨kz,rfl,m7,by dsimp only;omega,by dsimp only;omega,by dsimp only;omega⟩
      ·rw[if_neg hk']
       have iu:na''-1<a.size:=by omega
       refine wpS_bind (m:=elem' a (na''-1)) (zY (getElem?_pos a (na''-1) iu) ?_)
       have m7:=MJ.pushA' m5 sa (by omega) iu (fun t t1=>nm t (by omega))
       have s7:=m7.sz
       by_cases c7:na''-1=0
       ·rw[if_pos (by simpa using c7)]
        exact wpS_pure ⟨kz,.inl ⟨_,rfl,m7.doneA sb c7⟩⟩
       rw[if_neg (by simpa using c7)]
       split
       ·exact wpS_pure ⟨kz,.inr ⟨rfl,m7,by dsimp only;omega,by dsimp only;omega,by dsimp only;omega⟩⟩
       ·exact wpS_pure ⟨kz,rfl,m7,by dsimp only;omega,by dsimp only;omega,by dsimp only;omega⟩
end
end HM
namespace HM
open PySem PySem.Spec PyProof.Rows HS
theorem zLH{σ:Type}{M:Model}{A:Around}{E:Value→Shared→Prop}{s:Shared}{Q:PUnit→σ→Prop}{st st':σ}(h:Q ⟨⟩ st'):wpS M A E s (set st':StateT σ Sem PUnit) Q st:=by
 unfold wpS
 rw[StateT.run_set]
 exact wpAny_pure ⟨rfl,h⟩
section
variable {κ:KeyKind}
def Seg(κ:KeyKind)(xs:Array Keyed)(lo hi:Nat):Prop:=∀ i j,lo≤i→i≤j→j<hi→κ.kle (KK κ xs i) (KK κ xs j)
def zDb(xs:Array Keyed)(at':Nat)(l:List Keyed):Array Keyed:=l.zipIdx.foldl (fun a x=>match x with | (p,j)=>a.setIfInBounds (at'+j) p) xs
theorem zFj{at':Nat}:∀(l:List Keyed) (m:Nat) (xs:Array Keyed),at'+m+l.length≤xs.size→((l.zipIdx m).foldl (fun a x=>match x with | (p,j)=>a.setIfInBounds (at'+j) p) xs).toList=xs.toList.take (at'+m)++(l++xs.toList.drop (at'+m+l.length))
 | [],m,xs,h=>by simp
 | x::r,m,xs,h=>by
  rw[List.length_cons] at h
  rw[List.zipIdx_cons,List.foldl_cons]
  rw[zFj r (m+1) _ (by simp;omega)]
  simp only[Array.toList_setIfInBounds]
  have hl:at'+m<xs.toList.length:=by simp;omega
  rw[show at'+(m+1)=at'+m+1 by omega,List.take_set,List.take_add_one,List.getElem?_eq_getElem hl,List.drop_set_of_lt (by omega),List.length_cons,show at'+m+1+r.length=at'+m+(r.length+1) by omega]
  rw[List.set_append_right _ _ (by simp;omega)]
  have:at'+m-(xs.toList.take (at'+m)).length=0:=by rw[List.length_take];omega
  rw[this]
  simp
theorem zDc{xs:Array Keyed}{at':Nat}{l:List Keyed}(h:at'+l.length≤xs.size):(zDb xs at' l).toList=xs.toList.take at'++(l++xs.toList.drop (at'+l.length)):=by
 have:=zFj (at':=at') l 0 xs (by omega)
 rw[Nat.add_zero] at this
 exact this
theorem zIO{xs:Array Keyed}{at':Nat}{l:List Keyed}(h:at'+l.length≤xs.size)(k:Nat):(zDb xs at' l)[k]?=if at'≤k∧k<at'+l.length then l[k-at']? else xs[k]?:=by
 rw[← Array.getElem?_toList,zDc h]
 have hl:(xs.toList.take at').length=at':=by rw[List.length_take,Array.length_toList];omega
 by_cases h1:k<at'
 ·rw[if_neg (by omega),List.getElem?_append_left (by omega),List.getElem?_take,if_pos h1,Array.getElem?_toList]
 rw[List.getElem?_append_right (by omega),hl]
 by_cases h2:k<at'+l.length
 ·rw[if_pos ⟨by omega,h2⟩,List.getElem?_append_left (by omega)]
 ·rw[if_neg (by omega),List.getElem?_append_right (by omega),List.getElem?_drop,show at'+l.length+(k-at'-l.length)=k by omega,Array.getElem?_toList]
theorem zCf{xs:Array Keyed}{u v t:Nat}(h:u+t<v)(hv:v≤xs.size):KK κ (xs.extract u v) t=KK κ xs (u+t):=by
 refine KK_congr ?_
 rw[Array.getElem?_extract_of_lt (by omega),getElem?_pos xs _ (by omega)]
theorem zLI{r:Array Keyed}(h:Srt κ r.toList):SortedToK κ r r.size:=fun i j ij jr=>by
 rcases Nat.lt_or_ge i j with q | q
 ·have:=List.pairwise_iff_getElem.mp h i j (by simp;omega) (by simpa using jr) q
  rw[zf (by omega),zf jr]
  simpa using this
 ·obtain rfl:i=j:=by omega
  exact KeyOrd.kle_refl _
theorem zHd{xs:Array Keyed}{u v:Nat}(h:Seg κ xs u v)(hv:v≤xs.size):SortedToK κ (xs.extract u v) (xs.extract u v).size:=fun i j ij hj=>by
 rw[Array.size_extract] at hj
 rw[zCf (by omega) hv,zCf (by omega) hv]
 exact h (u+i) (u+j) (by omega) (by omega) (by omega)
theorem zOZ{xs:Array Keyed}{u v c:Nat}(huv:u≤v)(hc:v+c≤xs.size):xs.toList=xs.toList.take u++(((xs.extract u v).toList++(xs.extract v (v+c)).toList)++xs.toList.drop (v+c)):=by
 rw[Array.toList_extract,Array.toList_extract,List.extract_eq_drop_take,List.extract_eq_drop_take,show v+c-v=c by omega]
 have e1:xs.toList.drop (v+c)=(xs.toList.drop v).drop c:=by rw[List.drop_drop]
 have e2:xs.toList.drop v=(xs.toList.drop u).drop (v-u):=by rw[List.drop_drop,show u+(v-u)=v by omega]
 rw[List.append_assoc,e1,List.take_append_drop,e2,List.take_append_drop,List.take_append_drop]
variable {prog:Program} {w:World} {A:Around} {E:Value→Shared→Prop} {s:Shared} {kd:SortKind} {P:Keyed→Prop}
structure Mg (κ:KeyKind) (xs ys:Array Keyed) (sa hi:Nat):Prop where
 pm:ys.Perm xs
 fr:∀ k,k<sa∨hi≤k→ys[k]?=xs[k]?
 sg:Seg κ ys sa hi
variable (L:∀(z:SortSt) (x y:Keyed) (Q:Option Bool→SortSt→Prop),kindOf z=kd→P x→P y→Q (some (κ.blt (ky κ x) (ky κ y))) z→wpS (model prog w) A E s (lt' x y) Q z)
theorem merged{xs:Array Keyed}{sa sb nb k c:Nat}{r:Array Keyed}(h1:sa+k<sb)(h2:0<c)(h3:c≤nb)(h4:sb+nb≤xs.size)(ga:Seg κ xs sa sb)(gb:Seg κ xs sb (sb+nb))(lo:∀ t,t<k→κ.kle (KK κ xs (sa+t)) (KK κ xs sb))(hi:∀ t,c≤t→t<nb→κ.kle (KK κ xs (sb-1)) (KK κ xs (sb+t)))(mo:MO κ (xs.extract (sa+k) sb) (xs.extract sb (sb+c)) r):Mg κ xs (zDb xs (sa+k) r.toList) sa (sb+nb):=by
 have hsz:r.toList.length=sb-(sa+k)+c:=by
  have:=mo.pm.length_eq
  rw[List.length_append] at this
  simp only[Array.length_toList,Array.size_extract] at this ⊢
  omega
 have hb:(sa+k)+r.toList.length≤xs.size:=by omega
 have hb2:(sa+k)+r.toList.length=sb+c:=by omega
 have get:=zIO hb
 have src:∀ t,t<r.size→∃ u,sa+k≤u∧u<sb+c∧KK κ r t=KK κ xs u:=fun t ht=>by
  have hm:r[t]∈(xs.extract (sa+k) sb).toList++(xs.extract sb (sb+c)).toList:=mo.pm.mem_iff.mp (by simp)
  rw[zf ht]
  rcases List.mem_append.mp hm with hm | hm
  ·obtain⟨j,hj,e⟩:=List.mem_iff_getElem.mp hm
   rw[Array.length_toList,Array.size_extract] at hj
   refine⟨sa+k+j,by omega,by omega,?_⟩
   rw[zf (by omega),← e]
   simp
  ·obtain⟨j,hj,e⟩:=List.mem_iff_getElem.mp hm
   rw[Array.length_toList,Array.size_extract] at hj
   refine⟨sb+j,by omega,by omega,?_⟩
   rw[zf (by omega),← e]
   simp
 have rs:=zLI mo.sr
 rw[Array.length_toList] at hsz
 have kin:∀ i,sa+k≤i→i<sb+c→KK κ (zDb xs (sa+k) r.toList) i=KK κ r (i-(sa+k)):=fun i i1 i2=>by
  refine KK_congr ?_
  rw[get,if_pos ⟨i1,by omega⟩,Array.getElem?_toList]
 have kout:∀ i,(i<sa+k∨sb+c≤i)→KK κ (zDb xs (sa+k) r.toList) i=KK κ xs i:=fun i i1=>by
  refine KK_congr ?_
  rw[get,if_neg (by omega)]
 refine⟨?_,fun i hi'=>by rw[get,if_neg (by omega)],fun i j i1 ij j2=>?_⟩
 ·rw[Array.perm_iff_toList_perm,zDc hb,hb2]
  conv=>rhs;rw[zOZ (xs:=xs) (u:=sa+k) (v:=sb) (c:=c) (by omega) (by omega)]
  exact List.Perm.append_left _ (List.Perm.append_right _ mo.pm)
 ·by_cases p1:i<sa+k
  ·rw[kout i (.inl p1)]
   have il:=lo (i-sa) (by omega)
   rw[show sa+(i-sa)=i by omega] at il
   by_cases p2:j<sa+k
   ·rw[kout j (.inl p2)]
    exact ga i j i1 ij (by omega)
   by_cases p3:j<sb+c
   ·rw[kin j (by omega) p3]
    obtain⟨u,u1,u2,u3⟩:=src (j-(sa+k)) (by omega)
    rw[u3]
    by_cases p4:u<sb
    ·exact ga i u i1 (by omega) p4
    ·exact KeyOrd.kle_trans il (gb sb u (by omega) (by omega) (by omega))
   ·rw[kout j (.inr (by omega))]
    exact KeyOrd.kle_trans il (gb sb j (by omega) (by omega) j2)
  by_cases p2:i<sb+c
  ·rw[kin i (by omega) p2]
   by_cases p3:j<sb+c
   ·rw[kin j (by omega) p3]
    exact rs _ _ (by omega) (by omega)
   ·rw[kout j (.inr (by omega))]
    obtain⟨u,u1,u2,u3⟩:=src (i-(sa+k)) (by omega)
    rw[u3]
    by_cases p4:u<sb
    ·have:=hi (j-sb) (by omega) (by omega)
     rw[show sb+(j-sb)=j by omega] at this
     exact KeyOrd.kle_trans (ga u (sb-1) (by omega) (by omega) (by omega)) this
    ·exact gb u j (by omega) (by omega) j2
  ·rw[kout i (.inr (by omega)),kout j (.inr (by omega))]
   exact gb i j (by omega) ij j2
include L
theorem zGo{i:Nat}{z:SortSt}{Q:Bool→SortSt→Prop}{sa na pw sb nb pw2:Nat}(hz:kindOf z=kd)(hf:failedOf z=none)(pa:∀ p∈arrOf z,P p)(e1:(pendingOf z)[i]?=some (sa,na,pw))(e2:(pendingOf z)[i+1]?=some (sb,nb,pw2))(hab:sb=sa+na)(h1:1≤na)(h2:1≤nb)(hs:sb+nb≤(arrOf z).size)(ga:Seg κ (arrOf z) sa sb)(gb:Seg κ (arrOf z) sb (sb+nb))
  (h:∀ z',kindOf z'=kd→failedOf z'=none→pendingOf z'=((pendingOf z).setIfInBounds i (sa,na+nb,pw)).eraseIdxIfInBounds (i+1)→Mg κ (arrOf z) (arrOf z') sa (sb+nb)→Q true z'):wpS (model prog w) A E s (mergeAt' i) Q z:=by
 refine wpS_bind (wpS_get ?_)
 rw[e1,e2]
 dsimp only
 refine wpS_bind (zLH ?_)
 have jb:sb<(arrOf z).size:=by omega
 refine wpS_bind (m:=elem' (arrOf z) sb) (zY (getElem?_pos _ sb jb) ?_)
 refine wpS_bind (m:=zAA false (arrOf z)[sb] (arrOf z) sa na 0) (wB L (B:=fun t=>!κ.blt (KK κ (arrOf z) sb) (KK κ (arrOf z) (sa+t))) hz (pa _ (Array.getElem_mem jb)) pa (by omega) (by omega) (fun t t1 t2=>by rw[if_neg (by simp),← zf t1,← zf jb]) (fun t u tu un q=>?_) fun k tk=>?_)
 ·simp only[Bool.not_eq_true'] at q ⊢
  exact KeyOrd.kle_trans (ga _ _ (by omega) (by omega) (by omega)) q
 dsimp only
 have lo:∀ t,t<k→κ.kle (KK κ (arrOf z) (sa+t)) (KK κ (arrOf z) sb):=fun t t1=>by
  have q:=tk.yes t t1
  rw[Bool.not_eq_true'] at q
  exact q
 have lk:=tk.le
 by_cases c1:na-k=0
 ·rw[if_pos (by simpa using c1)]
  refine wpS_pure (h _ hz hf rfl ⟨Array.Perm.refl _,fun _ _=>rfl,fun i j i1 ij j2=>?_⟩)
  show κ.kle (KK κ (arrOf z) i) (KK κ (arrOf z) j)
  by_cases p1:i<sb
  ·by_cases p2:j<sb
   ·exact ga i j i1 ij p2
   ·have:=lo (i-sa) (by omega)
    rw[show sa+(i-sa)=i by omega] at this
    exact KeyOrd.kle_trans this (gb sb j (by omega) (by omega) j2)
  ·exact gb i j (by omega) ij j2
 rw[if_neg (by simpa using c1)]
 have ja:sa+k+(na-k)-1<(arrOf z).size:=by omega
 refine wpS_bind (m:=elem' (arrOf z) (sa+k+(na-k)-1)) (zY (getElem?_pos (arrOf z) _ ja) ?_)
 have ej:sa+k+(na-k)-1=sb-1:=by omega
 refine wpS_bind (m:=zAA true (arrOf z)[sa+k+(na-k)-1] (arrOf z) sb nb (nb-1)) (wB L (B:=fun t=>κ.blt (KK κ (arrOf z) (sb+t)) (KK κ (arrOf z) (sb-1))) hz (pa _ (Array.getElem_mem ja)) pa (by omega) (by omega) (fun t t1 t2=>by rw[if_pos rfl,← zf t1,← zf ja,ej]) (fun t u tu un q=>KeyOrd.klt_of_kle_of_klt (gb _ _ (by omega) (by omega) (by omega)) q) fun c tc=>?_)
 dsimp only
 have lc:=tc.le
 have hi:∀ t,c≤t→t<nb→κ.kle (KK κ (arrOf z) (sb-1)) (KK κ (arrOf z) (sb+t)):=fun t t1 t2=>tc.no t t1 t2
 by_cases c2:c=0
 ·rw[if_pos (by simpa using c2)]
  refine wpS_pure (h _ hz hf rfl ⟨Array.Perm.refl _,fun _ _=>rfl,fun i j i1 ij j2=>?_⟩)
  show κ.kle (KK κ (arrOf z) i) (KK κ (arrOf z) j)
  by_cases p1:i<sb
  ·by_cases p2:j<sb
   ·exact ga i j i1 ij p2
   ·have:=hi (j-sb) (by omega) (by omega)
    rw[show sb+(j-sb)=j by omega] at this
    exact KeyOrd.kle_trans (ga i (sb-1) i1 (by omega) (by omega)) this
  ·exact gb i j (by omega) ij j2
 rw[if_neg (by simpa using c2)]
 have px:∀ p∈(arrOf z).extract (sa+k) sb,P p:=fun p hp=>pa p (by
  rw[← Array.mem_toList_iff] at hp ⊢
  rw[Array.toList_extract,List.extract_eq_drop_take] at hp
  exact List.mem_of_mem_drop (List.mem_of_mem_take hp))
 have py:∀ p∈(arrOf z).extract sb (sb+c),P p:=fun p hp=>pa p (by
  rw[← Array.mem_toList_iff] at hp ⊢
  rw[Array.toList_extract,List.extract_eq_drop_take] at hp
  exact List.mem_of_mem_drop (List.mem_of_mem_take hp))
 have xs:((arrOf z).extract (sa+k) sb).size=sb-(sa+k):=by rw[Array.size_extract];omega
 have ys:((arrOf z).extract sb (sb+c)).size=c:=by rw[Array.size_extract];omega
 have ax:=zHd (κ:=κ) (xs:=arrOf z) (u:=sa+k) (v:=sb) (fun i j i1 ij j2=>ga i j (by omega) ij j2) (by omega)
 have ay:=zHd (κ:=κ) (xs:=arrOf z) (u:=sb) (v:=sb+c) (fun i j i1 ij j2=>gb i j (by omega) ij (by omega)) (by omega)
 have fs:∀ j,j<((arrOf z).extract (sa+k) sb).size→κ.kle (KK κ ((arrOf z).extract sb (sb+c)) 0) (KK κ ((arrOf z).extract (sa+k) sb) j):=fun j hj=>by
  rw[xs] at hj
  rw[zCf (by omega) (by omega),zCf (by omega) (by omega)]
  have q:=tk.no (k+j) (by omega) (by omega)
  rw[Bool.not_eq_false'] at q
  rw[Nat.add_zero,Nat.add_assoc]
  exact KeyOrd.kle_of_klt q
 have ls:∀ j,j<((arrOf z).extract sb (sb+c)).size→κ.kle (KK κ ((arrOf z).extract sb (sb+c)) j) (KK κ ((arrOf z).extract (sa+k) sb) (((arrOf z).extract (sa+k) sb).size-1)):=fun j hj=>by
  rw[ys] at hj
  rw[xs,zCf (by omega) (by omega),zCf (by omega) (by omega),show sa+k+(sb-(sa+k)-1)=sb-1 by omega]
  exact KeyOrd.kle_of_klt (tc.yes j hj)
 have fin:∀(r:Array Keyed) (z':SortSt),MO κ ((arrOf z).extract (sa+k) sb) ((arrOf z).extract sb (sb+c)) r→Kp (SortSt.mk' (kindOf z) (arrOf z) (((pendingOf z).setIfInBounds i (sa,na+nb,pw)).eraseIdxIfInBounds (i+1)) (gallopOf z) (failedOf z)) z'→Q (failedOf z').isNone (setArr z' (zDb (arrOf z') (sa+k) r.toList)):=fun r z' mo kp=>by
  rw[show(failedOf z').isNone=true by rw[kp.fl];show(failedOf z).isNone=true;rw[hf];rfl]
  refine h _ (kp.kd.trans hz) (kp.fl.trans hf) kp.pe ?_
  show Mg κ (arrOf z) (zDb (arrOf z') (sa+k) r.toList) sa (sb+nb)
  rw[kp.ar]
  exact merged (by omega) (by omega) lc hs ga gb lo hi mo
 by_cases c3:na-k≤c
 ·rw[if_pos c3]
  refine wpS_bind (m:=zFg ((arrOf z).extract (sa+k) sb) ((arrOf z).extract sb (sb+c))) (zGm L hz px py (by omega) (by omega) ax ay fs ls fun r z' mo kp=>?_)
  exact wpS_bind (wpS_modify (wpS_bind (wpS_get (wpS_pure (fin r z' mo kp)))))
 ·rw[if_neg c3]
  refine wpS_bind (m:=zFh ((arrOf z).extract (sa+k) sb) ((arrOf z).extract sb (sb+c))) (zGn L hz px py (by omega) (by omega) ax ay fs ls fun r z' mo kp=>?_)
  exact wpS_bind (wpS_modify (wpS_bind (wpS_get (wpS_pure (fin r z' mo kp)))))
end
end HM
namespace HM
open PySem PySem.Spec PyProof.Rows HS
structure Ahd (lo:Nat) (z z':SortSt):Prop where
 pm:(arrOf z').Perm (arrOf z)
 kd:kindOf z'=kindOf z
 fl:failedOf z'=failedOf z
 pe:pendingOf z'=pendingOf z
 fr:∀ k,k<lo→(arrOf z')[k]?=(arrOf z)[k]?
theorem Ahd.refl(lo:Nat)(z:SortSt):Ahd lo z z:=⟨Array.Perm.refl _,rfl,rfl,rfl,fun _ _=>rfl⟩
theorem Ahd.sz{lo:Nat}{z z':SortSt}(h:Ahd lo z z'):(arrOf z').size=(arrOf z).size:=h.pm.size_eq
theorem Ahd.all{lo:Nat}{z z':SortSt}{P:Keyed→Prop}(h:Ahd lo z z')(p:∀ x∈arrOf z,P x):∀ x∈arrOf z',P x:=fun x hx=>p x (h.pm.mem_iff.mp hx)
theorem Ahd.rev{lo i j:Nat}{z z':SortSt}(h:Ahd lo z z')(hi:lo≤i)(hj:j≤(arrOf z').size):Ahd lo z (setArr z' (mirror (arrOf z') i j ((j-i) / 2))):=by
 refine⟨(mirror_perm _ _ _ _).trans h.pm,h.kd,h.fl,h.pe,fun k hk=>?_⟩
 show(mirror (arrOf z') i j ((j-i) / 2))[k]?=_
 rw[getElem?_mirror_all hj,if_neg (by omega)]
 exact h.fr k hk
theorem Ahd.down{lo i j:Nat}{z z':SortSt}(h:Ahd lo z z')(hi:lo≤i)(hij:i≤j)(hj:j<(arrOf z').size):Ahd lo z (setArr z' (bubble (arrOf z') j (j-i))):=by
 refine⟨(bubble_perm _ _ _).trans h.pm,h.kd,h.fl,h.pe,fun k hk=>?_⟩
 show(bubble (arrOf z') j (j-i))[k]?=_
 rw[getElem?_bubble hj (j-i) (by omega),if_neg (by omega),if_neg (by omega)]
 exact h.fr k hk
section
variable {κ:KeyKind}
def Dsc(κ:KeyKind)(xs:Array Keyed)(lo hi:Nat):Prop:=∀ i j,lo≤i→i≤j→j<hi→κ.kle (KK κ xs j) (KK κ xs i)
theorem Seg.more{xs:Array Keyed}{lo hi:Nat}(u:Seg κ xs lo hi)(h:lo<hi→κ.kle (KK κ xs (hi-1)) (KK κ xs hi)):Seg κ xs lo (hi+1):=fun i j i1 ij jm=>by
 rcases Nat.lt_or_ge j hi with q | q
 ·exact u i j i1 ij q
 obtain rfl:j=hi:=by omega
 rcases Nat.lt_or_ge i j with p | p
 ·exact KeyOrd.kle_trans (u i (j-1) i1 (by omega) (by omega)) (h (by omega))
 ·obtain rfl:i=j:=by omega
  exact KeyOrd.kle_refl _
theorem Dsc.more{xs:Array Keyed}{lo hi:Nat}(u:Dsc κ xs lo hi)(h:lo<hi→κ.kle (KK κ xs hi) (KK κ xs (hi-1))):Dsc κ xs lo (hi+1):=fun i j i1 ij jm=>by
 rcases Nat.lt_or_ge j hi with q | q
 ·exact u i j i1 ij q
 obtain rfl:j=hi:=by omega
 rcases Nat.lt_or_ge i j with p | p
 ·exact KeyOrd.kle_trans (h (by omega)) (u i (j-1) i1 (by omega) (by omega))
 ·obtain rfl:i=j:=by omega
  exact KeyOrd.kle_refl _
theorem Dsc.congr{xs ys:Array Keyed}{lo hi:Nat}(e:∀ i,KK κ ys i=KK κ xs i)(u:Dsc κ xs lo hi):Dsc κ ys lo hi:=fun i j i1 ij jm=>by rw[e,e];exact u i j i1 ij jm
theorem Dsc.turn{xs:Array Keyed}{lo hi:Nat}(u:Dsc κ xs lo hi)(h:hi≤xs.size):Seg κ (mirror xs lo hi ((hi-lo) / 2)) lo hi:=fun i j i1 ij jm=>by
 rw[KK_mirror h,KK_mirror h,if_pos ⟨i1,by omega⟩,if_pos ⟨by omega,jm⟩]
 exact u (lo+hi-1-j) (lo+hi-1-i) (by omega) (by omega) (by omega)
structure Fal (κ:KeyKind) (xs:Array Keyed) (lo m c:Nat):Prop where
 dn:Dsc κ xs lo (lo+m)
 le:c+1≤m
 eq:∀ i,lo+m-(c+1)≤i→i<lo+m→KK κ xs i=KK κ xs (lo+m-1)
theorem Fal.one{xs:Array Keyed}{lo m:Nat}(d:Dsc κ xs lo (lo+m))(h:1≤m):Fal κ xs lo m 0:=⟨d,h,fun i h1 h2=>by rw[show i=lo+m-1 by omega]⟩
variable {prog:Program} {w:World} {A:Around} {E:Value→Shared→Prop} {s:Shared} {kd:SortKind} {P:Keyed→Prop}
variable (L:∀(z:SortSt) (x y:Keyed) (Q:Option Bool→SortSt→Prop),kindOf z=kd→P x→P y→Q (some (κ.blt (ky κ x) (ky κ y))) z→wpS (model prog w) A E s (lt' x y) Q z)
include L
theorem wT{i j:Nat}{z:SortSt}{Q:Option Bool→SortSt→Prop}(hz:kindOf z=kd)(pa:∀ p∈arrOf z,P p)(hi:i<(arrOf z).size)(hj:j<(arrOf z).size)(h:Q (some (κ.blt (KK κ (arrOf z) i) (KK κ (arrOf z) j))) z):wpS (model prog w) A E s (ltAt' i j) Q z:=by
 refine wpS_bind (wpS_get ?_)
 refine wpS_bind (m:=elem' (arrOf z) i) (zY (getElem?_pos (arrOf z) i hi) ?_)
 refine wpS_bind (m:=elem' (arrOf z) j) (zY (getElem?_pos (arrOf z) j hj) ?_)
 exact L _ _ _ _ hz (pa _ (Array.getElem_mem hi)) (pa _ (Array.getElem_mem hj)) (by rw[← zf hi,← zf hj];exact h)
theorem zFk{lo nrem:Nat}{z:SortSt}{Q:Option Nat→SortSt→Prop}(hz:kindOf z=kd)(pa:∀ p∈arrOf z,P p)(h1:1≤nrem)(hs:lo+nrem≤(arrOf z).size)
  (h:∀ n z',1≤n→n≤nrem→Ahd lo z z'→Seg κ (arrOf z') lo (lo+n)→Q (some n) z'):wpS (model prog w) A E s (countRun' lo nrem) Q z:=by
 refine wpS_bind (wpS_mono (wpS_forRange (β:=Option (Option Nat)×Nat) (I:=fun x c z'=>z'=z∧c=(none,x)∧Seg κ (arrOf z) lo (lo+x)) (Q:=fun c z'=>z'=z∧∃ n,c=(none,n)∧1≤n∧n≤nrem∧Seg κ (arrOf z) lo (lo+n)∧(n=nrem∨κ.klt (KK κ (arrOf z) (lo+n)) (KK κ (arrOf z) (lo+n-1)))) (fun x c z' x1 x2 ⟨e1,e2,u⟩=>?stp) (fun c z' ⟨e1,e2,u⟩=>?fin) ⟨rfl,rfl,fun i j i1 ij j2=>by obtain rfl:i=j:=(by omega);exact KeyOrd.kle_refl _⟩) fun c z' ⟨e1,n,e2,n1,n2,u,o⟩=>?pst)
 case fin =>
  rw[show max 1 nrem=nrem by omega] at e2 u
  exact⟨e1,nrem,e2,h1,Nat.le_refl _,u,.inl rfl⟩
 case stp =>
  subst e1 e2
  refine wpS_bind (m:=ltAt' (lo+x) (lo+x-1)) (wT L hz pa (by omega) (by omega) ?_)
  dsimp only
  cases q:κ.blt (KK κ (arrOf z') (lo+x)) (KK κ (arrOf z') (lo+x-1)) with
  | true=>exact wpS_pure ⟨rfl,x,rfl,x1,by omega,u,.inr q⟩
  | false=>exact wpS_pure ⟨rfl,rfl,Seg.more u fun _=>q⟩
 case pst =>
  subst e1 e2
  dsimp only
  by_cases e:n=nrem
  ·rw[if_pos (by simpa using e)]
   exact wpS_pure (h n z' n1 n2 (.refl _ _) u)
  rw[if_neg (by simpa using e)]
  have lt:=o.resolve_left e
  by_cases g:n>1
  ·rw[if_pos g]
   refine wpS_bind (m:=ltAt' lo (lo+n-1)) (wT L hz pa (by omega) (by omega) ?_)
   dsimp only
   cases q:κ.blt (KK κ (arrOf z') lo) (KK κ (arrOf z') (lo+n-1)) with
   | true=>exact wpS_pure (h n z' n1 n2 (.refl _ _) u)
   | false =>
    have sz:lo+n≤(arrOf z').size:=by omega
    have al:∀ k,lo≤k→k<lo+n→KK κ (arrOf z') k=KK κ (arrOf z') (lo+n-1):=fun k k1 k2=>KeyOrd.kle_antisymm (u k (lo+n-1) k1 (by omega) (by omega)) (KeyOrd.kle_trans q (u lo k (Nat.le_refl _) k1 k2))
    have d0:Dsc κ (arrOf z') lo (lo+n+1):=Dsc.more (fun i j i1 ij jn=>by rw[al i i1 (by omega),al j (by omega) jn];exact KeyOrd.kle_refl _) fun _=>KeyOrd.kle_of_klt lt
    rw[if_neg (by simp)]
    refine wpS_bind (m:=reverseSlice' lo (lo+n)) (wpS_reverse ?_)
    have a1:=(Ahd.refl lo z').rev (i:=lo) (j:=lo+n) (Nat.le_refl _) sz
    have d1:Dsc κ (arrOf (setArr z' (mirror (arrOf z') lo (lo+n) ((lo+n-lo) / 2)))) lo (lo+(n+1)):=Dsc.congr (KK_mirror_equal sz al) d0
    generalize setArr z' (mirror (arrOf z') lo (lo+n) ((lo+n-lo) / 2))=z1 at a1 d1 ⊢
    refine wpS_bind (wpS_lift (wpAny_rule ⟨rfl,?_⟩))
    refine wpS_bind (wpS_mono (wpS_forRange (β:=Option (Option Nat)×Nat×Nat) (I:=fun x c z2=>∃ q,c=(none,x,q)∧Ahd lo z' z2∧Fal κ (arrOf z2) lo x q) (Q:=fun c z2=>∃ m q,c=(none,m,q)∧n+1≤m∧m≤nrem∧Ahd lo z' z2∧Fal κ (arrOf z2) lo m q) (fun m c z2 m1 m2 ⟨t,e3,a2,f2⟩=>?sp2) (fun c z2 ⟨t,e3,a2,f2⟩=>⟨nrem,t,by rw[e3,show max (n+1) nrem=nrem by omega],by omega,Nat.le_refl _,a2,by rwa [show max (n+1) nrem=nrem by omega] at f2⟩) ⟨0,rfl,a1,Fal.one d1 (by omega)⟩) fun c z2 ⟨m,t,e3,m1,m2,a2,f2⟩=>?ps2)
    case sp2 =>
     subst e3
     have s2:=a2.sz
     have fl2:=f2.le
     refine wpS_bind (m:=ltAt' (lo+m) (lo+m-1)) (wT L (a2.kd.trans hz) (a2.all pa) (by omega) (by omega) ?_)
     dsimp only
     cases q2:κ.blt (KK κ (arrOf z2) (lo+m)) (KK κ (arrOf z2) (lo+m-1)) with
     | true =>
      have d2:Dsc κ (arrOf z2) lo (lo+m+1):=Dsc.more f2.dn fun _=>KeyOrd.kle_of_klt q2
      simp only[if_true]
      by_cases hc:t>0
      ·rw[if_pos hc]
       refine wpS_bind (m:=reverseSlice' (lo+m-(t+1)) (lo+m)) (wpS_reverse (wpS_pure ⟨0,rfl,a2.rev (by omega) (by omega),Fal.one ?_ (by omega)⟩))
       exact Dsc.congr (KK_mirror_equal (by omega) f2.eq) d2
      ·rw[if_neg hc]
       exact wpS_pure ⟨0,rfl,a2,Fal.one d2 (by omega)⟩
     | false =>
      simp only[Bool.false_eq_true,if_false]
      refine wpS_bind (m:=ltAt' (lo+m-1) (lo+m)) (wT L (a2.kd.trans hz) (a2.all pa) (by omega) (by omega) ?_)
      dsimp only
      cases q3:κ.blt (KK κ (arrOf z2) (lo+m-1)) (KK κ (arrOf z2) (lo+m)) with
      | true=>exact wpS_pure ⟨m,t,rfl,m1,by omega,a2,f2⟩
      | false =>
       have ek:KK κ (arrOf z2) (lo+m)=KK κ (arrOf z2) (lo+m-1):=KeyOrd.kle_antisymm q3 q2
       simp only[Bool.false_eq_true,if_false]
       refine wpS_pure ⟨t+1,rfl,a2,Dsc.more f2.dn fun _=>q3,by omega,fun i i1 i2=>?_⟩
       rw[show lo+(m+1)-1=lo+m by omega]
       rcases Nat.lt_or_ge i (lo+m) with p | p
       ·rw[ek];exact f2.eq i (by omega) p
       ·rw[show i=lo+m by omega]
    case ps2 =>
     subst e3
     have s2:=a2.sz
     have fl2:=f2.le
     dsimp only
     by_cases hc:t>0
     ·rw[if_pos hc]
      refine wpS_bind (m:=reverseSlice' (lo+m-(t+1)) (lo+m)) (wpS_reverse ?_)
      have a4:=a2.rev (i:=lo+m-(t+1)) (j:=lo+m) (by omega) (by omega)
      have d4:Dsc κ (arrOf (setArr z2 (mirror (arrOf z2) (lo+m-(t+1)) (lo+m) ((lo+m-(lo+m-(t+1))) / 2)))) lo (lo+m):=Dsc.congr (KK_mirror_equal (by omega) f2.eq) f2.dn
      generalize setArr z2 (mirror (arrOf z2) (lo+m-(t+1)) (lo+m) ((lo+m-(lo+m-(t+1))) / 2))=z5 at a4 d4 ⊢
      have sw:=Ahd.sz a4
      refine wpS_bind (m:=reverseSlice' lo (lo+m)) (wpS_reverse ?_)
      have a3:=Ahd.rev (i:=lo) (j:=lo+m) a4 (Nat.le_refl _) (by omega)
      have u3:Seg κ (arrOf (setArr z5 (mirror (arrOf z5) lo (lo+m) ((lo+m-lo) / 2)))) lo (lo+m):=Dsc.turn d4 (by omega)
      generalize setArr z5 (mirror (arrOf z5) lo (lo+m) ((lo+m-lo) / 2))=z3 at a3 u3 ⊢
      have s3:=a3.sz
      refine wpS_bind (wpS_mono (wpS_forRange (β:=Option (Option Nat)×Nat) (I:=fun x c z4=>z4=z3∧c=(none,x)∧Seg κ (arrOf z3) lo (lo+x)) (Q:=fun c z4=>z4=z3∧∃ y,c=(none,y)∧m≤y∧y≤nrem∧Seg κ (arrOf z3) lo (lo+y)) (fun x c z4 x1 x2 ⟨y1,y2,y3⟩=>?_) (fun c z4 ⟨y1,y2,y3⟩=>⟨y1,nrem,by rw[y2,show max m nrem=nrem by omega],m2,Nat.le_refl _,by rwa [show max m nrem=nrem by omega] at y3⟩) ⟨rfl,rfl,u3⟩) fun c z4 ⟨y1,y,y2,y3,y4,y5⟩=>?_)
      ·subst y1 y2
       refine wpS_bind (m:=ltAt' (lo+x) (lo+x-1)) (wT L (a3.kd.trans hz) (a3.all pa) (by omega) (by omega) ?_)
       dsimp only
       cases q2:κ.blt (KK κ (arrOf z4) (lo+x)) (KK κ (arrOf z4) (lo+x-1)) with
       | true=>exact wpS_pure ⟨rfl,x,rfl,x1,by omega,y3⟩
       | false=>exact wpS_pure ⟨rfl,rfl,Seg.more y3 fun _=>q2⟩
      ·subst y1 y2
       exact wpS_pure (h y z4 (by omega) y4 a3 y5)
     ·rw[if_neg hc]
      have sw:=Ahd.sz a2
      refine wpS_bind (m:=reverseSlice' lo (lo+m)) (wpS_reverse ?_)
      have a3:=Ahd.rev (i:=lo) (j:=lo+m) a2 (Nat.le_refl _) (by omega)
      have u3:Seg κ (arrOf (setArr z2 (mirror (arrOf z2) lo (lo+m) ((lo+m-lo) / 2)))) lo (lo+m):=Dsc.turn f2.dn (by omega)
      generalize setArr z2 (mirror (arrOf z2) lo (lo+m) ((lo+m-lo) / 2))=z3 at a3 u3 ⊢
      have s3:=a3.sz
      refine wpS_bind (wpS_mono (wpS_forRange (β:=Option (Option Nat)×Nat) (I:=fun x c z4=>z4=z3∧c=(none,x)∧Seg κ (arrOf z3) lo (lo+x)) (Q:=fun c z4=>z4=z3∧∃ y,c=(none,y)∧m≤y∧y≤nrem∧Seg κ (arrOf z3) lo (lo+y)) (fun x c z4 x1 x2 ⟨y1,y2,y3⟩=>?_) (fun c z4 ⟨y1,y2,y3⟩=>⟨y1,nrem,by rw[y2,show max m nrem=nrem by omega],m2,Nat.le_refl _,by rwa [show max m nrem=nrem by omega] at y3⟩) ⟨rfl,rfl,u3⟩) fun c z4 ⟨y1,y,y2,y3,y4,y5⟩=>?_)
      ·subst y1 y2
       refine wpS_bind (m:=ltAt' (lo+x) (lo+x-1)) (wT L (a3.kd.trans hz) (a3.all pa) (by omega) (by omega) ?_)
       dsimp only
       cases q2:κ.blt (KK κ (arrOf z4) (lo+x)) (KK κ (arrOf z4) (lo+x-1)) with
       | true=>exact wpS_pure ⟨rfl,x,rfl,x1,by omega,y3⟩
       | false=>exact wpS_pure ⟨rfl,rfl,Seg.more y3 fun _=>q2⟩
      ·subst y1 y2
       exact wpS_pure (h y z4 (by omega) y4 a3 y5)
  ·rw[if_neg g]
   obtain rfl:n=1:=by omega
   have a1:=Ahd.refl lo z'
   have d1:Dsc κ (arrOf z') lo (lo+(1+1)):=Dsc.more (hi:=lo+1) (fun i j i1 ij j2=>by obtain rfl:i=j:=(by omega);exact KeyOrd.kle_refl _) fun _=>KeyOrd.kle_of_klt lt
   refine wpS_bind (wpS_lift (wpAny_rule ⟨rfl,?_⟩))
   refine wpS_bind (wpS_mono (wpS_forRange (β:=Option (Option Nat)×Nat×Nat) (I:=fun x c z2=>∃ q,c=(none,x,q)∧Ahd lo z' z2∧Fal κ (arrOf z2) lo x q) (Q:=fun c z2=>∃ m q,c=(none,m,q)∧1+1≤m∧m≤nrem∧Ahd lo z' z2∧Fal κ (arrOf z2) lo m q) (fun m c z2 m1 m2 ⟨t,e3,a2,f2⟩=>?sp2) (fun c z2 ⟨t,e3,a2,f2⟩=>⟨nrem,t,by rw[e3,show max (1+1) nrem=nrem by omega],by omega,Nat.le_refl _,a2,by rwa [show max (1+1) nrem=nrem by omega] at f2⟩) ⟨0,rfl,a1,Fal.one d1 (by omega)⟩) fun c z2 ⟨m,t,e3,m1,m2,a2,f2⟩=>?ps2)
   case sp2 =>
    subst e3
    have s2:=a2.sz
    have fl2:=f2.le
    refine wpS_bind (m:=ltAt' (lo+m) (lo+m-1)) (wT L (a2.kd.trans hz) (a2.all pa) (by omega) (by omega) ?_)
    dsimp only
    cases q2:κ.blt (KK κ (arrOf z2) (lo+m)) (KK κ (arrOf z2) (lo+m-1)) with
    | true =>
     have d2:Dsc κ (arrOf z2) lo (lo+m+1):=Dsc.more f2.dn fun _=>KeyOrd.kle_of_klt q2
     simp only[if_true]
     by_cases hc:t>0
     ·rw[if_pos hc]
      refine wpS_bind (m:=reverseSlice' (lo+m-(t+1)) (lo+m)) (wpS_reverse (wpS_pure ⟨0,rfl,a2.rev (by omega) (by omega),Fal.one ?_ (by omega)⟩))
      exact Dsc.congr (KK_mirror_equal (by omega) f2.eq) d2
     ·rw[if_neg hc]
      exact wpS_pure ⟨0,rfl,a2,Fal.one d2 (by omega)⟩
    | false =>
     simp only[Bool.false_eq_true,if_false]
     refine wpS_bind (m:=ltAt' (lo+m-1) (lo+m)) (wT L (a2.kd.trans hz) (a2.all pa) (by omega) (by omega) ?_)
     dsimp only
     cases q3:κ.blt (KK κ (arrOf z2) (lo+m-1)) (KK κ (arrOf z2) (lo+m)) with
     | true=>exact wpS_pure ⟨m,t,rfl,m1,by omega,a2,f2⟩
     | false =>
      have ek:KK κ (arrOf z2) (lo+m)=KK κ (arrOf z2) (lo+m-1):=KeyOrd.kle_antisymm q3 q2
      simp only[Bool.false_eq_true,if_false]
      refine wpS_pure ⟨t+1,rfl,a2,Dsc.more f2.dn fun _=>q3,by omega,fun i i1 i2=>?_⟩
      rw[show lo+(m+1)-1=lo+m by omega]
      rcases Nat.lt_or_ge i (lo+m) with p | p
      ·rw[ek];exact f2.eq i (by omega) p
      ·rw[show i=lo+m by omega]
   case ps2 =>
    subst e3
    have s2:=a2.sz
    have fl2:=f2.le
    dsimp only
    by_cases hc:t>0
    ·rw[if_pos hc]
     refine wpS_bind (m:=reverseSlice' (lo+m-(t+1)) (lo+m)) (wpS_reverse ?_)
     have a4:=a2.rev (i:=lo+m-(t+1)) (j:=lo+m) (by omega) (by omega)
     have d4:Dsc κ (arrOf (setArr z2 (mirror (arrOf z2) (lo+m-(t+1)) (lo+m) ((lo+m-(lo+m-(t+1))) / 2)))) lo (lo+m):=Dsc.congr (KK_mirror_equal (by omega) f2.eq) f2.dn
     generalize setArr z2 (mirror (arrOf z2) (lo+m-(t+1)) (lo+m) ((lo+m-(lo+m-(t+1))) / 2))=z5 at a4 d4 ⊢
     have sw:=Ahd.sz a4
     refine wpS_bind (m:=reverseSlice' lo (lo+m)) (wpS_reverse ?_)
     have a3:=Ahd.rev (i:=lo) (j:=lo+m) a4 (Nat.le_refl _) (by omega)
     have u3:Seg κ (arrOf (setArr z5 (mirror (arrOf z5) lo (lo+m) ((lo+m-lo) / 2)))) lo (lo+m):=Dsc.turn d4 (by omega)
     generalize setArr z5 (mirror (arrOf z5) lo (lo+m) ((lo+m-lo) / 2))=z3 at a3 u3 ⊢
     have s3:=a3.sz
     refine wpS_bind (wpS_mono (wpS_forRange (β:=Option (Option Nat)×Nat) (I:=fun x c z4=>z4=z3∧c=(none,x)∧Seg κ (arrOf z3) lo (lo+x)) (Q:=fun c z4=>z4=z3∧∃ y,c=(none,y)∧m≤y∧y≤nrem∧Seg κ (arrOf z3) lo (lo+y)) (fun x c z4 x1 x2 ⟨y1,y2,y3⟩=>?_) (fun c z4 ⟨y1,y2,y3⟩=>⟨y1,nrem,by rw[y2,show max m nrem=nrem by omega],m2,Nat.le_refl _,by rwa [show max m nrem=nrem by omega] at y3⟩) ⟨rfl,rfl,u3⟩) fun c z4 ⟨y1,y,y2,y3,y4,y5⟩=>?_)
     ·subst y1 y2
      refine wpS_bind (m:=ltAt' (lo+x) (lo+x-1)) (wT L (a3.kd.trans hz) (a3.all pa) (by omega) (by omega) ?_)
      dsimp only
      cases q2:κ.blt (KK κ (arrOf z4) (lo+x)) (KK κ (arrOf z4) (lo+x-1)) with
      | true=>exact wpS_pure ⟨rfl,x,rfl,x1,by omega,y3⟩
      | false=>exact wpS_pure ⟨rfl,rfl,Seg.more y3 fun _=>q2⟩
     ·subst y1 y2
      exact wpS_pure (h y z4 (by omega) y4 a3 y5)
    ·rw[if_neg hc]
     have sw:=Ahd.sz a2
     refine wpS_bind (m:=reverseSlice' lo (lo+m)) (wpS_reverse ?_)
     have a3:=Ahd.rev (i:=lo) (j:=lo+m) a2 (Nat.le_refl _) (by omega)
     have u3:Seg κ (arrOf (setArr z2 (mirror (arrOf z2) lo (lo+m) ((lo+m-lo) / 2)))) lo (lo+m):=Dsc.turn f2.dn (by omega)
     generalize setArr z2 (mirror (arrOf z2) lo (lo+m) ((lo+m-lo) / 2))=z3 at a3 u3 ⊢
     have s3:=a3.sz
     refine wpS_bind (wpS_mono (wpS_forRange (β:=Option (Option Nat)×Nat) (I:=fun x c z4=>z4=z3∧c=(none,x)∧Seg κ (arrOf z3) lo (lo+x)) (Q:=fun c z4=>z4=z3∧∃ y,c=(none,y)∧m≤y∧y≤nrem∧Seg κ (arrOf z3) lo (lo+y)) (fun x c z4 x1 x2 ⟨y1,y2,y3⟩=>?_) (fun c z4 ⟨y1,y2,y3⟩=>⟨y1,nrem,by rw[y2,show max m nrem=nrem by omega],m2,Nat.le_refl _,by rwa [show max m nrem=nrem by omega] at y3⟩) ⟨rfl,rfl,u3⟩) fun c z4 ⟨y1,y,y2,y3,y4,y5⟩=>?_)
     ·subst y1 y2
      refine wpS_bind (m:=ltAt' (lo+x) (lo+x-1)) (wT L (a3.kd.trans hz) (a3.all pa) (by omega) (by omega) ?_)
      dsimp only
      cases q2:κ.blt (KK κ (arrOf z4) (lo+x)) (KK κ (arrOf z4) (lo+x-1)) with
      | true=>exact wpS_pure ⟨rfl,x,rfl,x1,by omega,y3⟩
      | false=>exact wpS_pure ⟨rfl,rfl,Seg.more y3 fun _=>q2⟩
     ·subst y1 y2
      exact wpS_pure (h y z4 (by omega) y4 a3 y5)
theorem zGp{lo m ok:Nat}{z:SortSt}{Q:Bool→SortSt→Prop}(hz:kindOf z=kd)(pa:∀ p∈arrOf z,P p)(h1:1≤ok)(hok:ok≤m)(hs:lo+m≤(arrOf z).size)(u:Seg κ (arrOf z) lo (lo+ok))
  (h:∀ z',Ahd lo z z'→Seg κ (arrOf z') lo (lo+m)→Q true z'):wpS (model prog w) A E s (binarySort' lo m ok) Q z:=by
 refine wpS_bind (wpS_mono (wpS_forRange (β:=Option Bool×Unit) (I:=fun k c z'=>c=(none,())∧k≤m∧Ahd lo z z'∧Seg κ (arrOf z') lo (lo+k)) (Q:=fun c z'=>c=(none,())∧Ahd lo z z'∧Seg κ (arrOf z') lo (lo+m)) (fun k c z' k1 k2 ⟨e,km,a1,u'⟩=>?stp) (fun c z' ⟨e,km,a1,u'⟩=>?fin) ⟨rfl,by omega,.refl _ _,by rwa [show max ok 1=ok by omega]⟩) fun c z' ⟨e,a1,u'⟩=>?pst)
 case fin=>exact⟨e,a1,by rwa [show max (max ok 1) m=m by omega] at u'⟩
 case pst =>
  subst e
  exact wpS_pure (h z' a1 u')
 case stp =>
  subst e
  have s1:=a1.sz
  have hk:lo+k<(arrOf z').size:=by omega
  refine wpS_bind (wpS_mono (wpS_forRange (β:=Option Bool×Nat×Nat) (I:=fun x c z''=>z''=z'∧∃ l r,c=(none,l,r)∧(l≤r∧r≤k∧r-l≤k-x)∧(∀ i,i<l→κ.kle (KK κ (arrOf z') (lo+i)) (KK κ (arrOf z') (lo+k)))∧∀ i,r≤i→i<k→κ.klt (KK κ (arrOf z') (lo+k)) (KK κ (arrOf z') (lo+i)))
   (Q:=fun c z''=>z''=z'∧∃ l,(∃ r,c=(none,l,r))∧l≤k∧(∀ i,i<l→κ.kle (KK κ (arrOf z') (lo+i)) (KK κ (arrOf z') (lo+k)))∧∀ i,l≤i→i<k→κ.klt (KK κ (arrOf z') (lo+k)) (KK κ (arrOf z') (lo+i))) (fun x c z'' x1 x2 ⟨e1,l,r,e2,⟨lr,rk,dx⟩,lw,hi⟩=>?is) (fun c z'' ⟨e1,l,r,e2,⟨lr,rk,dx⟩,lw,hi⟩=>?if_) ⟨rfl,0,k,rfl,⟨by omega,by omega,by omega⟩,fun i q=>by omega,fun i q1 q2=>by omega⟩) fun c z'' ⟨e1,l,⟨r,e2⟩,lk,lw,hi⟩=>?ip)
  case is =>
   subst e1 e2
   dsimp only
   by_cases g:l≥r
   ·rw[if_pos g]
    obtain rfl:l=r:=by omega
    exact wpS_pure ⟨rfl,l,⟨_,rfl⟩,rk,lw,hi⟩
   ·rw[if_neg g]
    refine wpS_bind (m:=ltAt' (lo+k) (lo+(l+r) / 2)) (wT L (a1.kd.trans hz) (a1.all pa) hk (by omega) ?_)
    dsimp only
    cases q:κ.blt (KK κ (arrOf z'') (lo+k)) (KK κ (arrOf z'') (lo+(l+r) / 2)) with
    | true=>exact wpS_pure ⟨rfl,l,(l+r) / 2,rfl,⟨by omega,by omega,by omega⟩,lw,fun i i1 i2=>KeyOrd.klt_of_klt_of_kle q (u' _ _ (by omega) (by omega) (by omega))⟩
    | false=>exact wpS_pure ⟨rfl,(l+r) / 2+1,r,rfl,⟨by omega,by omega,by omega⟩,fun i i1=>KeyOrd.kle_trans (u' (lo+i) (lo+(l+r) / 2) (by omega) (by omega) (by omega)) (show κ.kle _ _ from q),hi⟩
  case if_ =>
   subst e1 e2
   obtain rfl:l=r:=by omega
   exact⟨rfl,l,⟨_,rfl⟩,rk,lw,hi⟩
  case ip =>
   subst e1 e2
   refine wpS_bind (m:=moveDown' (lo+k) (lo+l)) ?_
   rw[moveDown'_eq]
   refine wpS_modify (wpS_pure ⟨rfl,by omega,a1.down (by omega) (by omega) hk,fun i j i1 ij jk=>?_⟩)
   show κ.kle (KK κ (bubble (arrOf z'') (lo+k) (lo+k-(lo+l))) i) (KK κ (bubble (arrOf z'') (lo+k) (lo+k-(lo+l))) j)
   rw[KK_bubble hk (by omega),KK_bubble hk (by omega),show lo+k-(lo+k-(lo+l))=lo+l by omega]
   have lw':∀ t,lo≤t→t<lo+l→κ.kle (KK κ (arrOf z'') t) (KK κ (arrOf z'') (lo+k)):=fun t t1 t2=>by
    have:=lw (t-lo) (by omega)
    rwa [show lo+(t-lo)=t by omega] at this
   have hi':∀ t,lo+l≤t→t<lo+k→κ.klt (KK κ (arrOf z'') (lo+k)) (KK κ (arrOf z'') t):=fun t t1 t2=>by
    have:=hi (t-lo) (by omega) (by omega)
    rwa [show lo+(t-lo)=t by omega] at this
   by_cases i2:i=lo+l
   ·rw[if_pos i2]
    by_cases j1:j=lo+l
    ·rw[if_pos j1];exact KeyOrd.kle_refl _
    ·rw[if_neg j1,if_pos ⟨by omega,by omega⟩]
     exact KeyOrd.kle_of_klt (hi' (j-1) (by omega) (by omega))
   ·rw[if_neg i2]
    by_cases i3:lo+l<i∧i≤lo+k
    ·rw[if_pos i3,if_neg (by omega),if_pos ⟨by omega,by omega⟩]
     exact u' (i-1) (j-1) (by omega) (by omega) (by omega)
    ·rw[if_neg i3]
     by_cases j1:j=lo+l
     ·rw[if_pos j1];exact lw' i i1 (by omega)
     ·rw[if_neg j1]
      by_cases j2:lo+l<j∧j≤lo+k
      ·rw[if_pos j2];exact u' i (j-1) i1 (by omega) (by omega)
      ·rw[if_neg j2];exact u' i j i1 ij (by omega)
end
end HM
namespace HM
open PySem PySem.Spec PyProof.Rows HS
section
variable {κ:KeyKind}
def Runs(κ:KeyKind)(xs:Array Keyed):Nat→List (Nat×Nat×Nat)→Nat→Prop
 | lo,[],hi=>lo=hi
 | lo,t::r,hi=>t.1=lo∧1≤t.2.1∧Seg κ xs lo (lo+t.2.1)∧Runs κ xs (lo+t.2.1) r hi
theorem Runs.len{xs:Array Keyed}:∀ {p:List (Nat×Nat×Nat)} {lo hi:Nat},Runs κ xs lo p hi→p.length+lo≤hi
 | [],lo,hi,h=>by have:lo=hi:=h;simp;omega
 | t::r,lo,hi,⟨_,h1,_,h2⟩=>by have:=Runs.len h2;rw[List.length_cons];omega
theorem Runs.app{xs:Array Keyed}:∀ {p q:List (Nat×Nat×Nat)} {lo hi:Nat},Runs κ xs lo (p++q) hi↔∃ mid,Runs κ xs lo p mid∧Runs κ xs mid q hi
 | [],q,lo,hi=>⟨fun h=>⟨lo,rfl,h⟩,fun⟨mid,h1,h2⟩=>by have:lo=mid:=h1;subst this;exact h2⟩
 | t::r,q,lo,hi=>by
  constructor
  ·rintro⟨h1,h2,h3,h4⟩
   obtain⟨mid,h5,h6⟩:=Runs.app.mp h4
   exact⟨mid,⟨h1,h2,h3,h5⟩,h6⟩
  ·rintro⟨mid,⟨h1,h2,h3,h5⟩,h6⟩
   exact⟨h1,h2,h3,Runs.app.mpr ⟨mid,h5,h6⟩⟩
theorem Seg.congr{xs ys:Array Keyed}{lo hi:Nat}(e:∀ k,lo≤k→k<hi→ys[k]?=xs[k]?)(h:Seg κ xs lo hi):Seg κ ys lo hi:=fun i j i1 ij j2=>by
 rw[KK_congr (e i i1 (by omega)),KK_congr (e j (by omega) j2)]
 exact h i j i1 ij j2
theorem Runs.congr{xs ys:Array Keyed}:∀ {p:List (Nat×Nat×Nat)} {lo hi:Nat},(∀ k,lo≤k→k<hi→ys[k]?=xs[k]?)→Runs κ xs lo p hi→Runs κ ys lo p hi
 | [],lo,hi,_,h=>h
 | t::r,lo,hi,e,⟨h1,h2,h3,h4⟩=>by
  have:=h4.len
  exact⟨h1,h2,h3.congr fun k k1 k2=>e k k1 (by omega),Runs.congr (fun k k1 k2=>e k (by omega) k2) h4⟩
theorem Runs.power{xs:Array Keyed}{f:Nat×Nat×Nat→Nat×Nat×Nat}(hf:∀ t,(f t).1=t.1∧(f t).2.1=t.2.1):∀ {p:List (Nat×Nat×Nat)} {lo hi i:Nat},Runs κ xs lo p hi→Runs κ xs lo (p.modify i f) hi
 | [],lo,hi,i,h=>by simpa using h
 | t::r,lo,hi,0,⟨h1,h2,h3,h4⟩=>by
  rw[List.modify_zero_cons]
  obtain⟨f1,f2⟩:=hf t
  exact⟨by rw[f1];exact h1,by rw[f2];exact h2,by rw[f2];exact h3,by rw[f2];exact h4⟩
 | t::r,lo,hi,i+1,⟨h1,h2,h3,h4⟩=>by
  rw[List.modify_succ_cons]
  exact⟨h1,h2,h3,Runs.power hf h4⟩
structure RS (κ:KeyKind) (a0:Array Keyed) (kd:SortKind) (lo:Nat) (z:SortSt):Prop where
 pm:(arrOf z).Perm a0
 kd:kindOf z=kd
 fl:failedOf z=none
 rn:Runs κ (arrOf z) 0 (pendingOf z).toList lo
theorem RS.ahd{a0:Array Keyed}{kd:SortKind}{lo:Nat}{z z':SortSt}(r:RS κ a0 kd lo z)(a:Ahd lo z z'):RS κ a0 kd lo z':=⟨a.pm.trans r.pm,a.kd.trans r.kd,a.fl.trans r.fl,by rw[a.pe];exact r.rn.congr fun k _ k2=>a.fr k k2⟩
theorem zIP{p:List (Nat×Nat×Nat)}{i:Nat}(h:i+1<p.length):∃ p1 x y p2,p=p1++x::y::p2∧p1.length=i:=by
 refine⟨p.take i,p[i],p[i+1],p.drop (i+2),?_,by rw[List.length_take];omega⟩
 rw[List.getElem_cons_drop,List.getElem_cons_drop,List.take_append_drop]
theorem zHe{p:Array (Nat×Nat×Nat)}{p1 p2:List (Nat×Nat×Nat)}{x y v:Nat×Nat×Nat}{i:Nat}(e:p.toList=p1++x::y::p2)(hi:p1.length=i):((p.setIfInBounds i v).eraseIdxIfInBounds (i+1)).toList=p1++v::p2:=by
 subst hi
 have h2:p1.length+1<(p.setIfInBounds p1.length v).size:=by
  rw[Array.size_setIfInBounds,← Array.length_toList,e]
  simp
 rw[Array.eraseIdxIfInBounds,dif_pos h2,Array.toList_eraseIdx,Array.toList_setIfInBounds,e,List.set_append_right _ _ (Nat.le_refl _),Nat.sub_self,List.set_cons_zero,List.eraseIdx_append_of_length_le (by omega)]
 rw[show p1.length+1-p1.length=1 by omega]
 rfl
variable {prog:Program} {w:World} {A:Around} {E:Value→Shared→Prop} {s:Shared} {kd:SortKind} {P:Keyed→Prop} {a0:Array Keyed}
variable (L:∀(z:SortSt) (x y:Keyed) (Q:Option Bool→SortSt→Prop),kindOf z=kd→P x→P y→Q (some (κ.blt (ky κ x) (ky κ y))) z→wpS (model prog w) A E s (lt' x y) Q z)
include L
theorem zA3{i lo:Nat}{z:SortSt}{Q:Bool→SortSt→Prop}(pa:∀ p∈a0,P p)(r:RS κ a0 kd lo z)(hlo:lo≤a0.size)(hi:i+1<(pendingOf z).size)
  (h:∀ z',RS κ a0 kd lo z'→(pendingOf z').size+1=(pendingOf z).size→(∀ k,lo≤k→(arrOf z')[k]?=(arrOf z)[k]?)→Q true z'):wpS (model prog w) A E s (mergeAt' i) Q z:=by
 obtain⟨p1,x,y,p2,e,hl⟩:=zIP (p:=(pendingOf z).toList) (i:=i) (by simpa using hi)
 have rn:=r.rn
 rw[e] at rn
 obtain⟨mid,r1,q1,q2,q3,q4,q5,q6,q7⟩:=Runs.app.mp rn
 obtain⟨sa,na,pw⟩:=x
 obtain⟨sb,nb,pw2⟩:=y
 dsimp only at q1 q2 q3 q4 q5 q6 q7
 subst q1 q4
 have l7:=q7.len
 have sz:=r.pm.size_eq
 have e1:(pendingOf z)[i]?=some (sa,na,pw):=by
  rw[← Array.getElem?_toList,e,List.getElem?_append_right (by omega),hl,Nat.sub_self]
  rfl
 have e2:(pendingOf z)[i+1]?=some (sa+na,nb,pw2):=by
  rw[← Array.getElem?_toList,e,List.getElem?_append_right (by omega),hl,show i+1-i=1 by omega]
  rfl
 refine zGo L r.kd r.fl (fun p hp=>pa p (r.pm.mem_iff.mp hp)) e1 e2 rfl q2 q5 (by omega) q3 q6 fun z' k1 k2 k3 mg=>h z' ⟨mg.pm.trans r.pm,k1,k2,?_⟩ ?_ fun k hk=>mg.fr k (.inr (by omega))
 ·rw[k3,zHe e hl]
  refine Runs.app.mpr ⟨sa,r1.congr fun k _ k2=>mg.fr k (.inl k2),rfl,by show 1≤na+nb;omega,?_,?_⟩
  ·show Seg κ (arrOf z') sa (sa+(na+nb))
   rw[← Nat.add_assoc]
   exact mg.sg
  ·show Runs κ (arrOf z') (sa+(na+nb)) p2 lo
   rw[← Nat.add_assoc]
   exact q7.congr fun k k1 _=>mg.fr k (.inr k1)
 ·have:=congrArg List.length (zHe (v:=(sa,na+nb,pw)) e hl)
  rw[← k3,Array.length_toList] at this
  rw[this,← Array.length_toList (xs:=pendingOf z),e]
  simp
  omega
end
end HM
namespace HM
open PySem PySem.Spec PyProof.Rows HS
section
variable {κ:KeyKind} {prog:Program} {w:World} {A:Around} {E:Value→Shared→Prop} {s:Shared} {kd:SortKind} {P:Keyed→Prop} {a0:Array Keyed}
theorem zLJ{c:Prop}[Decidable c]{a b m:Nat}(ha:a+1<m)(hb:b+1<m):(if c then a else b)+1<m:=by
 split
 ·exact ha
 ·exact hb
theorem RS.push{lo n pw:Nat}{z:SortSt}(r:RS κ a0 kd lo z)(u:Seg κ (arrOf z) lo (lo+n))(hn:1≤n):RS κ a0 kd (lo+n) (setPending z ((pendingOf z).push (lo,n,pw))):=by
 refine⟨r.pm,r.kd,r.fl,?_⟩
 show Runs κ (arrOf z) 0 ((pendingOf z).push (lo,n,pw)).toList (lo+n)
 rw[Array.toList_push]
 exact Runs.app.mpr ⟨lo,r.rn,rfl,hn,u,rfl⟩
theorem RS.repow{lo i:Nat}{z:SortSt}{f:Nat×Nat×Nat→Nat×Nat×Nat}(r:RS κ a0 kd lo z)(hf:∀ t,(f t).1=t.1∧(f t).2.1=t.2.1):RS κ a0 kd lo (setPending z ((pendingOf z).modify i f)):=by
 refine⟨r.pm,r.kd,r.fl,?_⟩
 show Runs κ (arrOf z) 0 ((pendingOf z).modify i f).toList lo
 rw[Array.toList_modify]
 exact r.rn.power hf
variable (L:∀(z:SortSt) (x y:Keyed) (Q:Option Bool→SortSt→Prop),kindOf z=kd→P x→P y→Q (some (κ.blt (ky κ x) (ky κ y))) z→wpS (model prog w) A E s (lt' x y) Q z)
include L
theorem zJn{z:SortSt}{Q:Unit→SortSt→Prop}(pa:∀ p∈a0,P p)(pm:(arrOf z).Perm a0)(hk:kindOf z=kd)(hf:failedOf z=none)(hp:pendingOf z=#[])(h1:1≤a0.size)
  (h:∀ z',(arrOf z').Perm a0→failedOf z'=none→SortedToK κ (arrOf z') a0.size→Q () z'):wpS (model prog w) A E s sortRuns' Q z:=by
 have sz:=pm.size_eq
 rw[sortRuns'_eq]
 refine wpS_bind (wpS_get ?_)
 dsimp only
 rw[sz]
 generalize minRun' a0.size a0.size 0=mr
 refine wpS_bind (wpS_mono (wpS_forRange (I:=fun x c z'=>∃ lo,c=(none,lo)∧lo≤a0.size∧(x≤lo∨lo=a0.size)∧RS κ a0 kd lo z') (Q:=fun c z'=>c=(none,a0.size)∧RS κ a0 kd a0.size z') (fun x c z1 x1 x2 ⟨lo,e1,l1,l2,r1⟩=>?stp) (fun c z1 ⟨lo,e1,l1,l2,r1⟩=>?fin) ⟨0,rfl,by omega,.inl (Nat.le_refl _),pm,hk,hf,by rw[hp];rfl⟩) fun c z1 ⟨e1,r1⟩=>?pst)
 case fin =>
  obtain rfl:lo=a0.size:=by omega
  exact⟨e1,r1⟩
 case stp =>
  subst e1
  dsimp only
  by_cases g:lo≥a0.size
  ·rw[if_pos g]
   obtain rfl:lo=a0.size:=by omega
   exact wpS_pure ⟨rfl,r1⟩
  rw[if_neg g]
  have s1:=r1.pm.size_eq
  refine wpS_bind (zFk L r1.kd (fun p q=>pa p (r1.pm.mem_iff.mp q)) (by omega) (by omega) fun n z2 n1 n2 a2 u2=>?_)
  have r2:=r1.ahd a2
  have s2:=r2.pm.size_eq
  dsimp only
  by_cases gn:n<mr
  ·rw[if_pos gn]
   refine wpS_bind (wpS_lift (wpAny_rule ⟨rfl,?_⟩))
   have fn:n≤min (a0.size-lo) mr:=by omega
   have fs:lo+min (a0.size-lo) mr≤a0.size:=by omega
   generalize min (a0.size-lo) mr=fc at fn fs
   refine wpS_bind (zGp L r2.kd (fun p q=>pa p (r2.pm.mem_iff.mp q)) n1 fn (by omega) u2 fun z3 a3 u3=>?_)
   have r3:=r2.ahd a3
   rw[if_neg (by simp)]
   refine wpS_bind (wpS_get ?_)
   cases hb:(pendingOf z3).back? with
   | none=>exact wpS_bind (wpS_modify (wpS_pure ⟨lo+fc,rfl,by omega,by omega,r3.push u3 (by omega)⟩))
   | some t =>
    obtain⟨s1,n1,o1⟩:=t
    dsimp only
    refine wpS_bind (wpS_mono (wpS_forRange (I:=fun _ c z'=>c=(none,())∧RS κ a0 kd lo z'∧Seg κ (arrOf z') lo (lo+fc)) (Q:=fun c z'=>c=(none,())∧RS κ a0 kd lo z'∧Seg κ (arrOf z') lo (lo+fc)) (fun x c z4 x1 x2 ⟨e4,r4,u4⟩=>?ms) (fun c z4 q=>q) ⟨rfl,r3,u3⟩) fun c z4 ⟨e4,r4,u4⟩=>?mp)
    case ms =>
     subst e4
     refine wpS_bind (wpS_get ?_)
     by_cases g2:(pendingOf z4).size>1
     ·rw[if_pos g2]
      rw[getElem?_pos (pendingOf z4) ((pendingOf z4).size-2) (by omega)]
      dsimp only
      split
      ·exact wpS_pure ⟨rfl,r4,u4⟩
      ·refine wpS_bind (zA3 L pa r4 (by omega) (by omega) fun z5 r5 _ f5=>?_)
       rw[if_neg (by simp)]
       exact wpS_pure ⟨rfl,r5,u4.congr fun k k1 _=>f5 k k1⟩
     ·rw[if_neg g2]
      exact wpS_pure ⟨rfl,r4,u4⟩
    case mp =>
     subst e4
     dsimp only
     refine wpS_bind (wpS_modify (wpS_bind (wpS_modify (wpS_pure ⟨lo+fc,rfl,by omega,by omega,?_⟩))))
     refine RS.push (RS.repow r4 ?_) u4 (by omega)
     exact fun t=>⟨rfl,rfl⟩
  ·rw[if_neg gn]
   refine wpS_bind (wpS_get ?_)
   cases hb:(pendingOf z2).back? with
   | none=>exact wpS_bind (wpS_modify (wpS_pure ⟨lo+n,rfl,by omega,by omega,r2.push u2 (by omega)⟩))
   | some t =>
    obtain⟨s1,n1,o1⟩:=t
    dsimp only
    refine wpS_bind (wpS_mono (wpS_forRange (I:=fun _ c z'=>c=(none,())∧RS κ a0 kd lo z'∧Seg κ (arrOf z') lo (lo+n)) (Q:=fun c z'=>c=(none,())∧RS κ a0 kd lo z'∧Seg κ (arrOf z') lo (lo+n)) (fun x c z4 x1 x2 ⟨e4,r4,u4⟩=>?ms) (fun c z4 q=>q) ⟨rfl,r2,u2⟩) fun c z4 ⟨e4,r4,u4⟩=>?mp)
    case ms =>
     subst e4
     refine wpS_bind (wpS_get ?_)
     by_cases g2:(pendingOf z4).size>1
     ·rw[if_pos g2]
      rw[getElem?_pos (pendingOf z4) ((pendingOf z4).size-2) (by omega)]
      dsimp only
      split
      ·exact wpS_pure ⟨rfl,r4,u4⟩
      ·refine wpS_bind (zA3 L pa r4 (by omega) (by omega) fun z5 r5 _ f5=>?_)
       rw[if_neg (by simp)]
       exact wpS_pure ⟨rfl,r5,u4.congr fun k k1 _=>f5 k k1⟩
     ·rw[if_neg g2]
      exact wpS_pure ⟨rfl,r4,u4⟩
    case mp =>
     subst e4
     dsimp only
     refine wpS_bind (wpS_modify (wpS_bind (wpS_modify (wpS_pure ⟨lo+n,rfl,by omega,by omega,?_⟩))))
     refine RS.push (RS.repow r4 ?_) u4 (by omega)
     exact fun t=>⟨rfl,rfl⟩
 case pst =>
  subst e1
  dsimp only
  have ln:=r1.rn.len
  rw[Array.length_toList] at ln
  refine wpS_bind (wpS_mono (wpS_forRange (I:=fun x c z'=>c=(none,())∧RS κ a0 kd a0.size z'∧((pendingOf z').size+x≤a0.size∨(pendingOf z').size≤1)) (Q:=fun c z'=>c=(none,())∧RS κ a0 kd a0.size z'∧(pendingOf z').size≤1) (fun x c z4 x1 x2 ⟨e4,r4,o4⟩=>?ls) (fun c z4 ⟨e4,r4,o4⟩=>⟨e4,r4,by omega⟩) ⟨rfl,r1,.inl (by omega)⟩) fun c z4 ⟨e4,r4,o4⟩=>?lp)
  case ls =>
   subst e4
   refine wpS_bind (wpS_get ?_)
   by_cases g2:(pendingOf z4).size≤1
   ·rw[if_pos g2]
    exact wpS_pure ⟨rfl,r4,g2⟩
   ·rw[if_neg g2]
    refine wpS_bind (zA3 L pa r4 (Nat.le_refl _) (zLJ (by omega) (by omega)) fun z5 r5 q5 f5=>?_)
    rw[if_neg (by simp)]
    exact wpS_pure ⟨rfl,r5,by omega⟩
  case lp =>
   subst e4
   refine wpS_pure (h z4 r4.pm r4.fl ?_)
   have rn:=r4.rn
   have lp:(pendingOf z4).toList.length≤1:=by simpa using o4
   match hpp:(pendingOf z4).toList,lp with
   | [],_ =>
    rw[hpp] at rn
    have:0=a0.size:=rn
    omega
   | [t],_ =>
    rw[hpp] at rn
    obtain⟨t1,t2,t3,t4⟩:=rn
    have:0+t.2.1=a0.size:=t4
    rw[this] at t3
    exact fun i j ij ja=>t3 i j (Nat.zero_le _) ij ja
end
end HM
namespace HS
open PySem PySem.Spec PyProof.Rows
def ltI:List Int→List Int→Bool
 | [],[]=>false
 | [],_::_=>true
 | _::_,[]=>false
 | a::r,b::t=>if a=b then ltI r t else decide (a<b)
theorem zHf:∀ a,ltI a a=false
 | []=>rfl
 | x::r=>by show(if x=x then ltI r r else _)=false;rw[if_pos rfl];exact zHf r
theorem zEQ:∀ a b c,ltI a b=true→ltI b c=true→ltI a c=true
 | [],[],_,h,_=>by cases h
 | [],_::_,[],_,h=>by cases h
 | [],_::_,_::_,_,_=>rfl
 | _::_,[],_,h,_=>by cases h
 | _::_,_::_,[],_,h=>by cases h
 | x::a,y::b,z::c,h,h'=>by
  simp only[ltI] at h h' ⊢
  split at h<;>split at h'
  ·rename_i e1 e2;rw[if_pos (e1.trans e2)];exact zEQ a b c h h'
  ·rename_i e1 e2;subst e1;rw[if_neg e2];exact h'
  ·rename_i e1 e2;subst e2;rw[if_neg e1];exact h
  ·simp only[decide_eq_true_eq] at h h'
   rw[if_neg (by omega)];simp;omega
theorem zHg:∀ a b c,ltI a c=true→ltI a b=true∨ltI b c=true
 | [],[],_,h=>.inr h
 | [],_::_,_,_=>.inl rfl
 | _::_,_,[],h=>by cases h
 | _::_,[],_::_,_=>.inr rfl
 | x::a,y::b,z::c,h=>by
  simp only[ltI] at h ⊢
  split at h
  ·rename_i e1;subst e1
   by_cases e2:x=y
   ·subst e2;rw[if_pos rfl,if_pos rfl];exact zHg a b c h
   ·rw[if_neg e2,if_neg (Ne.symm e2)];simp;omega
  ·rename_i e1
   simp only[decide_eq_true_eq] at h
   by_cases e2:x=y
   ·subst e2;right;rw[if_neg e1];simp;omega
   ·by_cases e3:y=z
    ·subst e3;left;rw[if_neg e2];simp;omega
    ·rw[if_neg e2,if_neg e3];simp;omega
theorem zC4:∀ a b,ltI a b=false→ltI b a=false→a=b
 | [],[],_,_=>rfl
 | [],_::_,h,_=>by cases h
 | _::_,[],_,h=>by cases h
 | x::a,y::b,h,h'=>by
  simp only[ltI] at h h'
  by_cases e:x=y
  ·subst e;rw[if_pos rfl] at h h';rw[zC4 a b h h']
  ·rw[if_neg e] at h;rw[if_neg (Ne.symm e)] at h'
   simp only[decide_eq_false_iff_not] at h h';omega
def tAt(h:Heap):Value→Option (List Int)
 | .ref a=>match h.get? a with
  | some o=>match o.data with
   | .seq its _=>some (its.toList.map numOf)
   | _=>none
  | none=>none
 | _=>none
abbrev zAZ(h:Heap):KeyKind where
 α:=List Int
 blt:=ltI
 irrefl:=zHf
 trans:=zEQ
 negTrans:=zHg
 total:=zC4
 keyOf:=tAt h
 dflt:=[]
structure TI (h:Heap) (v:Value) (ns:List Int):Prop where
 ex:∃ a o its n,v=.ref a∧h.get? a=some o∧o.cls=.type "tuple"∧o.data=.seq its n∧IntsAre its.toList ns
 ne:ns≠[]
theorem TI.items{h:Heap}{v:Value}{ns:List Int}(t:TI h v ns):tAt h v=some ns:=by
 obtain⟨a,o,its,n,rfl,e,_,d,i⟩:=t.ex
 unfold tAt
 simp only[e,d]
 rw[i.nums]
theorem zEx(b:Bool)(x y:Value):keyLt' (tuples' b) x y=(do
  let xs ← Builtin.List.listItems x;let ys ← Builtin.List.listItems y
  for ((p,q),i) in (xs.toList.zip ys.toList).zipIdx do
   if !(← eqBool p q) then return ← oneLt' (b&&i==0) p q
  return decide (xs.size<ys.size)):=rfl
section
variable {prog:Program} {w:World} {A:Around} {E:Value→Shared→Prop} {s:Shared}
theorem zGq{b:Bool}{i j:Int}{t u:Tok}{Q:Bool→Shared→Prop}(h:Q (decide (i<j)) s):wpAny (model prog w) A (oneLt' b (.int i t) (.int j u)) Q E s:=by
 cases b with
 | true=>exact oneLt_int h
 | false =>
  rw[oneLt'_eq]
  simp only[Bool.false_eq_true,if_false]
  refine wpAny_bind (m:=richCompare .Lt (.int i t) (.int j u)) (wpAny_lt_int ?_)
  exact wpAny_truthy_bool h
def zCn:List Int→List Int→Option Bool
 | a::r,b::t=>if a=b then zCn r t else some (decide (a<b))
 | _,_=>none
theorem zFl:∀ ns ms,ltI ns ms=(zCn ns ms).getD (decide (ns.length<ms.length))
 | [],[]=>rfl
 | [],_::_=>by simp[ltI,zCn]
 | _::_,[]=>by simp[ltI,zCn]
 | a::r,b::t=>by
  simp only[ltI,zCn]
  split
  ·rw[zFl r t];simp
  ·rfl
theorem zHh{b:Bool}{Q:Option Bool×Unit→Shared→Prop}:∀(ps qs:List Value) (ns ms:List Int) (k:Nat),IntsAre ps ns→IntsAre qs ms→Q (zCn ns ms,()) s →
  wpAny (model prog w) A (forIn ((ps.zip qs).zipIdx k) ((none,()):Option Bool×Unit) fun x r=>do
   let e ← eqBool x.1.1 x.1.2
   if (!e)=true then do
    let c ← oneLt' (b&&x.2==0) x.1.1 x.1.2
    pure (ForInStep.done (some c,()))
   else pure (ForInStep.yield (none,()))) Q E s
 | _,_,_,_,k,.nil,_,h=>by
  simp only[List.zip_nil_left,List.zipIdx_nil,List.forIn_nil]
  exact wpAny_pure h
 | _,_,_,_,k,.cons a t i,.nil,h=>by
  simp only[List.zip_nil_right,List.zipIdx_nil,List.forIn_nil]
  exact wpAny_pure h
 | _,_,_,_,k,.cons a t i,.cons c u j,h=>by
  simp only[List.zip_cons_cons,List.zipIdx_cons,List.forIn_cons]
  refine wpAny_bind (wpAny_bind (wpAny_eqBool_int ?_))
  simp only[zCn] at h
  by_cases e:a=c
  ·subst e
   rw[if_pos rfl] at h
   rw[if_neg (by simp)]
   refine wpAny_pure ?_
   exact zHh _ _ _ _ (k+1) i j h
  ·rw[if_neg e] at h
   rw[if_pos (by simpa using e)]
   exact wpAny_bind (zGq (wpAny_pure (wpAny_pure h)))
theorem zIQ{b:Bool}{x y:Value}{ns ms:List Int}{Q:Bool→Shared→Prop}(hx:TI s.heap x ns)(hy:TI s.heap y ms)(h:Q (ltI ns ms) s):wpAny (model prog w) A (keyLt' (tuples' b) x y) Q E s:=by
 obtain⟨a,o,its,n,rfl,e,_,d,i⟩:=hx.ex
 obtain⟨a',o',its',n',rfl,e',_,d',i'⟩:=hy.ex
 rw[zEx]
 refine wpAny_bind (listItems_at e d (wpAny_bind (listItems_at e' d' (wpAny_bind ?_))))
 refine zHh (Q:=_) its.toList its'.toList ns ms 0 i i' ?_
 rw[zFl] at h
 cases q:zCn ns ms with
 | some c =>
  rw[q] at h
  exact wpAny_pure h
 | none =>
  rw[q] at h
  refine wpAny_pure ?_
  have l1:=i.length
  have l2:=i'.length
  simp only[Array.length_toList] at l1 l2
  rw[l1,l2]
  exact h
theorem zIR{v:Value}{ns:List Int}{Q:Option Value→Shared→Prop}(hv:TI s.heap v ns)(h:∀ i t,Q (some (.int i t)) s):wpAny (model prog w) A (firstOfTuple' v) Q E s:=by
 obtain⟨a,o,its,n,rfl,e,c,d,i⟩:=hv.ex
 show wpAny _ _ (do
  if (← typeOf (.ref a)) != .type "tuple" then return none
  return (← Builtin.List.listItems (.ref a))[0]?) _ _ _
 refine wpAny_bind (wpAny_typeOf (T:="tuple") ⟨o,e,c⟩ ?_)
 rw[if_neg (by decide)]
 refine wpAny_bind (listItems_at e d (wpAny_pure ?_))
 obtain⟨l⟩:=its
 cases i with
 | nil=>exact absurd rfl hv.ne
 | cons k t r=>exact h k t
theorem zDd{Q:List (Option Value)→Shared→Prop}:∀(vs:List Value),(∀ v∈vs,∃ ns,TI s.heap v ns)→(∀ fs:List (Option Value),fs.length=vs.length→(∀ f∈fs,∃ i t,f=some (.int i t))→Q fs s)→wpAny (model prog w) A (vs.mapM firstOfTuple') Q E s
 | [],_,h=>by
  simp only[List.mapM_nil]
  exact wpAny_pure (h [] rfl (by simp))
 | v::r,hv,h=>by
  simp only[List.mapM_cons]
  obtain⟨ns,t⟩:=hv v (by simp)
  refine wpAny_bind (zIR t fun i t'=>wpAny_bind (zDd r (fun u hu=>hv u (by simp[hu])) fun fs hl hf=>wpAny_pure (h _ (by simp[hl]) fun f hm=>?_)))
  rcases List.mem_cons.mp hm with e | e
  ·exact⟨i,t',e⟩
  ·exact hf f e
theorem zBB:∀ {vs:List Value},(∀ v∈vs,∃ i t,v=.int i t)→vs.mapM typeOf=pure (vs.map fun _=>Value.type "int")
 | [],_=>by simp
 | v::r,h=>by
  obtain⟨i,t,rfl⟩:=h v (by simp)
  rw[List.mapM_cons,zBB fun u hu=>h u (by simp[hu])]
  show(pure (Value.type "int")>>=fun b=>pure _>>=fun bs=>pure (b::bs))=_
  simp
theorem zAa:∀(fs:List (Option Value)),(∀ f∈fs,∃ i t,f=some (.int i t))→(∀ v∈fs.filterMap id,∃ i t,v=Value.int i t)∧(fs.filterMap id).length=fs.length
 | [],_=>⟨by simp,rfl⟩
 | f::r,h=>by
  obtain⟨i,t,rfl⟩:=h f (by simp)
  obtain⟨h1,h2⟩:=zAa r fun g hg=>h g (by simp[hg])
  simp only[List.filterMap_cons,id]
  exact⟨fun v hv=>by
   rcases List.mem_cons.mp hv with e | e
   ·exact⟨i,t,e⟩
   ·exact h1 v e,by simp[h2]⟩
theorem zFm{vs:List Value}{Q:SortKind→Shared→Prop}(h2:1≤vs.length)(hv:∀ v∈vs,∃ ns,TI s.heap v ns)(h:Q (tuples' true) s):wpAny (model prog w) A (keyKind' vs.toArray) Q E s:=by
 rw[keyKind'_eq]
 rw[List.mapM_toArray]
 refine wpAny_bind ?_
 rw[map_eq_pure_bind]
 refine wpAny_bind (zDd vs hv fun fs hl hf=>wpAny_pure ?_)
 rw[if_pos (by
  simp only[List.all_toArray,List.all_eq_true]
  intro f hm
  obtain⟨i,t,rfl⟩:=hf f hm
  rfl)]
 refine wpAny_bind (wpAny_rule (wpAny_bind ?_))
 obtain⟨q1,q2⟩:=zAa fs hf
 rw[oneTypeOnly'_eq]
 have e0:fs.toArray.filterMap id=(fs.filterMap id).toArray:=by simp
 rw[e0,List.mapM_toArray,zBB q1]
 simp only[map_pure,pure_bind]
 cases q:fs.filterMap id with
 | nil=>rw[q] at q2;simp at q2;omega
 | cons u r =>
  have hall:((List.map (fun _=>Value.type "int") (u::r)).toArray.all fun x=>x==Value.type "int")=true:=by
   simp only[List.all_toArray,List.all_map,List.all_eq_true]
   intro _ _;rfl
  have h0:(List.map (fun _=>Value.type "int") (u::r)).toArray[0]?=some (Value.type "int"):=by simp
  rw[h0]
  simp only[hall,if_true]
  refine wpAny_pure (wpAny_pure ?_)
  exact h
theorem zER{a:Addr}{vs:List Value}{n:Nat}{P:Fin→Shared→Prop}(ho:s.heap.get? a=some (seqObj "list" vs.toArray n))(hv:∀ v∈vs,(∃ ns,TI s.heap v ns)∧v≠.ref a)(h64:vs.length<1000)
  (h:∀ out:Array Value,out.toList.Perm vs→(∀ i j,i≤j→j<out.size→ltI ((tAt s.heap (out.getD j .none)).getD []) ((tAt s.heap (out.getD i .none)).getD [])=false)→P (.done (.ret .none)) { s with heap:=sortedHeap s.heap a vs out }) :
  wpAny (model prog w) A (Builtin.«list.sort» ⟨[.ref a],[]⟩) P E s:=by
 rw[list_sort_plain]
 have ha:a<s.heap.objs.size:=Heap.lt_size ho
 refine wpAny_bind (listItems_at ho rfl (wpAny_bind (listUpdate_at ho rfl ?_)))
 obtain⟨e1,ho1⟩:∃ e1,(s.heap.update a (Obj.mapSeq fun _=>#[])).get? a=some (seqObj "list" #[] e1):=⟨_,get?_update_seq ho (fun _=>#[])⟩
 refine wpAny_bind (seqEpoch_at ho1 rfl (wpAny_bind (wpAny_newTuple (wpAny_bind (wpAny_newList (wpAny_holding ?_))))))
 have up:∀ c o,c≠a→s.heap.get? c=some o→(((s.heap.update a (Obj.mapSeq fun _=>#[])).push (seqObj "tuple" vs.toArray 0)).push (seqObj "list" #[] 0)).get? c=some o:=fun c o hc e=>Heap.get?_push_of_some _ (Heap.get?_push_of_some _ (by rw[Heap.get?_update_ne _ _ _ _ hc];exact e))
 have ho6:(((s.heap.update a (Obj.mapSeq fun _=>#[])).push (seqObj "tuple" vs.toArray 0)).push (seqObj "list" #[] 0)).get? a=some (seqObj "list" #[] e1):=Heap.get?_push_of_some _ (Heap.get?_push_of_some _ ho1)
 show wpAny (model prog w) A _ P E { s with heap:=(((s.heap.update a (Obj.mapSeq fun _=>#[])).push (seqObj "tuple" vs.toArray 0)).push (seqObj "list" #[] 0)) }
 generalize hg:((s.heap.update a (Obj.mapSeq fun _=>#[])).push (seqObj "tuple" vs.toArray 0)).push (seqObj "list" #[] 0)=g at up ho6 ⊢
 have hv':∀ v∈vs,∃ ns,TI g v ns∧tAt s.heap v=some ns:=fun v hm=>by
  obtain⟨⟨ns,t⟩,na⟩:=hv v hm
  have t':=t
  obtain⟨⟨b,o,its,k,rfl,q1,q2,q3,q4⟩,ne⟩:=t
  exact⟨ns,⟨⟨b,o,its,k,rfl,up b o (fun z=>na (by rw[z])) q1,q2,q3,q4⟩,ne⟩,t'.items⟩
 dsimp only
 have fin:∀ z:SortSt,(arrOf z).Perm (pairsOf vs)→SortedToK (zAZ g) (arrOf z) (pairsOf vs).size→P (.done (.ret .none)) { s with heap:=g.update a (Obj.mapSeq fun _=>(arrOf z).map (·.2)) }:=by
  intro z pm st
  have pl:(arrOf z).toList.Perm (vs.zip vs):=by rw[← pairsOf_toList];exact Array.perm_iff_toList_perm.mp pm
  have mem:∀ p∈(arrOf z).toList,p.1=p.2∧p.1∈vs:=fun p hp=>mem_zip_self (pl.mem_iff.mp hp)
  have:=h ((arrOf z).map (·.2)) (by
   have q:=pl.map (·.2)
   rw[Array.toList_map]
   refine q.trans (.of_eq ?_)
   rw[List.map_snd_zip (Nat.le_refl _)]) fun i j ij hj=>by
    have hj':j<(arrOf z).size:=by simpa using hj
    have hi':i<(arrOf z).size:=by omega
    have q:=st i j ij (by rw[← pm.size_eq];exact hj')
    have gk:∀ k,(hk:k<(arrOf z).size)→KK (zAZ g) (arrOf z) k=(tAt s.heap (((arrOf z).map (·.2)).getD k .none)).getD []:=fun k hk=>by
     obtain⟨m1,m2⟩:=mem _ (show(arrOf z)[k]∈(arrOf z).toList by simp)
     obtain⟨ns,t1,t2⟩:=hv' _ m2
     have e1:KK (zAZ g) (arrOf z) k=ns:=by
      unfold KK
      rw[getElem?_pos _ k hk]
      show(tAt g (arrOf z)[k].1).getD []=ns
      rw[t1.items];rfl
     have e2:((arrOf z).map (·.2)).getD k .none=(arrOf z)[k].1:=by
      rw[m1];simp[Array.getD,hk]
     rw[e1,e2,t2];rfl
    rw[← gk i hi',← gk j hj']
    exact q
  unfold sortedHeap at this
  rw[hg] at this
  exact this
 have hsz:vs.toArray.size=vs.length:=by simp
 by_cases h2:vs.toArray.size<2
 ·rw[if_pos h2,if_pos h2]
  refine wpAny_bind (wpAny_pure ?_)
  rw[StateT.run_pure]
  refine wpAny_bind (wpAny_pure (wpAny_bind (seqEpoch_at ho6 rfl (wpAny_bind (listUpdate_at ho6 rfl ?_ (hsz2:=by rw[Array.size_map];show(pairsOf vs).size≤_;rw[pairsOf_size,sizeLine_eq];omega))))))
  simp only[bne_self_eq_false,Bool.false_eq_true,if_false]
  refine wpAny_pure (fin (SortSt.mk' general' (vs.toArray.zip vs.toArray) #[] 7 none) (Array.Perm.refl _) fun i j hij hj=>?_)
  obtain rfl:i=j:=by rw[pairsOf_size] at hj;omega
  exact KeyOrd.kle_refl _
 ·rw[if_neg h2,if_neg h2]
  refine wpAny_bind (zFm (s:={ s with heap:=g }) (by omega) (fun v hm=>by obtain⟨ns,t,_⟩:=hv' v hm;exact⟨ns,t⟩) ?_)
  have L:∀(z:SortSt) (x y:Keyed) (Q:Option Bool→SortSt→Prop),kindOf z=tuples' true→x∈pairsOf vs→y∈pairsOf vs→Q (some ((zAZ g).blt (HM.ky (zAZ g) x) (HM.ky (zAZ g) y))) z→wpS (model prog w) A E { s with heap:=g } (lt' x y) Q z:=by
   intro z x y Q b hi hj q
   have key:∀ p∈pairsOf vs,∃ ns,TI g p.1 ns∧HM.ky (zAZ g) p=ns:=fun p hk=>by
    have hm:p∈vs.zip vs:=by rw[← pairsOf_toList];simpa using hk
    obtain⟨m1,m2⟩:=mem_zip_self hm
    obtain⟨ns,t,_⟩:=hv' _ m2
    refine⟨ns,t,?_⟩
    unfold HM.ky
    show(tAt g p.1).getD []=ns
    rw[t.items];rfl
   obtain⟨ns,x2,x3⟩:=key x hi
   obtain⟨ms,y2,y3⟩:=key y hj
   rw[x3,y3] at q
   rw[lt'_eq]
   refine wpS_bind (wpS_get ?_)
   rw[b]
   exact wpS_bind (wpS_lift (wpAny_attempt (zIQ (s:={ s with heap:=g }) x2 y2 ⟨rfl,wpS_pure q⟩)))
  refine wpAny_bind (wpAny_mono (HM.zJn (a0:=pairsOf vs) L (z:=SortSt.mk' (tuples' true) (vs.toArray.zip vs.toArray) #[] 7 none) (Q:=fun _ z'=>(arrOf z').Perm (pairsOf vs)∧failedOf z'=none∧SortedToK (zAZ g) (arrOf z') (pairsOf vs).size)
   (fun p hp=>hp) (Array.Perm.refl _) rfl rfl rfl (by rw[pairsOf_size];omega) fun z' a1 a2 a3=>⟨a1,a2,a3⟩) ?_ fun _ _ e=>e)
  rintro⟨⟨⟩,z'⟩ s' ⟨e',pm,hf,st⟩
  subst e'
  dsimp only
  refine wpAny_bind (seqEpoch_at ho6 rfl (wpAny_bind (listUpdate_at ho6 rfl ?_ (hsz2:=by refine Nat.le_trans (Nat.le_of_eq ((Array.size_map ..).trans (pm.size_eq.trans (pairsOf_size _)))) ?_;rw[sizeLine_eq];omega))))
  rw[hf]
  simp only[bne_self_eq_false,Bool.false_eq_true,if_false]
  exact wpAny_pure (fin z' pm st)
end
end HS
namespace HS
open PySem PySem.Spec PyProof.Rows
section
variable {prog:Program} {w:World} {A:Around} {E:Value→Shared→Prop} {s:Shared}
theorem zDe{v:Value}{vs:List Value}{Q:Value→Shared→Prop}(hv:∀ u∈vs,∃ ns,TI s.heap u ns)(h64:vs.length<1000)
  (hc:∀(Q':List Value→Shared→Prop),Q' vs { s with heap:=(s.heap.push (seqObj "list" #[] 0)).update s.heap.objs.size (Obj.mapSeq (·++vs.toArray)) }→wpAny (model prog w) A.in1 (collect v) Q' E s)
  (h:∀ out:Array Value,out.toList.Perm vs→(out.toList.map fun u=>(tAt s.heap u).getD []).Pairwise (fun a b=>ltI b a=false)→Q (.ref (s.heap.objs.size+1)) { s with heap:=sortedAll s.heap vs out }) :
  wpAny (model prog w) A (call (.builtin "sorted") [v]) Q E s:=by
 refine Calls.call_function_entry kind_sorted plain_sorted entry_sorted (args_sorted1 _) ?_
 unfold Builtin.«sorted»
 refine wpAny_bind (m:=checkCount "sorted" 1 1 _) (wpAny_pure (wpAny_bind (hc _ (wpAny_bind (wpAny_newList ?_)))))
 have hsz:((s.heap.push (seqObj "list" #[] 0)).update s.heap.objs.size (Obj.mapSeq (·++vs.toArray))).objs.size=s.heap.objs.size+1:=by rw[Heap.size_update,size_push']
 have hoL:(((s.heap.push (seqObj "list" #[] 0)).update s.heap.objs.size (Obj.mapSeq (·++vs.toArray))).push (seqObj "list" vs.toArray 0)).get? (s.heap.objs.size+1)=some (seqObj "list" vs.toArray 0):=by rw[← hsz];exact Heap.get?_push_size _ rfl
 have old:∀ c o,s.heap.get? c=some o→(((s.heap.push (seqObj "list" #[] 0)).update s.heap.objs.size (Obj.mapSeq (·++vs.toArray))).push (seqObj "list" vs.toArray 0)).get? c=some o:=fun c o e=>Heap.get?_push_of_some _ (by
  rw[Heap.get?_update_ne _ _ _ _ (Nat.ne_of_lt (Heap.lt_size e))];exact Heap.get?_push_of_some _ e)
 show wpAny _ _ _ _ _ { s with heap:=((s.heap.push (seqObj "list" #[] 0)).update s.heap.objs.size (Obj.mapSeq (·++vs.toArray))).push (seqObj "list" vs.toArray 0) }
 rw[hsz]
 have eqi:∀ u∈vs,tAt (((s.heap.push (seqObj "list" #[] 0)).update s.heap.objs.size (Obj.mapSeq (·++vs.toArray))).push (seqObj "list" vs.toArray 0)) u=tAt s.heap u∧(∃ ns,TI (((s.heap.push (seqObj "list" #[] 0)).update s.heap.objs.size (Obj.mapSeq (·++vs.toArray))).push (seqObj "list" vs.toArray 0)) u ns)∧u≠.ref (s.heap.objs.size+1):=fun u hu=>by
  obtain⟨ns,t⟩:=hv u hu
  have t0:=t
  obtain⟨⟨a,o,its,n,rfl,e1,e2,e3,e4⟩,ne⟩:=t
  have t':TI (((s.heap.push (seqObj "list" #[] 0)).update s.heap.objs.size (Obj.mapSeq (·++vs.toArray))).push (seqObj "list" vs.toArray 0)) (.ref a) ns:=⟨⟨a,o,its,n,rfl,old a o e1,e2,e3,e4⟩,ne⟩
  refine⟨by rw[t'.items,t0.items],⟨ns,t'⟩,fun z=>?_⟩
  cases z
  exact absurd (Heap.lt_size e1) (Nat.not_lt.mpr (Nat.le_succ _))
 refine wpAny_bind (wpAny_holding (wpAny_call_entry slot_list_sort ⟨_,hoL,rfl⟩ entry_list_sort (zER (s:={ s with heap:=((s.heap.push (seqObj "list" #[] 0)).update s.heap.objs.size (Obj.mapSeq (·++vs.toArray))).push (seqObj "list" vs.toArray 0) }) hoL (fun u hu=>(eqi u hu).2) h64 fun out pm so=>⟨_,rfl,wpAny_pure ⟨_,rfl,h out pm ?_⟩⟩) (args_list_sort _)))
 rw[List.pairwise_iff_getElem]
 intro i j hi hj ij
 have hj':j<out.size:=by simpa using hj
 have hi':i<out.size:=by omega
 have q:=so i j (Nat.le_of_lt ij) hj'
 have g:∀ k,(hk:k<out.size)→tAt (((s.heap.push (seqObj "list" #[] 0)).update s.heap.objs.size (Obj.mapSeq (·++vs.toArray))).push (seqObj "list" vs.toArray 0)) (out.getD k .none)=tAt s.heap out[k]:=fun k hk=>by
  have e:out.getD k .none=out[k]:=by simp[Array.getD,hk]
  rw[e]
  exact(eqi _ (pm.mem_iff.mp (by simp))).1
 rw[g i hi',g j hj'] at q
 simpa using q
end
end HS
namespace L3
open PySem PySem.Spec PyProof.Rows L2 HS
section
variable {X:Cx} {e:Expr} {pos p:Pos} {tl:TL2}
def tI(ns:List Int):D:=.tup (ns.map D.int)
theorem zC5{pins:List (Addr×Obj)}{σ:L2.St}{H:Hp}{s:Shared}(I:zU X pins σ H s):∀ {nss:List (List Int)} {ys:List V} {us:List Value},Dens X.K H (nss.map tI) ys→zW ys us→(∀ ns∈nss,ns≠[]) →
  us.map (fun u=>(tAt s.heap u).getD [])=nss∧∀ u∈us,∃ a ns,u=.ref a∧TI s.heap u ns∧zS X.K H (tI ns) (.ref a)
 | [],ys,us,d,r,_=>by
  simp only[List.map_nil] at d
  unfold Dens at d
  subst d
  cases r
  exact⟨rfl,by simp⟩
 | ns::nss,ys,us,d,r,hne=>by
  simp only[List.map_cons] at d
  unfold Dens at d
  obtain⟨x,xs,rfl,d1,d2⟩:=d
  cases r with
  | cons r1 r2 =>
   rename_i u us'
   obtain⟨q1,q2⟩:=zC5 I d2 r2 fun n hn=>hne n (by simp[hn])
   have d0:=d1
   unfold tI zS at d1
   obtain⟨a,zs,rfl,hs,hd⟩:=d1
   have hz:=hd.ints_inv
   subst hz
   obtain⟨its,rv,⟨o,h1,h2,n,h3⟩,_⟩:=I.tuple hs
   cases (show u=Value.ref a from r1)
   have t:TI s.heap (.ref a) ns:=⟨⟨a,o,its.toArray,n,rfl,h1,h2,h3,by simpa using intsAre_of rv⟩,hne ns (by simp)⟩
   refine⟨by rw[List.map_cons,q1,t.items];rfl,fun v hv=>?_⟩
   rcases List.mem_cons.mp hv with e | e
   ·subst e;exact⟨a,ns,rfl,t,d0⟩
   ·exact q2 v e
theorem zES{pins:List (Addr×Obj)}{σ:L2.St}{H:Hp}{s:Shared}(I:zU X pins σ H s):∀ {us:List Value},(∀ u∈us,∃ a ns,u=.ref a∧TI s.heap u ns∧zS X.K H (tI ns) (.ref a)) →
  ∃ ys:List V,zW ys us∧Dens X.K H ((us.map fun u=>(tAt s.heap u).getD []).map tI) ys
 | [],_=>⟨[],.nil,.nil⟩
 | u::us,h=>by
  obtain⟨ys,v,d⟩:=zES I (us:=us) fun w hw=>h w (List.mem_cons_of_mem _ hw)
  obtain⟨a,ns,rfl,t,d1⟩:=h u (by simp)
  refine⟨.ref a::ys,.cons rfl v,?_⟩
  simp only[List.map_cons]
  rw[t.items]
  exact .cons d1 d
theorem zCE:yk X (.builtin "sorted") (fun xs H Q=>∃(p:Addr) (ys:List V) (nss:List (List Int)),xs=[.ref p]∧(SqL X.K H p ys∨SqT X.K H p ys)∧Dens X.K H (nss.map tI) ys∧nss.length<1000∧(∀ ns∈nss,ns≠[]) ∧
  ∀(l:Addr) (ys':List V) (nss':List (List Int)),H l=none→nss'.Perm nss→Dens X.K H (nss'.map tI) ys'→nss'.Pairwise (fun a b=>ltI b a=false)→Q (.ref l) (yc H l (.lst ys'))):=by
 intro pins s σ H xs us Q I r h
 obtain⟨p,ys,nss,rfl,hq,hd,hz,hne,q⟩:=h
 obtain⟨u,rfl,rx⟩:=vals1 r
 cases rx
 have fin:∀(its:List Value) (out:Array Value),zW ys its→out.toList.Perm its→(out.toList.map fun u=>(tAt s.heap u).getD []).Pairwise (fun a b=>ltI b a=false)→EP X pins σ Q (.ref (s.heap.objs.size+1)) { s with heap:=sortedAll s.heap its out }:=by
  intro its out rv pm so
  obtain⟨q1,q2⟩:=zC5 I hd rv hne
  obtain⟨ys',rv',d'⟩:=zES I (us:=out.toList) fun w hw=>q2 w (pm.mem_iff.mp hw)
  obtain⟨e,he⟩:=sortedAll_at s.heap its out
  have hn:H (s.heap.objs.size+1)=none:=I.hok.fresh (Nat.le_succ _)
  refine⟨.ref (s.heap.objs.size+1),_,I.laid (t':=s.toks) (o:=.lst ys') (fun b u q=>sortedAll_old q) (Nat.le_succ _) ?_,rfl,q _ ys' _ hn (by rw[← q1];exact pm.map _) d' so⟩
  have hp:=pm.length_eq
  have l1:=rv'.length
  have l2:=rv.length
  have l3:=hd.length
  rw[List.length_map] at l3
  refine⟨?_,out.toList,e,rv',?_⟩
  ·rw[sizeLine_eq];omega
  ·rw[he]<;>rfl
 rcases hq with hq | hq
 ·obtain⟨its,rv,pl,_⟩:=I.list hq
  obtain⟨q1,q2⟩:=zC5 I hd rv hne
  have l2:=rv.length
  have l3:=hd.length
  rw[List.length_map] at l3
  exact zDe (vs:=its) (fun w hw=>by obtain⟨_,ns,_,t,_⟩:=q2 w hw;exact⟨ns,t⟩) (by omega) (fun Q' hQ'=>collect_list pl.isList hQ' (by rw[sizeLine_eq];omega)) fun out pm so=>fin its out rv pm so
 ·obtain⟨its,rv,pl,_⟩:=I.tuple hq
  obtain⟨q1,q2⟩:=zC5 I hd rv hne
  have l2:=rv.length
  have l3:=hd.length
  rw[List.length_map] at l3
  exact zDe (vs:=its) (fun w hw=>by obtain⟨_,ns,_,t,_⟩:=q2 w hw;exact⟨ns,t⟩) (by omega) (fun Q' hQ'=>HT.zFT pl hQ') fun out pm so=>fin its out rv pm so
def zDf(t:yt):TL2:=fun σ G R=>t σ G fun ds G1=>match ds with
 | [d]=>∃ nss:List (List Int),zHP G1 d (nss.map tI)∧nss.length<1000∧(∀ ns∈nss,ns≠[])∧∀ nss':List (List Int),nss'.Perm nss→nss'.Pairwise (fun a b=>ltI b a=false)→R (nss'.map tI) G1
 | _=>False
theorem zIS{t:yt}(hg:Gl X "sorted")(hm:X.mg "sorted"=none)(ha:A2 X [e] t)(he:starEach [e] X.env=(false,eval e X.env)::starEach [] X.env:=by rfl)(hpl:(backTo pos (starEach [] X.env)).any (·.1)=false:=by rfl) :
  F2 X (.Call (.Name "sorted" p) [e] [] pos) (zDf t):=by
 refine PE.mono (zAH zCE hg hm boot_sorted ha (by decide) (by decide) he hpl) ?_
 rintro σ1 H Q ⟨σ,G,R,rl,q,k⟩
 refine⟨σ,G,_,rl,q,fun ds G1 q1 vs H1 g1 r1 d1=>?_⟩
 split at q1
 ·rename_i d
  obtain⟨nss,e1,hl,hne,q1⟩:=q1
  obtain⟨v,rfl,d2⟩:=zCk d1
  obtain⟨a,xs,rfl,s1,t1⟩:=zEm r1 d2 e1
  refine⟨a,xs,nss,rfl,s1,t1,hl,hne,fun l' ys' nss' n' h1 h2 h3=>?_⟩
  exact k _ G1 (q1 nss' h1 h3) l' _ _ (g1.trans (.fresh n')) (r1.fresh n') (r1.free n') zi (h2.grow (.fresh n'))
 ·exact q1.elim
def wE(t:TL2):TL2:=fun σ G R=>t σ G fun ds G1=>∃ nss:List (List Int),ds=nss.map tI∧nss.length<1000∧(∀ ns∈nss,ns≠[])∧∀ nss':List (List Int),nss'.Perm nss→nss'.Pairwise (fun a b=>ltI b a=false)→R (nss'.map tI) G1
theorem zBr(hg:Gl X "sorted")(hm:X.mg "sorted"=none)(ha:F2 X e tl)(he:starEach [e] X.env=(false,eval e X.env)::starEach [] X.env:=by rfl)(hpl:(backTo pos (starEach [] X.env)).any (·.1)=false:=by rfl) :
  F2 X (.Call (.Name "sorted" p) [e] [] pos) (wE tl):=by
 refine PE.mono (zAH zCE hg hm boot_sorted (yi ha zAd he) (by decide) (by decide) he hpl) ?_
 rintro σ1 H Q ⟨σ,G,R,rl,q,k⟩
 refine⟨σ,G,_,rl,q,fun ds G1 q1 l xs H1 g1 r1 n e1 d1=>?_⟩
 obtain⟨nss,rfl,hl,hne,q1⟩:=q1
 refine⟨l,xs,nss,rfl,.inl (.of e1),d1,hl,hne,fun l' ys' nss' n' h1 h2 h3=>?_⟩
 exact k _ G1 (q1 nss' h1 h3) l' _ _ (g1.trans (.fresh n')) (r1.fresh n') (r1.free n') zi (h2.grow (.fresh n'))
end
end L3
namespace HT
open PySem PySem.Spec PyProof.Rows
open PySem.AutoSeq1 (wpAny_loadPart')
theorem zDg(l:Addr)(items:Array Value)(n:Nat)(dd:Option Addr)(sl:Array (Option Value))(u:Tok)(hne:items.isEmpty=false) :
  Meets (Builtin.«tuple.__mul__» ⟨[.ref l,.int 0 u],[]⟩) (fun _ R s=>s.heap.get? l=some { cls:=.type "tuple",dict:=dd,data:=.seq items n,slots:=sl } ∧
   R (.ok (.ret (Value.ref s.heap.objs.size))) { s with heap:=s.heap.push { cls:=Value.type "tuple",data:=Data.seq #[] },toks:=s.toks }) :=
 .of_wp fun prog w A R s h=>by
  obtain⟨hp,g,d,tk,os⟩:=s;obtain⟨hl,h⟩:=h
  wp_walk using wpAny_loadPart' hl
  exact⟨_,rfl,h⟩
theorem zDh(l:Addr)(items:Array Value)(n:Nat)(dd:Option Addr)(sl:Array (Option Value))(x:Int)(u:Tok)(h01:x=0∨x=1)(hx:(items.isEmpty||x==1)=true) :
  Meets (Builtin.«tuple.__mul__» ⟨[.ref l,.int x u],[]⟩) (fun _ R s=>s.heap.get? l=some { cls:=.type "tuple",dict:=dd,data:=.seq items n,slots:=sl }∧R (.ok (.ret (Value.ref l))) s) :=
 .of_wp fun prog w A R s h=>by
  obtain⟨hp,g,d,tk,os⟩:=s;obtain⟨hl,h⟩:=h
  wp_walk using wpAny_loadPart' hl
  rw[if_neg (by simp;omega)]
  wp_walk using wpAny_loadPart' hl
  exact⟨_,rfl,h⟩
section
variable {prog:Program} {w:World} {A:Around} {E:Value→Shared→Prop} {s:Shared}
theorem zIT{t:Addr}{vs:List Value}{x:Int}{u:Tok}{Q:Value→Shared→Prop}(ht:IsTup s.heap t vs.toArray)(h01:x=0∨x=1)
  (h1:vs=[]∨x=1→Q (.ref t) s) (h0:vs≠[]∧x=0→Q (.ref s.heap.objs.size) { s with heap:=s.heap.push { cls:=.type "tuple",data:=.seq #[] } }):wpAny (model prog w) A (binaryOp .Mult (.ref t) (.int x u)) Q E s:=by
 obtain⟨⟨cls,dd,data,sl⟩,ho,hc,n,hd⟩:=id ht
 simp only at hc hd
 subst hc hd
 by_cases hx:(vs.toArray.isEmpty||x==1)=true
 ·refine wpAny_binaryOp_repeat_ref (T:="tuple") (U:="int") (by decide) ⟨_,ho,rfl⟩ (fun s'=>typeIs_int s' x u) wY PySem.F.fills_int_mul PySem.F.slot_int_rmul zA2 PySem.F.slot_int_index.lookup
   (call_meets PySem.F.slot_int_rmul (typeIs_int s x u) PySem.F.entry_int_rmul (PySem.F.args_int_rmul_2 _ _) (zAN x u t vs.toArray n dd sl)
    ⟨ho,rfl,⟨_,ho,rfl⟩,call_meets PySem.F.slot_tuple_mul ⟨_,ho,rfl⟩ PySem.F.entry_tuple_mul (PySem.F.args_tuple_mul_2 _ _)
     (zDh t vs.toArray n dd sl x u h01 hx) ⟨ho,h1 ?_⟩⟩)
  simpa using hx
 ·have e:vs≠[]∧x=0:=by
   simp only[Bool.or_eq_true,not_or] at hx
   refine⟨fun z=>hx.1 (by rw[z];rfl),?_⟩
   rcases h01 with e | e
   ·exact e
   ·exact absurd (by rw[e];rfl) hx.2
  obtain⟨hv,rfl⟩:=e
  exact wpAny_binaryOp_repeat_ref (T:="tuple") (U:="int") (by decide) ⟨_,ho,rfl⟩ (fun s'=>typeIs_int s' 0 u) wY PySem.F.fills_int_mul PySem.F.slot_int_rmul zA2 PySem.F.slot_int_index.lookup
   (call_meets PySem.F.slot_int_rmul (typeIs_int s 0 u) PySem.F.entry_int_rmul (PySem.F.args_int_rmul_2 _ _) (zAN 0 u t vs.toArray n dd sl)
    ⟨ho,rfl,⟨_,ho,rfl⟩,call_meets PySem.F.slot_tuple_mul ⟨_,ho,rfl⟩ PySem.F.entry_tuple_mul (PySem.F.args_tuple_mul_2 _ _)
     (zDg t vs.toArray n dd sl u (by simpa using hv)) ⟨ho,h0 ⟨hv,rfl⟩⟩⟩)
end
end HT
namespace L3
open PySem PySem.Spec PyProof.Rows L2
section
variable {X:Cx} {a b c e o:Expr} {es:List Expr} {pos p:Pos} {ta tb te:zk}
def zEy(K:PySem.W.Frag):R2:=fun x y H Q=>∃ a xs k,x=.ref a∧y=.int k∧SqT K H a xs∧(k=0∨k=1)∧(xs=[]∨k=1→Q (.ref a) H)∧(xs≠[]∧k=0→∀ p,H p=none→Q (.ref p) (yc H p (.tup [])))
theorem zJo:OpR X (binaryOp .Mult) (zEy X.K):=by
 intro pins s σ H x y v u Q I rx ry h
 obtain⟨a,xs,k,rfl,rfl,ha,h01,q1,q2⟩:=h
 cases rx
 obtain⟨tk,rfl⟩:=ry
 obtain⟨its,r1,p1,_⟩:=I.tuple ha
 refine HT.zIT p1 h01 (fun h=>⟨.ref a,H,I,rfl,q1 (h.imp (fun z=>r1.nil_iff.mp z) id)⟩) fun h=>?_
 have hn:H s.heap.objs.size=none:=I.hok.fresh (Nat.le_refl _)
 refine⟨.ref s.heap.objs.size,_,I.laid (t':=s.toks) (o:=.tup []) (fun b ob q=>Heap.get?_push_of_some _ q) (Nat.le_refl _) ?_,rfl,q2 ⟨fun z=>h.1 (r1.nil_iff.mpr z),h.2⟩ _ hn⟩
 exact⟨by simp,[],.nil,zCQ.new _ _⟩
def zJp:D→D→Gp→Q2→Prop:=fun x y G R=>match x,y with
 | .tup xs,.int k=>(k=0∨k=1)∧R (.tup (if k=1 then xs else [])) G
 | _,_=>False
theorem zIU{K:PySem.W.Frag}:Fit K (zEy K) zJp:=by
 intro dx dy G R x y H Q h r d1 d2 k
 unfold zJp at h
 split at h
 ·rename_i xs j
  obtain⟨h01,h⟩:=h
  have d1':=d1
  unfold zS at d1 d2
  obtain⟨a,us,rfl,s1,t1⟩:=d1
  subst d2
  have hl:=t1.length
  refine⟨a,us,j,rfl,rfl,s1,h01,fun hh=>?_,fun hh p hp=>?_⟩
  ·refine k _ G h _ _ (.refl _) r ?_
   rcases hh with e | e
   ·subst e
    have:xs=[]:=List.length_eq_zero_iff.mp hl
    subst this
    have e2:(if j=1 then ([]:List D) else [])=[]:=by split<;>rfl
    rw[e2];exact d1'
   ·rw[if_pos e];exact d1'
  ·refine k _ G h _ _ (.fresh hp) (r.fresh hp) ?_
   rw[if_neg (by omega)]
   unfold zS
   exact⟨p,[],rfl,.of zi,.nil⟩
 ·exact h.elim
theorem zIV:yk X (.type "int") (fun xs H Q=>∃ b,xs=[.bl b]∧Q (.int (if b then 1 else 0)) H):=by
 intro pins s σ H xs us Q I r h
 obtain⟨b,rfl,q⟩:=h
 obtain⟨u,rfl,rx⟩:=vals1 r
 obtain rfl:u=Value.bool b:=rx
 exact call_int_bool ⟨.int _,H,I.tok _,⟨_,rfl⟩,q⟩
def zCg:Sp2:=fun ds G R=>match ds with | [.bl b]=>R (.int (if b then 1 else 0)) G | _=>False
theorem zJq{K:PySem.W.Frag}:zGT K (fun xs H Q=>∃ b,xs=[.bl b]∧Q (.int (if b then 1 else 0)) H) zCg:=by
 intro ds G R vs H Q h r d k
 unfold zCg at h
 split at h
 ·rename_i b
  obtain⟨v,rfl,d2⟩:=zCk d
  unfold zS at d2
  subst d2
  exact⟨b,rfl,k _ G h _ H (.refl H) r (by unfold zS;rfl)⟩
 ·exact h.elim
theorem zM5{t:yt}(hg:Gl X "int")(hm:X.mg "int"=none)(ha:A2 X [e] t)(he:starEach [e] X.env=(false,eval e X.env)::starEach [] X.env:=by rfl)(hpl:(backTo pos (starEach [] X.env)).any (·.1)=false:=by rfl) :
  E2 X (.Call (.Name "int" p) [e] [] pos) (zK zCg t):=zFP zIV zJq hg hm (by decide +kernel) ha (by decide) (by decide) he hpl
end
end L3
namespace L3
open PySem PySem.Spec PyProof.Rows L2
section
variable {X:Cx} {a b c e o we:Expr} {es:List Expr} {pos p:Pos} {ta tb te tw:zk}
end
end L3
namespace HI
open PySem PySem.Spec PyProof.Rows
def Ris(xs:Array Nat):Prop:=xs.toList.Pairwise (·<·)
theorem Ris.lt{xs:Array Nat}(h:Ris xs){i k:Nat}(ik:i<k)(hk:k<xs.size):xs[i]'(Nat.lt_trans ik hk)<xs[k]:=by
 have:=List.pairwise_iff_getElem.mp h i k (by simpa using Nat.lt_trans ik hk) (by simpa using hk) ik
 simpa using this
theorem zJr{xs:Array Nat}{j:Nat}(hr:Ris xs):∀(fuel lo hi:Nat),hi≤xs.size→lo≤hi→hi-lo≤fuel→(∀ i,(q:i<xs.size)→i<lo→xs[i]<j)→(∀ i,(q:i<xs.size)→hi≤i→j≤xs[i]) →
  (∀ i,(q:i<xs.size)→i<SetTable.below.go xs j fuel lo hi→xs[i]<j)∧∀ i,(q:i<xs.size)→SetTable.below.go xs j fuel lo hi≤i→j≤xs[i]
 | 0,lo,hi,h1,h2,h3,a,b=>by
  unfold SetTable.below.go
  obtain rfl:lo=hi:=by omega
  exact⟨fun i q e=>a i q e,fun i q e=>b i q e⟩
 | fuel+1,lo,hi,h1,h2,h3,a,b=>by
  unfold SetTable.below.go
  by_cases c:lo<hi
  ·rw[if_pos c]
   dsimp only
   have hm:(lo+hi) / 2<xs.size:=by omega
   have eg:xs.getD ((lo+hi) / 2) j=xs[(lo+hi) / 2]:=by simp[Array.getD,hm]
   rw[eg]
   by_cases d:xs[(lo+hi) / 2]<j
   ·rw[if_pos d]
    refine zJr hr fuel ((lo+hi) / 2+1) hi h1 (by omega) (by omega) (fun i q e=>?_) b
    rcases Nat.lt_or_ge i ((lo+hi) / 2) with z | z
    ·exact Nat.lt_trans (hr.lt z hm) d
    ·obtain rfl:i=(lo+hi) / 2:=by omega
     exact d
   ·rw[if_neg d]
    refine zJr hr fuel lo ((lo+hi) / 2) (by omega) (by omega) (by omega) a (fun i q e=>?_)
    rcases Nat.lt_or_ge ((lo+hi) / 2) i with z | z
    ·exact Nat.le_trans (Nat.not_lt.mp d) (Nat.le_of_lt (hr.lt z q))
    ·obtain rfl:i=(lo+hi) / 2:=by omega
     exact Nat.not_lt.mp d
  ·rw[if_neg c]
   obtain rfl:lo=hi:=by omega
   exact⟨fun i q e=>a i q e,fun i q e=>b i q e⟩
theorem zDi{xs:Array Nat}{j:Nat}(hr:Ris xs):(∀ i,(q:i<xs.size)→i<SetTable.below xs j→xs[i]<j)∧∀ i,(q:i<xs.size)→SetTable.below xs j≤i→j≤xs[i]:=by
 unfold SetTable.below
 exact zJr hr xs.size 0 xs.size (Nat.le_refl _) (Nat.zero_le _) (by omega) (fun i q e=>absurd e (Nat.not_lt_zero _)) (fun i q e=>absurd q (Nat.not_lt.mpr e))
theorem zLK{xs:Array Nat}{j:Nat}(hr:Ris xs)(hn:xs[SetTable.below xs j]?≠some j):Ris (SetTable.insertAt xs (SetTable.below xs j) j):=by
 obtain⟨b1,b2⟩:=zDi (j:=j) hr
 generalize SetTable.below xs j=p at *
 unfold Ris
 rw[SetTable.toList_insertAt]
 have hd:∀ a∈xs.toList.drop p,j<a:=fun a ha=>by
  obtain⟨i,hi,rfl⟩:=List.mem_iff_getElem.mp ha
  rw[List.length_drop,Array.length_toList] at hi
  have hpi:p+i<xs.size:=by omega
  rw[List.getElem_drop,Array.getElem_toList]
  have h1:=b2 (p+i) hpi (by omega)
  rcases Nat.eq_or_lt_of_le h1 with e | e
  ·exfalso
   cases i with
   | zero =>
    apply hn
    rw[getElem?_pos xs p (by omega)]
    congr 1
    simpa using e.symm
   | succ i =>
    have hp:p<xs.size:=by omega
    have:=b2 p hp (Nat.le_refl _)
    have l:=hr.lt (i:=p) (k:=p+(i+1)) (by omega) hpi
    omega
  ·exact e
 have ht:∀ a∈xs.toList.take p,a<j:=fun a ha=>by
  obtain⟨i,hi,rfl⟩:=List.mem_iff_getElem.mp ha
  rw[List.length_take,Array.length_toList] at hi
  rw[List.getElem_take,Array.getElem_toList]
  exact b1 i (by omega) (by omega)
 refine List.pairwise_append.mpr ⟨hr.sublist (List.take_sublist _ _),List.pairwise_cons.mpr ⟨hd,hr.sublist (List.drop_sublist _ _)⟩,fun a ha b hb=>?_⟩
 rcases List.mem_cons.mp hb with e | e
 ·rw[e];exact ht a ha
 ·exact Nat.lt_trans (ht a ha) (hd b e)
end HI
namespace HI
open PySem PySem.Spec PyProof.Rows
abbrev kyI(e:Int×Value):Int:=numOf e.2
def OkE(prog:Program)(w:World)(l:List (Int×Value)):Prop:=∀ e∈l,∃ k u,e=((intKind prog w).hash k,.int k u)
def SI(prog:Program)(w:World)(h:Heap)(a:Addr)(ks:List Int):Prop :=
 ∃ o es ep t,h.get? a=some o∧o.ExactSet∧o.data=.set es ep t∧OkE prog w es.toList∧es.toList.map kyI=ks∧es.size<scanBound∧t.fits es.size=true∧Ris t.place∧t.led=!(w.params.followText "set-order")
section
variable {prog:Program} {w:World} {A:Around} {E:Value→Shared→Prop} {s:Shared}
theorem SI.keep{h h':Heap}{a:Addr}{ks:List Int}(x:SI prog w h a ks)(k:∀ o,h.get? a=some o→h'.get? a=some o):SI prog w h' a ks:=let ⟨o,es,ep,t,e,r⟩:=x;⟨o,es,ep,t,k o e,r⟩
end
section
variable {prog:Program} {w:World} {A:Around} {R:Result→Shared→Prop} {I:Addr} {fp wr:List Addr} {G:Array GenState→Array GenState→Prop} {n:Nat} {P:Nat→Value→Prop} {St:Nat→Shared→Prop}
end
end HI
namespace HI
open PySem PySem.Spec PyProof.Rows
abbrev zDj(w:World):Bool:=!(w.params.followText "set-order")
abbrev zJs(w:World):Obj:={ cls:=.type "set",dict:=none,data:=.set #[] 0 (.fresh 0 0 (zDj w)) }
section
variable {prog:Program} {w:World} {A:Around} {E:Value→Shared→Prop} {s:Shared}
theorem zFn(v:Value){Q1:Value→Shared→Prop}(h:Q1 (.ref s.heap.objs.size) { s with heap:=s.heap.push (zJs w) }) :
  codeAny (model prog w) A (.call (.builtin "set.__new__") ⟨[.type "set",v],[]⟩) (wants Q1 E) s:=by
 refine codeAny_of_tree ?_
 show wpAny _ A.in1 (do checkBuiltinCall "set.__new__" ⟨[.type "set",v],[]⟩;again (.builtin "set.__new__" ⟨[.type "set",v],[]⟩)) _ _ s
 refine wpAny_bind (wpAny_of_eq (F.newCall_set_1 v) (wpAny_pure ⟨plainId_quiet F.plain_set_new _,codeAny_builtin F.entry_set_new ?_⟩))
 rw[Around.under_plainId F.plain_set_new _]
 unfold Builtin.«set.__new__» Builtin.Frozenset.newClass
 have hsub:=sub_set_self
 obtain⟨hp,g,d,tk,os⟩:=s
 dsimp only
 wp_walk
 refine wpAny_askSetting (wpAny_pure ?_)
 dsimp only
 simp only[newObj]
 exact wpAny_bind (wpAny_alloc (wpAny_pure (wpAny_pure h)))
end
end HI
namespace HI
open PySem PySem.Spec PyProof.Rows
theorem zAl:Slot "set_iterator" "__next__" "set_iterator.__next__" :=
 .of (owner:="set_iterator") (n:="__next__") (by rw[typeLookup_type,builtinLookup_eq_fast];kernel_rfl) (by decide +kernel) (by decide +kernel) (by decide +kernel) (by first | exact .inl (by decide +kernel) | exact .inr (by decide +kernel)) (by rw[isSubtype_type];kernel_rfl)
theorem zET:entryFor table "set_iterator.__next__"=some Builtin.«set_iterator.__next__»:=entryFor_of_tree (by kernel_rfl)
theorem zFo(v:Value):argsOk "set_iterator.__next__" ⟨[v],[]⟩:=by unfold argsOk;kernel_rfl
theorem zJt:entryFor table "set.__iter__"=some Builtin.«frozenset.__iter__»:=entryFor_alias (id':="frozenset.__iter__") (by kernel_rfl) rfl (by decide +kernel) (by kernel_rfl)
theorem zHi{α:Type}:∀(l:List α) (i:Nat) (h:i<l.length),([l[i]]++l.eraseIdx i).Perm l
 | a::r,0,_=>.refl _
 | a::r,i+1,h=>by
  have hi:i<r.length:=by simpa using h
  have q:=zHi r i hi
  show([r[i]]++(a::r.eraseIdx i)).Perm (a::r)
  exact(List.Perm.swap a r[i] _).trans (q.cons a)
theorem zHj{α:Type}(f:Nat→Nat):∀(n k:Nat) (l:List α) (out:Array α),l.length=n→(pickOrder.go f n k l out).toList.Perm (out.toList++l)
 | 0,k,l,out,h=>by
  have:l=[]:=List.length_eq_zero_iff.mp h
  subst this
  unfold pickOrder.go
  simp
 | n+1,k,l,out,h=>by
  unfold pickOrder.go
  have hi:f k%l.length<l.length:=Nat.mod_lt _ (by omega)
  rw[List.getElem?_eq_getElem hi]
  dsimp only
  refine(zHj f n (k+1) _ _ (by rw[List.length_eraseIdx_of_lt hi];omega)).trans ?_
  rw[Array.toList_push,List.append_assoc]
  refine List.Perm.append_left _ ?_
  exact zHi l _ hi
theorem zEU{α:Type}(f:Nat→Nat)(xs:Array α):(pickOrder f xs).toList.Perm xs.toList:=by
 unfold pickOrder
 simpa using zHj f xs.size 0 xs.toList #[] (by simp)
section
variable {prog:Program} {w:World} {A:Around} {E:Value→Shared→Prop} {s:Shared}
theorem zDk{Q:Bool→Shared→Prop}(h:Q (w.params.followText "set-order") s):wpAny (model prog w) A setsByText Q E s:=by
 unfold setsByText
 exact wpAny_bind (wpAny_askSetting (wpAny_pure h))
abbrev zDl(f:Value)(i:Int)(a:Addr)(n:Nat)(ep:Nat):Obj:={ cls:=.type "set_iterator",dict:=none,data:=.fields #[f,rawInt i,.ref a,rawInt n,rawInt ep],slots:=#[] }
structure Sx (h:Heap) (a:Addr) (es:Array (Int×Value)) (ep:Nat) (t:SetTable):Prop where
 ex:∃ o,h.get? a=some o∧o.ExactSet∧o.data=.set es ep t
theorem Sx.keep{h h':Heap}{a:Addr}{es:Array (Int×Value)}{ep:Nat}{t:SetTable}(x:Sx h a es ep t)(k:∀ o,h.get? a=some o→h'.get? a=some o):Sx h' a es ep t:=let ⟨o,e,r⟩:=x.ex;⟨o,k o e,r⟩
def Tells(prog:Program)(w:World)(a:Addr)(es:Array (Int×Value))(ep:Nat)(t:SetTable)(sl:Nat→Nat)(xs:List Value):Prop :=
 ∀(A:Around) (E:Value→Shared→Prop) (s:Shared) (i:Nat) (Q:Option (Value×Nat)→Shared→Prop),i≤xs.length→Sx s.heap a es ep t→Q ((xs[i]?).map fun v=>(v,sl (i+1))) s→wpAny (model prog w) A (setNext a (sl i) i ep) Q E s
theorem zGr{a:Addr}{es:Array (Int×Value)}{ep:Nat}{t:SetTable}(hf:t.fits es.size=true)(hb:w.params.followText "set-order"=true):Tells prog w a es ep t (fun _=>0) ((pickOrder (w.params.setOrder a ep) es).toList.map (·.2)):=by
 intro A E s i Q hi hx h
 obtain⟨o,ho,_,hd⟩:=hx.ex
 unfold setNext
 refine wpAny_bind (wpAny_setState_of ho hd hf ?_)
 dsimp only
 refine wpAny_bind (zDk ?_)
 rw[hb]
 simp only[↓reduceIte,bne_self_eq_false,Bool.false_eq_true]
 refine wpAny_bind ?_
 unfold setWalk
 refine wpAny_bind (wpAny_setState_of ho hd hf ?_)
 dsimp only
 refine wpAny_bind (zDk ?_)
 rw[hb]
 simp only[↓reduceIte]
 refine wpAny_bind (wpAny_askSetting (wpAny_pure (wpAny_pure ?_)))
 rw[List.getElem?_map,Option.map_map,Array.getElem?_toList] at h
 exact h
theorem below_at{xs:Array Nat}(hr:Ris xs){i:Nat}(hi:i≤xs.size):(i<xs.size→SetTable.below xs (if i=0 then 0 else xs.getD (i-1) 0+1)=i)∧(i=xs.size→xs.size≤SetTable.below xs (if i=0 then 0 else xs.getD (i-1) 0+1)):=by
 generalize hj:(if i=0 then 0 else xs.getD (i-1) 0+1)=j
 obtain⟨b1,b2⟩:=zDi (j:=j) hr
 generalize SetTable.below xs j=p at b1 b2
 have lo:i≤p:=by
  rcases Nat.lt_or_ge p i with q | q
  ·exfalso
   have h1:=b2 p (by omega) (Nat.le_refl _)
   rw[if_neg (by omega)] at hj
   have h0:i-1<xs.size:=by omega
   have e:xs.getD (i-1) 0=xs[i-1]:=by simp[Array.getD,h0]
   rw[e] at hj
   rcases Nat.lt_or_ge p (i-1) with z | z
   ·have:=hr.lt z h0;omega
   ·have e2:p=i-1:=by omega
    subst e2;omega
  ·exact q
 refine⟨fun h=>?_,fun h=>by omega⟩
 rcases Nat.lt_or_ge i p with q | q
 ·exfalso
  have h1:=b1 i h q
  by_cases z:i=0
  ·rw[if_pos z] at hj;omega
  ·rw[if_neg z] at hj
   have h0:i-1<xs.size:=by omega
   have e:xs.getD (i-1) 0=xs[i-1]:=by simp[Array.getD,h0]
   have:=hr.lt (i:=i-1) (k:=i) (by omega) h
   omega
 ·omega
theorem zFp{a:Addr}{es:Array (Int×Value)}{ep:Nat}{t:SetTable}(hf:t.fits es.size=true)(hr:Ris t.place)(hb:w.params.followText "set-order"=false)(hl:t.led=true)(hp:(!t.plain&&decide (es.size>1))=false) :
  Tells prog w a es ep t (fun i=>if i=0 then 0 else t.place.getD (i-1) 0+1) (es.toList.map (·.2)):=by
 intro A E s i Q hi hx h
 obtain⟨o,ho,_,hd⟩:=hx.ex
 have hs:t.place.size=es.size:=by
  simp only[SetTable.fits,Bool.and_eq_true,beq_iff_eq] at hf
  exact hf.1
 unfold setNext
 refine wpAny_bind (wpAny_setState_of ho hd hf ?_)
 dsimp only
 refine wpAny_bind (zDk ?_)
 rw[hb]
 simp only[Bool.false_eq_true,↓reduceIte]
 refine wpAny_ite_split (fun q=>absurd (show(!t.plain&&decide (es.size>1))=true from q) (by rw[hp];decide)) (fun _=>?_)
 refine wpAny_bind (wpAny_ite_split (fun q=>absurd q (by rw[hl];simp)) (fun _=>wpAny_pure (wpAny_pure ?_)))
 rw[List.length_map,Array.length_toList] at hi
 obtain⟨b1,b2⟩:=below_at hr (i:=i) (by omega)
 rw[List.getElem?_map,Option.map_map,Array.getElem?_toList] at h
 rcases Nat.lt_or_ge i es.size with q | q
 ·rw[b1 (by omega),getElem?_pos es i q,getElem?_pos t.place i (by omega)]
  rw[getElem?_pos es i q] at h
  have e:t.place.getD (i+1-1) 0=t.place[i]'(by omega):=by simp[Array.getD,hs,q]
  have h':Q (some (es[i].2,if i+1=0 then 0 else t.place.getD (i+1-1) 0+1)) s:=h
  rw[if_neg (by omega),e] at h'
  exact h'
 ·have hn:es[SetTable.below t.place (if i=0 then 0 else t.place.getD (i-1) 0+1)]?=none:=by
   rw[Array.getElem?_eq_none_iff]
   have:=b2 (by omega)
   omega
  have hn2:es[i]?=none:=by rw[Array.getElem?_eq_none_iff];exact q
  rw[hn]
  rw[hn2] at h
  exact h
end
end HI
namespace HI
open PySem PySem.Spec PyProof.Rows
section
variable {prog:Program} {w:World} {A:Around} {E:Value→Shared→Prop} {s:Shared}
theorem zJu{a it:Addr}{es:Array (Int×Value)}{ep:Nat}{t:SetTable}{sl:Nat→Nat}{xs:List Value}(T:Tells prog w a es ep t sl xs)(hf:t.fits es.size=true)(hx:xs.length=es.size){i:Nat}(hi:i<es.size)(hit:s.heap.get? it=some (zDl (rawInt (sl i)) i a es.size ep))(hS:Sx s.heap a es ep t)(hne:a≠it){Q:Option Value→Shared→Prop}
  (hQ:∀ h' v,xs[i]?=some v→h'.get? it=some (zDl (rawInt (sl (i+1))) ((i+1:Nat):Int) a es.size ep)→(∀ b o,b≠it→s.heap.get? b=some o→h'.get? b=some o)→Q (some v) { s with heap:=h' }):wpAny (model prog w) A (pyNext (.ref it)) Q E s:=by
 have hT:s.TypeIs (.ref it) "set_iterator":=⟨_,hit,rfl⟩
 obtain⟨o,ho,_,hd⟩:=hS.ex
 unfold pyNext
 refine wpAny_bind (wpAny_attempt (wpAny_callSpecial?_slot (name:=Str.ofString "__next__") hT zAl (wpAny_call_entry zAl hT zET ?_ (zFo _))))
 unfold Builtin.«set_iterator.__next__»
 refine wpAny_bind (m:=slotArgs "__next__" 0 _) (wpAny_pure ?_)
 refine wpAny_bind (wpAny_fieldsOf hit rfl ?_)
 simp only[rawInt]
 refine wpAny_bind (wpAny_setEntries_of ho hd hf ?_)
 simp only[bne_self_eq_false,Bool.false_eq_true,↓reduceIte]
 simp only[Int.toNat_natCast]
 refine wpAny_bind (T _ _ _ i _ (by omega) hS ?_)
 rw[List.getElem?_eq_getElem (show i<xs.length by omega)]
 refine wpAny_bind (wpAny_setField_rec hit (by simp) fun h1 e1 s1=>wpAny_bind (wpAny_setField_rec e1 (by simp) fun h2 e2 s2=>wpAny_pure ⟨_,rfl,wpAny_pure (hQ h2 xs[i] (List.getElem?_eq_getElem _) ?_ fun b o hb e=>s2.extBut _ _ hb (s1.extBut _ _ hb e))⟩))
 exact e2
theorem zLL{B:Around}{z:Shared}{Q:Fin→Shared→Prop}{E':Value→Shared→Prop}(hh:B.handled=none)(h:∀ h' e,(∀ b o,z.heap.get? b=some o→h'.get? b=some o)→(∃ o,h'.get? e=some o∧o.cls=.type "StopIteration")→E' (.ref e) { z with heap:=h' }) :
  wpAny (model prog w) B (do raiseNew (← newExc (.type "StopIteration") [])) Q E' z:=by
 refine wpAny_bind ?_
 simp only[newExc,newTuple]
 refine wpAny_bind (wpAny_newObj_type (wpAny_bind (m:=firstArgMember _ _) (wpAny_of_eq (a:=Value.none) (by first | rfl | (simp only[firstArgMember];rfl)) (wpAny_newObj_type ?_ (by size_fits)))) (by size_fits))
 simp only[raiseNew]
 refine wpAny_bind (wpAny_handled ?_)
 rw[hh]
 exact wpAny_bind (wpAny_pure (wpAny_throw (h _ _ (fun b o e=>Heap.get?_push_of_some _ (Heap.get?_push_of_some _ e)) ⟨_,Heap.get?_push_size _ rfl,rfl⟩)))
theorem zLM{a it:Addr}{es:Array (Int×Value)}{ep:Nat}{t:SetTable}{sl:Nat→Nat}{xs:List Value}(hh:A.handled=none)(T:Tells prog w a es ep t sl xs)(hf:t.fits es.size=true)(hx:xs.length=es.size)(hit:s.heap.get? it=some (zDl (rawInt (sl es.size)) es.size a es.size ep))(hS:Sx s.heap a es ep t){Q:Option Value→Shared→Prop}
  (hQ:∀ h',(∀ b o,b≠it→s.heap.get? b=some o→h'.get? b=some o)→Q none { s with heap:=h' }):wpAny (model prog w) A (pyNext (.ref it)) Q E s:=by
 have hT:s.TypeIs (.ref it) "set_iterator":=⟨_,hit,rfl⟩
 obtain⟨o,ho,_,hd⟩:=hS.ex
 unfold pyNext
 refine wpAny_bind (wpAny_attempt (wpAny_callSpecial?_slot (name:=Str.ofString "__next__") hT zAl (wpAny_call_entry zAl hT zET ?_ (zFo _))))
 unfold Builtin.«set_iterator.__next__»
 refine wpAny_bind (m:=slotArgs "__next__" 0 _) (wpAny_pure ?_)
 refine wpAny_bind (wpAny_fieldsOf hit rfl ?_)
 simp only[rawInt]
 refine wpAny_bind (wpAny_setEntries_of ho hd hf ?_)
 simp only[bne_self_eq_false,Bool.false_eq_true,↓reduceIte]
 simp only[Int.toNat_natCast]
 refine wpAny_bind (T _ _ _ es.size _ (by omega) hS ?_)
 rw[List.getElem?_eq_none (show xs.length≤es.size by omega)]
 refine wpAny_bind (wpAny_setField_rec hit (by simp) fun h1 e1 s1=>?_)
 refine zLL (by simpa using hh) fun h' e kp he=>?_
 obtain⟨oe,q1,q2⟩:=he
 refine wpAny_bind (wpAny_isInstance (T:="StopIteration") (b:=true) ⟨oe,q1,q2⟩ isSubtype_stop (wpAny_pure (hQ _ fun b o hb e=>kp _ _ (s1.extBut _ _ hb e))))
end
end HI
namespace HI
open PySem PySem.Spec PyProof.Rows
theorem zFq:Slot "set_iterator" "__iter__" "set_iterator.__iter__" :=
 .of (owner:="set_iterator") (n:="__iter__") (by rw[typeLookup_type,builtinLookup_eq_fast];kernel_rfl) (by decide +kernel) (by decide +kernel) (by decide +kernel) (by first | exact .inl (by decide +kernel) | exact .inr (by decide +kernel)) (by rw[isSubtype_type];kernel_rfl)
theorem zIW:entryFor table "set_iterator.__iter__"=some Builtin.«dict_keyiterator.__iter__» :=
 entryFor_alias (id':="dict_keyiterator.__iter__") (by kernel_rfl) (by first | rfl | decide +kernel | (unfold String.splitOn;simp +decide [String.splitOnAux])) (by decide +kernel) (by kernel_rfl)
theorem zJv(v:Value):argsOk "set_iterator.__iter__" ⟨[v],[]⟩:=by unfold argsOk;kernel_rfl
section
variable {prog:Program} {w:World} {A:Around} {E:Value→Shared→Prop} {s:Shared}
theorem zJw{it:Addr}{f:Value}{i:Int}{a:Addr}{n ep:Nat}{Q:Value→Shared→Prop}(h:s.heap.get? it=some (zDl f i a n ep))(q:Q (.ref it) s):wpAny (model prog w) A (pyIter (.ref it)) Q E s:=by
 have hT:s.TypeIs (.ref it) "set_iterator":=⟨_,h,rfl⟩
 refine wpAny_pyIter_slot hT zFq (wpAny_call_entry zFq hT zIW ?_ (zJv _))
 show wpAny _ _ (ret (.ref it)) _ _ s
 exact wpAny_pure ⟨_,rfl,"set_iterator",_,hT,zAl.lookup,q⟩
end
end HI
namespace HI
open PySem PySem.Spec PyProof.Rows
section
variable {prog:Program} {w:World} {A:Around} {E:Value→Shared→Prop} {s:Shared}
theorem zFr{a:Addr}{o:Obj}{Q:Bool→Shared→Prop}(ho:s.heap.get? a=some o)(hc:o.cls=.type "set")(h:Q false s):wpAny (model prog w) A (Builtin.List.listLengthHint (.ref a)) Q E s:=by
 unfold Builtin.List.listLengthHint
 refine wpAny_bind (wpAny_specialOf ⟨o,ho,hc⟩ F.slot_set_len.lookup ?_)
 generalize hid:("set.__len__":String)=id0
 wp_delta
 rw[show splitId id0=some ("set","__len__") from by subst hid;decide +kernel]
 subst hid
 refine wpAny_bind (wpAny_isInstance (T:="set") (b:=true) ⟨o,ho,hc⟩ (by rw[isSubtype_type];kernel_rfl) ?_)
 refine wpAny_ite_split (fun hab=>absurd hab (by decide)) (fun _=>?_)
 refine wpAny_ite_split (fun _=>?_) (fun hab=>absurd (by decide +kernel) hab)
 exact wpAny_bind (wpAny_typeOf (T:="set") ⟨o,ho,hc⟩ (wpAny_pure h))
end
end HI
namespace L2
open PySem PySem.Spec PyProof.Rows HI
variable {X:Cx} {e:Expr} {t:TA} {p p2 pos pos2:Pos}
end L2
namespace L3
open PySem PySem.Spec PyProof.Rows L2
section
variable {X:Cx} {e:Expr} {p p2 pos pos2:Pos}
end
end L3
namespace HT2
open PySem
abbrev Probe:=SetTable.Probe
def adv(mask:Nat)(p:Probe):Probe :=
 if p.more>0 then { p with j:=p.j+1,more:=p.more-1 } else
 { p with j:=(SetTable.leap mask p.i p.perturb).1,more:=SetTable.runEnd mask (SetTable.leap mask p.i p.perturb).1-(SetTable.leap mask p.i p.perturb).1,i:=(SetTable.leap mask p.i p.perturb).1,perturb:=(SetTable.leap mask p.i p.perturb).2 }
theorem zIX(mask:Nat)(p:Probe)(d:Option Nat):adv mask { p with dummy:=d }={ adv mask p with dummy:=d }:=by
 unfold adv
 split<;>rfl
def pth(mask:Nat)(h:Int):Nat→Probe
 | 0=>{ j:=SetTable.bits h%(mask+1),more:=SetTable.runEnd mask (SetTable.bits h%(mask+1))-SetTable.bits h%(mask+1),i:=SetTable.bits h%(mask+1),perturb:=SetTable.bits h,dummy:=none }
 | n+1=>adv mask (pth mask h n)
def lp(mask:Nat)(h:Int):Nat→Nat×Nat
 | 0=>(SetTable.bits h%(mask+1),SetTable.bits h)
 | n+1=>SetTable.leap mask (lp mask h n).1 (lp mask h n).2
theorem zM6(mask i:Nat):SetTable.runEnd mask i-i≤9:=by
 unfold SetTable.runEnd
 split<;>omega
section
variable {mask:Nat} {h:Int}
theorem zC6{n i r q:Nat}(e:pth mask h n=⟨i,r,i,q,none⟩):∀ m,m≤r→pth mask h (n+m)=⟨i+m,r-m,i,q,none⟩
 | 0,_=>by simpa using e
 | m+1,hm=>by
  have:=zC6 e m (by omega)
  show adv mask (pth mask h (n+m))=_
  rw[this]
  unfold adv
  rw[if_pos (show r-m>0 by omega)]
  simp only[SetTable.Probe.mk.injEq,and_true]
  omega
theorem zJx:∀ k,∃ n,n≤10*k∧pth mask h n=⟨(lp mask h k).1,SetTable.runEnd mask (lp mask h k).1-(lp mask h k).1,(lp mask h k).1,(lp mask h k).2,none⟩
 | 0=>⟨0,Nat.le_refl _,rfl⟩
 | k+1=>by
  obtain⟨n,hn,e⟩:=zJx k
  have hr:=zM6 mask (lp mask h k).1
  have:=zC6 e _ (Nat.le_refl _)
  refine⟨n+(SetTable.runEnd mask (lp mask h k).1-(lp mask h k).1)+1,by omega,?_⟩
  show adv mask (pth mask h _)=_
  rw[this]
  unfold adv
  rw[if_neg (by simp)]
  rfl
theorem zJy:∀ k,(lp mask h k).2=SetTable.bits h / 32 ^ k
 | 0=>by simp[lp]
 | k+1=>by
  show(SetTable.leap mask (lp mask h k).1 (lp mask h k).2).2=_
  unfold SetTable.leap
  simp only
  rw[zJy k,Nat.div_div_eq_div_mul,Nat.pow_succ]
theorem zLN:SetTable.bits h<2 ^ 64:=by
 unfold SetTable.bits
 have h1:=Int.emod_lt_of_pos h (show(0:Int)<2 ^ 64 by decide)
 have h2:=Int.emod_nonneg h (show(2 ^ 64:Int)≠0 by decide)
 omega
theorem zOa{k:Nat}(hk:13≤k):(lp mask h k).2=0:=by
 rw[zJy]
 apply Nat.div_eq_of_lt
 have h1:=zLN (h:=h)
 have h2:32 ^ 13≤32 ^ k:=Nat.pow_le_pow_right (by omega) hk
 have h3:(2:Nat) ^ 64≤32 ^ 13:=by decide
 omega
def fM(M x:Nat):Nat:=(x*5+1)%M
def itr(M:Nat):Nat→Nat→Nat
 | 0,x=>x
 | m+1,x=>fM M (itr M m x)
theorem zC7(M:Nat)(a:Nat):∀ b x,itr M (a+b) x=itr M a (itr M b x):=by
 induction a with
 | zero=>intro b x;simp[itr]
 | succ a ih=>intro b x;rw[Nat.add_right_comm];show fM M _=fM M _;rw[ih]
theorem zJz:∀ m,(lp mask h (13+m)).1=itr (mask+1) m (lp mask h 13).1
 | 0=>rfl
 | m+1=>by
  show(SetTable.leap mask (lp mask h (13+m)).1 (lp mask h (13+m)).2).1=fM _ _
  unfold SetTable.leap fM
  simp only
  rw[zOa (by omega),zJz m]
theorem zN4(k:Nat):(lp mask h k).1<mask+1:=by
 cases k with
 | zero=>exact Nat.mod_lt _ (by omega)
 | succ k=>exact Nat.mod_lt _ (by omega)
end
def Cyc(M:Nat):Prop:=∀ i,i<M→∀ j,j<M→∃ m,m<M∧itr M m i=j
def orb(M:Nat):Nat→Nat→List Nat
 | 0,_=>[]
 | n+1,x=>x::orb M n (fM M x)
theorem zIY(M:Nat)(m x:Nat):itr M (m+1) x=itr M m (fM M x):=by
 have:=zC7 M m 1 x
 simpa[itr] using this
theorem zHk{M:Nat}:∀ {n x j:Nat},j∈orb M n x→∃ m,m<n∧itr M m x=j
 | 0,_,_,h=>by cases h
 | n+1,x,j,h=>by
  rcases List.mem_cons.mp h with rfl | h
  ·exact⟨0,by omega,rfl⟩
  ·obtain⟨m,hm,e⟩:=zHk h
   exact⟨m+1,by omega,by rw[zIY];exact e⟩
theorem zCh{M:Nat}(hall:((List.range M).all fun j=>(orb M M 0).contains j)=true)(hM:itr M M 0=0):Cyc M:=by
 have at0:∀ j,j<M→∃ m,m<M∧itr M m 0=j:=fun j hj=>by
  have:=List.all_eq_true.mp hall j (List.mem_range.mpr hj)
  exact zHk (by simpa using this)
 intro i hi j hj
 obtain⟨a,ha,rfl⟩:=at0 i hi
 obtain⟨b,hb,rfl⟩:=at0 j hj
 rcases Nat.lt_or_ge b a with hab | hab
 ·refine⟨M+b-a,by omega,?_⟩
  rw[← zC7,show M+b-a+a=b+M by omega,zC7,hM]
 ·refine⟨b-a,by omega,?_⟩
  rw[← zC7,show b-a+a=b by omega]
theorem zOb:Cyc 8:=zCh (by decide +kernel) (by decide +kernel)
theorem zN5:Cyc 16:=zCh (by decide +kernel) (by decide +kernel)
theorem zN6:Cyc 32:=zCh (by decide +kernel) (by decide +kernel)
theorem zN7:Cyc 64:=zCh (by decide +kernel) (by decide +kernel)
theorem zM7:Cyc 128:=zCh (by decide +kernel) (by decide +kernel)
theorem zM8:Cyc 256:=zCh (by decide +kernel) (by decide +kernel)
def Msk(mask:Nat):Prop:=mask=7∨mask=15∨mask=31∨mask=63∨mask=127∨mask=255
theorem Msk.cyc{mask:Nat}(h:Msk mask):Cyc (mask+1):=by
 rcases h with rfl | rfl | rfl | rfl | rfl | rfl
 ·exact zOb
 ·exact zN5
 ·exact zN6
 ·exact zN7
 ·exact zM7
 ·exact zM8
theorem heads{mask:Nat}{h:Int}(hm:Cyc (mask+1)){j:Nat}(hj:j≤mask):∃ k,k≤13+mask∧(lp mask h k).1=j:=by
 obtain⟨m,h1,h2⟩:=hm (lp mask h 13).1 (zN4 13) j (by omega)
 exact⟨13+m,by omega,by rw[zJz];exact h2⟩
theorem zM9{mask:Nat}{h:Int}(hm:Cyc (mask+1)){j:Nat}(hj:j≤mask):∃ n,n≤10*(13+mask)∧(pth mask h n).j=j:=by
 obtain⟨k,h1,h2⟩:=heads (h:=h) hm hj
 obtain⟨n,h3,h4⟩:=zJx (mask:=mask) (h:=h) k
 exact⟨n,by omega,by rw[h4];exact h2⟩
open HI (Ris)
def Ent(t:SetTable)(es:Array (Int×Value))(j:Nat)(h:Int)(x:Value):Prop:=∃ i:Nat,t.place[i]?=some j∧es[i]?=some (h,x)
def zGs(t:SetTable)(j:Nat):Prop:=t.slot j≠.empty
theorem zFs{xs:Array Nat}(hr:Ris xs){i j:Nat}(e:xs[i]?=some j):SetTable.below xs j=i:=by
 obtain⟨b1,b2⟩:=HI.zDi (j:=j) hr
 obtain⟨hi,e⟩:=Array.getElem?_eq_some_iff.mp e
 rcases Nat.lt_trichotomy (SetTable.below xs j) i with z | z | z
 ·have h1:=b2 (SetTable.below xs j) (by omega) (Nat.le_refl _)
  have h2:=hr.lt z hi
  omega
 ·exact z
 ·have:=b1 i hi z
  omega
theorem zIZ{t:SetTable}(hr:Ris t.place){i j:Nat}(e:t.place[i]?=some j):t.slot j=.live i:=by
 unfold SetTable.slot
 simp only
 rw[zFs hr e,e]
 simp
theorem zHl{xs:Array Nat}(hr:Ris xs){j:Nat}:SetTable.has xs j=true↔j∈xs:=by
 unfold SetTable.has
 constructor
 ·intro q
  have q:xs[SetTable.below xs j]?=some j:=by simpa using q
  exact Array.mem_of_getElem? q
 ·intro q
  obtain⟨i,hi,e⟩:=Array.getElem_of_mem q
  have e':xs[i]?=some j:=by simp[hi,e]
  rw[zFs hr e',e']
  simp
theorem zDm{t:SetTable}(hr:Ris t.place)(hd:Ris t.dummies){j:Nat}:zGs t j↔j∈t.place∨j∈t.dummies:=by
 unfold zGs
 constructor
 ·intro q
  unfold SetTable.slot at q
  simp only at q
  split at q
  ·rename_i z
   exact .inl (Array.mem_of_getElem? (by simpa using z))
  ·split at q
   ·rename_i z
    exact .inr ((zHl hd).mp z)
   ·exact(q rfl).elim
 ·rintro(q | q) z
  ·obtain⟨i,hi,e⟩:=Array.getElem_of_mem q
   rw[zIZ hr (i:=i) (by simp[hi,e])] at z
   cases z
  ·unfold SetTable.slot at z
   simp only at z
   split at z
   ·cases z
   ·rw[if_pos ((zHl hd).mpr q)] at z
    cases z
structure Tab (t:SetTable) (es:Array (Int×Value)):Prop where
 msk:Msk t.mask
 size:t.place.size=es.size
 ris:Ris t.place
 risD:Ris t.dummies
 le:∀ j∈t.place,j≤t.mask
 leD:∀ j∈t.dummies,j≤t.mask
 room:t.fill≤t.mask
 way:∀ j h x,Ent t es j h x→∃ n,(pth t.mask h n).j=j∧∀ m,m<n→zGs t (pth t.mask h m).j
 dis:∀ j∈t.dummies,j∉t.place
theorem zFt{P:Nat→Prop}[DecidablePred P]{M:Nat}{l:List Nat}(h:∀ j,j<M→P j→j∈l)(hl:l.length<M):∃ j,j<M∧¬ P j:=by
 by_cases q:∃ j,j<M∧¬ P j
 ·exact q
 ·have hs:List.range M ⊆ l:=fun j hj=>by
   have hj:=List.mem_range.mp hj
   by_cases z:P j
   ·exact h j hj z
   ·exact(q ⟨j,hj,z⟩).elim
  have:=List.Nodup.length_le_of_subset List.nodup_range hs
  simp at this
  omega
theorem Tab.free{t:SetTable}{es:Array (Int×Value)}(T:Tab t es):∃ j,j≤t.mask∧t.slot j=.empty:=by
 have:=zFt (P:=fun j=>t.slot j≠.empty) (M:=t.mask+1) (l:=t.place.toList++t.dummies.toList) (fun j _ q=>by
  rcases(zDm T.ris T.risD).mp q with z | z
  ·exact List.mem_append_left _ (by simpa using z)
  ·exact List.mem_append_right _ (by simpa using z)) (by
  have:=T.room
  unfold SetTable.fill at this
  simp
  omega)
 obtain⟨j,h1,h2⟩:=this
 exact⟨j,by omega,Decidable.not_not.mp h2⟩
theorem Tab.stop{t:SetTable}{es:Array (Int×Value)}(T:Tab t es)(h:Int):∃ N,N≤10*(13+t.mask)∧t.slot (pth t.mask h N).j=.empty∧∀ m,m<N→zGs t (pth t.mask h m).j:=by
 obtain⟨j,hj,he⟩:=T.free
 obtain⟨n,hn,e⟩:=zM9 (h:=h) T.msk.cyc hj
 have:∀ n,t.slot (pth t.mask h n).j=.empty→∃ N,N≤n∧t.slot (pth t.mask h N).j=.empty∧∀ m,m<N→zGs t (pth t.mask h m).j:=by
  intro n
  induction n using Nat.strongRecOn with
  | ind n ih =>
   intro q
   by_cases z:∃ m,m<n∧t.slot (pth t.mask h m).j=.empty
   ·obtain⟨m,hm,q'⟩:=z
    obtain⟨N,h1,h2⟩:=ih m hm q'
    exact⟨N,by omega,h2⟩
   ·exact⟨n,Nat.le_refl _,q,fun m hm q'=>z ⟨m,hm,q'⟩⟩
 obtain⟨N,h1,h2,h3⟩:=this n (by rw[e];exact he)
 exact⟨N,by omega,h2,h3⟩
end HT2
namespace HT2
open PySem
open HI (Ris)
abbrev At(mask:Nat)(h:Int)(n:Nat)(d:Option Nat):Probe:={ pth mask h n with dummy:=d }
theorem At.adv{mask:Nat}{h:Int}{n:Nat}{d:Option Nat}:adv mask (At mask h n d)=At mask h (n+1) d:=zIX mask (pth mask h n) d
end HT2
namespace HT2
open PySem PySem.Spec
open HI (Ris)
section
variable {prog:Program} {w:World} {P:Addr→Prop} {A:Around} {E:Value→Shared→Prop} {s:Shared}
abbrev TK(prog:Program)(w:World)(P:Addr→Prop)(h:Heap)(ns:List Int)(b:Addr):Prop:=IsTupleKey (intKind prog w) h ns b∧P b
abbrev hT(prog:Program)(w:World)(ns:List Int):Int:=tupleKeyHash (intKind prog w) ns
def OkT(prog:Program)(w:World)(P:Addr→Prop)(h:Heap)(es:Array (Int×Value)):Prop:=∀(i:Nat) (e:Int×Value),es[i]?=some e→∃ c ms,e=(hT prog w ms,.ref c)∧TK prog w P h ms c
def sf(es:Array (Int×Value))(i:Nat):Int:=(es[i]?.map (·.1)).getD 0
end
end HT2
namespace HT2
open PySem PySem.Spec
open HI (Ris)
theorem zGt(mask:Nat)(h:Int):∀ n,(pth mask h n).j+(pth mask h n).more≤mask∧(pth mask h n).i≤mask
 | 0=>by
  have hi:SetTable.bits h%(mask+1)≤mask:=by have:=Nat.mod_lt (SetTable.bits h) (show 0<mask+1 by omega);omega
  show SetTable.bits h%(mask+1)+(SetTable.runEnd mask (SetTable.bits h%(mask+1))-SetTable.bits h%(mask+1))≤mask∧SetTable.bits h%(mask+1)≤mask
  generalize SetTable.bits h%(mask+1)=i at *
  unfold SetTable.runEnd
  split<;>omega
 | n+1=>by
  have ih:=zGt mask h n
  show(adv mask (pth mask h n)).j+(adv mask (pth mask h n)).more≤mask∧(adv mask (pth mask h n)).i≤mask
  unfold adv
  split
  ·simp only
   omega
  ·simp only
   have hi:(SetTable.leap mask (pth mask h n).i (pth mask h n).perturb).1≤mask:=by
    unfold SetTable.leap
    simp only
    have:=Nat.mod_lt ((pth mask h n).i*5+1+(pth mask h n).perturb / 32) (show 0<mask+1 by omega)
    omega
   generalize (SetTable.leap mask (pth mask h n).i (pth mask h n).perturb).1=i at *
   unfold SetTable.runEnd
   split<;>omega
theorem zHm{t:SetTable}{es:Array (Int×Value)}{j:Nat}{h:Int}{x:Value}:Ent t es j h x↔(j,(h,x))∈t.place.toList.zip es.toList:=by
 unfold Ent
 rw[List.mem_iff_getElem?]
 constructor
 ·rintro⟨i,e1,e2⟩
  exact⟨i,by rw[List.getElem?_zip_eq_some];simpa using⟨e1,e2⟩⟩
 ·rintro⟨i,e⟩
  rw[List.getElem?_zip_eq_some] at e
  exact⟨i,by simpa using e.1,by simpa using e.2⟩
theorem zv{α:Type}(xs:Array α)(p:Nat):(SetTable.eraseAt xs p).toList=xs.toList.take p++xs.toList.drop (p+1):=by
 simp[SetTable.eraseAt,List.extract_eq_take_drop,List.take_of_length_le]
theorem zJ0{α:Type}(l:List α)(p:Nat):(l.take p++l.drop (p+1)).Sublist l:=by
 conv=>rhs;rw[← List.take_append_drop p l]
 exact(List.Sublist.refl _).append (by rw[← List.drop_drop];exact List.drop_sublist 1 _)
theorem zNA{α:Type}{l:List α}{p:Nat}{x y:α}(hp:l[p]?=some x)(hy:y∈l)(hne:y≠x):y∈l.take p++l.drop (p+1):=by
 rw[← List.take_append_drop p l] at hy
 rcases List.mem_append.mp hy with h | h
 ·exact List.mem_append_left _ h
 ·obtain⟨hlt,e⟩:=List.getElem?_eq_some_iff.mp hp
  rw[List.drop_eq_getElem_cons hlt,e] at h
  rcases List.mem_cons.mp h with h | h
  ·exact(hne h).elim
  ·exact List.mem_append_right _ h
theorem zLO{α:Type}{l:List α}{p:Nat}{x:α}(hp:l[p]?=some x):l.Perm (x::(l.take p++l.drop (p+1))):=by
 obtain⟨hlt,e⟩:=List.getElem?_eq_some_iff.mp hp
 conv=>lhs;rw[← List.take_append_drop p l,List.drop_eq_getElem_cons hlt,e]
 exact List.perm_middle
theorem zNB{xs:Array Nat}(hr:Ris xs){p j:Nat}(hp:xs.toList[p]?=some j):j∉xs.toList.take p++xs.toList.drop (p+1):=by
 have nd:xs.toList.Nodup:=List.Pairwise.imp (fun h=>Nat.ne_of_lt h) hr
 exact(List.nodup_cons.mp ((zLO hp).nodup_iff.mp nd)).1
theorem zIa{xs:Array Nat}(hr:Ris xs)(p:Nat):Ris (SetTable.eraseAt xs p):=by
 unfold Ris
 rw[zv]
 exact List.Pairwise.sublist (zJ0 _ _) hr
section
variable {t:SetTable} {es:Array (Int×Value)} {j:Nat} {h:Int} {x:Value}
end
section
variable {t:SetTable} {es:Array (Int×Value)} {i j:Nat}
theorem zNC{α β:Type}{l:List α}{l':List β}(hl:l.length=l'.length)(p:Nat){z:α×β}(h:z∈(l.take p++l.drop (p+1)).zip (l'.take p++l'.drop (p+1))):z∈l.zip l':=by
 rw[List.zip_append (by simp[hl])] at h
 have e:l.zip l'=(l.take p).zip (l'.take p)++(l.drop p).zip (l'.drop p):=by
  rw[← List.zip_append (by simp[hl]),List.take_append_drop,List.take_append_drop]
 rw[e]
 rcases List.mem_append.mp h with q | q
 ·exact List.mem_append_left _ q
 ·refine List.mem_append_right _ ?_
  rw[← List.drop_drop,← List.drop_drop] at q
  generalize l.drop p=a at q ⊢
  generalize l'.drop p=b at q ⊢
  cases a with
  | nil=>simp at q
  | cons a0 a1 =>
   cases b with
   | nil=>simp at q
   | cons b0 b1 =>
    have q:z∈a1.zip b1:=by simpa using q
    show z∈(a0,b0)::a1.zip b1
    exact List.mem_cons_of_mem _ q
theorem Tab.drop(T:Tab t es)(hi:t.place[i]?=some j):Tab (t.drop i) (SetTable.eraseAt es i)∧(t.drop i).fill=t.fill:=by
 have ed:t.drop i={ t with place:=SetTable.eraseAt t.place i,dummies:=SetTable.insertAt t.dummies (SetTable.below t.dummies j) j }:=by
  unfold SetTable.drop
  rw[hi]
 have hp:t.place.toList[i]?=some j:=by simpa using hi
 have jp:j∈t.place:=Array.mem_of_getElem? hi
 have jd:j∉t.dummies:=fun q=>T.dis j q jp
 have hlt:i<t.place.size:=(Array.getElem?_eq_some_iff.mp hi).1
 have rP:Ris (SetTable.eraseAt t.place i):=zIa T.ris i
 have rD:Ris (SetTable.insertAt t.dummies (SetTable.below t.dummies j) j):=HI.zLK T.risD fun q=>jd (Array.mem_of_getElem? q)
 have pz:(SetTable.eraseAt t.place i).size=t.place.size-1:=by
  rw[← Array.length_toList,zv,List.length_append,List.length_take,List.length_drop]
  simp only[Array.length_toList]
  omega
 have ez:(SetTable.eraseAt es i).size=es.size-1:=by
  have:=T.size
  rw[← Array.length_toList,zv,List.length_append,List.length_take,List.length_drop]
  simp only[Array.length_toList]
  omega
 have dz:(SetTable.insertAt t.dummies (SetTable.below t.dummies j) j).size=t.dummies.size+1:=by
  have:=(SetTable.insertAt_perm t.dummies (SetTable.below t.dummies j) j).length_eq
  simpa using this
 have dm:∀ y,y∈SetTable.insertAt t.dummies (SetTable.below t.dummies j) j↔y∈t.dummies∨y=j:=fun y=>by
  rw[← Array.mem_toList_iff,(SetTable.insertAt_perm _ _ _).mem_iff]
  simp
 rw[ed]
 have fl:∀ y,zGs t y→zGs { t with place:=SetTable.eraseAt t.place i,dummies:=SetTable.insertAt t.dummies (SetTable.below t.dummies j) j } y:=fun y q=>by
  rw[zDm rP rD]
  rcases(zDm T.ris T.risD).mp q with z | z
  ·by_cases e:y=j
   ·exact .inr ((dm y).mpr (.inr e))
   ·left
    show y∈SetTable.eraseAt t.place i
    rw[← Array.mem_toList_iff,zv]
    exact zNA hp (by simpa using z) e
  ·exact .inr ((dm y).mpr (.inl z))
 have sb:∀ y,y∈SetTable.eraseAt t.place i→y∈t.place:=fun y hy=>by
  rw[← Array.mem_toList_iff,zv] at hy
  simpa using(zJ0 _ _).subset hy
 have fz:SetTable.fill { t with place:=SetTable.eraseAt t.place i,dummies:=SetTable.insertAt t.dummies (SetTable.below t.dummies j) j }=t.fill:=by
  show(SetTable.eraseAt t.place i).size+(SetTable.insertAt t.dummies (SetTable.below t.dummies j) j).size=t.place.size+t.dummies.size
  omega
 refine⟨⟨T.msk,?_,rP,rD,fun y hy=>T.le y (sb y hy),fun y hy=>?_,?_,fun j' h' x' he=>?_,fun y hy hy'=>?_⟩,fz⟩
 ·show(SetTable.eraseAt t.place i).size=_
  rw[pz,ez,T.size]
 ·rcases(dm y).mp hy with q | q
  ·exact T.leD y q
  ·rw[q];exact T.le j jp
 ·rw[fz];exact T.room
 ·rw[zHm] at he
  have he:(j',(h',x'))∈(SetTable.eraseAt t.place i).toList.zip (SetTable.eraseAt es i).toList:=he
  rw[zv,zv] at he
  obtain⟨n',w1,w2⟩:=T.way j' h' x' (zHm.mpr (zNC (by simpa using T.size) i he))
  exact⟨n',w1,fun m hm=>fl _ (w2 m hm)⟩
 ·rcases(dm y).mp hy with q | q
  ·exact T.dis y q (sb y hy')
  ·subst q
   have hy':y∈SetTable.eraseAt t.place i:=hy'
   rw[← Array.mem_toList_iff,zv] at hy'
   exact zNB T.ris hp hy'
end
end HT2
namespace HT2
open PySem PySem.Spec
open HI (Ris)
def hd(mask:Nat)(h:Int):Nat→Nat
 | 0=>0
 | k+1=>hd mask h k+(SetTable.runEnd mask (lp mask h k).1-(lp mask h k).1)+1
section
variable {mask:Nat} {h:Int}
theorem zJ1:∀ k,pth mask h (hd mask h k)=⟨(lp mask h k).1,SetTable.runEnd mask (lp mask h k).1-(lp mask h k).1,(lp mask h k).1,(lp mask h k).2,none⟩
 | 0=>rfl
 | k+1=>by
  have:=zC6 (zJ1 k) _ (Nat.le_refl _)
  show adv mask (pth mask h (hd mask h k+(SetTable.runEnd mask (lp mask h k).1-(lp mask h k).1)))=_
  rw[this]
  unfold adv
  rw[if_neg (by simp)]
  rfl
theorem zGu{k m:Nat}(hm:m≤SetTable.runEnd mask (lp mask h k).1-(lp mask h k).1):(pth mask h (hd mask h k+m)).j=(lp mask h k).1+m:=by rw[zC6 (zJ1 k) m hm]
theorem zND(mask i:Nat):i≤SetTable.runEnd mask i:=by
 unfold SetTable.runEnd
 split<;>omega
def Tk(owner:Array (Option Nat))(j:Nat):Prop:=(owner.getD j (some 0)).isSome=true
theorem zJ2{owner:Array (Option Nat)}{R:Nat}(hR:¬ Tk owner (lp mask h R).1):∀(fuel r:Nat),r≤R→R-r<fuel→(∀ m,m<hd mask h r→Tk owner (pth mask h m).j) →
  ∃ j n,SetTable.layClean.free mask owner fuel (lp mask h r).1 (lp mask h r).2=some j∧(pth mask h n).j=j∧¬ Tk owner j∧∀ m,m<n→Tk owner (pth mask h m).j:=by
 intro fuel
 induction fuel with
 | zero=>intro r _ h;omega
 | succ fuel ih =>
  intro r hr hf hb
  unfold SetTable.layClean.free
  have hge:=zND mask (lp mask h r).1
  cases hfd:(List.range (SetTable.runEnd mask (lp mask h r).1+1-(lp mask h r).1)).find? fun k=>(owner.getD ((lp mask h r).1+k) (some 0)).isNone with
  | some k0 =>
   obtain⟨f1,f2,f3⟩:=List.find?_range_eq_some.mp hfd
   have f2:=List.mem_range.mp f2
   refine⟨(lp mask h r).1+k0,hd mask h r+k0,by simp only[hfd],?_,?_,?_⟩
   ·exact zGu (by omega)
   ·unfold Tk
    rw[Option.isNone_iff_eq_none] at f1
    rw[f1];simp
   ·intro m hm
    rcases Nat.lt_or_ge m (hd mask h r) with z | z
    ·exact hb m z
    ·obtain⟨d,rfl⟩:∃ d,m=hd mask h r+d:=⟨m-hd mask h r,by omega⟩
     rw[zGu (by omega)]
     have:=f3 d (by omega)
     unfold Tk
     cases q:owner.getD ((lp mask h r).1+d) (some 0) with
     | none=>rw[q] at this;simp at this
     | some _=>rfl
  | none =>
   rw[List.find?_range_eq_none] at hfd
   have all:∀ d,d≤SetTable.runEnd mask (lp mask h r).1-(lp mask h r).1→Tk owner ((lp mask h r).1+d):=fun d hd'=>by
    have:=hfd d (by omega)
    unfold Tk
    cases q:owner.getD ((lp mask h r).1+d) (some 0) with
    | none=>rw[q] at this;simp at this
    | some _=>rfl
   have hne:r≠R:=fun e=>by
    subst e
    exact hR (by simpa using all 0 (Nat.zero_le _))
   simp only
   refine ih (r+1) (by omega) (by omega) fun m hm=>?_
   have hm:m<hd mask h r+(SetTable.runEnd mask (lp mask h r).1-(lp mask h r).1)+1:=hm
   rcases Nat.lt_or_ge m (hd mask h r) with z | z
   ·exact hb m z
   ·obtain⟨d,rfl⟩:∃ d,m=hd mask h r+d:=⟨m-hd mask h r,by omega⟩
    rw[zGu (by omega)]
    exact all d (by omega)
end
theorem zFu{β:Type}{f g:Nat→Option β}:∀ {l:List Nat},(∀ i∈l,g i=f i)→l.filterMap g=l.filterMap f
 | [],_=>rfl
 | a::l,h=>by
  have ea:=h a List.mem_cons_self
  have ih:=zFu fun i hi=>h i (List.mem_cons_of_mem _ hi)
  cases q:f a with
  | none=>rw[List.filterMap_cons_none (ea.trans q),List.filterMap_cons_none q,ih]
  | some c=>rw[List.filterMap_cons_some (ea.trans q),List.filterMap_cons_some q,ih]
theorem zJ3{β:Type}{f:Nat→Option β}:∀ {l:List Nat},(∀ i∈l,(f i).isSome=true)→(l.filterMap f).length=l.length
 | [],_=>rfl
 | a::l,h=>by
  have ih:=zJ3 fun i hi=>h i (List.mem_cons_of_mem _ hi)
  have ea:=h a List.mem_cons_self
  cases q:f a with
  | none=>rw[q] at ea;cases ea
  | some c=>rw[List.filterMap_cons_some q,List.length_cons,List.length_cons,ih]
theorem zJ4{β:Type}{f g:Nat→Option β}{j:Nat}{b:β}(hf:f j=none)(hg:g j=some b):∀ {l:List Nat},l.Nodup→j∈l→(∀ i∈l,i≠j→g i=f i)→(l.filterMap g).Perm (b::l.filterMap f)
 | [],_,hj,_=>by cases hj
 | a::l,nd,hj,ho=>by
  obtain⟨n1,n2⟩:=List.nodup_cons.mp nd
  by_cases e:a=j
  ·subst e
   have:l.filterMap g=l.filterMap f:=by
    apply zFu
    intro i hi
    exact ho i (List.mem_cons_of_mem _ hi) fun e=>n1 (e▸hi)
   rw[List.filterMap_cons_some hg,List.filterMap_cons_none hf,this]
  ·have hj':j∈l:=by
    rcases List.mem_cons.mp hj with q | q
    ·exact(e q.symm).elim
    ·exact q
   have ih:=zJ4 hf hg n2 hj' fun i hi hne=>ho i (List.mem_cons_of_mem _ hi) hne
   have ea:=ho a List.mem_cons_self e
   cases q:f a with
   | none=>rw[List.filterMap_cons_none (ea.trans q),List.filterMap_cons_none q];exact ih
   | some c =>
    rw[List.filterMap_cons_some (ea.trans q),List.filterMap_cons_some q]
    exact(List.Perm.cons c ih).trans (List.Perm.swap _ _ _)
structure zIb (mask:Nat) (hs:List Int) (owner:Array (Option Nat)) (k:Nat):Prop where
 size:owner.size=mask+1
 way:∀(j k':Nat),owner.getD j none=some k'→∃ h n,hs[k']?=some h∧(pth mask h n).j=j∧∀ m,m<n→(owner.getD (pth mask h m).j none).isSome=true
 perm:((List.range (mask+1)).filterMap fun j=>owner.getD j none).Perm (List.range k)
theorem zIb.gap{mask:Nat}{hs:List Int}{owner:Array (Option Nat)}{k:Nat}(I:zIb mask hs owner k)(hk:k≤mask):∃ j,j≤mask∧owner.getD j none=none:=by
 by_cases q:∃ j,j≤mask∧owner.getD j none=none
 ·exact q
 ·have:=zJ3 (f:=fun j=>owner.getD j none) (l:=List.range (mask+1)) fun i hi=>by
   have hi:=List.mem_range.mp hi
   cases z:owner.getD i none with
   | none=>exact(q ⟨i,by omega,z⟩).elim
   | some _=>rfl
  rw[I.perm.length_eq,List.length_range,List.length_range] at this
  omega
theorem zGv{mask:Nat}{hs:List Int}{owner:Array (Option Nat)}{k:Nat}(I:zIb mask hs owner k){j:Nat}(hj:j≤mask):Tk owner j↔(owner.getD j none).isSome=true:=by
 have:j<owner.size:=by rw[I.size];omega
 unfold Tk
 simp[Array.getD,this]
theorem zIb.step{mask:Nat}{hs:List Int}{owner:Array (Option Nat)}{k:Nat}{h:Int}(hm:Msk mask)(I:zIb mask hs owner k)(hk:k≤mask)(e:hs[k]?=some h) :
  ∃ j,SetTable.layClean.free mask owner (SetTable.turns mask) (SetTable.bits h%(mask+1)) (SetTable.bits h)=some j∧zIb mask hs (owner.setIfInBounds j (some k)) (k+1):=by
 obtain⟨j0,h1,h2⟩:=I.gap hk
 obtain⟨R,r1,r2⟩:=heads (h:=h) hm.cyc h1
 obtain⟨j,n,f1,f2,f3,f4⟩:=zJ2 (mask:=mask) (h:=h) (owner:=owner) (R:=R) (by rw[r2,zGv I h1,h2];simp) (SetTable.turns mask) 0 (Nat.zero_le _) (by unfold SetTable.turns;omega) (fun m hm=>absurd hm (Nat.not_lt_zero _))
 have hj:j≤mask:=by have:=(zGt mask h n).1;omega
 have hjs:j<owner.size:=by rw[I.size];omega
 rw[zGv I hj] at f3
 have fn:owner.getD j none=none:=by
  cases q:owner.getD j none with
  | none=>rfl
  | some _=>rw[q] at f3;exact(f3 rfl).elim
 have gs:∀ i,(owner.setIfInBounds j (some k)).getD i none=if i=j then some k else owner.getD i none:=fun i=>by
  by_cases e:i=j
  ·subst e;rw[if_pos rfl];simp[Array.getD,hjs]
  ·rw[if_neg e]
   rw[Array.getD_eq_getD_getElem?,Array.getD_eq_getD_getElem?,Array.getElem?_setIfInBounds_ne (Ne.symm e)]
 have mono:∀ i,(owner.getD i none).isSome=true→((owner.setIfInBounds j (some k)).getD i none).isSome=true:=fun i q=>by
  rw[gs]
  split
  ·rfl
  ·exact q
 refine⟨j,f1,⟨by rw[Array.size_setIfInBounds];exact I.size,fun j' k' q=>?_,?_⟩⟩
 ·rw[gs] at q
  split at q
  ·rename_i e'
   cases q
   refine⟨h,n,e,f2.trans e'.symm,fun m hm'=>mono _ ?_⟩
   rw[← zGv I (by have:=(zGt mask h m).1;omega)]
   exact f4 m hm'
  ·obtain⟨h',n',w1,w2,w3⟩:=I.way j' k' q
   exact⟨h',n',w1,w2,fun m hm'=>mono _ (w3 m hm')⟩
 ·rw[show List.range (k+1)=List.range k++[k] from List.range_succ]
  refine(zJ4 (f:=fun i=>owner.getD i none) (g:=fun i=>(owner.setIfInBounds j (some k)).getD i none) (j:=j) (b:=k) fn ((gs j).trans (if_pos rfl)) List.nodup_range (List.mem_range.mpr (by omega)) fun i _ hne=>(gs i).trans (if_neg hne)).trans ?_
  refine(List.Perm.cons k I.perm).trans ?_
  exact(List.perm_append_singleton k _).symm
end HT2
namespace HT2
open PySem PySem.Spec
open HI (Ris)
def zN8:Value→Int
 | .int k _=>k
 | _=>0
def kyT(h:Heap)(e:Int×Value):List Int:=match e.2 with
 | .ref c=>(match h.get? c with | some o=>(match o.data with | .seq its _=>its.toList.map zN8 | _=>[]) | none=>[])
 | _=>[]
section
variable {prog:Program} {w:World} {P:Addr→Prop} {A:Around} {E:Value→Shared→Prop} {s:Shared}
theorem zIc{ns:List Int}{vs:List Value}(h:ItemsAre (intKind prog w) ns vs):vs.map zN8=ns:=by
 induction h with
 | nil=>rfl
 | cons h1 _ ih =>
  obtain⟨t,rfl⟩:=Value.isInt_shape h1
  rw[List.map_cons,ih]
  rfl
theorem zLw{h:Heap}{ns:List Int}{c:Addr}(x:TK prog w P h ns c)(n:Int):kyT h (n,.ref c)=ns:=by
 obtain⟨⟨o,its,m,ho,hc,hd,hi⟩,_⟩:=x
 unfold kyT
 simp only[ho,hd]
 exact zIc hi
theorem OkT.mem{h:Heap}{es:Array (Int×Value)}(x:OkT prog w P h es):∀ e∈es.toList,∃ c,e=(hT prog w (kyT h e),.ref c)∧TK prog w P h (kyT h e) c:=fun e he=>by
 obtain⟨i,hi,rfl⟩:=List.getElem_of_mem he
 obtain⟨c,ms,e1,e2⟩:=x i es.toList[i] (by simpa using hi)
 have:kyT h es.toList[i]=ms:=by rw[e1];exact zLw e2 _
 rw[this]
 exact⟨c,e1,e2⟩
theorem OkT.of{h:Heap}{es:Array (Int×Value)}(x:∀ e∈es.toList,∃ c ms,e=(hT prog w ms,.ref c)∧TK prog w P h ms c):OkT prog w P h es:=fun i e he=>x e (by
 have:=List.mem_of_getElem? (l:=es.toList) (i:=i) (a:=e) (by simpa using he)
 exact this)
theorem OkT.perm{h:Heap}{es es':Array (Int×Value)}(x:OkT prog w P h es)(p:es'.toList.Perm es.toList):OkT prog w P h es':=.of fun e he=>by
 obtain⟨c,e1,e2⟩:=x.mem e (p.mem_iff.mp he)
 exact⟨c,_,e1,e2⟩
theorem TK.keep{h h':Heap}{ns:List Int}{c:Addr}(x:TK prog w P h ns c)(k:∀ o,h.get? c=some o→h'.get? c=some o):TK prog w P h' ns c:=let ⟨⟨o,i,n,e,r⟩,q⟩:=x;⟨⟨o,i,n,k o e,r⟩,q⟩
theorem OkT.keep{h h':Heap}{es:Array (Int×Value)}(x:OkT prog w P h es)(k:∀ c o its n,h.get? c=some o→o.data=.seq its n→h'.get? c=some o):OkT prog w P h' es∧es.toList.map (kyT h')=es.toList.map (kyT h):=by
 have tk:∀ {ns c},TK prog w P h ns c→TK prog w P h' ns c:=fun {ns c} q=>let ⟨⟨o,i,n,e,c1,d,r⟩,q⟩:=q;⟨⟨o,i,n,k _ o i n e d,c1,d,r⟩,q⟩
 refine⟨fun i e he=>?_,List.map_congr_left fun e he=>?_⟩
 ·obtain⟨c,ms,e1,e2⟩:=x i e he
  exact⟨c,ms,e1,tk e2⟩
 ·obtain⟨c,e1,e2⟩:=x.mem e he
  have h1:=zLw (tk e2) (hT prog w (kyT h e))
  rw[← e1] at h1
  exact h1
def ST(prog:Program)(w:World)(P:Addr→Prop)(h:Heap)(a:Addr)(kys:List (List Int)):Prop:=∃ o es ep t,h.get? a=some o∧o.ExactSet∧o.data=.set es ep t∧Tab t es∧OkT prog w P h es∧t.plain=true∧t.led=HI.zDj w∧t.fill*5<t.mask*3∧kys.Perm (es.toList.map (kyT h))∧kys.Nodup
theorem ST.keep{h h':Heap}{a:Addr}{kys:List (List Int)}(x:ST prog w P h a kys)(k:∀ b o,h.get? b=some o→h'.get? b=some o):ST prog w P h' a kys:=by
 obtain⟨o,es,ep,t,h1,h2,h3,h4,h5,h6,h7,h8,h9,h10⟩:=x
 obtain⟨k1,k2⟩:=h5.keep fun c o _ _ e _=>k c o e
 exact⟨o,es,ep,t,k _ _ h1,h2,h3,h4,k1,h6,h7,h8,by rw[k2];exact h9,h10⟩
end
end HT2
namespace HT2
open PySem PySem.Spec
open HI (Ris)
section
variable {prog:Program} {w:World} {P:Addr→Prop} {A:Around} {E:Value→Shared→Prop} {s:Shared}
end
end HT2
namespace HT2
open PySem PySem.Spec PyProof.Rows
open HI (Ris zJs zDj zFn)
def Kp(h0 h:Heap):Prop:=∀ b o,h0.get? b=some o→h.get? b=some o
section
variable {prog:Program} {w:World} {P:Addr→Prop} {A:Around} {R:Result→Shared→Prop} {h0:Heap} {S I:Addr} {fp wr:List Addr} {n:Nat} {its:Array Value} {val:Nat→List Int} {St:Nat→Heap→Prop} {g:Array GenState} {d:Drawn} {os:OsState}
end
end HT2
namespace HT2
open PySem PySem.Spec
open HI (Ris)
section
variable {prog:Program} {w:World} {P:Addr→Prop} {A:Around} {E:Value→Shared→Prop} {s:Shared}
end
end HT2
namespace HT2
open PySem PySem.Spec
open HI (Ris zJs zDj)
section
variable {prog:Program} {w:World} {P:Addr→Prop} {A:Around} {E:Value→Shared→Prop} {s:Shared}
structure New (w:World) (h:Heap) (a:Addr) (n:Nat):Prop where
 ex:∃(o:Obj) (ep:Nat) (t:SetTable),h.get? a=some o∧o.ExactSet∧o.data=.set #[] ep t∧Tab t #[]∧t.plain=true∧t.led=zDj w∧t.fill=0∧(n=0∨n*5<t.mask*3)
end
end HT2
namespace HT2
open PySem PySem.Spec PyProof.Rows
open HI (Ris zJs zDj zDk zEU)
section
variable {prog:Program} {w:World} {P:Addr→Prop} {A:Around} {E:Value→Shared→Prop} {s:Shared}
end
end HT2
namespace HT2
open PySem PySem.Spec PyProof.Rows
open HI (Ris zJs zDj zFn)
section
variable {prog:Program} {w:World} {P:Addr→Prop} {A:Around} {E:Value→Shared→Prop} {s:Shared}
end
end HT2
namespace HT2
open PySem PySem.Spec PyProof.Rows
open HI (Ris Sx Tells zDl zJu zLM zJw zDk zAl zJt zGr zFp zEU zFr)
section
variable {prog:Program} {w:World} {P:Addr→Prop} {A:Around} {E:Value→Shared→Prop} {s:Shared}
end
end HT2
namespace HT2
open PySem PySem.Spec PyProof.Rows
open HI (zFr)
open HS (TI tAt ltI zER)
section
variable {prog:Program} {w:World} {P:Addr→Prop} {A:Around} {E:Value→Shared→Prop} {s:Shared}
end
end HT2
namespace HT2
open PySem PySem.Spec PyProof.Rows
theorem zLx:entryFor table "set.__xor__"=some Builtin.«frozenset.__xor__»:=entryFor_alias (id':="frozenset.__xor__") (by kernel_rfl) (by first | rfl | decide +kernel) (by decide +kernel) (by kernel_rfl)
section
variable {prog:Program} {w:World} {P:Addr→Prop} {A:Around} {E:Value→Shared→Prop} {s:Shared}
end
end HT2
namespace L2
open PySem PySem.Spec PyProof.Rows
end L2
namespace L3
open PySem PySem.Spec PyProof.Rows L2 HT2 HS
section
variable {X:Cx} {pins:List (Addr×Obj)} {σ:L2.St} {H:Hp} {s:Shared}
end
end L3
namespace L3
open PySem PySem.Spec PyProof.Rows L2 HT2 HS
end L3
namespace L3
open PySem PySem.Spec PyProof.Rows L2
section
variable {X:Cx} {elt iter:Expr} {pos:Pos} {te:zk} {ifs:List Expr} {sc:Scope} {N0:List Str} {wi:TI2} {tc:TT2}
end
end L3
namespace HZ
open PySem PySem.Spec PyProof.Rows
section
variable {prog:Program} {w:World} {A:Around} {E:Value→Shared→Prop} {s:Shared} {e it l:Addr} {xs:Array Value} (Z:Zs prog w it l xs)
end
end HZ
namespace L2
open PySem PySem.Spec PyProof.Rows HZ
end L2
namespace L3
open PySem PySem.Spec PyProof.Rows L2
end L3
namespace HZ
open PySem PySem.Spec PyProof.Rows
end HZ
namespace L2
open PySem PySem.Spec PyProof.Rows HZ
end L2
namespace L3
open PySem PySem.Spec PyProof.Rows L2
end L3
namespace HI
open PySem PySem.Spec PyProof.Rows
section
variable {prog:Program} {w:World} {A:Around} {E:Value→Shared→Prop} {s:Shared}
end
end HI
namespace L2
open PySem PySem.Spec PyProof.Rows HI
variable {X:Cx} {e:Expr} {t:TA} {p p2 pos pos2:Pos}
end L2
namespace L3
open PySem PySem.Spec PyProof.Rows L2
section
variable {X:Cx} {e:Expr} {p p2 pos pos2:Pos}
end
end L3
namespace L2
open PySem PySem.Spec PyProof.Rows
section
variable {X:Cx} {pos:Pos}
theorem zId(hc:X.calm=true):yk X (.builtin "sum") (fun xs H Q=>∃(l:Addr) (ns:List Int),xs=[.ref l]∧SqL X.K H l (ns.map V.int)∧ns.length≤100∧(∀ a∈ns,0≤a∧a≤1000000)∧Q (.int ns.sum) H):=by
 intro pins s σ H xs us Q I r h
 obtain⟨l,ns,rfl,hs,hp,hb,q⟩:=h
 obtain⟨u,rfl,ru⟩:=vals1 r
 cases (show u=Value.ref l from ru)
 obtain⟨its,rv,pl,hz⟩:=I.list hs
 have hi:IntsAre its ns:=intsAre_of rv
 have ha:AllInts its.toArray:=hi.allInts
 have hn:numsOf its.toArray.toList=ns:=by rw[show its.toArray.toList=its from rfl,hi.numsOf]
 have hl:=pl.isList
 have hl2:its.length=ns.length:=hi.length
 have hz2:its.toArray.size=ns.length:=by simp;omega
 generalize its.toArray=arr at ha hn hl hz2
 obtain⟨zs,rfl⟩:=ha.items
 rw[nums_intItems] at hn
 have hsz:zs.size=ns.length:=by simpa[intItems] using hz2
 have sm:∀(l:List Int),(∀ a∈l,0≤a∧a≤1000000)→0≤l.sum∧l.sum≤1000000*l.length:=fun l=>by
  induction l with
  | nil=>intro _;simp
  | cons a r ih =>
   intro h
   have h1:=h a List.mem_cons_self
   have h2:=ih fun x hx=>h x (List.mem_cons_of_mem _ hx)
   rw[List.sum_cons,List.length_cons]
   omega
 refine sum_intList (I.ok.hd hc) hl (fun j hj=>?_) fun h' tk t' hk=>?_
 ·have hm:numAt zs j∈ns:=by rw[← hn,numAt_eq];exact getD_mem (by rw[List.length_map,Array.length_toList];omega)
  have h1:=hb _ hm
  rw[preSum_eq]
  have h2:=sm ((zs.toList.map (·.1)).take (j+1)) fun a ha=>hb a (by rw[← hn];exact List.mem_of_mem_take ha)
  have h3:((zs.toList.map (·.1)).take (j+1)).length≤100:=by
   have:(zs.toList.map (·.1)).length=zs.size:=by simp
   rw[List.length_take,this];omega
  unfold InLong
  exact⟨by constructor<;>omega,by constructor<;>omega⟩
 ·refine⟨.int _,H,I.kept (t':=tk) hk,⟨_,rfl⟩,?_⟩
  rw[preSum_eq,List.take_of_length_le (by simp),hn]
  exact q
end
end L2
namespace L3
open PySem PySem.Spec PyProof.Rows L2
section
variable {X:Cx} {e o:Expr} {te to:zk} {t:yt} {tl:TL2} {pos p apos cpos:Pos}
def zJ5:Sp2:=fun ds G R=>∃ ns:List Int,ds=ns.map D.int∧ns.length≤100∧(∀ a∈ns,0≤a∧a≤1000000)∧R (.int ns.sum) G
theorem zLP(hc:X.calm=true)(hg:Gl X "sum")(hm:X.mg "sum"=none)(ha:F2 X e tl)(he:starEach [e] X.env=(false,eval e X.env)::starEach [] X.env:=by rfl)(hpl:(backTo pos (starEach [] X.env)).any (·.1)=false:=by rfl) :
  E2 X (.Call (.Name "sum" p) [e] [] pos) (zX zJ5 tl):=zFQ (zId hc) (by
   rintro ds G R l xs H Q ⟨ns,rfl,hp,hb,h⟩ r e d k
   have:=d.ints_inv
   subst this
   exact⟨l,ns,rfl,.of e,hp,hb,k _ G h _ H (.refl H) r (by unfold zS;rfl)⟩) hg hm (by decide +kernel) ha (by decide) (by decide) he hpl
theorem zFv{X:Cx}{sc:Scope}{N N0 own:List Str}(h:zJR X.env.scope sc N N0 own=true)(e2:X.N=N:=by rfl):zFS X sc N0 own:=ze (osc:=X.env.scope) h rfl e2
end
end L3
namespace K
open PySem PySem.Spec PyProof.Rows L2 L3
theorem zGw{σ:S2}{G:Gp}{t u:zk}{l:Addr}{ds:List D}{k:Int}{d:D}(h:zg t σ G (.adr l))(h':zg u σ G (.int k))(hl:Ls G l ds)(e:atI ds k=some d):zg (zP zy t u) σ G d:=wt h h' fun G2 e2 R q=>⟨ds,d,e2.ls hl,e,q⟩
theorem zCF{σ:S2}{G:Gp}{ta tb:zk}{a b:Bool}(ha:zg ta σ G (.bl a))(hb:a=true→zg tb σ G (.bl b)):zg (zCZ ta tb) σ G (.bl (a&&b)):=by
 cases a with
 | true=>exact zEw ha (hb rfl)
 | false=>exact fun G2 e R q=>ha G2 e _ (by show if false=true then _ else _;rw[if_neg (by simp)];exact q)
theorem zCo{σ:S2}{G:Gp}{tl:TL2}{R:Q2}(h:tl σ G fun ds G1=>∀ l,G1.m l=none→R (.adr l) (zR G1 l ds)):zx tl σ G R:=h
theorem zNE{σ:S2}{G:Gp}{f:D→D→Gp→Q2→Prop}{ta tb:zk}{R:Q2}(h:ta σ G fun x G1=>tb σ G1 fun y G2=>f x y G2 R):zP f ta tb σ G R:=h
theorem zJ6{d:D}(h:flat 8 d=true):∀ l,d≠.adr l:=fun l e=>by subst e;cases h
theorem zLQ{d:D}(h:∀ xs,d≠.tup xs):zBI d "tuple"=false:=by
 cases d with
 | tup xs=>exact absurd rfl (h xs)
 | _=>rfl
theorem zLR{σ:S2}{G:Gp}{t:zk}{l:Addr}{es:List D}(h:zg t σ G (.adr l))(hl:Ls G l es):zg (zBJ "tuple" t) σ G (.bl false):=fun G2 e R q=>h G2 e _ ⟨⟨es,e.ls hl⟩,q⟩
theorem zLS{α:Type}{xs:List α}(f:α→Bool):(xs.map fun d=>D.bl (f d))=(xs.map f).map D.bl:=by rw[List.map_map];rfl
end K
namespace K
open PySem PySem.Spec PyProof.Rows L2 L3
theorem zJ7(q:Nat×Nat→Bool)(i j:Nat):adj q i j=adj q j i:=by
 unfold adj
 rw[Nat.min_comm,Nat.max_comm]
 congr 1
 rw[Bool.eq_iff_iff];simp;omega
inductive Reach (n:Nat) (q:Nat×Nat→Bool) (i:Nat):Nat→Prop where
 | refl:i<n→Reach n q i i
 | step {j k:Nat}:Reach n q i j→k<n→adj q j k=true→Reach n q i k
section
variable {n:Nat} {q:Nat×Nat→Bool}
theorem Reach.lt{i j:Nat}(h:Reach n q i j):j<n:=by cases h<;>assumption
theorem Reach.trans{i j k:Nat}(h:Reach n q i j)(h':Reach n q j k):Reach n q i k:=by
 induction h' with
 | refl _=>exact h
 | step _ a b ih=>exact .step ih a b
theorem Reach.symm{i j:Nat}(h:Reach n q i j):Reach n q j i:=by
 induction h with
 | refl h=>exact .refl h
 | @step j k h1 hk ha ih=>exact(Reach.step (.refl hk) h1.lt (by rw[zJ7];exact ha)).trans ih
end
structure Far (n:Nat) (q:Nat×Nat→Bool) (i:Nat) (r:List Nat) (d:Nat):Prop where
 nd:r.Nodup
 all:∀ x∈r,Reach n q i x
 st:i∈r
 dn:d≤r.length
 nb:∀(m x y:Nat),m<d→r[m]?=some x→y<n→adj q x y=true→y∈r
theorem Far.len{n:Nat}{q:Nat×Nat→Bool}{i d:Nat}{r:List Nat}(f:Far n q i r d):r.length≤n:=by
 have:=List.Nodup.length_le_of_subset f.nd (l₂:=List.range n) fun x hx=>List.mem_range.mpr (f.all x hx).lt
 simpa using this
end K
namespace K
open PySem PySem.Spec PyProof.Rows L2 L3
section
variable {n:Nat} {q:Nat×Nat→Bool}
end
end K
namespace K
open PySem PySem.Spec PyProof.Rows L2 L3
end K
namespace K
open PySem PySem.Spec PyProof.Rows L2 L3
def zCp:Nat→D→Bool
 | 0,_=>false
 | n+1,.tup xs=>xs.all (zCp n)
 | _+1,.int _=>true
 | _+1,.bl _=>true
 | _+1,.non=>true
 | _+1,.str _=>false
 | _+1,.adr _=>false
 | _+1,.dic _=>false
theorem zHn{σ:S2}{G:Gp}{t:zk}{d:D}(h:zg t σ G d)(hd:∀ l,d≠.adr l):zg (zHb t) σ G (.bl (zBI d "tuple")):=fun G2 e R q=>h G2 e _ (by
 cases d with
 | adr l=>exact absurd rfl (hd l)
 | _=>exact q)
theorem zBa{T:String}{σ:S2}{G:Gp}{t:zk}{d:D}(h:zg t σ G d)(hd:∀ l,d≠.adr l):zg (zBJ T t) σ G (.bl (zBI d T)):=zGh h hd rfl
theorem zDn{σ:S2}{G:Gp}{tc:TT2}{t u v:yy}{E:yO}(h:PuT tc σ G true)(h':t { E with nx:=v E } σ G):zb (xIf tc t u) v E σ G:=h G (.refl G) _ (by rw[if_pos rfl];exact h')
theorem zFw{α:Type}(l:List α):l.zip l=l.map fun x=>(x,x):=by
 induction l with
 | nil=>rfl
 | cons a r ih=>simp[ih]
end K
namespace K
open PySem PySem.Spec PyProof.Rows L2 L3
abbrev uD(l:List Nat):D:=.tup (l.map nD)
theorem zN9{σ:S2}{G:Gp}{te:zk}{g:TG2}{E:yO}{d:D}(h:zg te σ G d)(h':g d σ G fun σ' G'=>E.nx σ' G'):zp te g E σ G:=h G (.refl G) _ h'
theorem zNF{σ:S2}{G:Gp}{te:zk}{g:TG2}{E:yO}(h:te σ G fun d G1=>g d σ G1 fun σ' G'=>E.nx σ' G'):zp te g E σ G:=h
theorem zOA{σ:S2}{G:Gp}{ta tb:zk}{l:Addr}{R:List D→Gp→Prop}(h:zg ta σ G (.adr l))(h':tb σ G fun y G2=>match D.adr l,y with | .adr l,.adr m=>∃ xs ys,G2.m l=some xs∧G2.m m=some ys∧xs.length+ys.length≤1000000∧R (xs++ys) G2 | _,_=>False):zB4 ta tb σ G R:=h G (.refl G) _ h'
theorem zCG{G G':Gp}(h:L3.Sub G G'){a:Addr}(n:G'.m a=none):G.m a=none:=by
 cases q:G.m a with
 | none=>rfl
 | some u=>rw[h.m a u q] at n;cases n
end K
namespace K
open L3
theorem zJ8{σ:S2}{G:Gp}{te:zk}{E:yO}(h:te σ G fun _ G1=>E.nx σ G1):zAg te E σ G:=h
end K
namespace K
open PySem PySem.Spec PyProof.Rows L2 L3
def zFx(n:Nat):D→Bool
 | .int x=>decide (0≤x)&&decide (x<(n:Int))
 | _=>false
def Bad(n:Nat)(d:D)(G:Gp):Prop:=(∃ xs,d=.tup xs∧(∀ x∈xs,flat 8 x=true)∧xs.length≤1000∧xs.all (zFx n)=false)∨((∀ xs,d≠.tup xs)∧∀ l,d≠.adr l)∨∃ l es,d=.adr l∧Ls G l es
def Good(n:Nat)(d:D)(ps:List Nat):Prop:=d=.tup (ps.map nD)∧(∀ x∈ps,x<n)∧ps.length≤60
theorem Bad.ext{n:Nat}{d:D}{G G':Gp}(h:Bad n d G)(e:Ext G G'):Bad n d G':=by
 rcases h with h | h | ⟨l,es,rfl,h⟩
 ·exact .inl h
 ·exact .inr (.inl h)
 ·exact .inr (.inr ⟨l,es,rfl,e.ls h⟩)
theorem zJ9{n:Nat}{ps:List Nat}(h:∀ x∈ps,x<n):(ps.map nD).all (zFx n)=true:=by
 rw[List.all_map,List.all_eq_true]
 intro x hx
 have:=h x hx
 simp only[Function.comp,nD,zFx,Bool.and_eq_true,decide_eq_true_eq]
 omega
def yY:Sp2:=fun ds G R=>∃(n:Nat) (d:D),ds=[nD n,d]∧((∃ ps,Good n d ps∧R (.bl true) G)∨(Bad n d G∧R (.bl false) G))
def zAB:yy:=(yC (zCZ (zBJ "tuple" (zB 1)) (zX zGd (za (iV (zB 1)) bd1 yq (zCZ (zK yG (zA (zB 2) zI)) (zAW (wK fun i j=>.bl (decide (i≤j))) (wK fun i j=>.bl (decide (i<j))) (xC (.int 0)) (zB 2) (zB 0)))))))
theorem zEz(ds:List D)(G:Gp)(R:Q2)(h:yY ds G R):ds.length=2∧zAB (zn R) (zO ["many","thing"] ds) G:=by
 obtain⟨n,d,rfl,h⟩:=h
 refine⟨rfl,?_⟩
 unfold zAB
 have tup:∀ xs:List D,(∀ x∈xs,flat 8 x=true)→R (.bl (xs.all (zFx n))) G→yC (zCZ (zBJ "tuple" (zB 1)) (zX zGd (za (iV (zB 1)) bd1 yq (zCZ (zK yG (zA (zB 2) zI)) (zAW (wK fun i j=>.bl (decide (i≤j))) (wK fun i j=>.bl (decide (i<j))) (xC (.int 0)) (zB 2) (zB 0)))))) (zn R) (zO ["many","thing"] [nD n,.tup xs]) G:=fun xs fx hR=>by
  have m:=zAt (σ:=zO ["many","thing"] [nD n,.tup xs]) (G:=G) (bd:=bd1) (te:=zCZ (zK yG (zA (zB 2) zI)) (zAW (wK fun i j=>.bl (decide (i≤j))) (wK fun i j=>.bl (decide (i<j))) (xC (.int 0)) (zB 2) (zB 0))) (fun d=>.bl (zFx n d)) (fun d=>[d]) (zAi (zE (i:=1) (d:=.tup xs) rfl)) fun x hx=>by
   refine⟨rfl,?_⟩
   have na:=zJ6 (fx x hx)
   have num:zg (zK yG (zA (zB 2) zI)) (zO ["many","thing"] [nD n,.tup xs]++[some x]) G (.bl (zJj x)):=zm (zF (zE (d:=x) rfl) zQ) fun _ _ _ q=>⟨x,rfl,.inl ⟨na,q⟩⟩
   cases x with
   | int v=>exact zEw (show zg _ _ _ (.bl true) from num) (zCd (f:=fun i j=>decide (i≤j)) (g:=fun i j=>decide (i<j)) (yH (d:=.int 0)) (zE rfl) (zE (i:=0) (d:=nD n) rfl))
   | _=>exact zCF (b:=false) num fun z=>by cases z
  rw[zLS] at m
  have a:=zGj m
  rw[List.all_map] at a
  exact ww (zEw (zMw (T:="tuple") (d:=.tup xs) (zE rfl) rfl) a) (.of hR)
 rcases h with ⟨ps,⟨rfl,hp,_⟩,h⟩ | ⟨hb,h⟩
 ·exact tup _ (zDW ps) (by rw[zJ9 hp];exact h)
 ·rcases hb with ⟨xs,rfl,fx,_,ha⟩ | ⟨h1,h2⟩ | ⟨l,es,rfl,hl⟩
  ·exact tup xs fx (by rw[ha];exact h)
  ·exact ww (zCF (b:=false) (zGh (T:="tuple") (d:=d) (zE rfl) h2 (zLQ h1)) fun z=>by cases z) (.of h)
  ·exact ww (zCF (b:=false) (zLR (l:=l) (zE rfl) hl) fun z=>by cases z) (.of h)
def zNG(ps:List Nat):Bool:=(List.range (ps.length-1)).all fun k=>decide (ps.getD k 0<ps.getD (k+1) 0)
theorem zKA:∀ ps:List Nat,zNG ps=true↔ps.Pairwise (·<·):=by
 intro ps
 unfold zNG
 rw[List.all_eq_true]
 constructor
 ·intro h
  have step:∀ k,k+1<ps.length→ps.getD k 0<ps.getD (k+1) 0:=fun k hk=>of_decide_eq_true (h k (List.mem_range.mpr (by omega)))
  have far:∀ m i,i+m+1<ps.length→ps.getD i 0<ps.getD (i+m+1) 0:=fun m=>by
   induction m with
   | zero=>intro i hi;exact step i hi
   | succ m ih=>intro i hi;exact Nat.lt_trans (ih i (by omega)) (step (i+m+1) (by omega))
  rw[List.pairwise_iff_getElem]
  intro i j hi hj hij
  have:=far (j-i-1) i (by omega)
  rw[show i+(j-i-1)+1=j by omega] at this
  simpa only[List.getD,hi,hj,List.getElem?_eq_getElem,Option.getD_some] using this
 ·intro h k hk
  have hk':=List.mem_range.mp hk
  have h1:k<ps.length:=by omega
  have h2:k+1<ps.length:=by omega
  refine decide_eq_true ?_
  simp only[List.getD,h1,h2,List.getElem?_eq_getElem,Option.getD_some]
  exact(List.pairwise_iff_getElem.mp h) k (k+1) h1 h2 (by omega)
def yZ:Sp2:=fun ds G R=>∃ ps:List Nat,ds=[.tup (ps.map nD)]∧ps.length≤1000∧R (.bl (zNG ps)) G
def zAC:yy:=(yC (zX zGd (za (iR1 (zA (zP (wK fun i j=>.int (i-j)) (zK yX (zA (zB 0) zI)) (xC (.int 1))) zI)) bd1 yq (zP (wK fun i j=>.bl (decide (i<j))) (zP zy (zB 0) (zB 1)) (zP zy (zB 0) (zP yJ (zB 1) (xC (.int 1))))))))
theorem zE0(ds:List D)(G:Gp)(R:Q2)(h:yZ ds G R):ds.length=1∧zAC (zn R) (zO ["things"] ds) G:=by
 obtain⟨ps,rfl,hl,h⟩:=h
 refine⟨rfl,?_⟩
 unfold zAC
 have rg:PuI (iR1 (zA (zP (wK fun i j=>.int (i-j)) (zK yX (zA (zB 0) zI)) (xC (.int 1))) zI)) (zO ["things"] [.tup (ps.map nD)]) G ((List.range (ps.length-1)).map nD):=by
  have:=zBV (zF (zBi (g:=fun i j=>.int (i-j)) (zEu (ps:=ps) (zE (σ:=zO ["things"] [.tup (ps.map nD)]) (G:=G) (i:=0) rfl)) (yH (d:=.int 1))) zQ) (by omega)
  rw[show((ps.length:Int)-1).toNat=((ps.length-1:Nat):Int).toNat by omega,zAz] at this
  exact this
 have m:=zAt (bd:=bd1) (te:=(zP (wK fun i j=>.bl (decide (i<j))) (zP zy (zB 0) (zB 1)) (zP zy (zB 0) (zP yJ (zB 1) (xC (.int 1)))))) (fun d=>match d with | .int v=>.bl (decide (ps.getD v.toNat 0<ps.getD (v.toNat+1) 0)) | _=>.non) (fun d=>[d]) rg fun x hx=>by
  obtain⟨k,hk,rfl⟩:=List.mem_map.mp hx
  have hk':=List.mem_range.mp hk
  refine⟨rfl,?_⟩
  have ad:zg (zP yJ (zB 1) (xC (.int 1))) (zO ["things"] [.tup (ps.map nD)]++[some (nD k)]) G (nD (k+1)):=by
   have:=zBN (σ:=zO ["things"] [.tup (ps.map nD)]++[some (nD k)]) (G:=G) (i:=(k:Int)) (j:=1) (zE (i:=1) rfl) yH
   rwa [show(k:Int)+1=((k+1:Nat):Int) by omega] at this
  have:=zBi (g:=fun i j=>.bl (decide (i<j))) (zHW (ps:=ps) (i:=k) (zE (σ:=zO ["things"] [.tup (ps.map nD)]++[some (nD k)]) (G:=G) (i:=0) rfl) (zE (i:=1) rfl) (by omega)) (zHW (ps:=ps) (i:=k+1) (zE (i:=0) rfl) ad (by omega))
  have e:decide (((ps.getD k 0:Nat):Int)<((ps.getD (k+1) 0:Nat):Int))=decide (ps.getD k 0<ps.getD (k+1) 0):=by
   rw[Bool.eq_iff_iff];simp
  rw[e] at this
  exact this
 have e:List.map (fun d=>match d with | .int v=>D.bl (decide (ps.getD v.toNat 0<ps.getD (v.toNat+1) 0)) | _=>.non) ((List.range (ps.length-1)).map nD)=((List.range (ps.length-1)).map fun k=>decide (ps.getD k 0<ps.getD (k+1) 0)).map D.bl:=by
  rw[List.map_map,List.map_map];rfl
 rw[e] at m
 have a:=zGj m
 rw[List.all_map] at a
 exact ww a (.of h)
end K
namespace L3
open PySem PySem.Spec PyProof.Rows L2
section
variable {X:Cx} {a b e:Expr} {ta tb te:zk} {t:yt} {p pos:Pos}
theorem zLT:OpR X (binaryOp .Mult) (fun x y H Q=>zEy X.K x y H Q∨zHX X.K x y H Q):=by
 intro pins s σ H x y v u Q I rx ry h
 rcases h with h | h
 ·exact zJo pins s σ H x y v u Q I rx ry h
 ·exact zLE pins s σ H x y v u Q I rx ry h
def zFy:D→D→Gp→Q2→Prop:=fun x y G R=>match x,y with
 | .tup xs,.int k=>xs≠[]∧0≤k∧xs.length*k.toNat≤1000000∧R (.tup (List.replicate k.toNat xs).flatten) G
 | _,_=>False
theorem zKB{K:PySem.W.Frag}:Fit K (fun x y H Q=>zEy K x y H Q∨zHX K x y H Q) zFy:=by
 intro dx dy G R x y H Q h r d1 d2 k
 unfold zFy at h
 split at h
 ·rename_i xs j
  obtain⟨hne,h0,hz,h⟩:=h
  by_cases h2:2≤j
  ·exact .inr (zJl (.tup xs) (.int j) G R x y H Q ⟨hne,h2,hz,h⟩ r d1 d2 k)
  ·refine .inl (zIU (.tup xs) (.int j) G R x y H Q ⟨by omega,?_⟩ r d1 d2 k)
   have:(List.replicate j.toNat xs).flatten=if j=1 then xs else []:=by
    by_cases h1:j=1
    ·subst h1;simp
    ·have:j=0:=by omega
     subst this;simp
   rw[← this];exact h
 ·exact h.elim
theorem zNH(ha:E2 X a ta)(hb:E2 X b tb):E2 X (.BinOp a .Mult b pos) (zP zFy ta tb):=zEi zLT zKB ha hb
end
end L3
namespace L3
open PySem PySem.Spec PyProof.Rows L2 HT2 HS
end L3
namespace L3
open PySem PySem.Spec PyProof.Rows L2
section
variable {X:Cx} {e:Expr} {p pos:Pos}
end
end L3
namespace L3
open PySem PySem.Spec PyProof.Rows L2
section
variable {X:Cx} {a b:Expr} {ta tb:zk} {pos:Pos}
theorem zOB(ha:E2 X a ta)(hb:E2 X b tb):E2 X (.BinOp a .LShift b pos) (zP (yW zDB fun i j=>.int (i*2 ^ j.toNat)) ta tb):=zEi zMV (zBy fun _ _=>⟨rfl,rfl⟩) ha hb
theorem zLx(ha:E2 X a ta)(hb:E2 X b tb):E2 X (.BinOp a .BitXor b pos) (zP (wK fun i j=>.int (Builtin.bitXor i j)) ta tb):=zEi zMW (wW fun _ _=>⟨rfl,rfl⟩) ha hb
end
theorem zFz(a b:Nat):(a ^^^ b)+2*(a &&& b)=a+b:=by
 induction a using Nat.strongRecOn generalizing b with
 | _ a ih =>
  by_cases h:a=0
  ·subst h;simp
  ·have h0:=ih (a / 2) (by omega) (b / 2)
   rw[← Nat.xor_div_two,← Nat.and_div_two] at h0
   have h1:=@Nat.xor_mod_two_eq_one a b
   have h2:=@Nat.and_mod_two_eq_one a b
   have h3:(a ^^^ b)%2+2*((a &&& b)%2)=a%2+b%2:=by
    clear h0 ih h
    rcases Nat.mod_two_eq_zero_or_one a with x | x<;>rcases Nat.mod_two_eq_zero_or_one b with y | y<;>rcases Nat.mod_two_eq_zero_or_one (a &&& b) with z | z<;>rcases Nat.mod_two_eq_zero_or_one (a ^^^ b) with w | w<;>rw[x,y,z,w]<;>rw[x,y,z] at h2<;>rw[x,y,w] at h1<;>simp at h1 h2 ⊢
   generalize a ^^^ b=u at h0 h3 ⊢
   generalize a &&& b=v at h0 h3 ⊢
   omega
theorem zGx(a b:Nat):Builtin.bitXor (a:Int) (b:Int)=((a ^^^ b:Nat):Int):=by
 have e:Builtin.bitAnd (a:Int) (b:Int)=((a &&& b:Nat):Int):=by
  unfold Builtin.bitAnd
  have h1:decide ((0:Int)≤(a:Int))=true:=decide_eq_true (by omega)
  have h2:decide ((0:Int)≤(b:Int))=true:=decide_eq_true (by omega)
  rw[h1,h2]
  rfl
 have h:=zFz a b
 rw[PyProof.Rows.bitXor_and,e]
 omega
end L3
namespace K
def spn:List Nat→Nat→Prop
 | [],x=>x=0
 | b::l,x=>spn l x∨spn l (x ^^^ b)
theorem xr(x a b:Nat):x ^^^ a ^^^ b=x ^^^ b ^^^ a:=by rw[Nat.xor_assoc,Nat.xor_comm a b,← Nat.xor_assoc]
theorem xc(x a:Nat):x ^^^ a ^^^ a=x:=by rw[Nat.xor_assoc,Nat.xor_self,Nat.xor_zero]
theorem zA4:∀ {l:List Nat} {x y:Nat},spn l x→spn l y→spn l (x ^^^ y)
 | [],x,y,h,h'=>by
  have h1:x=0:=h
  have h2:y=0:=h'
  subst h1 h2;rfl
 | b::l,x,y,h,h'=>by
  rcases h with h | h<;>rcases h' with h' | h'
  ·exact .inl (zA4 h h')
  ·refine .inr ?_
   have:=zA4 h h'
   rwa [← Nat.xor_assoc] at this
  ·refine .inr ?_
   have:=zA4 h h'
   rwa [xr] at this
  ·refine .inl ?_
   have:=zA4 h h'
   rwa [← Nat.xor_assoc,xr x b y,xc] at this
theorem zDo:∀ {l:List Nat} {b x:Nat},spn (l++[b]) x↔spn l x∨spn l (x ^^^ b)
 | [],b,x=>Iff.rfl
 | a::l,b,x=>by
  show(spn (l++[b]) x∨spn (l++[b]) (x ^^^ a))↔_
  rw[zDo,zDo,xr x a b]
  show _↔(spn l x∨spn l (x ^^^ a))∨(spn l (x ^^^ b)∨spn l (x ^^^ b ^^^ a))
  constructor
  ·rintro((h | h) | (h | h))
   ·exact .inl (.inl h)
   ·exact .inr (.inl h)
   ·exact .inl (.inr h)
   ·exact .inr (.inr h)
  ·rintro((h | h) | (h | h))
   ·exact .inl (.inl h)
   ·exact .inr (.inl h)
   ·exact .inl (.inr h)
   ·exact .inr (.inr h)
theorem zC8{i:Nat}:∀ {l:List Nat} {s:Nat},(∀ b∈l,b.testBit i=false)→spn l s→s.testBit i=false
 | [],s,_,h=>by
  have h1:s=0:=h
  subst h1;exact Nat.zero_testBit i
 | b::l,s,hb,h=>by
  rcases h with h | h
  ·exact zC8 (fun x hx=>hb x (List.mem_cons_of_mem _ hx)) h
  ·have:=zC8 (fun x hx=>hb x (List.mem_cons_of_mem _ hx)) h
   rw[Nat.testBit_xor,hb b List.mem_cons_self,Bool.xor_false] at this
   exact this
def red(free:List Nat)(x:Nat):Nat:=free.foldl (fun x b=>min x (x ^^^ b)) x
def gdB(free:List Nat):Prop:=free.Pairwise (fun a b=>b.testBit a.log2=false)∧∀ b∈free,b≠0
theorem zE1{a:Nat}(h:a≠0):a.testBit a.log2=true:=Nat.testBit_log2 h
theorem zF0{a j:Nat}(h:a.log2<j):a.testBit j=false:=by
 apply Nat.testBit_lt_two_pow
 exact Nat.lt_of_lt_of_le Nat.lt_log2_self (Nat.pow_le_pow_right (by omega) h)
theorem zKC{x y:Nat}(i:Nat)(hx:x.testBit i=false)(hy:y.testBit i=true)(h:∀ j,i<j→x.testBit j=y.testBit j):x<y:=by
 have e:x / 2 ^ (i+1)=y / 2 ^ (i+1):=Nat.eq_of_testBit_eq fun k=>by
  rw[Nat.testBit_div_two_pow,Nat.testBit_div_two_pow]
  exact h _ (by omega)
 rw[Nat.testBit_eq_decide_div_mod_eq] at hx hy
 have hx':=of_decide_eq_false hx
 have hy':=of_decide_eq_true hy
 rw[Nat.pow_succ,← Nat.div_div_eq_div_mul,← Nat.div_div_eq_div_mul] at e
 have lt:x / 2 ^ i<y / 2 ^ i:=by omega
 refine Nat.lt_of_not_le fun hle=>?_
 have:=Nat.div_le_div_right (c:=2 ^ i) hle
 omega
theorem zLU{a:Nat}(h:a≠0)(x:Nat):(min x (x ^^^ a)).testBit a.log2=false∧(min x (x ^^^ a)=x∨min x (x ^^^ a)=x ^^^ a):=by
 cases hx:x.testBit a.log2 with
 | true =>
  have h1:(x ^^^ a).testBit a.log2=false:=by rw[Nat.testBit_xor,hx,zE1 h];rfl
  have h2:x ^^^ a<x:=zKC a.log2 h1 hx fun j hj=>by rw[Nat.testBit_xor,zF0 hj,Bool.xor_false]
  rw[Nat.min_eq_right (by omega)]
  exact⟨h1,.inr rfl⟩
 | false =>
  have h1:(x ^^^ a).testBit a.log2=true:=by rw[Nat.testBit_xor,hx,zE1 h];rfl
  have h2:x<x ^^^ a:=zKC a.log2 hx h1 fun j hj=>by rw[Nat.testBit_xor,zF0 hj,Bool.xor_false]
  rw[Nat.min_eq_left (by omega)]
  exact⟨hx,.inl rfl⟩
theorem zE2:∀ {free:List Nat} (x:Nat),gdB free→spn free (x ^^^ red free x)∧∀ b∈free,(red free x).testBit b.log2=false
 | [],x,_=>⟨by show x ^^^ x=0;exact Nat.xor_self x,fun b hb=>nomatch hb⟩
 | a::l,x,⟨h1,h2⟩=>by
  have h1':=List.pairwise_cons.mp h1
  have ha:=h2 a List.mem_cons_self
  obtain⟨m1,m2⟩:=zLU ha x
  obtain⟨i1,i2⟩:=zE2 (free:=l) (min x (x ^^^ a)) ⟨h1'.2,fun b hb=>h2 b (List.mem_cons_of_mem _ hb)⟩
  have e:red (a::l) x=red l (min x (x ^^^ a)):=rfl
  rw[e]
  refine⟨?_,fun b hb=>?_⟩
  ·rcases m2 with m | m
   ·rw[m] at i1 ⊢;exact .inl i1
   ·rw[m] at i1 ⊢
    refine .inr ?_
    rwa [xr] at i1
  ·rcases List.mem_cons.mp hb with rfl | hb
   ·have:=zC8 h1'.1 i1
    rw[Nat.testBit_xor,m1,Bool.false_xor] at this
    exact this
   ·exact i2 b hb
theorem zF1:∀ {free:List Nat} {y:Nat},gdB free→spn free y→(∀ b∈free,y.testBit b.log2=false)→y=0
 | [],y,_,h,_=>h
 | a::l,y,⟨h1,h2⟩,h,hb=>by
  have h1':=List.pairwise_cons.mp h1
  rcases h with h | h
  ·exact zF1 ⟨h1'.2,fun b hb=>h2 b (List.mem_cons_of_mem _ hb)⟩ h fun b hb'=>hb b (List.mem_cons_of_mem _ hb')
  ·exfalso
   have:=zC8 h1'.1 h
   rw[Nat.testBit_xor,hb a List.mem_cons_self,zE1 (h2 a List.mem_cons_self)] at this
   cases this
theorem zCH{free:List Nat}{x:Nat}(h:gdB free):red free x=0↔spn free x:=by
 obtain⟨h1,h2⟩:=zE2 x h
 constructor
 ·intro e
  rw[e,Nat.xor_zero] at h1;exact h1
 ·intro hx
  refine zF1 h ?_ h2
  have:=zA4 hx h1
  rwa [← Nat.xor_assoc,Nat.xor_self,Nat.zero_xor] at this
def wx(free:List Nat)(row:Nat):List Nat:=if red free row≠0 then free++[red free row] else free
theorem zLV{free:List Nat}{row:Nat}(h:gdB free):gdB (wx free row):=by
 unfold wx
 split
 ·rename_i hz
  obtain⟨h1,h2⟩:=zE2 row h
  refine⟨List.pairwise_append.mpr ⟨h.1,List.pairwise_singleton _ _,fun a ha b hb=>?_⟩,fun b hb=>?_⟩
  ·rw[List.mem_singleton.mp hb];exact h2 a ha
  ·rcases List.mem_append.mp hb with hb | hb
   ·exact h.2 b hb
   ·rw[List.mem_singleton.mp hb];exact hz
 ·exact h
def wn(st:List Nat×Nat)(row:Nat):List Nat×Nat:=if row∈st.1 then st else (st.1++st.1.map (row ^^^ ·),st.2+1)
theorem zDp:∀(rows:List Nat) (free:List Nat) (st:List Nat×Nat),gdB free→(∀ x,x∈st.1↔spn free x)→st.2=free.length→(rows.foldl wx free).length=(rows.foldl wn st).2
 | [],free,st,_,_,h=>h.symm
 | row::rows,free,st,hg,hm,hl=>by
  rw[List.foldl_cons,List.foldl_cons]
  refine zDp rows _ _ (zLV hg) (fun x=>?_) ?_
  ·unfold wx wn
   by_cases hz:red free row=0
   ·rw[if_neg (show ¬ red free row≠0 from fun z=>z hz),if_pos ((hm row).mpr ((zCH hg).mp hz))]
    exact hm x
   ·rw[if_pos hz,if_neg fun z=>hz ((zCH hg).mpr ((hm row).mp z))]
    obtain⟨h1,_⟩:=zE2 row hg
    rw[zDo,List.mem_append,hm x,List.mem_map]
    constructor
    ·rintro(h | ⟨y,hy,rfl⟩)
     ·exact .inl h
     ·refine .inr ?_
      have:=zA4 ((hm y).mp hy) h1
      rwa [show y ^^^ (row ^^^ red free row)=row ^^^ y ^^^ red free row by rw[← Nat.xor_assoc,Nat.xor_comm y row]] at this
    ·rintro(h | h)
     ·exact .inl h
     ·refine .inr ⟨x ^^^ row,(hm _).mpr ?_,by rw[Nat.xor_comm x row,← Nat.xor_assoc,Nat.xor_self,Nat.zero_xor]⟩
      have:=zA4 h h1
      rwa [show x ^^^ red free row ^^^ (row ^^^ red free row)=x ^^^ row by rw[← Nat.xor_assoc,xr x _ row,xc]] at this
  ·unfold wx wn
   by_cases hz:red free row=0
   ·rw[if_neg (show ¬ red free row≠0 from fun z=>z hz),if_pos ((hm row).mpr ((zCH hg).mp hz))]
    exact hl
   ·rw[if_pos hz,if_neg fun z=>hz ((zCH hg).mpr ((hm row).mp z)),List.length_append]
    simp[hl]
theorem zIe(rows:List Nat):(rows.foldl wx []).length=(rows.foldl wn ([0],0)).2 :=
 zDp rows [] ([0],0) ⟨.nil,fun b hb=>nomatch hb⟩ (fun x=>by simp[spn]) rfl
end K
namespace K
open PySem PySem.Spec PyProof.Rows L2 L3
theorem snoc_ind{P:List Nat→Prop}(nil:P [])(append_singleton:∀ l o,P l→P (l++[o]))(l:List Nat):P l:=by
 rw[← List.reverse_reverse l]
 induction l.reverse with
 | nil=>exact nil
 | cons a r ih=>rw[List.reverse_cons];exact append_singleton _ _ ih
def zF2(l:List Nat):Nat:=(l.map fun o=>2 ^ o).sum
theorem zLW:∀(l:List Nat) (m:Nat),l.Pairwise (·<·)→(∀ x∈l,x<m)→zF2 l<2 ^ m:=by
 intro l
 induction l using snoc_ind with
 | nil=>intro m _ _;exact Nat.two_pow_pos m
 | append_singleton l o ih =>
  intro m hp hm
  have hp':=List.pairwise_append.mp hp
  have h1:=ih o hp'.1 fun x hx=>hp'.2.2 x hx o (by simp)
  have ho:=hm o (by simp)
  have h2:2 ^ (o+1)≤2 ^ m:=Nat.pow_le_pow_right (by omega) ho
  unfold zF2 at *
  rw[List.map_append,List.sum_append]
  simp only[List.map_cons,List.map_nil,List.sum_cons,List.sum_nil]
  rw[Nat.pow_succ] at h2
  omega
theorem zF3:∀(l:List Nat),l.Pairwise (·<·)→∀ i,(zF2 l).testBit i=decide (i∈l):=by
 intro l
 induction l using snoc_ind with
 | nil=>intro _ i;simp[zF2]
 | append_singleton l o ih =>
  intro hp i
  have hp':=List.pairwise_append.mp hp
  have hl:=zLW l o hp'.1 fun x hx=>hp'.2.2 x hx o (by simp)
  have h1:=ih hp'.1 i
  have e:zF2 (l++[o])=2 ^ o*1+zF2 l:=by
   unfold zF2
   rw[List.map_append,List.sum_append]
   simp;omega
  rw[e,Nat.testBit_two_pow_mul_add _ hl]
  by_cases hi:i<o
  ·rw[if_pos hi,h1]
   have:i≠o:=by omega
   simp[this]
  ·rw[if_neg hi]
   have hni:i∉l:=fun z=>by have:=hp'.2.2 i z o (by simp);omega
   by_cases hio:i=o
   ·subst hio;simp
   ·obtain⟨j,hj⟩:∃ j,i-o=j+1:=⟨i-o-1,by omega⟩
    rw[hj,Nat.testBit_succ]
    simp[hni,hio]
def oth(n:Nat)(ps:List Nat):List Nat:=(List.range n).filter fun x=>!decide (x∈ps)
theorem zKD(n:Nat)(ps:List Nat):(oth n ps).Pairwise (·<·):=List.pairwise_lt_range.sublist List.filter_sublist
theorem zKE{n:Nat}{ps:List Nat}{x:Nat}(h:x∈oth n ps):x<n:=List.mem_range.mp (List.mem_filter.mp h).1
theorem zHo(n:Nat)(ps:List Nat):(oth n ps).length≤n:=by
 have:=List.length_filter_le (fun x=>!decide (x∈ps)) (List.range n)
 rw[List.length_range] at this;exact this
theorem zKF{σ:S2}{G:Gp}{i:Nat}{t:zk}{n:Nat}{ps:List Nat}{q:Nat×Nat→Bool}(h0:look σ 0=some (zT n q))(ht:∀ k:Nat,zg t (σ++[nD k].map some) G (uD ps))(hk:∀ k:Nat,look (σ++[nD k].map some) i=some (nD k))(hn:n≤1000):PuL (za (iR1 (zA (zP zy (zB 0) (xC (.int 0))) zI)) bd1 (xB (zP (fIn true) (zB i) t)) (zB i)) σ G ((oth n ps).map nD):=by
 have c:=zAs (σ:=σ) (G:=G) (bd:=bd1) (tc:=(xB (zP (fIn true) (zB i) t))) (te:=zB i) (fun d=>match d with | .int v=>!decide (v.toNat∈ps) | _=>false) (fun d=>d) (fun d=>[d])
  (show PuI (iR1 (zA (zP zy (zB 0) (xC (.int 0))) zI)) _ _ ((List.range n).map nD) by
   rw[← zAz]
   exact zBV (zF (wv (zE h0)) zQ) (by omega)) fun x hx=>by
  obtain⟨k,hk',rfl⟩:=List.mem_map.mp hx
  refine⟨rfl,zAL (zGf (zE (hk k)) (ht k) rfl (zDW ps) ?_),fun _=>zE (hk k)⟩
  rw[if_pos rfl,zJc];rfl
 have e:List.map (fun d=>d) (List.filter (fun d=>match d with | .int v=>!decide (v.toNat∈ps) | _=>false) ((List.range n).map nD))=(oth n ps).map nD:=by
  rw[List.map_id',List.filter_map];rfl
 rw[e] at c
 exact c
def yr:Sp2:=fun ds G R=>∃(n:Nat) (q:Nat×Nat→Bool) (ps:List Nat),ds=[zT n q,uD ps]∧n≤100∧R (uD (oth n ps)) G
def zAD:yy:=(yC (zX zj (za (iR1 (zA (zP zy (zB 0) (xC (.int 0))) zI)) bd1 (xB (zP (fIn true) (zB 2) (zB 1))) (zB 2))))
theorem zE3(ds:List D)(G:Gp)(R:Q2)(h:yr ds G R):ds.length=2∧zAD (zn R) (zO ["web","places"] ds) G:=by
 obtain⟨n,q,ps,rfl,hn,h⟩:=h
 refine⟨rfl,?_⟩
 unfold zAD
 exact ww (zB3 (zKF (σ:=zO ["web","places"] [zT n q,uD ps]) (n:=n) (q:=q) rfl (fun k=>zE rfl) (fun k=>rfl) (by omega))) (.of h)
def mask(q:Nat×Nat→Bool)(i:Nat)(os:List Nat):Nat:=zF2 (os.filter (adj q i))
def zAm:Sp2:=fun ds G R=>∃(n:Nat) (q:Nat×Nat→Bool) (i:Nat) (os:List Nat),ds=[zT n q,nD i,uD os]∧i<n∧(∀ x∈os,x<n)∧n≤9∧os.length≤50∧R (nD (mask q i os)) G
def zCI:yy:=(yC (zX zJ5 (za (iV (zB 2)) bd1 (xB (zK zAy (zA (zB 0) (zA (zB 1) (zA (zB 3) zI))))) (zP (yW zDB fun i j=>.int (i*2 ^ j.toNat)) (xC (.int 1)) (zB 3)))))
theorem zKG(l:List Nat):(l.map fun(x:Nat)=>(x:Int)).sum=((l.sum:Nat):Int):=by
 induction l with
 | nil=>rfl
 | cons a r ih=>rw[List.map_cons,List.sum_cons,ih,List.sum_cons];omega
theorem zKH(ds:List D)(G:Gp)(R:Q2)(h:zAm ds G R):ds.length=3∧zCI (zn R) (zO ["web","place","others"] ds) G:=by
 obtain⟨n,q,i,os,rfl,hi,ho,hn,hl,h⟩:=h
 refine⟨rfl,?_⟩
 unfold zCI
 have c:=zAs (σ:=zO ["web","place","others"] [zT n q,nD i,uD os]) (G:=G) (bd:=bd1) (tc:=(xB (zK zAy (zA (zB 0) (zA (zB 1) (zA (zB 3) zI)))))) (te:=(zP (yW zDB fun i j=>.int (i*2 ^ j.toNat)) (xC (.int 1)) (zB 3))) (fun d=>match d with | .int v=>adj q i v.toNat | _=>false) (fun d=>match d with | .int v=>nD (2 ^ v.toNat) | _=>.non) (fun d=>[d]) (zAi (zE (i:=2) (d:=uD os) rfl)) fun x hx=>by
  obtain⟨k,hk,rfl⟩:=List.mem_map.mp hx
  refine⟨rfl,zAL (zm (zF (zE (d:=zT n q) rfl) (zF (zE (d:=nD i) rfl) (zF (zE (d:=nD k) rfl) zQ))) fun _ _ _ q'=>⟨n,q,i,k,rfl,hi,ho k hk,q'⟩),fun _=>wt (x:=.int 1) (y:=nD k) yH (zE rfl) fun _ _ _ q'=>⟨⟨by omega,by have:=ho k hk;omega,by decide⟩,?_⟩⟩
  dsimp only
  have:(1:Int)*2 ^ ((k:Int)).toNat=((2 ^ k:Nat):Int):=by simp
  rw[this]
  exact q'
 have e:List.map (fun d=>match d with | .int v=>nD (2 ^ v.toNat) | _=>.non) (List.filter (fun d=>match d with | .int v=>adj q i v.toNat | _=>false) (os.map nD))=(((os.filter (adj q i)).map fun o=>2 ^ o).map fun(x:Nat)=>(x:Int)).map D.int:=by
  rw[List.filter_map,List.map_map,List.map_map,List.map_map];rfl
 rw[e] at c
 have s:zg (zX zJ5 (za (iV (zB 2)) bd1 (xB (zK zAy (zA (zB 0) (zA (zB 1) (zA (zB 3) zI))))) (zP (yW zDB fun i j=>.int (i*2 ^ j.toNat)) (xC (.int 1)) (zB 3)))) (zO ["web","place","others"] [zT n q,nD i,uD os]) G (nD (mask q i os)):=fun G2 e2 R' q'=>c G2 e2 _ ⟨_,rfl,by
   have:=List.length_filter_le (adj q i) os
   simp only[List.length_map];omega,fun a ha=>by
   obtain⟨b,hb,rfl⟩:=List.mem_map.mp ha
   obtain⟨o,ho',rfl⟩:=List.mem_map.mp hb
   have:=ho o (List.mem_filter.mp ho').1
   have h2:2 ^ o≤2 ^ 9:=Nat.pow_le_pow_right (by omega) (by omega)
   generalize 2 ^ o=z at h2 ⊢
   omega,by rw[zKG];exact q'⟩
 exact ww s (.of h)
def rk(n:Nat)(q:Nat×Nat→Bool)(ps:List Nat):List Nat:=(ps.map fun i=>mask q i (oth n ps)).foldl wx []
def wF:Sp2:=fun ds G R=>∃(n:Nat) (q:Nat×Nat→Bool) (ps:List Nat),ds=[zT n q,uD ps]∧n≤9∧(∀ x∈ps,x<n)∧ps.length≤50∧R (nD (rk n q ps).length) G
def zA5:yy:=(zb (zp (zK yr (zA (zB 0) (zA (zB 1) zI))) (gN 2)) (zb (zp (zx (wf zI)) (gN 3)) (zb (wu (iV (zB 1)) (gN 4) (zb (zp (zK zAm (zA (zB 0) (zA (zB 4) (zA (zB 2) zI)))) (gN 5)) (zb (wu (iV (zB 3)) (gN 6) (zp (zK yl (zA (zB 5) (zA (zP (wK fun i j=>.int (Builtin.bitXor i j)) (zB 5) (zB 6)) zI))) (gN 5))) (xIf (xB (zP (fEq true) (zB 5) (xC (.int 0)))) (zAg (zGW (zB 3) (zA (zB 5) zI))) ye)))) (yC (zK yX (zA (zB 3) zI))))))
theorem zIf(free:List Nat)(row:Nat):(wx free row).length≤free.length+1:=by
 unfold wx
 split<;>simp
theorem zEV:∀(rows free:List Nat),(rows.foldl wx free).length≤free.length+rows.length
 | [],free=>by simp
 | r::rows,free=>by
  rw[List.foldl_cons,List.length_cons]
  have:=zEV rows (wx free r)
  have:=zIf free r
  omega
theorem zHp{σ:S2}{G:Gp}{t u:zk}{a b:Nat}(h:zg t σ G (nD a))(h':zg u σ G (nD b)):zg (zK yl (zA t (zA u zI))) σ G (nD (min a b)):=by
 have a3:zg (zK yl (zA t (zA u zI))) σ G (.int (if (b:Int)<(a:Int) then (b:Int) else (a:Int))):=zm (zF h (zF h' zQ)) fun _ _ _ q=>q
 have e:(if (b:Int)<(a:Int) then (b:Int) else (a:Int))=((min a b:Nat):Int):=by split<;>omega
 rw[e] at a3
 exact a3
theorem zLX{σ:S2}{G:Gp}{t u:zk}{a b:Nat}(h:zg t σ G (nD a))(h':zg u σ G (nD b)):zg (zP (wK fun i j=>.int (Builtin.bitXor i j)) t u) σ G (nD (a ^^^ b)):=by
 have:=zBi (g:=fun i j=>.int (Builtin.bitXor i j)) h h'
 rw[zGx] at this
 exact this
theorem zGy(ds:List D)(G:Gp)(R:Q2)(h:wF ds G R):ds.length=2∧zA5 (zn R) (zO ["web","places","others","free","place","rest","row"] ds) G:=by
 obtain⟨n,q,ps,rfl,hn,hm,hl,h⟩:=h
 refine⟨rfl,?_⟩
 unfold zA5
 rw[show zO ["web","places","others","free","place","rest","row"] [zT n q,uD ps]=[some (zT n q),some (uD ps),none,none,none,none,none] from rfl]
 refine zBY (d:=uD (oth n ps)) (zm (zF (zE rfl) (zF (zE rfl) zQ)) fun _ _ _ q'=>⟨n,q,ps,rfl,by omega,q'⟩) ?_
 simp only[gN,List.set_cons_succ,List.set_cons_zero]
 refine yg (zBP (ds:=[]) (fun G2 e R q=>zEM (zFd ⟨by rw[sizeLine_eq];simp,q⟩)) fun f hf=>?_)
 simp only[gN,List.set_cons_succ,List.set_cons_zero]
 have hol:=zHo n ps
 refine zBq (zMx (ds:=ps.map nD) (zE rfl) (zEq (fun k G'=>G'.m f=some ((((ps.take k).map fun i=>mask q i (oth n ps)).foldl wx []).map nD)∧L3.Sub G G') ⟨by simpa using zH,.new hf⟩ (fun _ _ _=>trivial) ?_ ?_))
 ·rintro k x hx G2 ⟨h1,h2⟩
  obtain⟨i,hi,rfl⟩:=zAo hx
  have hin:=hm i (List.mem_of_getElem? hi)
  have hkl:k<ps.length:=(List.getElem?_eq_some_iff.mp hi).1
  simp only[gN,List.set_cons_succ,List.set_cons_zero]
  rw[yj hi,List.map_append,List.foldl_append]
  simp only[List.map_cons,List.map_nil,List.foldl_cons,List.foldl_nil]
  have hfl:(((ps.take k).map fun i=>mask q i (oth n ps)).foldl wx []).length≤50:=by
   have:=zEV ((ps.take k).map fun i=>mask q i (oth n ps)) []
   rw[List.length_map,List.length_take] at this
   simp only[List.length_nil] at this
   omega
  generalize ((ps.take k).map fun i=>mask q i (oth n ps)).foldl wx []=free at h1 hfl
  refine zBY (d:=nD (mask q i (oth n ps))) (zm (zF (zE rfl) (zF (zE rfl) (zF (zE rfl) zQ))) fun _ _ _ q'=>⟨n,q,i,oth n ps,rfl,hin,fun x hx=>zKE hx,hn,by omega,q'⟩) ?_
  simp only[gN,List.set_cons_succ,List.set_cons_zero]
  generalize mask q i (oth n ps)=row
  refine zBq (show iV _ _ _ _ from(zE (i:=3) (d:=.adr f) rfl) _ (.refl _) _ ⟨free.map nD,.inl h1,⟨fun j σ' G'=>σ'=[some (zT n q),some (uD ps),some (uD (oth n ps)),some (.adr f),some (nD i),some (nD (red (free.take j) row)),none]∧G'=G2,⟨rfl,rfl⟩,?_,?_,?_⟩⟩)
  ·rintro j σ' G' _ ⟨_,rfl⟩
   exact .inl h1
  ·rintro j x σ' G' hx ⟨rfl,rfl⟩
   obtain⟨b,hb,rfl⟩:=zAo hx
   simp only[gN,List.set_cons_succ,List.set_cons_zero]
   refine zN9 (zHp (zE rfl) (zLX (zE rfl) (zE rfl))) ?_
   simp only[gN,List.set_cons_succ,List.set_cons_zero]
   refine⟨_,_,.keep (.keep (.keep (.keep (.keep (.keep (.skip .nil)))))),.refl _,?_,rfl⟩
   rw[yj hb]
   unfold red
   rw[List.foldl_append];rfl
  ·rintro σ' G' ⟨rfl,rfl⟩
   rw[List.length_map,List.take_length]
   have t:PuT (xB (zP (fEq true) (zB 5) (xC (.int 0)))) [some (zT n q),some (uD ps),some (uD (oth n ps)),some (.adr f),some (nD i),some (nD (red free row)),none] G' (!decide (red free row=0)):=zAL (zBO (x:=nD (red free row)) (y:=nD 0) (zE rfl) yH rfl rfl (by rw[if_pos rfl,zDZ]))
   by_cases hz:red free row=0
   ·rw[decide_eq_true hz] at t
    dsimp only
    refine zLt t ⟨.keep (.keep (.keep (.keep (.skip (.skip (.skip .nil)))))),G',.refl _,?_,h2⟩
    unfold wx
    rw[if_neg (fun z=>z hz)]
    exact h1
   ·rw[decide_eq_false hz] at t
    dsimp only
    refine zJg t (zJ8 (zHU (d:=nD (red free row)) rfl h1 (fun Q q'=>zF (zE rfl) zQ _ (.refl _) _ q') (by rw[List.length_map];omega) ?_))
    refine⟨.keep (.keep (.keep (.keep (.skip (.skip (.skip .nil)))))),_,.refl _,?_,h2.put hf⟩
    unfold wx
    rw[if_pos hz,zH]
    simp
 ·rintro G2 ⟨h1,h2⟩
  rw[List.length_map,List.take_length] at h1
  dsimp only
  exact ww (d:=nD (rk n q ps).length) (zm (zF (zE (i:=3) (d:=.adr f) rfl) zQ) fun _ e _ q'=>⟨_,e.ls (.inl h1),by rw[List.length_map];exact q'⟩) ⟨G,h2,h⟩
def zBs(n:Nat)(q:Nat×Nat→Bool)(ps:List Nat):Bool:=decide (2≤ps.length)&&decide (ps.length+2≤n)&&decide ((rk n q ps).length≤1)
def wo:Sp2:=fun ds G R=>∃(n:Nat) (q:Nat×Nat→Bool) (ps:List Nat),ds=[zT n q,uD ps]∧n≤9∧(∀ x∈ps,x<n)∧ps.length≤50∧ps.Pairwise (·<·)∧R (.bl (zBs n q ps)) G
def zA6:yy:=(zb (xIf (zBD (zA9 (xB (zK yY (zA (zP zy (zB 0) (xC (.int 0))) (zA (zB 1) zI))))) (zA9 (xB (zK yZ (zA (zB 1) zI))))) (yC (xC (.bl false))) ye) (yC (zCZ (zAW (wK fun i j=>.bl (decide (i≤j))) (wK fun i j=>.bl (decide (i≤j))) (xC (.int 2)) (zK yX (zA (zB 1) zI)) (zP (wK fun i j=>.int (i-j)) (zP zy (zB 0) (xC (.int 0))) (xC (.int 2)))) (zP (wK fun i j=>.bl (decide (i≤j))) (zK wF (zA (zB 0) (zA (zB 1) zI))) (xC (.int 1))))))
theorem zGz(ds:List D)(G:Gp)(R:Q2)(h:wo ds G R):ds.length=2∧zA6 (zn R) (zO ["web","places"] ds) G:=by
 obtain⟨n,q,ps,rfl,hn,hm,hl,hr,h⟩:=h
 refine⟨rfl,?_⟩
 unfold zA6
 rw[show zO ["web","places"] [zT n q,uD ps]=[some (zT n q),some (uD ps)] from rfl]
 have c1:zg (zK yY (zA (zP zy (zB 0) (xC (.int 0))) (zA (zB 1) zI))) [some (zT n q),some (uD ps)] G (.bl true):=zm (zF (wv (zE rfl)) (zF (zE (d:=uD ps) rfl) zQ)) fun _ _ _ q'=>⟨n,_,rfl,.inl ⟨ps,⟨rfl,hm,by omega⟩,q'⟩⟩
 have c2:zg (zK yZ (zA (zB 1) zI)) [some (zT n q),some (uD ps)] G (.bl true):=zm (zF (zE (d:=uD ps) rfl) zQ) fun _ _ _ q'=>⟨ps,rfl,by omega,by rw[(zKA ps).mpr hr];exact q'⟩
 refine wA (zGi (zEp (b:=true) (zAL c1)) (zEp (b:=true) (zAL c2))) ?_
 have a1:=zCd (f:=fun i j=>decide (i≤j)) (g:=fun i j=>decide (i≤j)) (yH (σ:=[some (zT n q),some (uD ps)]) (G:=G) (d:=.int 2)) (zEu (ps:=ps) (zE (i:=1) rfl)) (zBi (g:=fun i j=>.int (i-j)) (wv (n:=n) (q:=q) (zE (i:=0) rfl)) (yH (d:=.int 2)))
 have a2:zg (zP (wK fun i j=>.bl (decide (i≤j))) (zK wF (zA (zB 0) (zA (zB 1) zI))) (xC (.int 1))) [some (zT n q),some (uD ps)] G (.bl (decide (((rk n q ps).length:Int)≤1))):=zBi (g:=fun i j=>.bl (decide (i≤j))) (zm (d:=nD (rk n q ps).length) (zF (zE rfl) (zF (zE rfl) zQ)) fun _ _ _ q'=>⟨n,q,ps,rfl,hn,hm,hl,q'⟩) (yH (d:=.int 1))
 have:=zCF a1 fun _=>a2
 have e:((decide ((2:Int)≤(ps.length:Int))&&decide ((ps.length:Int)≤(n:Int)-2))&&decide (((rk n q ps).length:Int)≤1))=zBs n q ps:=by
  unfold zBs
  rw[Bool.eq_iff_iff]
  simp only[Bool.and_eq_true,decide_eq_true_eq]
  omega
 rw[e] at this
 exact ww this (.of h)
def yh(os:List Nat)(m:Nat):List Nat:=os.map fun o=>if m.testBit o then 1 else 0
def within(os:List Nat)(m:Nat):Prop:=∀ i,m.testBit i=true→i∈os
theorem zKI{os:List Nat}{m m':Nat}(h:within os m)(h':within os m')(e:yh os m=yh os m'):m=m':=by
 refine Nat.eq_of_testBit_eq fun i=>?_
 by_cases hi:i∈os
 ·have:=List.map_inj_left.mp e i hi
  cases q:m.testBit i<;>cases q':m'.testBit i<;>simp_all
 ·cases q:m.testBit i with
  | true=>exact absurd (h i q) hi
  | false =>
   cases q':m'.testBit i with
   | true=>exact absurd (h' i q') hi
   | false=>rfl
theorem zG0{os:List Nat}{m m':Nat}(h:within os m)(h':within os m'):within os (m ^^^ m'):=fun i hi=>by
 rw[Nat.testBit_xor] at hi
 cases q:m.testBit i with
 | true=>exact h i q
 | false =>
  rw[q,Bool.false_xor] at hi
  exact h' i hi
theorem zF4(os:List Nat):within os 0:=fun i hi=>by rw[Nat.zero_testBit] at hi;cases hi
theorem zCq{q:Nat×Nat→Bool}{i:Nat}{os:List Nat}(hp:os.Pairwise (·<·)):within os (mask q i os):=fun j hj=>by
 unfold mask at hj
 rw[zF3 _ (hp.sublist List.filter_sublist)] at hj
 exact(List.mem_filter.mp (of_decide_eq_true hj)).1
theorem zIg{q:Nat×Nat→Bool}{i:Nat}{os:List Nat}(hp:os.Pairwise (·<·)):yh os (mask q i os)=os.map fun o=>if adj q i o then 1 else 0:=by
 unfold yh mask
 refine List.map_congr_left fun o ho=>?_
 rw[zF3 _ (hp.sublist List.filter_sublist)]
 cases h:adj q i o with
 | true=>simp[ho,h]
 | false=>simp[h]
theorem zKJ(os:List Nat)(a b:Nat):((yh os a).zip (yh os b)).map (fun p=>(p.1+p.2)%2)=yh os (a ^^^ b):=by
 unfold yh
 rw[List.zip_map',List.map_map]
 refine List.map_congr_left fun o _=>?_
 simp only[Function.comp,Nat.testBit_xor]
 cases a.testBit o<;>cases b.testBit o<;>rfl
theorem zE4{os:List Nat}{st:List Nat×Nat}{row:Nat}(h:∀ m∈st.1,within os m)(hr:within os row):∀ m∈(wn st row).1,within os m:=by
 unfold wn
 split
 ·exact h
 ·intro m hm
  rcases List.mem_append.mp hm with hm | hm
  ·exact h m hm
  ·obtain⟨x,hx,rfl⟩:=List.mem_map.mp hm
   exact zG0 hr (h x hx)
theorem zIh(st:List Nat×Nat)(row:Nat):(wn st row).1.length≤2*st.1.length:=by
 unfold wn
 split
 ·omega
 ·simp;omega
def zCJ:yy:=(zb (zAh 2 (za (iR1 (zA (zP zy (zB 0) (xC (.int 0))) zI)) bd1 (xB (zP (fIn true) (zB 7) (zB 1))) (zB 7))) (zb (zp (zx (wf (zA (zP zFy (yK (zA (xC (.int 0)) zI)) (zK yX (zA (zB 2) zI))) zI))) (gN 3)) (zb (zp (xC (.int 0)) (gN 4)) (zb (wu (iV (zB 1)) (gN 5) (zb (zp (zX zj (za (iV (zB 2)) bd1 yq (zK zCg (zA (zP (fIn false) (yK (zA (zK yl (zA (zB 5) (zA (zB 7) zI))) (zA (zK wP (zA (zB 5) (zA (zB 7) zI))) zI))) (zP zy (zB 0) (xC (.int 1)))) zI)))) (gN 6)) (xIf (xB (zP (fIn true) (zB 6) (zB 3))) (zb (zp (zx (zB4 (zB 3) (zx (za (iV (zB 3)) bd1 yq (zX zj (za (iZ (zA (zB 6) (zA (zB 7) zI))) bd2 yq (zP (yW (fun _ j=>0<j) fun i j=>.int (i%j)) (zP yJ (zB 8) (zB 9)) (xC (.int 2))))))))) (gN 3)) (zp (zP yJ (zB 4) (xC (.int 1))) (gN 4))) ye))) (yC (zB 4))))))
end K
namespace K
open PySem PySem.Spec PyProof.Rows L2 L3
def Gd(l:Addr)(G:Gp)(d:D):Prop:=(∃ xs,d=.tup xs∧(∀ x∈xs,flat 8 x=true)∧xs.length≤60)∨((∀ xs,d≠.tup xs)∧∀ l,d≠.adr l)∨∃ l2 es,d=.adr l2∧l2≠l∧G.m l2=some es
theorem Gd.one{l:Addr}{G:Gp}{d:D}(h:flat 8 d=true)(ht:∀ xs,d≠.tup xs):Gd l G d:=.inr (.inl ⟨ht,zJ6 h⟩)
theorem Gd.tup{l:Addr}{G:Gp}{xs:List D}(h:∀ x∈xs,flat 8 x=true)(hl:xs.length≤60):Gd l G (.tup xs):=.inl ⟨xs,rfl,h,hl⟩
theorem Gd.sub{l:Addr}{G G':Gp}{d:D}(h:Gd l G d)(hs:L3.Sub G G'):Gd l G' d:=by
 rcases h with h | h | ⟨l2,es,e,ne,h⟩
 ·exact .inl h
 ·exact .inr (.inl h)
 ·exact .inr (.inr ⟨l2,es,e,ne,hs.m _ _ h⟩)
theorem zE5{σ:S2}{G:Gp}{ta tb:zk}{R:List D→Gp→Prop}{l:Addr}(ha:zg ta σ G (.adr l))(h:tb σ G fun y G2=>match D.adr l,y with | D.adr l,D.adr m=>∃ xs ys,G2.m l=some xs∧G2.m m=some ys∧xs.length+ys.length≤1000000∧R (xs++ys) G2 | _,_=>False):zB4 ta tb σ G R:=ha G (.refl G) _ h
theorem zKK{σ:S2}{G:Gp}{tc:TT2}{t u:yy}{E:yO}{b:Bool}(h:PuT tc σ G b)(hy:b=true→t { E with nx:=u E } σ G)(hn:b=false→u E σ G):zb (xIf tc t ye) u E σ G:=by
 cases b with
 | false=>exact wA h (hn rfl)
 | true=>exact h G (.refl G) _ (by rw[if_pos rfl];exact hy rfl)
theorem zLY{σ:S2}{G:Gp}{te:zk}{g:TG2}{E:yO}(h:te σ G fun d G1=>g d σ G1 fun σ' G'=>E.nx σ' G'):zp te g E σ G:=h
theorem zNI{σ:S2}{G:Gp}{te:zk}{g:TG2}{E:yO}{d:D}(h:zg te σ G d)(h':g d σ G fun σ' G'=>E.nx σ' G'):zp te g E σ G:=h G (.refl G) _ h'
end K
namespace K
open PySem PySem.Spec PyProof.Rows L2 L3
theorem zDq:∀ l l':List Nat,eqDs (l.map nD) (l'.map nD)=decide (l=l')
 | [],[]=>by simp[eqDs]
 | [],_::_=>by simp[eqDs]
 | _::_,[]=>by simp[eqDs]
 | a::r,b::t=>by
  simp only[List.map_cons,eqDs]
  rw[zDZ,zDq r t,Bool.eq_iff_iff]
  simp
theorem zNJ(ls:List (List Nat))(x:List Nat):((ls.map uD).any fun z=>wL z (uD x))=decide (x∈ls):=by
 rw[List.any_map,Bool.eq_iff_iff]
 simp only[List.any_eq_true,Function.comp,decide_eq_true_eq]
 constructor
 ·rintro⟨y,h,e⟩
  have e':eqDs (y.map nD) (x.map nD)=true:=e
  rw[zDq] at e'
  rw[← of_decide_eq_true e'];exact h
 ·intro h
  exact⟨x,h,by show eqDs (x.map nD) (x.map nD)=true;rw[zDq];simp⟩
theorem zeros(k:Nat):(List.replicate k [D.int 0]).flatten=(List.replicate k 0).map nD:=by
 induction k with
 | zero=>rfl
 | succ k ih=>rw[List.replicate_succ,List.flatten_cons,ih,List.replicate_succ];rfl
theorem zIi(os:List Nat):yh os 0=List.replicate os.length 0:=by
 unfold yh
 induction os with
 | nil=>rfl
 | cons a r ih=>rw[List.map_cons,ih];simp[List.replicate_succ]
def zAE:Sp2:=fun ds G R=>∃(n:Nat) (q:Nat×Nat→Bool) (ps:List Nat),ds=[zT n q,uD ps]∧n≤9∧(∀ x∈ps,x<n)∧ps.length≤9∧R (nD (rk n q ps).length) G
def zBR(n:Nat)(q:Nat×Nat→Bool)(ps:List Nat)(k:Nat):List Nat×Nat:=((ps.take k).map fun i=>mask q i (oth n ps)).foldl wn ([0],0)
theorem span_len(rows:List Nat):∀ st:List Nat×Nat,(rows.foldl wn st).1.length≤2 ^ rows.length*st.1.length:=by
 induction rows with
 | nil=>intro st;simp
 | cons r rows ih =>
  intro st
  rw[List.foldl_cons,List.length_cons,Nat.pow_succ]
  have h1:=ih (wn st r)
  have h2:=zIh st r
  calc _≤_:=h1
   _≤2 ^ rows.length*(2*st.1.length):=Nat.mul_le_mul_left _ h2
   _=_:=by rw[Nat.mul_assoc]
theorem zF5{os:List Nat}(rows:List Nat)(hr:∀ r∈rows,within os r):∀ st:List Nat×Nat,(∀ m∈st.1,within os m)→∀ m∈(rows.foldl wn st).1,within os m:=by
 induction rows with
 | nil=>intro st h;exact h
 | cons r rows ih =>
  intro st h
  rw[List.foldl_cons]
  exact ih (fun x hx=>hr x (List.mem_cons_of_mem _ hx)) _ (zE4 h (hr r (by simp)))
theorem zG1{os:List Nat}{st:List Nat×Nat}{row:Nat}(hw:∀ m∈st.1,within os m)(hr:within os row):(yh os row∈st.1.map (yh os))↔row∈st.1:=by
 constructor
 ·intro h
  obtain⟨m,hm,e⟩:=List.mem_map.mp h
  rw[← zKI (hw m hm) hr e];exact hm
 ·exact fun h=>List.mem_map_of_mem h
theorem zKL(ds:List D)(G:Gp)(R:Q2)(h:zAE ds G R):ds.length=2∧zCJ (zn R) (zO ["web","places","rest","span","found","place","row"] ds) G:=by
 obtain⟨n,q,ps,rfl,hn,hm,hl,h⟩:=h
 refine⟨rfl,?_⟩
 unfold zCJ
 rw[show zO ["web","places","rest","span","found","place","row"] [zT n q,uD ps]=[some (zT n q),some (uD ps),none,none,none,none,none] from rfl]
 refine(zKF (σ:=[some (zT n q),some (uD ps),none,none,none,none,none]) (G:=G) (i:=7) (t:=zB 1) (n:=n) (q:=q) (ps:=ps) rfl (fun k=>zE rfl) (fun k=>rfl) (by omega)) G (.refl _) _ fun lr hlr=>?_
 dsimp only
 simp only[gN,List.set_cons_succ,List.set_cons_zero]
 have hol:=zHo n ps
 have hor:=zKD n ps
 have hop:∀ x∈oth n ps,x<n∧x∉ps:=fun x hx=>⟨zKE hx,by simpa using(List.mem_filter.mp hx).2⟩
 have hrk:(rk n q ps).length=(zBR n q ps ps.length).2:=by unfold rk zBR;rw[List.take_length];exact zIe _
 rw[hrk] at h
 have hspl:∀ k,k≤9→(zBR n q ps k).1.length≤512:=fun k hk=>by
  have:=span_len ((ps.take k).map fun i=>mask q i (oth n ps)) ([0],0)
  unfold zBR
  refine Nat.le_trans this ?_
  simp only[List.length_map,List.length_take,List.length_cons,List.length_nil,Nat.zero_add,Nat.mul_one]
  exact Nat.le_trans (Nat.pow_le_pow_right (by omega) (show min k ps.length≤9 by omega)) (by decide)
 have hspw:∀ k,∀ m∈(zBR n q ps k).1,within (oth n ps) m:=fun k=>by
  unfold zBR
  refine zF5 _ (fun r hr=>?_) _ (fun m hm=>?_)
  ·obtain⟨i,_,rfl⟩:=List.mem_map.mp hr
   exact zCq hor
  ·rw[List.mem_singleton.mp hm];exact zF4 _
 have hsp0:zBR n q ps 0=([0],0):=rfl
 have hspS:∀ k i,ps[k]?=some i→zBR n q ps (k+1)=wn (zBR n q ps k) (mask q i (oth n ps)):=fun k i hi=>by
  unfold zBR
  rw[yj hi,List.map_append,List.foldl_append];rfl
 generalize zBR n q ps=sp at hspl hspw hsp0 hspS h
 generalize oth n ps=os at *
 have mlr:(zR G lr (os.map nD)).m lr=some (os.map nD):=zH
 have sb1:L3.Sub G (zR G lr (os.map nD)):=.new hlr
 generalize zR G lr (os.map nD)=G1 at mlr sb1
 have p0:zg (zP zFy (yK (zA (xC (.int 0)) zI)) (zK yX (zA (zB 2) zI))) [some (zT n q),some (uD ps),some (.adr lr),none,none,none,none] G1 (uD (yh os 0)):=by
  have e:uD (yh os 0)=.tup (List.replicate (os.length:Int).toNat [D.int 0]).flatten:=by
   rw[zIi,zeros];rfl
  rw[e]
  exact wt (x:=.tup [.int 0]) (y:=nD os.length) (wq (zF yH zQ) (by simp)) (zm (zF (zE (i:=2) (d:=.adr lr) rfl) zQ) fun _ e _ q'=>⟨_,e.ls (.inl mlr),by rw[List.length_map];exact q'⟩) fun _ _ _ q'=>⟨by simp,by omega,by simp;omega,q'⟩
 refine yg (zBP (ds:=[uD (yh os 0)]) (fun G2 e R q=>zEM ((zF p0 zQ) G2 e _ ⟨by rw[sizeLine_eq];simp,q⟩)) fun s0 hs0=>?_)
 simp only[gN,List.set_cons_succ,List.set_cons_zero]
 refine zBY yH ?_
 simp only[gN,List.set_cons_succ,List.set_cons_zero]
 have ne0:lr≠s0:=fun z=>by rw[← z,mlr] at hs0;cases hs0
 refine zBq (zMx (ds:=ps.map nD) (zE rfl) ⟨fun k σ' G'=>∃ s,σ'=[some (zT n q),some (uD ps),some (.adr lr),some (.adr s),some (nD (sp k).2),none,none]∧G'.m s=some (((sp k).1.map (yh os)).map uD)∧G'.m lr=some (os.map nD)∧L3.Sub G G',?_,fun _ _ _ _ _=>trivial,?_,?_⟩)
 ·exact⟨s0,by rw[hsp0];rfl,by rw[hsp0];exact zH,by rw[zN ne0];exact mlr,sb1.trans (.new hs0)⟩
 ·rintro k x σ' G2 hx ⟨s,rfl,h1,h2,h3⟩
  obtain⟨i,hi,rfl⟩:=zAo hx
  have hin:=hm i (List.mem_of_getElem? hi)
  have hip:=List.mem_of_getElem? hi
  have hkl:k<ps.length:=(List.getElem?_eq_some_iff.mp hi).1
  have hS:=hspS k i hi
  have hW:=hspw k
  have hL:=hspl k (by omega)
  simp only[gN,List.set_cons_succ,List.set_cons_zero]
  have er:=zIg (q:=q) (i:=i) hor
  have wr:=zCq (q:=q) (i:=i) hor
  generalize mask q i os=row at er wr hS
  have pr:zg (zX zj (za (iV (zB 2)) bd1 yq (zK zCg (zA (zP (fIn false) (yK (zA (zK yl (zA (zB 5) (zA (zB 7) zI))) (zA (zK wP (zA (zB 5) (zA (zB 7) zI))) zI))) (zP zy (zB 0) (xC (.int 1)))) zI)))) [some (zT n q),some (uD ps),some (.adr lr),some (.adr s),some (nD (sp k).2),some (nD i),none] G2 (uD (yh os row)):=by
   have c:=zAt (σ:=[some (zT n q),some (uD ps),some (.adr lr),some (.adr s),some (nD (sp k).2),some (nD i),none]) (G:=G2) (bd:=bd1) (te:=(zK zCg (zA (zP (fIn false) (yK (zA (zK yl (zA (zB 5) (zA (zB 7) zI))) (zA (zK wP (zA (zB 5) (zA (zB 7) zI))) zI))) (zP zy (zB 0) (xC (.int 1)))) zI))) (fun d=>match d with | .int v=>nD (if adj q i v.toNat then 1 else 0) | _=>.non) (fun d=>[d]) (zAj (zE (i:=2) (d:=.adr lr) rfl) (.inl h2)) fun x hx=>by
    obtain⟨o,ho,rfl⟩:=List.mem_map.mp hx
    refine⟨rfl,?_⟩
    have a2:zg (zK yl (zA (zB 5) (zA (zB 7) zI))) ([some (zT n q),some (uD ps),some (.adr lr),some (.adr s),some (nD (sp k).2),some (nD i),none]++[nD o].map some) G2 (nD (min i o)):=zHp (zE rfl) (zE rfl)
    have a3:zg (zK wP (zA (zB 5) (zA (zB 7) zI))) ([some (zT n q),some (uD ps),some (.adr lr),some (.adr s),some (nD (sp k).2),some (nD i),none]++[nD o].map some) G2 (nD (max i o)):=by
     have a3:zg (zK wP (zA (zB 5) (zA (zB 7) zI))) ([some (zT n q),some (uD ps),some (.adr lr),some (.adr s),some (nD (sp k).2),some (nD i),none]++[nD o].map some) G2 (.int (if (i:Int)<(o:Int) then (o:Int) else (i:Int))):=zm (zF (zE (d:=nD i) rfl) (zF (zE (d:=nD o) rfl) zQ)) fun _ _ _ q=>q
     have e:(if (i:Int)<(o:Int) then (o:Int) else (i:Int))=((max i o:Nat):Int):=by split<;>omega
     rw[e] at a3
     exact a3
    have a1:zg (zP (fIn false) (yK (zA (zK yl (zA (zB 5) (zA (zB 7) zI))) (zA (zK wP (zA (zB 5) (zA (zB 7) zI))) zI))) (zP zy (zB 0) (xC (.int 1)))) ([some (zT n q),some (uD ps),some (.adr lr),some (.adr s),some (nD (sp k).2),some (nD i),none]++[nD o].map some) G2 (.bl (adj q i o)):=zGf (x:=yN (min i o,max i o)) (wq (zF a2 (zF a3 zQ)) (by simp)) (zFa (zE rfl)) (zDS _) zFZ (by
     rw[if_neg (by simp),zHS]
     exact zHT hin (hop o ho).1)
    refine zm (zF a1 zQ) fun G3 _ R3 q'=>?_
    show R3 (D.int (if adj q i o=true then 1 else 0)) G3
    rw[show(if adj q i o=true then (1:Int) else 0)=(((if adj q i o=true then 1 else 0):Nat):Int) by split<;>rfl]
    exact q'
   have e:List.map (fun d=>match d with | .int v=>nD (if adj q i v.toNat then 1 else 0) | _=>.non) (os.map nD)=(yh os row).map nD:=by
    rw[er,List.map_map,List.map_map];rfl
   rw[e] at c
   exact zB3 c
  refine zBY pr ?_
  simp only[gN,List.set_cons_succ,List.set_cons_zero]
  have t:PuT (xB (zP (fIn true) (zB 6) (zB 3))) [some (zT n q),some (uD ps),some (.adr lr),some (.adr s),some (nD (sp k).2),some (nD i),some (uD (yh os row))] G2 (!decide (row∈(sp k).1)):=zAL (wt (x:=uD (yh os row)) (y:=.adr s) (zE rfl) (zE rfl) fun G3 e3 R' q'=>⟨_,e3.ls (.inl h1),zEL _,fun d hd=>by
    obtain⟨b,_,rfl⟩:=List.mem_map.mp hd
    exact zEL b,by
    rw[if_pos rfl,zNJ]
    have:decide (yh os row∈(sp k).1.map (yh os))=decide (row∈(sp k).1):=decide_eq_decide.mpr (zG1 hW wr)
    rw[this]
    exact q'⟩)
  by_cases hz:row∈(sp k).1
  ·rw[decide_eq_true hz] at t
   refine zLt t ⟨_,_,.keep (.keep (.keep (.keep (.keep (.skip (.skip .nil)))))),.refl _,s,?_,?_,h2,h3⟩
   ·rw[hS];unfold wn;rw[if_pos hz]
   ·rw[hS];unfold wn;rw[if_pos hz];exact h1
  ·rw[decide_eq_false hz] at t
   have c:PuL (za (iV (zB 3)) bd1 yq (zX zj (za (iZ (zA (zB 6) (zA (zB 7) zI))) bd2 yq (zP (yW (fun _ j=>0<j) fun i j=>.int (i%j)) (zP yJ (zB 8) (zB 9)) (xC (.int 2)))))) [some (zT n q),some (uD ps),some (.adr lr),some (.adr s),some (nD (sp k).2),some (nD i),some (uD (yh os row))] G2 ((((sp k).1.map (row ^^^ ·)).map (yh os)).map uD):=by
    have c:=zAt (σ:=[some (zT n q),some (uD ps),some (.adr lr),some (.adr s),some (nD (sp k).2),some (nD i),some (uD (yh os row))]) (G:=G2) (bd:=bd1) (te:=(zX zj (za (iZ (zA (zB 6) (zA (zB 7) zI))) bd2 yq (zP (yW (fun _ j=>0<j) fun i j=>.int (i%j)) (zP yJ (zB 8) (zB 9)) (xC (.int 2)))))) (fun d=>match d with | .tup zs=>.tup (List.zipWith (fun a b=>match a,b with | .int a,.int b=>.int ((a+b)%2) | _,_=>.non) ((yh os row).map nD) zs) | _=>.non) (fun d=>[d]) (zAj (zE (i:=3) (d:=.adr s) rfl) (.inl h1)) fun x hx=>by
     obtain⟨b,hb,rfl⟩:=List.mem_map.mp hx
     refine⟨rfl,?_⟩
     have c2:=zAt (σ:=([some (zT n q),some (uD ps),some (.adr lr),some (.adr s),some (nD (sp k).2),some (nD i),some (uD (yh os row))]++[uD b].map some)) (G:=G2) (bd:=bd2) (te:=(zP (yW (fun _ j=>0<j) fun i j=>.int (i%j)) (zP yJ (zB 8) (zB 9)) (xC (.int 2)))) (fun d=>match d with | .tup [.int a,.int b]=>.int ((a+b)%2) | _=>.non) (fun d=>match d with | .tup us=>us | _=>[]) (zM2 (xs:=(yh os row).map nD) (ys:=b.map nD) (zF (zE (i:=6) (d:=uD (yh os row)) rfl) (zF (zE (i:=7) (d:=uD b) rfl) zQ))) fun x hx=>by
      obtain⟨p,hp,rfl⟩:=List.mem_map.mp hx
      have hp1:=List.of_mem_zip hp
      obtain⟨u,_,e1⟩:=List.mem_map.mp hp1.1
      obtain⟨v,_,e2⟩:=List.mem_map.mp hp1.2
      obtain⟨p1,p2⟩:=p
      cases e1
      cases e2
      exact⟨rfl,wt (x:=.int ((u:Int)+(v:Int))) (zBN (zE rfl) (zE rfl)) yH fun _ _ _ q'=>⟨by show(0:Int)<2;decide,q'⟩⟩
     have e2:List.map (fun d=>match d with | .tup [.int a,.int b]=>D.int ((a+b)%2) | _=>.non) ((((yh os row).map nD).zip (b.map nD)).map fun p=>D.tup [p.1,p.2])=List.zipWith (fun a b=>match a,b with | .int a,.int b=>.int ((a+b)%2) | _,_=>.non) ((yh os row).map nD) (b.map nD):=by
      rw[List.map_map,List.zip,List.map_zipWith]
      congr 1
      funext a b
      cases a<;>cases b<;>rfl
     rw[e2] at c2
     exact zB3 c2
    have e:List.map (fun d=>match d with | .tup zs=>D.tup (List.zipWith (fun a b=>match a,b with | .int a,.int b=>.int ((a+b)%2) | _,_=>.non) ((yh os row).map nD) zs) | _=>.non) (((sp k).1.map (yh os)).map uD)=(((sp k).1.map (row ^^^ ·)).map (yh os)).map uD:=by
     rw[List.map_map,List.map_map,List.map_map,List.map_map]
     refine List.map_congr_left fun m hm'=>?_
     show D.tup _=uD (yh os (row ^^^ m))
     rw[← zKJ]
     show D.tup _=D.tup _
     congr 1
     rw[List.map_map,List.zip,List.map_zipWith,List.zipWith_map]
     congr 1
    rw[e] at c
    exact c
   refine zJg t (yg (zCo (zE5 (zE (d:=.adr s) rfl) (zBP c fun s1 hs1=>?_))))
   have n1:s≠s1:=fun z=>by rw[← z,h1] at hs1;cases hs1
   have n2:lr≠s1:=fun z=>by rw[← z,h2] at hs1;cases hs1
   refine⟨_,_,by rw[zN n1];exact h1,zH,by simp only[List.length_map];omega,fun s2 hs2=>?_⟩
   have n3:lr≠s2:=fun z=>by rw[← z,zN n2,h2] at hs2;cases hs2
   simp only[gN,List.set_cons_succ,List.set_cons_zero]
   refine zNI (d:=nD ((sp k).2+1)) (zBN (i:=((sp k).2:Int)) (j:=1) (zE rfl) yH) ?_
   simp only[gN,List.set_cons_succ,List.set_cons_zero]
   refine⟨_,_,.keep (.keep (.keep (.keep (.keep (.skip (.skip .nil)))))),.refl _,s2,?_,?_,by rw[zN n3,zN n2];exact h2,(h3.trans (.new hs1)).trans (.new hs2)⟩
   ·rw[hS];unfold wn;rw[if_neg hz]
   ·rw[hS];unfold wn;rw[if_neg hz,zH]
    simp only[List.map_append]
 ·rintro σ' G2 ⟨s,rfl,h1,h2,h3⟩
  rw[List.length_map]
  dsimp only
  exact ww (d:=nD (sp ps.length).2) (zE (i:=4) rfl) ⟨G,h3,h⟩
end K
namespace K
open PySem PySem.Spec PyProof.Rows L2 L3 HS
def pI(p:Nat×Nat):List Int:=[(p.1:Int),(p.2:Int)]
theorem zE6(l:List (Nat×Nat)):l.map yN=(l.map pI).map tI:=by rw[List.map_map];rfl
theorem zNK{a b:Nat×Nat}(h:ltP a b):ltI (pI b) (pI a)=false:=by
 unfold ltP at h
 unfold pI
 simp only[ltI]
 split
 ·split
  ·rfl
  ·simp only[decide_eq_false_iff_not];omega
 ·simp only[decide_eq_false_iff_not];omega
theorem zLy{l:List (Nat×Nat)}:∀ ns∈l.map pI,ns≠[]:=fun ns h=>by
 obtain⟨p,_,rfl⟩:=List.mem_map.mp h
 simp[pI]
theorem zKM:∀ n,n<10→(wQ n).length≤36:=by decide +kernel
theorem zCK{n:Nat}{l:List (Nat×Nat)}(nd:l.Nodup)(hp:∀ p∈l,p.1<p.2∧p.2<n)(hn:n≤9):l.length≤36 :=
 Nat.le_trans (nd.length_le_of_subset fun p h=>wd.mpr (hp p h)) (zKM n (by omega))
theorem zDr{n:Nat}{l:List (Nat×Nat)}{m:List (List Int)}(nd:l.Nodup)(hp:∀ p∈l,p.1<p.2∧p.2<n)(pm:m.Perm (l.map pI))(hm:m.Pairwise (fun a b=>ltI b a=false)):m=((wQ n).filter fun p=>decide (p∈l)).map pI:=by
 have rs:((wQ n).filter fun p=>decide (p∈l)).Pairwise ltP:=(zJk n).filter _
 refine List.Perm.eq_of_pairwise (fun a b _ _ h1 h2=>zC4 a b h2 h1) hm ?_ (pm.trans (List.Perm.map _ ?_))
 ·rw[List.pairwise_map]
  exact rs.imp zNK
 ·refine(List.perm_ext_iff_of_nodup nd ((yz n).filter _)).mpr fun p=>?_
  rw[List.mem_filter,wd]
  constructor
  ·intro h;exact⟨hp p h,decide_eq_true h⟩
  ·rintro⟨_,h⟩;exact of_decide_eq_true h
theorem zKN{σ:S2}{G:Gp}{tl:TL2}{n:Nat}{l:List (Nat×Nat)}(h:PuL tl σ G (l.map yN))(nd:l.Nodup)(hp:∀ p∈l,p.1<p.2∧p.2<n)(hn:n≤9):zg (zX zj (wE tl)) σ G (.tup (((wQ n).filter fun p=>decide (p∈l)).map yN)):=fun G2 e R q=>h G2 e _ (by
 refine⟨l.map pI,zE6 l,by have:=zCK nd hp hn;rw[List.length_map];omega,zLy,fun m pm hm=>?_⟩
 rw[zDr nd hp pm hm,← zE6]
 exact q)
theorem zIj{σ:S2}{G:Gp}{t:zk}{a:Addr}{n:Nat}{l:List (Nat×Nat)}(h:zg t σ G (.adr a))(hl:Ls G a (l.map yN))(nd:l.Nodup)(hp:∀ p∈l,p.1<p.2∧p.2<n)(hn:n≤9):zg (zX zj (zDf (zA t zI))) σ G (.tup (((wQ n).filter fun p=>decide (p∈l)).map yN)):=fun G2 e R q=>h G2 e _ (by
 refine⟨l.map pI,?_,by have:=zCK nd hp hn;rw[List.length_map];omega,zLy,fun m pm hm=>?_⟩
 ·rw[← zE6];exact e.ls hl
 ·rw[zDr nd hp pm hm,← zE6]
  exact q)
theorem zKO{σ:S2}{G:Gp}{t u:zk}{a b:Nat}(h:zg t σ G (nD a))(h':zg u σ G (nD b)):zg (zX zj (zAK (wf (zA t (zA u zI))))) σ G (yN (min a b,max a b)):=by
 refine zB3 (ds:=[min a b,max a b].map nD) (zIJ (l:=[a,b]) (fun G2 e R q=>zEM ((zF h (zF h' zQ)) G2 e _ ⟨by rw[sizeLine_eq];simp,q⟩)) (by simp) ?_ ?_)
 ·by_cases hab:a≤b
  ·rw[Nat.min_eq_left hab,Nat.max_eq_right hab]
  ·rw[Nat.min_eq_right (by omega),Nat.max_eq_left (by omega)]
   exact List.Perm.swap _ _ _
 ·simp only[List.pairwise_cons,List.mem_singleton,List.not_mem_nil,List.Pairwise.nil,and_true,false_imp_iff,implies_true]
  rintro x rfl
  omega
def yM(n:Nat)(q:Nat×Nat→Bool):List Nat:=(((wQ n).filter q).filter fun p=>decide (p.2=n-1)).map Prod.fst
def yv(n:Nat)(q:Nat×Nat→Bool):List (Nat×Nat):=((wQ n).filter q).filter fun p=>!decide (p.2=n-1)
def glF(n1:Nat)(q1:Nat×Nat→Bool)(n2:Nat)(q2:Nat×Nat→Bool):List (Nat×Nat):=(yv n1 q1++(yv n2 q2).map fun p=>(p.1+(n1-1),p.2+(n1-1)))++(yM n1 q1).flatMap fun a=>(yM n2 q2).map fun b=>(a,b+(n1-1))
theorem zCL{n:Nat}{q:Nat×Nat→Bool}{a:Nat}(h:a∈yM n q):a<n-1:=by
 obtain⟨p,hp,rfl⟩:=List.mem_map.mp h
 obtain⟨h1,h2⟩:=List.mem_filter.mp hp
 have:=wd.mp (List.mem_filter.mp h1).1
 have:=of_decide_eq_true h2
 omega
theorem zBS{n:Nat}{q:Nat×Nat→Bool}:(yM n q).Nodup:=by
 unfold yM List.Nodup
 rw[List.pairwise_map]
 have nd:(((wQ n).filter q).filter fun p=>decide (p.2=n-1)).Nodup:=((yz n).filter _).filter _
 refine nd.imp_of_mem fun {a b} ha hb ne e=>ne (Prod.ext e ?_)
 have h1:=of_decide_eq_true (List.mem_filter.mp ha).2
 have h2:=of_decide_eq_true (List.mem_filter.mp hb).2
 rw[h1,h2]
theorem zBb{n:Nat}{q:Nat×Nat→Bool}{p:Nat×Nat}(h:p∈yv n q):p.1<p.2∧p.2<n-1:=by
 obtain⟨h1,h2⟩:=List.mem_filter.mp h
 have:=wd.mp (List.mem_filter.mp h1).1
 have:p.2≠n-1:=by simpa using h2
 omega
theorem zEW{n:Nat}{q:Nat×Nat→Bool}:(yM n q).length≤n:=by
 have:=(zBS (n:=n) (q:=q)).length_le_of_subset (l₂:=List.range n) fun a h=>List.mem_range.mpr (by have:=zCL h;omega)
 rwa [List.length_range] at this
theorem zNL{n1 n2:Nat}{q1 q2:Nat×Nat→Bool}(h1:2≤n1)(h2:2≤n2):∀ p∈glF n1 q1 n2 q2,p.1<p.2∧p.2<n1+n2-2:=by
 intro p hp
 rcases List.mem_append.mp hp with hp | hp
 ·rcases List.mem_append.mp hp with hp | hp
  ·have:=zBb hp;omega
  ·obtain⟨x,hx,rfl⟩:=List.mem_map.mp hp
   have:=zBb hx
   simp only;omega
 ·obtain⟨a,ha,hp⟩:=List.mem_flatMap.mp hp
  obtain⟨b,hb,rfl⟩:=List.mem_map.mp hp
  have:=zCL ha
  have:=zCL hb
  simp only;omega
theorem zIk{n1 n2:Nat}{q1 q2:Nat×Nat→Bool}:(glF n1 q1 n2 q2).Nodup:=by
 unfold glF
 refine List.nodup_append.mpr ⟨List.nodup_append.mpr ⟨((yz n1).filter _).filter _,?_,?_⟩,?_,?_⟩
 ·unfold List.Nodup
  rw[List.pairwise_map]
  refine(((yz n2).filter _).filter _:(yv n2 q2).Nodup).imp fun ne e=>ne ?_
  simp only[Prod.mk.injEq] at e
  exact Prod.ext (by omega) (by omega)
 ·rintro a ha b hb rfl
  have h1:=zBb ha
  obtain⟨x,hx,e⟩:=List.mem_map.mp hb
  have:x.2+(n1-1)=a.2:=by rw[← e]
  omega
 ·unfold List.Nodup
  rw[List.pairwise_flatMap]
  refine⟨fun a ha=>?_,zBS.imp fun {a b} ne=>?_⟩
  ·rw[List.pairwise_map]
   refine(zBS (n:=n2) (q:=q2)).imp fun ne e=>ne ?_
   simp only[Prod.mk.injEq] at e
   omega
  ·intro x hx y hy e
   obtain⟨_,_,rfl⟩:=List.mem_map.mp hx
   obtain⟨_,_,rfl⟩:=List.mem_map.mp hy
   simp only[Prod.mk.injEq] at e
   exact ne e.1
 ·rintro x hx y hy rfl
  obtain⟨a,ha,hp⟩:=List.mem_flatMap.mp hy
  obtain⟨b,hb,rfl⟩:=List.mem_map.mp hp
  have h1:=zCL ha
  rcases List.mem_append.mp hx with hx | hx
  ·have:=zBb hx;simp only at this;omega
  ·obtain⟨z,hz,e⟩:=List.mem_map.mp hx
   simp only[Prod.mk.injEq] at e
   omega
end K
namespace L2
open PySem PySem.Spec PyProof.Rows
def Cx.compC(X:Cx)(z:Str)(N':List Str)(sc:Scope)(C:Addr)(s:Shared)(H:Hp)(fp:List Addr)(pins:List (Addr×Obj)):Cx :=
 { X with N:=N',s₀:=s,H₀:=H,env:=compEnvC sc ((z,C+1)::zCX sc X.env) C X.env,outer:=X.stack,ex:=fp,fn:=fun y=>y==z,pn:=X.pn++pins,xe:=fun _ _=>False }
structure zE7 (X:Cx) (sc:Scope) (N0:List Str) (z:Str):Prop where
 kind:sc.kind=.function
 one:sc.names.lookup z=some .cell
 lay:∀ a acc,cellsFrom a sc.names acc=(z,a)::acc
 push:∀ h:Heap,pushCells h sc.names=h.push { cls:=.type "cell",data:=.cell none }
 rel:∀ x,((relabel sc X.env).names.lookup x=some .cell∨(relabel sc X.env).names.lookup x=some .free)→x=z∨sc.names.lookup x=some .free
 names:∀ y∈sc.names,y.2=.local→sc.names.lookup y.1=some .local
 cap:∀ y∈sc.names,y.2=.free→X.env.kindOf y.1=some .cell∨X.env.kindOf y.1=some .free
 len:N0.length=X.N.length
 vis:∀(i:Nat) (x:Str),N0[i]?=some x→Vis (relabel sc X.env) x→X.N[i]?=some x∧sc.names.lookup x=some .free
theorem zF6{M:Model}{A:Around}{E:Value→Shared→Prop}{s:Shared}{sc:Scope}{globals:Addr}{cl:List (Str×Addr)}{qual:Str}{outer:Env}{z:Str}{Q:Env→Shared→Prop}
  (hlay:∀ a acc,cellsFrom a sc.names acc=(z,a)::acc) (hpush:∀ h:Heap,pushCells h sc.names=h.push { cls:=.type "cell",data:=.cell none })
  (hQ:∀ h':Heap,h'.Ns s.heap.objs.size (fun _=>none)→h'.IsCell (s.heap.objs.size+1) none→(∀ b o,s.heap.get? b=some o→h'.get? b=some o) →
   Q (newEnv sc s.heap.objs.size globals ((z,s.heap.objs.size+1)::cl) qual none .none (some outer) builtinsNs) { s with heap:=h' }) :
  wpAny M A (newFunctionEnv sc globals cl [] qual none .none (some outer)) Q E s:=by
 simp only[newFunctionEnv,Option.isSome_some,if_true]
 refine wpAny_bind (wpAny_alloc ?_)
 refine wpAny_bind (wpAny_layCells _ (fun name kind cells=>by cases hkc:kind==NameKind.cell<;>simp[hkc]) _ _ _ _ ?_)
 rw[hlay]
 rw[show({ s with heap:=s.heap.push { cls:=.type "dict",data:=.dict #[] } }:Shared).heap.objs.size=s.heap.objs.size+1 from Heap.size_push ..]
 refine wpAny_bind ?_
 rw[List.forIn_nil]
 refine wpAny_pure (wpAny_pure ?_)
 have hk:∀ b o,(s.heap.push { cls:=.type "dict",data:=.dict #[] }).get? b=some o→(pushCells (s.heap.push { cls:=.type "dict",data:=.dict #[] }) sc.names).get? b=some o:=fun b o e=>by
  rw[hpush];exact Heap.get?_push_of_some _ e
 refine hQ _ ((Heap.Ns.new s.heap (.type "dict")).keeps hk) ?_ fun b o e=>hk b o (Heap.get?_push_of_some _ e)
 show Heap.IsCell (pushCells _ _) _ _
 rw[hpush]
 have:=Heap.get?_push_size (s.heap.push { cls:=.type "dict",data:=.dict #[] }) (o:={ cls:=.type "cell",data:=.cell none }) rfl
 rw[Heap.size_push] at this
 exact⟨_,this,rfl⟩
section
variable {X:Cx} {z:Str} {tg elt iter:Expr} {ifs:List Expr} {sc:Scope} {pos:Pos} {N0 own:List Str} {wi:TI} {g:TG} {tc:TT} {te:TE}
theorem zF7{pins:List (Addr×Obj)}{σ:St}{s₂:Shared}{itv:Value}{Q:VK}{E:Value→Shared→Prop}(hc:X.calm=true)(T:zE7 X sc N0 z)
  (hg:∀ C s H fp pins,PG (X.compC z (N0++own) sc C s H fp pins) tg g) (ht:∀ C s H fp pins,PTs (X.compC z (N0++own) sc C s H fp pins) ifs tc) (he:∀ C s H fp pins,PE (X.compC z (N0++own) sc C s H fp pins) elt te)
  (h:PIE X pins σ tg (fun J H1=>∀ D,H1 D=none→∃ W:Nat→Nat→Hp→Prop,(∃ m,W 0 m (yc H1 D (.lst []))) ∧
   ∀ i m H2,W i m H2→(J.stop i H2∧Q (.ref D) H2) ∨
    (J.go i H2∧∀ x H3,J.yld i H2 x H3→g x (σ++List.replicate own.length none) H3 fun σ4 H4=>σ4.take σ.length=σ∧σ4.length=σ.length+own.length∧tc σ4 H4 fun b H5 =>
     if b=true then te σ4 H5 fun v H6=>∃ acc,H6 D=some (.lst acc)∧acc.length<sizeLine∧∃ m',m'<m∧W (i+1) m' (yc H6 D (.lst (acc++[v]))) else ∃ m',m'<m∧W (i+1) m' H5)) itv s₂) :
  wpAny (model X.prog X.w) X.A (newList []) (fun acc s₃=>wpAny (model X.prog X.w) X.A (newFunctionEnv sc X.env.globals (zCX sc X.env) [] X.env.qual none .none (some X.env)) (fun cenv s₄ =>
   codeAny (model X.prog X.w) X.A (.compStart (.ListComp elt [⟨tg,iter,ifs,0⟩] sc pos) 0 itv acc { cenv with scope:=relabel sc X.env })
    (fun r s'=>∃ D H' m,r=.ok .next∧acc=.ref D∧zU X pins σ H' s'∧zBC X pins H' cenv.locals∧s'.heap.Ns cenv.locals m∧Q (.ref D) H') s₄) E s₃) E s₂:=by
 obtain⟨it,fp,tn,J,H1,rfl,I2,Tn,st2,f2,hR⟩:=h
 refine wpAny_newObj_type (zF6 T.lay T.push fun h₁ hns₁ hcl₁ hkp₁=>?_)
 dsimp only at hns₁ hcl₁ hkp₁ ⊢
 generalize hH2:s₂.heap.push { cls:=.type "list",dict:=none,data:=.seq ([]:List Value).toArray }=h3 at hns₁ hcl₁ hkp₁ ⊢
 have hC:h3.objs.size=s₂.heap.objs.size+1:=by rw[← hH2,Heap.size_push]
 -- the list
 have I3:zU X pins σ (yc H1 s₂.heap.objs.size (.lst [])) { s₂ with heap:=h3 }:=by
  rw[← hH2]
  exact I2.laid (t':=s₂.toks) (fun b u e=>Heap.get?_push_of_some _ e) (Nat.le_refl _) ⟨by simp,[],0,.nil,Heap.get?_push_size _ rfl⟩
 have fD:H1 s₂.heap.objs.size=none:=I2.hok.fresh (Nat.le_refl _)
 obtain⟨W,⟨m0,w0⟩,turn⟩:=hR _ fD
 have kp:∀ b o,h3.get? b=some o→h₁.get? b=some o:=hkp₁
 have fp2:∀ b∈fp,b<s₂.heap.objs.size:=fun b hb=>by
  obtain⟨o,e,_⟩:=Tn.obj _ _ st2 b hb
  exact Heap.lt_size e
 -- the block's context
 have CK0:∀ x c,(zCX sc X.env).lookup x=some c→X.env.cells.lookup x=some c:=fun x c e=>zEB e
 have CK:∀ x c,((z,h3.objs.size+1)::zCX sc X.env).lookup x=some c→(x=z∧c=h3.objs.size+1)∨(x≠z∧X.env.cells.lookup x=some c):=fun x c e=>by
  by_cases hx:x=z
  ·subst hx
   simp at e
   exact .inl ⟨rfl,e.symm⟩
  ·have hb:(x==z)=false:=by simpa using hx
   rw[List.lookup_cons,hb] at e
   exact .inr ⟨hx,CK0 x c e⟩
 have CZ:∀ x c,X.env.cells.lookup x=some c→c<h3.objs.size:=fun x c e=>by
  obtain⟨v,q⟩:=I3.cell x c e
  exact q.lt
 have nofs:∀ {b:Addr},h3.objs.size≤b→b∉frs X.stack:=fun {b} hb z=>by
  rcases List.mem_cons.mp (I3.stkSub b z) with e | z
  ·exact absurd (Nat.lt_of_lt_of_le I3.lt (show h3.objs.size≤X.env.locals by rw[← e];exact hb)) (Nat.lt_irrefl _)
  ·exact I3.nofs (a:=b) hb z
 have fpS:∀ b∈fp,b∉frs X.stack:=fun b hb z=>by
  rcases List.mem_cons.mp (I3.stkSub b z) with e | z
  ·exact(f2 b hb).2.1 e
  ·exact(f2 b hb).2.2.1 z
 have fpD:∀ b∈fp,yc H1 s₂.heap.objs.size (.lst []) b=none:=fun b hb=>by rw[zu (Nat.ne_of_lt (fp2 b hb))];exact(f2 b hb).1
 have pinS:∀ p∈X.pn++pins,p.1∉frs X.stack:=fun p hp z=>by
  obtain⟨_,_,n1,n2,_⟩:=I3.pin p hp
  rcases List.mem_cons.mp (I3.stkSub p.1 z) with e | z
  ·exact n1 e
  ·exact n2 z
 let X':=X.compC z (N0++own) sc h3.objs.size { s₂ with heap:=h3 } (yc H1 s₂.heap.objs.size (.lst [])) fp pins
 have cells':∀ x,(X'.env.kindOf x=some .cell∨X'.env.kindOf x=some .free)→x=z∨sc.names.lookup x=some .free:=fun x hx=>T.rel x hx
 have hfree:∀ y∈sc.names,y.2=.free→∃ c,X.env.cells.lookup y.1=some c:=fun y hy hf=>I2.ok.has _ (T.cap y hy hf)
 have ok':X'.Ok:=by
  refine⟨I3.ok.mod,?_,I3.ok.glob,I3.ok.blt,Nat.le_refl _,fun x y c e1 e2=>?_,fun x hx=>?_,fun x c hz e=>?_,I3.ok.hd,I3.ok.frames,.inl rfl,fun b hb=>⟨?_,fun x c e=>?_⟩,I3.bs,Nat.le_trans I3.ok.bsz I3.sz,fun b o e hb=>?_,fpS,I3.stack,I3.stkFree,I3.tabs⟩
  ·exact T.kind
  ·rcases CK _ _ e1 with ⟨q1,q2⟩ | ⟨q1,q2⟩<;>rcases CK _ _ e2 with ⟨q3,q4⟩ | ⟨q3,q4⟩
   ·rw[q1,q3]
   ·have w:=CZ _ _ q4;rw[q2] at w;exact absurd w (Nat.not_lt_of_le (Nat.le_succ _))
   ·have w:=CZ _ _ q2;rw[q4] at w;exact absurd w (Nat.not_lt_of_le (Nat.le_succ _))
   ·exact I3.ok.inj x y c q2 q4
  ·rcases cells' x hx with rfl | hx'
   ·exact⟨_,List.lookup_cons_self⟩
   ·by_cases hz:x=z
    ·subst hz;exact⟨_,List.lookup_cons_self⟩
    ·obtain⟨c,hc⟩:=zBH (env:=X.env) (ns:=sc.names) (cs:=[]) (x:=x) hfree (.inr (PySem.mem_of_lookup hx'))
     refine⟨c,?_⟩
     show((z,h3.objs.size+1)::zCX sc X.env).lookup x=some c
     have hb:(x==z)=false:=by simpa using hz
     rw[List.lookup_cons,hb];exact hc
  ·rcases CK _ _ e with ⟨_,q⟩ | ⟨q,_⟩
   ·rw[q];exact Nat.le_succ _
   ·have:(x==z)=true:=hz
    exact absurd (by simpa using this) q
  ·exact Nat.ne_of_lt (Nat.lt_of_lt_of_le (fp2 b hb) (by show s₂.heap.objs.size≤h3.objs.size;rw[hC];exact Nat.le_succ _))
  ·rcases CK _ _ e with ⟨_,q⟩ | ⟨_,q⟩
   ·intro w;rw[q] at w;have w2:=fp2 b hb;rw[← w,hC] at w2;exact absurd w2 (Nat.not_lt_of_le (Nat.le_trans (Nat.le_succ _) (Nat.le_succ _)))
   ·exact(f2 b hb).2.2.2.2.1 x c q
  ·have:=(I3.bs b o e).1
   rcases(f2 b hb).2.2.2.1 with z | z
   ·exact I3.ok.noex b o e z
   ·have:=Nat.lt_of_lt_of_le (Heap.lt_size e) I3.ok.bsz
    exact absurd (Nat.lt_of_lt_of_le this z) (Nat.lt_irrefl _)
 have hlook:∀(i:Nat) (x:Str) (v:V),(N0++own)[i]?=some x→(σ++List.replicate own.length none)[i]?=some (some v)→Vis (relabel sc X.env) x→∃ c u,RelV v u∧X'.env.cells.lookup x=some c∧(X'.env.kindOf x=some .cell∨X'.env.kindOf x=some .free)∧h3.IsCell c (some u):=by
  intro i x v e1 e2 e3
  have hi:i<σ.length:=by
   by_cases hi:i<σ.length
   ·exact hi
   ·rw[List.getElem?_append_right (by omega),List.getElem?_replicate] at e2
    split at e2<;>cases e2
  have e2':σ[i]?=some (some v):=by rw[List.getElem?_append_left hi] at e2;exact e2
  have hi0:i<N0.length:=by rw[T.len,← I3.len];exact hi
  have e1':N0[i]?=some x:=by rw[List.getElem?_append_left hi0] at e1;exact e1
  obtain⟨n1,n2⟩:=T.vis i x e1' e3
  have cp:=T.cap _ (PySem.mem_of_lookup n2) rfl
  obtain⟨m,hn,hl⟩:=I3.loc
  have vis:Vis X.env.scope x:=by
   rcases cp with z | z
   ·exact .inr (.inl z)
   ·exact .inr (.inr z)
  obtain⟨u,r,l⟩:=hl i x v n1 e2' vis
  obtain⟨c',hc'⟩:=zBH (env:=X.env) (ns:=sc.names) (cs:=[]) (x:=x) hfree (.inr (PySem.mem_of_lookup n2))
  have hc2:(zCX sc X.env).lookup x=some c':=hc'
  rcases l with ⟨z,_⟩ | ⟨_,c,e,q⟩
  ·rcases cp with z' | z'<;>(rw[z] at z';cases z')
  ·have:c=c':=by
    have:=CK0 _ _ hc2
    rw[e] at this;exact Option.some.inj this
   subst this
   have xz:x≠z:=fun w=>by rw[w,T.one] at n2;cases n2
   have hc3:X'.env.cells.lookup x=some c:=by
    show((z,h3.objs.size+1)::zCX sc X.env).lookup x=some c
    have hb:(x==z)=false:=by simpa using xz
    rw[List.lookup_cons,hb];exact hc2
   refine⟨c,u,r,hc3,?_,q⟩
   rcases e3 with z | z | z
   ·exfalso
    have:=lookup_relabel_local (env:=X.env) (names:=sc.names) (x:=x)
    -- a free name is not relabelled local
    have nl:∀ {names:List (Str×NameKind)},names.lookup x=some .free→(names.map fun(n,k)=>if (k==NameKind.free&&X.env.scope.kind==.function&&X.env.kindOf n==some .cell) then (n,NameKind.cell) else (n,k)).lookup x≠some .local:=by
     intro names
     induction names with
     | nil=>intro h;simp at h
     | cons p r ih =>
      obtain⟨n,k⟩:=p
      intro h
      show List.lookup x ((if (k==NameKind.free&&X.env.scope.kind==.function&&X.env.kindOf n==some .cell)=true then (n,NameKind.cell) else (n,k))::_)≠_
      cases hx:x==n with
      | true =>
       simp only[List.lookup_cons,hx] at h
       cases h
       by_cases hq:(NameKind.free==NameKind.free&&X.env.scope.kind==.function&&X.env.kindOf n==some .cell)=true
       ·rw[if_pos hq];simp[List.lookup_cons,hx]
       ·rw[if_neg hq];simp[List.lookup_cons,hx]
      | false =>
       simp only[List.lookup_cons,hx] at h
       by_cases hq:(k==NameKind.free&&X.env.scope.kind==.function&&X.env.kindOf n==some .cell)=true
       ·rw[if_pos hq];simp only[List.lookup_cons,hx];exact ih h
       ·rw[if_neg hq];simp only[List.lookup_cons,hx];exact ih h
    exact nl n2 z
   ·exact .inl z
   ·exact .inr z
 have σl:(σ++List.replicate own.length none).length=(N0++own).length:=by
  rw[List.length_append,List.length_append,List.length_replicate,T.len,← I3.len]
 have I4:zU X' [] (σ++List.replicate own.length none) (yc H1 s₂.heap.objs.size (.lst [])) { s₂ with heap:=h₁ }:=by
  refine⟨ok',rfl,I3.bare,Un.kept kp,⟨_,hns₁,fun i x v e1 e2 e3=>?_⟩,fun x c e=>?_,I3.hok.fresh (Nat.le_refl _),fun x c e=>?_,fun p hp=>?_,I3.hok.kept kp,σl⟩
  ·obtain⟨c,u,r,q1,q2,q3⟩:=hlook i x v e1 e2 e3
   obtain⟨o,ho,hd⟩:=q3
   exact⟨u,r,.inr ⟨q2,c,q1,o,kp c o ho,hd⟩⟩
  ·rcases CK x c e with ⟨_,q⟩ | ⟨_,q⟩
   ·rw[q];exact⟨none,hcl₁⟩
   ·obtain⟨v,o,ho,hd⟩:=I3.cell x c q
    exact⟨v,o,kp c o ho,hd⟩
  ·rcases CK x c e with ⟨_,q⟩ | ⟨_,q⟩
   ·rw[q];exact I3.hok.fresh (Nat.le_succ _)
   ·exact I3.freeC x c q
  ·have hp':p∈X.pn++pins:=by
    have:p∈(X.pn++pins)++[]:=hp
    simpa using this
   obtain⟨e,n,ne,nf,d⟩:=I3.pin p hp'
   exact⟨kp _ _ e,n,Nat.ne_of_lt (Heap.lt_size e),pinS p hp',d⟩
 have fpX:∀ {H:Hp},(∀ b∈fp,H b=none)→∀ b∈fp,zBC X' [] H b:=fun {H} hn b hb=>by
  refine⟨hn b hb,(ok'.exf b hb).1,fpS b hb,.inl hb,(ok'.exf b hb).2,fun p hp=>?_⟩
  have hp':p∈X.pn++pins:=by
   have:p∈(X.pn++pins)++[]:=hp
   simpa using this
  exact(f2 b hb).2.2.2.2.2 p hp'
 have st4:tn 0 h₁:=Tn.keep 0 s₂.heap h₁ st2 fun b hb o e=>kp b o (hH2▸Heap.get?_push_of_some _ e)
 -- back to the context around
 have back:∀ {σ':St} {H':Hp} {s':Shared},zU X' [] σ' H' s'→zU X pins σ H' s'∧zBC X pins H' h3.objs.size∧∃ m,s'.heap.Ns h3.objs.size m:=fun {σ' H' s'} J=>by
  have u:Un (frs X.stack) fp (yc H1 s₂.heap.objs.size (.lst [])) H' h3 s'.heap:=J.base
  have J3:zU X pins σ H' s':=I3.call' J.os u J.hok J.bare fun b hb=>⟨(f2 b hb).2.2.2.1,(f2 b hb).2.1,(f2 b hb).2.2.2.2.1,(f2 b hb).2.2.2.2.2⟩
  obtain⟨m,hn,_⟩:=J.loc
  refine⟨J3,?_,m,hn⟩
  refine⟨J.free,Nat.ne_of_gt I3.lt,I3.nofs (Nat.le_refl _),.inr I3.sz,fun x c e z=>?_,fun p hp z=>?_⟩
  ·obtain⟨v,q⟩:=I3.cell x c e
   exact absurd (Nat.lt_of_lt_of_le q.lt (by rw[z];exact Nat.le_refl _)) (Nat.lt_irrefl _)
  ·exact absurd (Nat.lt_of_lt_of_le (Heap.lt_size (I3.pin p hp).1) (by rw[z];exact Nat.le_refl _)) (Nat.lt_irrefl _)
 have loop:∀ s₅:Shared,s₅={ s₂ with heap:=h₁ } →
   codeAny (model X.prog X.w) X.A (.compLoop (.ListComp elt [⟨tg,iter,ifs,0⟩] sc pos) 0 (.ref it) (.ref s₂.heap.objs.size) X'.env)
    (fun r s'=>∃ D H' m,r=.ok .next∧Value.ref s₂.heap.objs.size=.ref D∧zU X pins σ H' s'∧zBC X pins H' h3.objs.size∧s'.heap.Ns h3.objs.size m∧Q (.ref D) H') s₅:=by
  rintro s₅ rfl
  refine codeAny_loop rfl (fun n s'=>∃ i H',zU X' [] (σ++List.replicate own.length none) H' s'∧tn i s'.heap∧(∀ b∈fp,H' b=none)∧W i n H') (fun n s6=>?_) m0 ⟨0,_,I4,st4,fpD,w0⟩
  rintro⟨i,H6,I6,st6,fr6,w6⟩
  show wpAny _ X.A ((compTurn (.ListComp elt [⟨tg,iter,ifs,0⟩] sc pos) 0 (.ref it) (.ref s₂.heap.objs.size) X'.env).onRaise (fun x=>do noteFrame x X'.env;theTreesLotGoes x)) _ _ s6
  refine wpAny_noted ?_
  rw[compTurn_list]
  have nox:∀ {α:Type} {t:Sem α} {Q:α→Shared→Prop} {E':Value→Shared→Prop} {s:Shared},wpAny (model X.prog X.w) X.A t Q (fun _ _=>False) s→wpAny (model X.prog X.w) X.A t Q E' s:=fun h=>wpAny_mono h (fun _ _ q=>q) fun _ _ z=>z.elim
  refine wpAny_bind (wpAny_standAt (wpAny_bind ?_))
  rcases turn i n H6 w6 with ⟨stop,qn⟩ | ⟨go,step⟩
  ·refine nox (yV (Tn.done X' rfl rfl rfl hc i [] s6 _ H6 _ I6 (fpX fr6) st6 stop) fun r s7 ⟨hr,I7⟩=>?_)
   subst hr
   obtain⟨b1,b2,m,b3⟩:=back I7
   exact wpAny_pure ⟨_,H6,m,rfl,rfl,b1,b2,b3,qn⟩
  ·refine nox (yV (Tn.item X' rfl rfl rfl hc i [] s6 _ H6 _ I6 (fpX fr6) st6 go) fun r s7 ⟨u,hr,h7⟩=>?_)
   subst hr
   refine wpAny_bind (nox (yV h7 fun _ s8 ⟨x,H8,I8,r8,y8,st8,fr8⟩=>?_))
   have I8':=I8.pinned (fpX fr8) (Tn.obj _ _ st8)
   refine wpAny_bind (nox (yV (hg _ _ _ _ _ _ s8 _ H8 x u _ I8' r8 (step x H8 y8)) fun _ s9 ⟨σ9,H9,I9,q1,q2,q9⟩=>?_))
   have again:∀ {s':Shared} {H':Hp},zU X' ([]++zCS fp s8.heap) σ9 H' s'→(∃ m',m'<n∧W (i+1) m' H')→∃ m,m<n∧∃ i H',zU X' [] (σ++List.replicate own.length none) H' s'∧tn i s'.heap∧(∀ b∈fp,H' b=none)∧W i m H':=by
    intro s' H' J ⟨m',hm,w'⟩
    refine⟨m',hm,i+1,H',?_,Tn.keep _ _ _ st8 fun b hb o e=>(J.pin (b,o) (List.mem_append_right _ (List.mem_append_right _ (wV hb e)))).1,fun b hb=>?_,w'⟩
    ·refine(J.unpinned).weak ?_ fun j v e=>?_
     ·rw[q2,List.length_append,List.length_replicate]
     ·have hj:j<σ.length:=by
       by_cases hj:j<σ.length
       ·exact hj
       ·rw[List.getElem?_append_right (by omega),List.getElem?_replicate] at e
        split at e<;>cases e
      rw[List.getElem?_append_left hj] at e
      rw[← q1,List.getElem?_take_of_lt hj] at e
      exact e
    ·obtain⟨o,e,d⟩:=Tn.obj _ _ st8 b hb
     exact(J.pin (b,o) (List.mem_append_right _ (List.mem_append_right _ (wV hb e)))).2.1
   refine wpAny_bind (nox (yV (ht _ _ _ _ _ _ s9 σ9 H9 _ I9 q9) fun ok s10 ⟨H10,I10,q10⟩=>?_))
   cases ok with
   | false=>exact wpAny_pure ⟨rfl,again I10 q10⟩
   | true =>
    refine wpAny_bind (wpAny_bind (nox (yV (he _ _ _ _ _ _ s10 σ9 H10 _ I10 q10) fun uv s11 ⟨v,H11,I11,r11,acc,hD11,hz,q11⟩=>?_)))
    refine wpAny_bind (nox (yV (zCU _ s11 σ9 H11 (.ref s₂.heap.objs.size) [v] (.ref s₂.heap.objs.size) [uv] (fun _ H12=>H12=yc H11 s₂.heap.objs.size (.lst (acc++[v]))) I11 rfl (.cons r11 .nil) ⟨_,acc,v,rfl,rfl,hD11,hz,rfl⟩) fun _ s12 ⟨_,H12,I12,_,q12⟩=>?_))
    subst q12
    exact wpAny_pure (wpAny_pure ⟨rfl,again I12 q11⟩)
 exact codeAny_compStart_list (loop _ rfl) (Tn.self _ 0 _ _ _ st4 (loop _ rfl))
theorem zF8{i:Nat}{y:Str}{py spos:Pos}(hc:X.calm=true)(T:zE7 X sc N0 z)(hi:PI X tg iter wi)
  (hg:∀ C s H fp pins,PG (X.compC z (N0++own) sc C s H fp pins) tg g) (ht:∀ C s H fp pins,PTs (X.compC z (N0++own) sc C s H fp pins) ifs tc) (he:∀ C s H fp pins,PE (X.compC z (N0++own) sc C s H fp pins) elt te)
  (hN:X.N.Nodup) (hy:X.N[i]?=some y) (hl:X.env.scope.names.lookup y=some .local)
  (hsw:swapsWith (.ListComp elt [⟨tg,iter,ifs,0⟩] sc pos) (some (.Name y py)) spos.line X.env=pure true)
  (hs:∀ x,foldedSetIterable iter X.env x=pure x:=by intro _;rfl):PS X (.Assign [.Name y py] (.ListComp elt [⟨tg,iter,ifs,0⟩] sc pos) spos) (fun D σ H=>zHJ own.length wi g tc te σ H fun v H1=>D.nx (σ.set i (some v)) H1):=by
 intro pins s σ H D I h
 rw[exec_Assign_Name_used _ _ _ _ hsw]
 refine wpAny_bind (wpAny_standAt (wpAny_bind ?_))
 show wpAny _ X.A (do let _ ← comprehension (.ListComp elt [⟨tg,iter,ifs,0⟩] sc pos) sc X.env _ (newList []) false (eval iter X.env) (some (assign (.Name y py) X.env))) _ _ s
 refine wpAny_bind (wpAny_mono (wpAny_comprehension_free (use:=some (assign (.Name y py) X.env)) (Q:=fun _ s'=>SP X pins D .next s') rfl hs (zAe fun y hy hf=>I.ok.has _ (T.cap y hy hf)) T.kind T.names
  (yV (hi pins s σ H _ I h) fun xv s₁ h₁=>yV h₁ fun it s₂ h₂=>?_)) (fun _ s' hq=>wpAny_pure (wpAny_pure hq)) fun _ _ e=>e)
 refine yV (zF7 (iter:=iter) (pos:=pos) (E:=X.xe) (Q:=fun v H1=>D.nx (σ.set i (some v)) H1) hc T hg ht he h₂) fun acc s₃ h₃=>yV h₃ fun cenv s₄ h₄=>codeAny_mono h₄ fun r s' hr=>?_
 obtain⟨A,H',m,rfl,rfl,J,f,hn,q⟩:=hr
 show wpAny _ X.A (assign (.Name y py) X.env (.ref A)) _ _ _
 refine wpAny_assign_Name (zCR J hN hy (.inl hl) (v:=.ref A) rfl (fun s'' J' ⟨a,sb,ha⟩=>?_) (.inr hl))
 have hCa:cenv.locals≠a:=by
  rcases ha with z | z
  ·rw[z];exact f.2.1
  ·exact fun e=>f.2.2.2.2.1 y a z e.symm
 refine⟨m,hn.sameBut sb hCa,fun h' hs'=>⟨_,H',?_,q⟩⟩
 exact J'.turned (t':=s''.toks) (fun b o hb e=>(hs'.2 b hb).trans e) f.1 f.2.1 f.2.2.2.1 f.2.2.2.2.1 f.2.2.2.2.2
end
end L2
namespace L3
open PySem PySem.Spec PyProof.Rows L2
def zKP(osc sc:Scope)(N N0:List Str)(z:Str):Bool :=
 decide (sc.kind=.function)&&decide (sc.names.lookup z=some .cell)&&sc.names.all (fun y=>decide (y.2=.local→sc.names.lookup y.1=some .local))
 && sc.names.all (fun y=>decide (y.2=.free→osc.names.lookup y.1=some .cell∨osc.names.lookup y.1=some .free))
 && decide (N0.length=N.length)&&(List.range N0.length).all (fun i=>match N0[i]? with | some x=>!zID (wj osc sc) x||decide (N[i]?=some x∧sc.names.lookup x=some .free) | none=>true)
 && decide ((N0++[z]).Nodup)&&sc.names.all (fun y=>decide ((wj osc sc).lookup y.1=some .cell∨(wj osc sc).lookup y.1=some .free→y.1=z∨sc.names.lookup y.1=some .free))&&decide ((wj osc sc).lookup z=some .cell)
structure zKQ (X:Cx) (sc:Scope) (N0:List Str) (z:Str):Prop where
 ok:zE7 X sc N0 z
 nd:(N0++[z]).Nodup
 cel:(relabel sc X.env).names.lookup z=some .cell
theorem lookup_mem{α:Type}{x:Str}{v:α}:∀ {l:List (Str×α)},l.lookup x=some v→∃ y∈l,y.1=x
 | [],h=>by simp at h
 | (n,k)::r,h=>by
  rw[List.lookup_cons] at h
  cases hx:x==n with
  | true=>exact⟨(n,k),by simp,by simpa using(beq_iff_eq.mp hx).symm⟩
  | false =>
   rw[hx] at h
   obtain⟨y,hy,e⟩:=lookup_mem h
   exact⟨y,List.mem_cons_of_mem _ hy,e⟩
theorem zIl{X:Cx}{osc sc:Scope}{N N0:List Str}{z:Str}(h:zKP osc sc N N0 z=true)(hlay:∀ a acc,cellsFrom a sc.names acc=(z,a)::acc)(hpush:∀ h:Heap,pushCells h sc.names=h.push { cls:=.type "cell",data:=.cell none })(e1:X.env.scope=osc:=by rfl)(e2:X.N=N:=by rfl):zKQ X sc N0 z:=by
 subst e1 e2
 unfold zKP at h
 simp only[Bool.and_eq_true,decide_eq_true_eq,List.all_eq_true] at h
 obtain⟨⟨⟨⟨⟨⟨⟨⟨h1,h2⟩,h3⟩,h4⟩,h5⟩,h6⟩,h7⟩,h8⟩,h9⟩:=h
 refine⟨⟨h1,h2,hlay,hpush,fun x hx=>?_,h3,h4,h5,fun i x e v=>?_⟩,h7,h9⟩
 ·have hx':(wj X.env.scope sc).lookup x=some .cell∨(wj X.env.scope sc).lookup x=some .free:=hx
  obtain⟨y,hy,e⟩:∃ y∈wj X.env.scope sc,y.1=x:=by
   rcases hx' with w | w<;>exact lookup_mem w
  obtain⟨y0,hy0,e0⟩:=List.mem_map.mp hy
  have e1:y0.1=x:=by
   rw[← e,← e0]
   obtain⟨n,k⟩:=y0
   dsimp only
   split<;>rfl
  have:=h8 y0 hy0
  rw[e1] at this
  exact this hx'
 ·have hi:i<N0.length:=(List.getElem?_eq_some_iff.mp e).1
  have q:=h6 i (List.mem_range.mpr hi)
  rw[e] at q
  dsimp only at q
  have hv:zID (wj X.env.scope sc) x=true:=by
   have v':(wj X.env.scope sc).lookup x=some .local∨(wj X.env.scope sc).lookup x=some .cell∨(wj X.env.scope sc).lookup x=some .free:=v
   unfold zID
   rcases v' with v' | v' | v'<;>rw[v']
  rw[hv] at q
  simpa using q
section
variable {X:Cx} {elt iter:Expr} {pos:Pos} {te:zk} {ifs:List Expr} {sc:Scope} {N0:List Str} {wi:TI2} {tc:TT2}
theorem zLZ(i:Nat)(x:Str){y:Str}{px py spos:Pos}(hc:X.calm=true)(T:zKQ X sc N0 x)(hi:I2 X (.Name x px) iter wi)
  (ht:∀ C s H fp pins,Ts2 (X.compC x (N0++[x]) sc C s H fp pins) ifs tc) (he:∀ C s H fp pins,E2 (X.compC x (N0++[x]) sc C s H fp pins) elt te)
  (hN:X.N.Nodup) (hy:X.N[i]?=some y:=by rfl) (hl:X.env.scope.names.lookup y=some .local:=by rfl)
  (hsw:swapsWith (.ListComp elt [⟨.Name x px,iter,ifs,0⟩] sc pos) (some (.Name y py)) spos.line X.env=pure true:=by rfl)
  (hs:∀ x,foldedSetIterable iter X.env x=pure x:=by intro _;rfl):P2 X (.Assign [.Name y py] (.ListComp elt [⟨.Name x px,iter,ifs,0⟩] sc pos) spos) (zAh i (za wi bd1 tc te)):=by
 have T':=T.ok
 refine PS.at (zF8 (own:=[x]) (g:=zBg X.N.length) (tc:=lT X.K tc) (te:=lE X.K te) hc T' hi (fun C s H fp pins=>zAU (X:=X.compC x (N0++[x]) sc C s H fp pins) T.nd (by
  show(N0++[x])[X.N.length]?=some x
  rw[← T'.len];simp) (.inr T.cel) (.inl (by show(x==x)=true;simp))) ht he hN hy hl hsw hs) fun E σ1 H hl h=>?_
 obtain⟨σ,G,D2,r,q,k⟩:=h
 refine zBU (n:=1) (N:=X.N.length) bind1 (fun d us e=>by cases e;rfl) hl ⟨σ,G,_,r,q,fun ds G' q' l xs H' g' r' n e d=>?_⟩
 exact k.nx _ _ (q' l n) _ H' g' ((r.to g' (r'.own e d)).set i (by unfold zS;rfl))
end
end L3
namespace K
open PySem PySem.Spec PyProof.Rows L2 L3
def zAO:Sp2:=fun ds G R=>∃(n1:Nat) (q1:Nat×Nat→Bool) (n2:Nat) (q2:Nat×Nat→Bool),ds=[zT n1 q1,zT n2 q2]∧2≤n1∧2≤n2∧n1+n2≤11∧R (zT (n1+n2-2) fun p=>decide (p∈glF n1 q1 n2 q2)) G
def zBc:yy:=(zb (zp (zP (wK fun i j=>.int (i-j)) (zP zy (zB 0) (xC (.int 0))) (xC (.int 1))) (gN 2)) (zb (zAh 3 (za (iV (yK (zA (zB 0) (zA (zB 1) zI)))) bd1 yq (zx (za (iV (zP zy (zB 6) (xC (.int 1)))) bd2 (xB (zP (fEq false) (zB 8) (zP (wK fun i j=>.int (i-j)) (zP zy (zB 6) (xC (.int 0))) (xC (.int 1))))) (zB 7))))) (zb (zAh 4 (za (iV (zP zy (zB 0) (xC (.int 1)))) bd1 (xB (zP (fEq true) (zP zy (zB 6) (xC (.int 1))) (zB 2))) (zB 6))) (zb (zp (zx (zB4 (zB 4) (zx (za (iV (zP zy (zB 1) (xC (.int 1)))) bd2 (xB (zP (fEq true) (zB 7) (zP (wK fun i j=>.int (i-j)) (zP zy (zB 1) (xC (.int 0))) (xC (.int 1))))) (yK (zA (zP yJ (zB 6) (zB 2)) (zA (zP yJ (zB 7) (zB 2)) zI))))))) (gN 4)) (zb (wu (iV (zP zy (zB 3) (xC (.int 0)))) (gN 5) (zp (zx (zB4 (zB 4) (zx (za (iV (zP zy (zB 3) (xC (.int 1)))) bd1 yq (yK (zA (zB 5) (zA (zP yJ (zB 6) (zB 2)) zI))))))) (gN 4))) (yC (yK (zA (zP (wK fun i j=>.int (i-j)) (zP yJ (zB 2) (zP zy (zB 1) (xC (.int 0)))) (xC (.int 1))) (zA (zX zj (zDf (zA (zB 4) zI))) zI)))))))))
theorem zE8{σ:S2}{G:Gp}{t:zk}{n:Nat}(h:zg t σ G (nD n))(h1:1≤n):zg (zP (wK fun i j=>.int (i-j)) t (xC (.int 1))) σ G (nD (n-1)):=by
 have:=zBi (g:=fun i j=>.int (i-j)) h (yH (d:=.int 1))
 rwa [show(n:Int)-1=((n-1:Nat):Int) by omega] at this
theorem zIm(l:List Nat)(c:Nat):(l.map fun _=>c).sum=l.length*c:=by
 induction l with
 | nil=>simp
 | cons a r ih=>rw[List.map_cons,List.sum_cons,ih,List.length_cons,Nat.succ_mul];omega
theorem zKR{σ:S2}{G:Gp}{i:Nat}{t:TL2}{u:yy}{E:yO}(h:t σ G fun ds G'=>∀ l,G'.m l=none→u E (σ.set i (some (.adr l))) (zR G' l ds)):zb (zAh i t) u E σ G:=h
theorem zE9{σ:S2}{G:Gp}{l:List (Nat×Nat)}{t:zk}{tc:TT2}{te:zk}(p:Nat×Nat→Bool)(f:Nat×Nat→D)(h:zg t σ G (.tup (l.map yN)))(hx:∀ x∈l,PuT tc (σ++[some (nD x.1),some (nD x.2)]) G (p x)∧zg te (σ++[some (nD x.1),some (nD x.2)]) G (f x)):PuL (za (iV t) bd2 tc te) σ G ((l.filter p).map f):=by
 have c:=zAs (σ:=σ) (G:=G) (bd:=bd2) (tc:=tc) (te:=te) (fun d=>match d with | .tup [.int a,.int b]=>p (a.toNat,b.toNat) | _=>false) (fun d=>match d with | .tup [.int a,.int b]=>f (a.toNat,b.toNat) | _=>.non) (fun d=>match d with | .tup us=>us | _=>[]) (zAi h) fun x hx'=>by
  obtain⟨y,hy,rfl⟩:=List.mem_map.mp hx'
  exact⟨rfl,(hx y hy).1,fun _=>(hx y hy).2⟩
 have e:List.map (fun d=>match d with | .tup [.int a,.int b]=>f (a.toNat,b.toNat) | _=>.non) (List.filter (fun d=>match d with | .tup [.int a,.int b]=>p (a.toNat,b.toNat) | _=>false) (l.map yN))=(l.filter p).map f:=by
  rw[List.filter_map,List.map_map];rfl
 rw[e] at c
 exact c
theorem zIn(ds:List D)(G:Gp)(R:Q2)(h:zAO ds G R):ds.length=2∧zBc (zn R) (zO ["one","two","more","near","found","a"] ds) G:=by
 obtain⟨n1,q1,n2,q2,rfl,h1,h2,h11,h⟩:=h
 refine⟨rfl,?_⟩
 unfold zBc
 rw[show zO ["one","two","more","near","found","a"] [zT n1 q1,zT n2 q2]=[some (zT n1 q1),some (zT n2 q2),none,none,none,none] from rfl]
 refine zBY (d:=nD (n1-1)) (zE8 (wv (zE rfl)) (by omega)) ?_
 simp only[gN,List.set_cons_succ,List.set_cons_zero]
 -- near
 have nr:∀ {σ:S2} {G:Gp} {n:Nat} {q:Nat×Nat→Bool},σ.length=6→2≤n→PuL (za (iV (zP zy (zB 6) (xC (.int 1)))) bd2 (xB (zP (fEq false) (zB 8) (zP (wK fun i j=>.int (i-j)) (zP zy (zB 6) (xC (.int 0))) (xC (.int 1))))) (zB 7)) (σ++[zT n q].map some) G ((yM n q).map nD):=fun {σ G n q} hs hn=>by
  match σ,hs with
  | [a,b,c,d,e,f],_ =>
   have:=zE9 (σ:=[a,b,c,d,e,f]++[zT n q].map some) (G:=G) (l:=(wQ n).filter q) (tc:=(xB (zP (fEq false) (zB 8) (zP (wK fun i j=>.int (i-j)) (zP zy (zB 6) (xC (.int 0))) (xC (.int 1)))))) (te:=zB 7) (fun p=>decide (p.2=n-1)) (fun p=>nD p.1) (zFa (zE (i:=6) rfl)) fun x hx=>⟨zAL (zBO (x:=nD x.2) (y:=nD (n-1)) (zE rfl) (zE8 (wv (n:=n) (q:=q) (zE rfl)) (by omega)) rfl rfl (by rw[if_neg (by simp),zDZ])),zE rfl⟩
   unfold yM
   rw[List.map_map]
   exact this
 refine zKR (zEr (zMx (ds:=[zT n1 q1,zT n2 q2]) (wq (zF (zE rfl) (zF (zE rfl) zQ)) (by simp)) fun A hA=>zDO (fun i acc G'=>(i=0∧acc=[]∧G'=zR G A [])∨(i=1∧∃ a1,acc=[.adr a1]∧G.m a1=none∧a1≠A∧L3.Sub (zR G a1 ((yM n1 q1).map nD)) G'∧G'.m A=some acc)∨(i=2∧∃ a1 a2,acc=[.adr a1,.adr a2]∧G.m a1=none∧G.m a2=none∧a1≠A∧a2≠A∧a1≠a2∧L3.Sub (zR (zR G a1 ((yM n1 q1).map nD)) a2 ((yM n2 q2).map nD)) G'∧G'.m A=some acc)) (.inl ⟨rfl,rfl,rfl⟩) ?_ ?_ ?_))
 ·rintro i acc G' (⟨rfl,rfl,rfl⟩ | ⟨rfl,a1,rfl,_,_,_,h6⟩ | ⟨rfl,a1,a2,rfl,_,_,_,_,_,_,h6⟩)
  ·exact⟨trivial,zH,by simp⟩
  ·exact⟨trivial,h6,by simp⟩
  ·exact⟨trivial,h6,by simp⟩
 ·rintro i x acc G' hx (⟨rfl,rfl,rfl⟩ | ⟨rfl,a1,rfl,k1,k2,k3,k4⟩ | ⟨rfl,_⟩)
  ·cases hx
   refine⟨[zT n1 q1],rfl,?_⟩
   unfold yq
   dsimp only
   rw[if_pos rfl]
   refine zBP (nr rfl h1) fun a1 ha1=>?_
   have ne:a1≠A:=fun z=>by rw[z,zH] at ha1;cases ha1
   have ha0:G.m a1=none:=by rwa [zN ne] at ha1
   refine⟨by rw[zN (Ne.symm ne)];exact zH,_,.refl _,.inr (.inl ⟨rfl,a1,rfl,ha0,ne,?_,zH⟩)⟩
   refine⟨fun b u e=>?_,fun b u e=>e⟩
   by_cases hb:b=A
   ·subst hb;rw[zN (Ne.symm ne),hA] at e;cases e
   ·rw[zN hb]
    by_cases hb1:b=a1
    ·subst hb1;rw[zH] at e ⊢;exact e
    ·rw[zN hb1] at e ⊢;rw[zN hb];exact e
  ·cases hx
   refine⟨[zT n2 q2],rfl,?_⟩
   unfold yq
   dsimp only
   rw[if_pos rfl]
   refine zBP (nr rfl h2) fun a2 ha2=>?_
   have ne:a2≠A:=fun z=>by rw[z,k4] at ha2;cases ha2
   have n12:a1≠a2:=fun z=>by rw[← z,k3.m _ _ zH] at ha2;cases ha2
   have ha0:G.m a2=none:=by
    cases e:G.m a2 with
    | none=>rfl
    | some u =>
     have:=k3.m a2 u (by rw[zN (Ne.symm n12)];exact e)
     rw[this] at ha2;cases ha2
   refine⟨by rw[zN (Ne.symm ne)];exact k4,_,.refl _,.inr (.inr ⟨rfl,a1,a2,rfl,k1,ha0,k2,ne,n12,?_,zH⟩)⟩
   refine⟨fun b u e=>?_,fun b u e=>k3.ro b u e⟩
   by_cases hb:b=A
   ·subst hb;rw[zN (Ne.symm ne),zN (Ne.symm k2),hA] at e;cases e
   ·rw[zN hb]
    by_cases hb1:b=a2
    ·subst hb1;rw[zH] at e ⊢;exact e
    ·rw[zN hb1] at e ⊢;exact k3.m b u e
  ·cases hx
 ·rintro acc G' (⟨z,_⟩ | ⟨z,_⟩ | ⟨_,a1,a2,rfl,k1,k2,k3,k4,k5,k6,k7⟩)
  ·cases z
  ·cases z
  refine⟨zR (zR G a1 ((yM n1 q1).map nD)) a2 ((yM n2 q2).map nD),by rw[zN (Ne.symm k4),zN (Ne.symm k3)];exact hA,k6,fun ln hln=>?_⟩
  have m1:(zR (zR G a1 ((yM n1 q1).map nD)) a2 ((yM n2 q2).map nD)).m a1=some ((yM n1 q1).map nD):=by rw[zN k5];exact zH
  have m2:(zR (zR G a1 ((yM n1 q1).map nD)) a2 ((yM n2 q2).map nD)).m a2=some ((yM n2 q2).map nD):=zH
  have sb:L3.Sub G (zR (zR G a1 ((yM n1 q1).map nD)) a2 ((yM n2 q2).map nD)):=(L3.Sub.new k1).trans (.new (by rw[zN (Ne.symm k5)];exact k2))
  generalize zR (zR G a1 ((yM n1 q1).map nD)) a2 ((yM n2 q2).map nD)=G1 at m1 m2 sb hln
  clear k6 k7 k1 k2 k3 k4 k5 nr
  have e1:Ext G1 (zR G1 ln [.adr a1,.adr a2]):=.new hln
  have m3:(zR G1 ln [.adr a1,.adr a2]).m ln=some [.adr a1,.adr a2]:=zH
  have n1':a1≠ln:=fun z=>by rw[← z,m1] at hln;cases hln
  have n2':a2≠ln:=fun z=>by rw[← z,m2] at hln;cases hln
  replace m1:(zR G1 ln [.adr a1,.adr a2]).m a1=some ((yM n1 q1).map nD):=by rw[zN n1'];exact m1
  replace m2:(zR G1 ln [.adr a1,.adr a2]).m a2=some ((yM n2 q2).map nD):=by rw[zN n2'];exact m2
  replace sb:L3.Sub G (zR G1 ln [.adr a1,.adr a2]):=sb.trans (.new hln)
  clear e1
  generalize zR G1 ln [.adr a1,.adr a2]=G2 at m1 m2 m3 sb
  simp only[List.set_cons_succ,List.set_cons_zero]
  -- found
  have c:=zAs (σ:=[some (zT n1 q1),some (zT n2 q2),some (nD (n1-1)),some (.adr ln),none,none]) (G:=G2) (bd:=bd1) (tc:=(xB (zP (fEq true) (zP zy (zB 6) (xC (.int 1))) (zB 2)))) (te:=zB 6) (fun d=>match d with | .tup [.int a,.int b]=>!decide (b.toNat=n1-1) | _=>false) (fun d=>d) (fun d=>[d]) (zAi (zFa (n:=n1) (q:=q1) (zE (i:=0) rfl))) fun x hx=>by
   obtain⟨p,hp,rfl⟩:=List.mem_map.mp hx
   exact⟨rfl,zAL (zBO (x:=nD p.2) (y:=nD (n1-1)) (zNz (zE rfl)) (zE rfl) rfl rfl (by rw[if_pos rfl,zDZ];rfl)),fun _=>zE rfl⟩
  have e:List.map (fun d=>d) (List.filter (fun d=>match d with | .tup [.int a,.int b]=>!decide (b.toNat=n1-1) | _=>false) (((wQ n1).filter q1).map yN))=(yv n1 q1).map yN:=by
   rw[List.map_id',List.filter_map];rfl
  rw[e] at c
  refine c G2 (.refl _) _ fun f1 hf1=>?_
  dsimp only
  simp only[List.set_cons_succ,List.set_cons_zero]
  have c2:=zE9 (σ:=[some (zT n1 q1),some (zT n2 q2),some (nD (n1-1)),some (.adr ln),some (.adr f1),none]) (G:=zR G2 f1 ((yv n1 q1).map yN)) (l:=(wQ n2).filter q2) (tc:=(xB (zP (fEq true) (zB 7) (zP (wK fun i j=>.int (i-j)) (zP zy (zB 1) (xC (.int 0))) (xC (.int 1)))))) (te:=(yK (zA (zP yJ (zB 6) (zB 2)) (zA (zP yJ (zB 7) (zB 2)) zI)))) (fun p=>!decide (p.2=n2-1)) (fun p=>yN (p.1+(n1-1),p.2+(n1-1))) (zFa (zE (i:=1) rfl)) fun x hx=>⟨zAL (zBO (x:=nD x.2) (y:=nD (n2-1)) (zE rfl) (zE8 (wv (n:=n2) (q:=q2) (zE rfl)) (by omega)) rfl rfl (by rw[if_pos rfl,zDZ])),wq (zF (zBN (i:=(x.1:Int)) (j:=((n1-1:Nat):Int)) (zE rfl) (zE rfl)) (zF (zBN (i:=(x.2:Int)) (j:=((n1-1:Nat):Int)) (zE rfl) (zE rfl)) zQ)) (by simp)⟩
  have e2:List.map (fun p=>yN (p.1+(n1-1),p.2+(n1-1))) (((wQ n2).filter q2).filter fun p=>!decide (p.2=n2-1))=((yv n2 q2).map fun p=>(p.1+(n1-1),p.2+(n1-1))).map yN:=by
   rw[List.map_map];rfl
  rw[e2] at c2
  refine yg (zCo (zE5 (zE (d:=.adr f1) rfl) (zBP c2 fun f2 hf2=>?_)))
  have nf:f1≠f2:=fun z=>by rw[← z,zH] at hf2;cases hf2
  have fl1:(yv n1 q1).length≤36:=zCK (((yz n1).filter _).filter _) (fun p hp=>(by have:=zBb hp;omega:p.1<p.2∧p.2<n1)) (by omega)
  have fl2:(yv n2 q2).length≤36:=zCK (((yz n2).filter _).filter _) (fun p hp=>(by have:=zBb hp;omega:p.1<p.2∧p.2<n2)) (by omega)
  refine⟨_,_,by rw[zN nf];exact zH,zH,by simp only[List.length_map];omega,fun f3 hf3=>?_⟩
  have keep:∀ {b:Addr} {u:List D},G2.m b=some u→b≠f3∧(zR (zR (zR G2 f1 ((yv n1 q1).map yN)) f2 (((yv n2 q2).map fun p=>(p.1+(n1-1),p.2+(n1-1))).map yN)) f3 ((yv n1 q1).map yN++((yv n2 q2).map fun p=>(p.1+(n1-1),p.2+(n1-1))).map yN)).m b=some u:=fun {b u} hb=>by
   have b1:b≠f1:=fun z=>by rw[← z,hb] at hf1;cases hf1
   have b2:b≠f2:=fun z=>by rw[← z,zN b1,hb] at hf2;cases hf2
   have b3:b≠f3:=fun z=>by rw[← z,zN b2,zN b1,hb] at hf3;cases hf3
   exact⟨b3,by rw[zN b3,zN b2,zN b1];exact hb⟩
  have m1':=(keep m1).2
  have m2':=(keep m2).2
  have m3':=(keep m3).2
  have m4':(zR (zR (zR G2 f1 ((yv n1 q1).map yN)) f2 (((yv n2 q2).map fun p=>(p.1+(n1-1),p.2+(n1-1))).map yN)) f3 ((yv n1 q1).map yN++((yv n2 q2).map fun p=>(p.1+(n1-1),p.2+(n1-1))).map yN)).m f3=some ((yv n1 q1++(yv n2 q2).map fun p=>(p.1+(n1-1),p.2+(n1-1))).map yN):=by rw[zH,List.map_append]
  have sb':L3.Sub G (zR (zR (zR G2 f1 ((yv n1 q1).map yN)) f2 (((yv n2 q2).map fun p=>(p.1+(n1-1),p.2+(n1-1))).map yN)) f3 ((yv n1 q1).map yN++((yv n2 q2).map fun p=>(p.1+(n1-1),p.2+(n1-1))).map yN)):=((sb.trans (.new hf1)).trans (.new hf2)).trans (.new hf3)
  generalize zR (zR (zR G2 f1 ((yv n1 q1).map yN)) f2 (((yv n2 q2).map fun p=>(p.1+(n1-1),p.2+(n1-1))).map yN)) f3 ((yv n1 q1).map yN++((yv n2 q2).map fun p=>(p.1+(n1-1),p.2+(n1-1))).map yN)=G3 at m1' m2' m3' m4' sb'
  clear keep m1 m2 m3 sb c c2 hf3 hf2 hf1
  simp only[gN,List.set_cons_succ,List.set_cons_zero]
  have gd:=zIk (n1:=n1) (q1:=q1) (n2:=n2) (q2:=q2)
  have gi:=zNL (q1:=q1) (q2:=q2) h1 h2
  have nl1:=zEW (n:=n1) (q:=q1)
  have nl2:=zEW (n:=n2) (q:=q2)
  have fl:(yv n1 q1++(yv n2 q2).map fun p=>(p.1+(n1-1),p.2+(n1-1))).length≤72:=by rw[List.length_append,List.length_map];omega
  unfold glF at gd gi h
  generalize (yv n1 q1++(yv n2 q2).map fun p=>(p.1+(n1-1),p.2+(n1-1)))=F at m4' fl gd gi h
  generalize yM n1 q1=N1 at *
  generalize yM n2 q2=N2 at *
  refine zBq (show iV _ _ _ _ from zNE (zE (i:=3) (d:=.adr ln) rfl _ (.refl _) _ (yH (d:=.int 0) _ (.refl _) _ (yu m3' rfl ⟨_,.inl m1',⟨fun k σ' G'=>∃ s,σ'=[some (zT n1 q1),some (zT n2 q2),some (nD (n1-1)),some (.adr ln),some (.adr s),none]∧G'.m s=some ((F++(N1.take k).flatMap fun a=>N2.map fun b=>(a,b+(n1-1))).map yN)∧G'.m ln=some [.adr a1,.adr a2]∧G'.m a1=some (N1.map nD)∧G'.m a2=some (N2.map nD)∧L3.Sub G G',?_,?_,?_,?_⟩⟩))))
  ·exact⟨f3,rfl,by simpa using m4',m3',m1',m2',sb'⟩
  ·rintro k σ' G' _ ⟨s,_,_,_,z,_⟩
   exact .inl z
  ·rintro k x σ' G' hx ⟨s,rfl,k1,k2,k3,k4,k5⟩
   obtain⟨a,ha,rfl⟩:=zAo hx
   simp only[gN,List.set_cons_succ,List.set_cons_zero]
   have c3:=zAt (σ:=[some (zT n1 q1),some (zT n2 q2),some (nD (n1-1)),some (.adr ln),some (.adr s),some (nD a)]) (G:=G') (bd:=bd1) (te:=(yK (zA (zB 5) (zA (zP yJ (zB 6) (zB 2)) zI)))) (fun d=>match d with | .int b=>yN (a,b.toNat+(n1-1)) | _=>.non) (fun d=>[d]) (wi:=(iV (zP zy (zB 3) (xC (.int 1))))) (ds:=N2.map nD) (zAj (zGw (k:=1) (zE (i:=3) (d:=.adr ln) rfl) yH (.inl k2) rfl) (.inl k4)) fun x hx=>by
    obtain⟨b,hb,rfl⟩:=List.mem_map.mp hx
    exact⟨rfl,wq (zF (zE rfl) (zF (zBN (i:=(b:Int)) (j:=((n1-1:Nat):Int)) (zE rfl) (zE rfl)) zQ)) (by simp)⟩
   have e3:List.map (fun d=>match d with | .int b=>yN (a,b.toNat+(n1-1)) | _=>.non) (N2.map nD)=(N2.map fun b=>(a,b+(n1-1))).map yN:=by rw[List.map_map,List.map_map];rfl
   rw[e3] at c3
   refine zLY (zCo (zE5 (zE (d:=.adr s) rfl) (zBP c3 fun g1 hg1=>?_)))
   have ng:s≠g1:=fun z=>by rw[← z,k1] at hg1;cases hg1
   have fl4:((N1.take k).flatMap fun a=>N2.map fun b=>(a,b+(n1-1))).length≤900:=by
    rw[List.length_flatMap]
    simp only[List.length_map]
    have:((N1.take k).map fun _=>N2.length).sum=(N1.take k).length*N2.length:=zIm _ _
    rw[this,List.length_take]
    exact Nat.le_trans (Nat.mul_le_mul (show min k N1.length≤11 by omega) (show N2.length≤11 by omega)) (by decide)
   refine⟨_,_,by rw[zN ng];exact k1,zH,by simp only[List.length_map,List.length_append];omega,fun g2 hg2=>?_⟩
   simp only[gN,List.set_cons_succ,List.set_cons_zero]
   have kp:∀ {b:Addr} {u:List D} {X Y:List D},G'.m b=some u→(zR G' g1 X).m g2=none→(zR (zR G' g1 X) g2 Y).m b=some u:=fun {b u X Y} hb hz=>by
    have b1:b≠g1:=fun z=>by rw[← z,hb] at hg1;cases hg1
    have b2:b≠g2:=fun z=>by rw[← z,zN b1,hb] at hz;cases hz
    rw[zN b2,zN b1];exact hb
   refine⟨_,_,.keep (.keep (.keep (.keep (.keep (.skip .nil))))),.refl _,g2,rfl,?_,kp k2 hg2,kp k3 hg2,kp k4 hg2,(k5.trans (.new hg1)).trans (.new hg2)⟩
   rw[zH,yj ha,List.flatMap_append,← List.map_append]
   simp
  ·rintro σ' G' ⟨s,rfl,k1,k2,k3,k4,k5⟩
   rw[List.length_map,List.take_length] at k1
   dsimp only
   generalize (F++N1.flatMap fun a=>N2.map fun b=>(a,b+(n1-1)))=FF at *
   have a1:zg (zP (wK fun i j=>.int (i-j)) (zP yJ (zB 2) (zP zy (zB 1) (xC (.int 0)))) (xC (.int 1))) [some (zT n1 q1),some (zT n2 q2),some (nD (n1-1)),some (.adr ln),some (.adr s),none] G' (nD (n1+n2-2)):=by
    have:=zBi (g:=fun i j=>.int (i-j)) (zBN (σ:=[some (zT n1 q1),some (zT n2 q2),some (nD (n1-1)),some (.adr ln),some (.adr s),none]) (G:=G') (i:=((n1-1:Nat):Int)) (j:=(n2:Int)) (zE (i:=2) rfl) (wv (n:=n2) (q:=q2) (zE (i:=1) rfl))) (yH (d:=.int 1))
    rwa [show((n1-1:Nat):Int)+(n2:Int)-1=((n1+n2-2:Nat):Int) by omega] at this
   exact ww (d:=zT (n1+n2-2) fun p=>decide (p∈FF)) (wq (zF a1 (zF (zIj (zE (i:=4) rfl) (.inl k1) gd gi (by omega)) zQ)) (by simp)) ⟨G,k5,h⟩
end K
namespace K
open PySem PySem.Spec PyProof.Rows L2 L3
def nmL(n:Nat)(q:Nat×Nat→Bool)(od:List Nat):List (Nat×Nat):=((wQ n).filter q).map fun p=>(min (od.getD p.1 0) (od.getD p.2 0),max (od.getD p.1 0) (od.getD p.2 0))
theorem zDs{n:Nat}{od:List Nat}(h:od.Perm (List.range n)){i j:Nat}(hi:i<n)(hj:j<n)(e:od.getD i 0=od.getD j 0):i=j:=by
 have hl:od.length=n:=by rw[h.length_eq,List.length_range]
 have nd:od.Nodup:=h.nodup_iff.mpr List.nodup_range
 have e1:od.getD i 0=od[i]:=by simp[List.getD,hl,hi]
 have e2:od.getD j 0=od[j]:=by simp[List.getD,hl,hj]
 rw[e1,e2] at e
 exact(List.getElem_inj nd).mp e
theorem zLz{n:Nat}{od:List Nat}(h:od.Perm (List.range n)){i:Nat}(hi:i<n):od.getD i 0<n:=by
 have hl:od.length=n:=by rw[h.length_eq,List.length_range]
 have e1:od.getD i 0=od[i]:=by simp[List.getD,hl,hi]
 rw[e1]
 exact List.mem_range.mp (h.mem_iff.mp (List.getElem_mem _))
theorem zNM{n:Nat}{q:Nat×Nat→Bool}{od:List Nat}(h:od.Perm (List.range n)):∀ p∈nmL n q od,p.1<p.2∧p.2<n:=by
 intro p hp
 obtain⟨x,hx,rfl⟩:=List.mem_map.mp hp
 have h1:=wd.mp (List.mem_filter.mp hx).1
 have a:=zLz h (i:=x.1) (by omega)
 have b:=zLz h (i:=x.2) (by omega)
 have:od.getD x.1 0≠od.getD x.2 0:=fun e=>by have:=zDs h (by omega) (by omega) e;omega
 simp only;omega
theorem zIo{n:Nat}{q:Nat×Nat→Bool}{od:List Nat}(h:od.Perm (List.range n)):(nmL n q od).Nodup:=by
 unfold nmL List.Nodup
 rw[List.pairwise_map]
 have nd:((wQ n).filter q).Nodup:=(yz n).filter _
 refine nd.imp_of_mem fun {a b} ha hb ne e=>ne ?_
 have h1:=wd.mp (List.mem_filter.mp ha).1
 have h2:=wd.mp (List.mem_filter.mp hb).1
 simp only[Prod.mk.injEq] at e
 have i1:=fun e=>zDs h (i:=a.1) (j:=b.1) (by omega) (by omega) e
 have i2:=fun e=>zDs h (i:=a.2) (j:=b.2) (by omega) (by omega) e
 have i3:=fun e=>zDs h (i:=a.1) (j:=b.2) (by omega) (by omega) e
 have i4:=fun e=>zDs h (i:=a.2) (j:=b.1) (by omega) (by omega) e
 generalize od.getD a.1 0=x1 at *
 generalize od.getD a.2 0=x2 at *
 generalize od.getD b.1 0=y1 at *
 generalize od.getD b.2 0=y2 at *
 by_cases c:x1=y1
 ·exact Prod.ext (i1 c) (i2 (by omega))
 ·have:=i3 (by omega)
  have:=i4 (by omega)
  omega
theorem zKS{σ:S2}{G:Gp}{t u:zk}{n:Nat}{q:Nat×Nat→Bool}{od:List Nat}{lo i j k:Nat}(ht:zg t σ G (.tup (((wQ n).filter q).map yN)))(hod:od.Perm (List.range n))(hn:n≤9)
  (ha:∀ x:Nat×Nat,x∈(wQ n).filter q→zg (zP zy u (zB i)) (σ++[some (nD x.1),some (nD x.2)]) G (nD (od.getD x.1 0))) (hb:∀ x:Nat×Nat,x∈(wQ n).filter q→zg (zP zy u (zB j)) (σ++[some (nD x.1),some (nD x.2)]) G (nD (od.getD x.2 0))) :
  zg (zX zj (wE (za (iV t) bd2 yq (zX zj (zAK (wf (zA (zP zy u (zB i)) (zA (zP zy u (zB j)) zI)))))))) σ G (.tup (((wQ n).filter fun p=>decide (p∈nmL n q od)).map yN)):=by
 have c:=zE9 (σ:=σ) (G:=G) (l:=(wQ n).filter q) (tc:=yq) (te:=(zX zj (zAK (wf (zA (zP zy u (zB i)) (zA (zP zy u (zB j)) zI)))))) (fun _=>true) (fun x=>yN (min (od.getD x.1 0) (od.getD x.2 0),max (od.getD x.1 0) (od.getD x.2 0))) ht fun x hx=>⟨zJT,zKO (ha x hx) (hb x hx)⟩
 rw[List.filter_eq_self.mpr (fun _ _=>rfl)] at c
 have e:List.map (fun x=>yN (min (od.getD x.1 0) (od.getD x.2 0),max (od.getD x.1 0) (od.getD x.2 0))) ((wQ n).filter q)=(nmL n q od).map yN:=by
  unfold nmL;rw[List.map_map];rfl
 rw[e] at c
 exact zKN c (zIo hod) (zNM hod) hn
def zAP:Sp2:=fun ds G R=>∃(l:Addr) (m:Nat),ds=[.adr l,nD m]∧wz G l∧1≤m∧m≤9∧∀(n:Nat) (q:Nat×Nat→Bool) (G':Gp),1≤n→n≤9→Dr l G G'→R (zT n q) G'
def zBd:yy:=(zb (zM0 2 3 (zA (zK wm (zA (zB 0) (zA (zB 1) zI))) (zA (zK wm (zA (zB 0) (zA (zB 1) zI))) zI))) (zb (xIf (zBD (xB (zP (wK fun i j=>.bl (decide (i<j))) (zP zy (zB 2) (xC (.int 0))) (xC (.int 2)))) (zBD (xB (zP (wK fun i j=>.bl (decide (i<j))) (zP zy (zB 3) (xC (.int 0))) (xC (.int 2)))) (xB (zP (wK fun i j=>.bl (decide (j<i))) (zP yJ (zP zy (zB 2) (xC (.int 0))) (zP zy (zB 3) (xC (.int 0)))) (xC (.int 11)))))) (yC (zB 2)) ye) (zb (zp (zK zAO (zA (zB 2) (zA (zB 3) zI))) (gN 4)) (zb (zp (zx (zDM (zA (zP zy (zB 4) (xC (.int 0))) zI))) (gN 5)) (zb (zp (zx (za (iR1 (zA (zP zy (zB 4) (xC (.int 0))) zI)) bd1 yq (zJQ (zB 5) (zA (zK zo (zA (zB 0) (zA (zK yX (zA (zB 5) zI)) zI))) zI)))) (gN 6)) (yC (yK (zA (zP zy (zB 4) (xC (.int 0))) (zA (zX zj (wE (za (iV (zP zy (zB 4) (xC (.int 1)))) bd2 yq (zX zj (zAK (wf (zA (zP zy (zB 6) (zB 7)) (zA (zP zy (zB 6) (zB 8)) zI)))))))) zI)))))))))
theorem zNN{σ:S2}{G:Gp}{i j:Nat}{t:yt}{u:yy}{E:yO}(h:t σ G fun ds G1=>match ds with | [d,e]=>u E ((σ.set i (some d)).set j (some e)) G1 | _=>False):zb (zM0 i j t) u E σ G:=h
theorem zIp(ds:List D)(G:Gp)(R:Q2)(h:zAP ds G R):ds.length=2∧zBd (zn R) (zO ["state","most","one","two","web","left","order"] ds) G:=by
 obtain⟨l,m,rfl,hs,hm1,hm,h⟩:=h
 refine⟨rfl,?_⟩
 unfold zBd
 rw[show zO ["state","most","one","two","web","left","order"] [.adr l,nD m]=[some (.adr l),some (nD m),none,none,none,none,none] from rfl]
 refine zNN (zEv (zCc (zF (zE rfl) (zF (zE rfl) zQ)) ⟨l,m,rfl,hs,hm1,by omega,fun n1 q1 G1 h1 h1m d1=>zEv (zCc (zF (zE rfl) (zF (zE rfl) zQ)) ⟨l,m,rfl,d1.st,hm1,by omega,fun n2 q2 G2 h2 h2m d2=>zFd ?_⟩)⟩))
 dsimp only
 simp only[List.set_cons_succ,List.set_cons_zero]
 have d02:=d1.trans d2
 have ii:∀ {i j:Nat} {f:Int→Int→Bool} {σ:S2} {t u:zk},zg t σ G2 (nD i)→zg u σ G2 (nD j)→PuT (xB (zP (wK fun i j=>.bl (f i j)) t u)) σ G2 (f i j):=fun h h'=>zAL (zBi (g:=fun i j=>.bl (_)) h h')
 have tt:PuT (zBD (xB (zP (wK fun i j=>.bl (decide (i<j))) (zP zy (zB 2) (xC (.int 0))) (xC (.int 2)))) (zBD (xB (zP (wK fun i j=>.bl (decide (i<j))) (zP zy (zB 3) (xC (.int 0))) (xC (.int 2)))) (xB (zP (wK fun i j=>.bl (decide (j<i))) (zP yJ (zP zy (zB 2) (xC (.int 0))) (zP zy (zB 3) (xC (.int 0)))) (xC (.int 11)))))) [some (.adr l),some (nD m),some (zT n1 q1),some (zT n2 q2),none,none,none] G2 (decide (((n1:Nat):Int)<((2:Nat):Int))||(decide (((n2:Nat):Int)<((2:Nat):Int))||decide (((11:Nat):Int)<((n1+n2:Nat):Int)))) :=
  zGY (ii (f:=fun i j=>decide (i<j)) (wv (zE rfl)) (yH (d:=nD 2))) fun _=>zGY (ii (f:=fun i j=>decide (i<j)) (wv (zE rfl)) (yH (d:=nD 2))) fun _=>ii (i:=n1+n2) (j:=11) (f:=fun i j=>decide (j<i)) (zBN (i:=(n1:Int)) (j:=(n2:Int)) (wv (zE rfl)) (wv (zE rfl))) (yH (d:=nD 11))
 refine zKK tt (fun _=>?_) fun hb=>?_
 ·dsimp only
  exact ww (zE rfl) (.of (h n1 q1 G2 h1 (by omega) d02))
 ·have hh:2≤n1∧2≤n2∧n1+n2≤11:=by
   simp only[Bool.or_eq_false_iff,decide_eq_false_iff_not] at hb
   omega
  obtain⟨g1,g2,g3⟩:=hh
  generalize hq:(fun p=>decide (p∈glF n1 q1 n2 q2))=q
  refine zBY (d:=zT (n1+n2-2) q) (zm (zF (zE rfl) (zF (zE rfl) zQ)) fun _ _ _ q'=>⟨n1,q1,n2,q2,rfl,g1,g2,g3,by rw[hq];exact q'⟩) ?_
  simp only[gN,List.set_cons_succ,List.set_cons_zero]
  have hn1:1≤n1+n2-2:=by omega
  have hn9:n1+n2-2≤9:=by omega
  generalize n1+n2-2=n at hn1 hn9
  have pl:PuL (zDM (zA (zP zy (zB 4) (xC (.int 0))) zI)) [some (.adr l),some (nD m),some (zT n1 q1),some (zT n2 q2),some (zT n q),none,none] G2 ((List.range n).map nD):=fun G2 e R q'=>zF (d:=nD n) (wv (q:=q) (zE rfl)) zQ G2 e _ ⟨by omega,by rw[zAz];exact q'⟩
  refine yg (zBP pl fun lf hlf=>?_)
  simp only[gN,List.set_cons_succ,List.set_cons_zero]
  have la:lf≠l:=d02.st.ne hlf
  have hsG:wz (zR G2 lf ((List.range n).map nD)) l:=d02.st.ext (.new hlf)
  have hdr:DrS l G2 (zR G2 lf ((List.range n).map nD)):=(DrS.refl d02.st).put d02.st hlf
  have pn:zg (zP zy (zB 4) (xC (.int 0))) [some (.adr l),some (nD m),some (zT n1 q1),some (zT n2 q2),some (zT n q),some (.adr lf),none] (zR G2 lf ((List.range n).map nD)) (nD (List.range n).length):=by
   rw[List.length_range];exact wv (q:=q) (zE rfl)
  refine yg (zCo (show za _ _ _ _ _ _ _ from drawn (σ:=[some (.adr l),some (nD m),some (zT n1 q1),some (zT n2 q2),some (zT n q),some (.adr lf),none]) (G:=zR G2 lf ((List.range n).map nD)) (G0:=G2) (k:=7) (xs:=List.range n) (i0:=0) (i2:=5) (t:=zA (zP zy (zB 4) (xC (.int 0))) zI)
   (R:=fun d G1=>match d with | .tup ds=>∀ a,G1.m a=none→yC (yK (zA (zP zy (zB 4) (xC (.int 0))) (zA (zX zj (wE (za (iV (zP zy (zB 4) (xC (.int 1)))) bd2 yq (zX zj (zAK (wf (zA (zP zy (zB 6) (zB 7)) (zA (zP zy (zB 6) (zB 8)) zI)))))))) zI))) (zn R) [some (.adr l),some (nD m),some (zT n1 q1),some (zT n2 q2),some (zT n q),some (.adr lf),some (.adr a)] (zR G1 a ds) | _=>False) rfl rfl rfl (zF pn zQ) hsG d02.st la zH hlf hdr (by simp;omega) fun od G' hp hd=>fun a ha=>?_))
  have ods:∀ {x:Nat×Nat},x∈(wQ n).filter q→x.1<n∧x.2<n:=fun {x} hx=>by have:=wd.mp (List.mem_filter.mp hx).1;omega
  have hl:od.length=n:=by rw[hp.length_eq,List.length_range]
  have ma:(zR G' a (od.map nD)).m a=some (od.map nD):=zH
  have at':∀ {i:Nat},i<n→atI (od.map nD) (i:Int)=some (nD (od.getD i 0)):=fun {i} hi=>zHV (by omega)
  have e:=zKS (σ:=[some (.adr l),some (nD m),some (zT n1 q1),some (zT n2 q2),some (zT n q),some (.adr lf),some (.adr a)]) (G:=zR G' a (od.map nD)) (t:=(zP zy (zB 4) (xC (.int 1)))) (u:=zB 6) (n:=n) (q:=q) (od:=od) (lo:=0) (i:=7) (j:=8) (k:=0) (zFa (zE rfl)) hp hn9 (fun x hx=>zGw (l:=a) (zE rfl) (zE (d:=nD x.1) rfl) (.inl ma) (at' (ods hx).1)) (fun x hx=>zGw (l:=a) (zE rfl) (zE (d:=nD x.2) rfl) (.inl ma) (at' (ods hx).2))
  refine ww (d:=zT n fun p=>decide (p∈nmL n q od)) (wq (zF (wv (q:=q) (zE rfl)) (zF e zQ)) (by simp)) ?_
  obtain⟨G3,d3,s3⟩:=hd
  exact⟨G3,s3.trans (.new ha),h n _ G3 hn1 hn9 (d02.trans d3)⟩
end K
namespace K
open PySem PySem.Spec PyProof.Rows L2 L3
def zAQ:Sp2:=fun ds G R=>∃(n:Nat) (q:Nat×Nat→Bool) (ps:List Nat),ds=[zT n q,uD ps]∧n≤9∧(∀ x∈ps,x<n)∧ps.length≤9∧R (.bl (zBs n q ps)) G
def zBe:yy:=(yC (zCZ (zAW (wK fun i j=>.bl (decide (i<j))) (wK fun i j=>.bl (decide (i<j))) (xC (.int 1)) (zK yX (zA (zB 1) zI)) (zP (wK fun i j=>.int (i-j)) (zP zy (zB 0) (xC (.int 0))) (xC (.int 1)))) (zP (wK fun i j=>.bl (decide (i<j))) (zK zAE (zA (zB 0) (zA (zB 1) zI))) (xC (.int 2)))))
theorem zIq(ds:List D)(G:Gp)(R:Q2)(h:zAQ ds G R):ds.length=2∧zBe (zn R) (zO ["web","places"] ds) G:=by
 obtain⟨n,q,ps,rfl,hn,hm,hl,h⟩:=h
 refine⟨rfl,?_⟩
 unfold zBe
 rw[show zO ["web","places"] [zT n q,uD ps]=[some (zT n q),some (uD ps)] from rfl]
 have a1:=zCd (f:=fun i j=>decide (i<j)) (g:=fun i j=>decide (i<j)) (yH (σ:=[some (zT n q),some (uD ps)]) (G:=G) (d:=.int 1)) (zEu (ps:=ps) (zE (i:=1) rfl)) (zBi (g:=fun i j=>.int (i-j)) (wv (n:=n) (q:=q) (zE (i:=0) rfl)) (yH (d:=.int 1)))
 have a2:zg (zP (wK fun i j=>.bl (decide (i<j))) (zK zAE (zA (zB 0) (zA (zB 1) zI))) (xC (.int 2))) [some (zT n q),some (uD ps)] G (.bl (decide (((rk n q ps).length:Int)<2))):=zBi (g:=fun i j=>.bl (decide (i<j))) (zm (d:=nD (rk n q ps).length) (zF (zE rfl) (zF (zE rfl) zQ)) fun _ _ _ q'=>⟨n,q,ps,rfl,hn,hm,hl,q'⟩) (yH (d:=.int 2))
 have:=zCF a1 fun _=>a2
 have e:((decide ((1:Int)<(ps.length:Int))&&decide ((ps.length:Int)<(n:Int)-1))&&decide (((rk n q ps).length:Int)<2))=zBs n q ps:=by
  unfold zBs
  rw[Bool.eq_iff_iff]
  simp only[Bool.and_eq_true,decide_eq_true_eq]
  omega
 rw[e] at this
 exact ww this (.of h)
def zFA(n:Nat)(ps:List Nat):Prop:=ps.Pairwise (·<·)∧∀ x∈ps,x<n
theorem zFA.len{n:Nat}{ps:List Nat}(h:zFA n ps):ps.length≤n:=by
 have nd:ps.Nodup:=h.1.imp fun a=>Nat.ne_of_lt a
 have:=nd.length_le_of_subset (l₂:=List.range n) fun x hx=>List.mem_range.mpr (h.2 x hx)
 rwa [List.length_range] at this
theorem zOC{G0:Gp}{A l:Addr}{x y:List D}(h:A≠l):zR (zR G0 A x) l y=zR (zR G0 l y) A x:=by
 unfold zR
 dsimp only
 congr 1
 funext z
 by_cases hz:z=l
 ·subst hz
  simp only[if_true,if_neg (Ne.symm h)]
 ·by_cases hzA:z=A
  ·subst hzA
   simp only[if_true,if_neg h]
  ·simp only[if_neg hz,if_neg hzA]
theorem Dr.swap{G0 G3:Gp}{A l:Addr}{x:List D}(h:A≠l)(d:Dr l (zR G0 A x) G3)(st:wz G0 l):∃ G1,Dr l G0 G1∧G3=zR G1 A x:=by
 obtain⟨s',b',rfl,ok⟩:=d
 exact⟨zR G0 l [.int s',.bl b'],⟨s',b',rfl,ok⟩,zOC h⟩
theorem zFA.nil{n:Nat}:zFA n []:=⟨.nil,fun x hx=>nomatch hx⟩
theorem zFA.all{n:Nat}:zFA n (List.range n):=⟨List.pairwise_lt_range,fun x hx=>List.mem_range.mp hx⟩
end K
namespace HZ
open PySem PySem.Spec PyProof.Rows
abbrev zu1(h:Heap)(p:Addr):Heap:=h.push { cls:=.type "list_iterator",data:=.fields #[.ref p,.int 0 0] }
abbrev zu2(h:Heap)(p q:Addr):Heap:=(zu1 h p).push { cls:=.type "list_iterator",data:=.fields #[.ref q,.int 0 0] }
abbrev zu3(h:Heap)(p q:Addr):Heap:=(zu2 h p q).push { cls:=.type "tuple",data:=.seq #[.ref h.objs.size,.ref (zu1 h p).objs.size] }
abbrev zu4(h:Heap)(p q:Addr):Heap:=(zu3 h p q).push { cls:=.type "tuple",data:=.seq #[.none,.none] }
abbrev zu5(h:Heap)(p q:Addr):Heap:=(zu4 h p q).push { cls:=.type "zip",data:=.fields #[.none,.bool false,.bool false,.ref (zu2 h p q).objs.size,.ref (zu3 h p q).objs.size] }
theorem zG2(p q:Addr)(xs ys:Array Value) :
  Meets (Builtin.«zip.__new__» ⟨[.type "zip",.ref p,.ref q],[]⟩) (fun _ R s=>s.heap.IsList p xs∧s.heap.IsList q ys∧R (.ok (.ret (.ref (zu4 s.heap p q).objs.size))) { s with heap:=zu5 s.heap p q }) :=
 .of_wp fun prog w A R s h=>by
  obtain⟨hp,g,d,tk,os⟩:=s;obtain⟨hl1,hl2,h⟩:=h
  have hsub:=sub_zip
  have w1:Heap.IsList (Shared.heap ⟨hp,g,d,tk,os⟩) p xs:=hl1
  have w2:Heap.IsList (Shared.heap ⟨hp.push { cls:=.type "list_iterator",data:=.fields #[.ref p,.int 0 0] },g,d,tk,os⟩) q ys:=Heap.IsList.at hl2 fun o e=>Heap.get?_push_of_some _ e
  wp_walk using wpAny_pyIter_list w1,wpAny_pyIter_list w2
  exact⟨_,rfl,h⟩
theorem zIr{prog:Program}{w:World}{A:Around}{E:Value→Shared→Prop}{s:Shared}{p q:Addr}{xs ys:Array Value}{Q:Value→Shared→Prop}(hl1:s.heap.IsList p xs)(hl2:s.heap.IsList q ys)
  (h:∀ h',IsZip h' (s.heap.objs.size+4) (s.heap.objs.size+2) (s.heap.objs.size+3) .none→IsPair h' (s.heap.objs.size+2) (.ref s.heap.objs.size) (.ref (s.heap.objs.size+1)) →
   IsPair h' (s.heap.objs.size+3) .none .none→h'.IsListIter s.heap.objs.size p 0→h'.IsListIter (s.heap.objs.size+1) q 0→h'.objs.size=s.heap.objs.size+5 →
   (∀ c o,s.heap.get? c=some o→h'.get? c=some o)→Q (.ref (s.heap.objs.size+4)) { s with heap:=h' }) :
  wpAny (model prog w) A (call (.type "zip") [.ref p,.ref q]) Q E s:=by
 refine callType_new F.called_zip (by decide) (F.typeCall_zip_2 _ _) (F.newCall_zip_2 _ _) (fun obj=>F.args_object_init_3 obj _ _) F.entry_zip_new (zG2 p q xs ys) ⟨hl1,hl2,?_⟩
 have z1:(zu1 s.heap p).objs.size=s.heap.objs.size+1:=Heap.size_push ..
 have z2:(zu2 s.heap p q).objs.size=s.heap.objs.size+2:=by rw[Heap.size_push,z1]
 have z3:(zu3 s.heap p q).objs.size=s.heap.objs.size+3:=by rw[Heap.size_push,z2]
 have z4:(zu4 s.heap p q).objs.size=s.heap.objs.size+4:=by rw[Heap.size_push,z3]
 have z5:(zu5 s.heap p q).objs.size=s.heap.objs.size+5:=by rw[Heap.size_push,z4]
 have g5:(zu5 s.heap p q).get? (zu4 s.heap p q).objs.size=some _:=Heap.get?_push_size _ rfl
 have g4:(zu5 s.heap p q).get? (zu3 s.heap p q).objs.size=some _:=Heap.get?_push_of_some _ (Heap.get?_push_size _ rfl)
 have g3:(zu5 s.heap p q).get? (zu2 s.heap p q).objs.size=some _:=Heap.get?_push_of_some _ (Heap.get?_push_of_some _ (Heap.get?_push_size _ rfl))
 have g2:(zu5 s.heap p q).get? (zu1 s.heap p).objs.size=some _:=Heap.get?_push_of_some _ (Heap.get?_push_of_some _ (Heap.get?_push_of_some _ (Heap.get?_push_size _ rfl)))
 have g1:(zu5 s.heap p q).get? s.heap.objs.size=some _:=Heap.get?_push_of_some _ (Heap.get?_push_of_some _ (Heap.get?_push_of_some _ (Heap.get?_push_of_some _ (Heap.get?_push_size _ rfl))))
 show _∧_
 rw[z2,z3,z4] at g5
 rw[z1,z2] at g3
 rw[z3] at g4
 rw[z1] at g2
 rw[z4]
 exact⟨⟨_,g5,rfl⟩,h _ g5 g3 g4 ⟨_,g1,rfl,rfl⟩ ⟨_,g2,rfl,rfl⟩ z5 fun c o x=>Heap.get?_push_of_some _ (Heap.get?_push_of_some _ (Heap.get?_push_of_some _ (Heap.get?_push_of_some _ (Heap.get?_push_of_some _ x))))⟩
end HZ
namespace L2
open PySem PySem.Spec PyProof.Rows HZ
def zNO(K:PySem.W.Frag)(a b:Addr):It :=
  ⟨fun i H=>∃ xs ys x y,SqL K H a xs∧SqL K H b ys∧xs[i]?=some x∧ys[i]?=some y,
   fun i H v H'=>∃ t,v=.ref t∧H t=none∧∃ x y,(∀ xs,SqL K H a xs→xs[i]?=some x)∧(∀ ys,SqL K H b ys→ys[i]?=some y)∧H'=yc H t (.tup [x,y]),
   fun i H=>∃ xs ys,SqL K H a xs∧SqL K H b ys∧(xs.length≤i∨ys.length≤i)⟩
theorem zIs{P:Program}{w:World}{K:PySem.W.Frag}{es:List Expr}{kk:Nat}{pt:Pos}{z a b i1 i2 l m:Addr}(D:Ap z a b i1 i2 l m) :
  Turn P w K (.Tuple es kk pt) (zNO K l m) [z,a,b,i1,i2] z (fun i h=>IsZip h z a b .none∧IsPair h a (.ref i1) (.ref i2)∧(∃ u v,IsPair h b u v)∧h.IsListIter i1 l i∧h.IsListIter i2 m i) where
 mem:=by simp
 obj:=fun i h st c hc=>by
  obtain⟨h1,h2,⟨u,v,h3⟩,h4,h5⟩:=st
  simp only[List.mem_cons,List.not_mem_nil,or_false] at hc
  rcases hc with rfl | rfl | rfl | rfl | rfl
  ·exact⟨_,h1,fun v q=>by cases q⟩
  ·exact⟨_,h2,fun v q=>by cases q⟩
  ·exact⟨_,h3,fun v q=>by cases q⟩
  ·obtain⟨o,e,c,d⟩:=h4;exact⟨o,e,fun v q=>by rw[d] at q;cases q⟩
  ·obtain⟨o,e,c,d⟩:=h5;exact⟨o,e,fun v q=>by rw[d] at q;cases q⟩
 keep:=fun i h h' st k=>by
  obtain⟨h1,h2,⟨u,v,h3⟩,h4,h5⟩:=st
  exact⟨k z (by simp) _ h1,k a (by simp) _ h2,⟨u,v,k b (by simp) _ h3⟩,h4.at fun o e=>k i1 (by simp) o e,h5.at fun o e=>k i2 (by simp) o e⟩
 item:=by
  intro X hP hw hK hc i pins s σ H E I hf st hg
  subst hP hw hK
  obtain⟨xs,ys,x,y,q1,q2,hx,hy⟩:=hg
  obtain⟨its1,rv1,p1,hz1⟩:=I.list q1
  obtain⟨its2,rv2,p2,hz2⟩:=I.list q2
  obtain⟨u1,hu1,ru1⟩:=rv1.get hx
  obtain⟨u2,hu2,ru2⟩:=rv2.get hy
  obtain⟨h1,h2,⟨u,v,h3⟩,h4,h5⟩:=st
  have fl:∀ c∈[z,a,b,i1,i2],c<s.heap.objs.size:=fun c hc=>by
   simp only[List.mem_cons,List.not_mem_nil,or_false] at hc
   rcases hc with rfl | rfl | rfl | rfl | rfl
   ·exact Heap.lt_size h1
   ·exact Heap.lt_size h2
   ·exact Heap.lt_size h3
   ·obtain⟨o,e,_⟩:=h4;exact Heap.lt_size e
   ·obtain⟨o,e,_⟩:=h5;exact Heap.lt_size e
  have hfr:H s.heap.objs.size=none:=I.hok.fresh (Nat.le_refl _)
  refine zHa (zHZ X.prog X.w i1 l its1.toArray) (zHZ X.prog X.w i2 m its2.toArray) D h1 h2 h3 h4 h5 (show s.heap.IsList l its1.toArray from p1.isList) (show s.heap.IsList m its2.toArray from p2.isList) (x:=u1) (y:=u2) (by simpa using hu1) (by simpa using hu2) fun h' a1 a2 a3 a4 a5 a6 a7=>?_
  refine⟨_,rfl,wpAny_letOwnedTupleGo_zip (s:={ s with heap:=h' }) a1 fun h'' z1 sb=>?_⟩
  have nT:∀ c∈[z,a,b,i1,i2],c≠s.heap.objs.size:=fun c hc e=>absurd (fl c hc) (by rw[e];exact Nat.lt_irrefl _)
  have I1:zU X pins σ (yc H s.heap.objs.size (.tup [x,y])) { s with heap:=s.heap.push { cls:=.type "tuple",data:=.seq #[u1,u2] },toks:=s.toks } :=
   I.laid (t':=s.toks) (fun b u e=>Heap.get?_push_of_some _ e) (Nat.le_refl _) ⟨by show 2≤sizeLine;decide,[u1,u2],.cons ru1 (.cons ru2 .nil),zCQ.new _ _⟩
  have hf':∀ c∈[z,a,b,i1,i2],zBC X pins (yc H s.heap.objs.size (.tup [x,y])) c:=fun c hc=>by
   obtain⟨f0,f1⟩:=hf c hc
   exact⟨by rw[zu (nT c hc)];exact f0,f1⟩
  have I2:zU X pins σ (yc H s.heap.objs.size (.tup [x,y])) { s with heap:=h'' }:=by
   refine I1.turnedL (t':=s.toks) (h':=h'') (fun c o hc e=>?_) hf'
   have cz:c≠z:=fun q=>hc (by simp[q])
   refine sb.extBut _ _ cz ?_
   by_cases hT:c=s.heap.objs.size
   ·subst hT
    have e':(s.heap.push { cls:=.type "tuple",data:=.seq #[u1,u2] }).get? s.heap.objs.size=some o:=e
    rw[Heap.get?_push_size _ rfl] at e'
    cases e'
    exact a5
   ·have e':(s.heap.push { cls:=.type "tuple",data:=.seq #[u1,u2] }).get? c=some o:=e
    have:s.heap.get? c=some o:=by rw[Heap.get?_push_ne _ _ _ hT] at e';exact e'
    exact a7 c o cz (fun q=>hc (by simp[q])) (fun q=>hc (by simp[q])) (fun q=>hc (by simp[q])) this
  refine⟨.ref s.heap.objs.size,_,I2,rfl,⟨s.heap.objs.size,rfl,hfr,x,y,fun zs hzs=>by rw[I.list_inj hzs q1];exact hx,fun zs hzs=>by rw[I.list_inj hzs q2];exact hy,rfl⟩,?_,fun c hc=>(hf' c hc).1⟩
  refine⟨z1,sb.extBut _ _ D.az (a7 _ _ D.az D.ab D.ai D.aj h2),⟨_,_,sb.extBut _ _ D.bz a2⟩,Heap.IsListIter.at a3 fun o e=>sb.extBut _ _ D.iz e,Heap.IsListIter.at a4 fun o e=>sb.extBut _ _ D.jz e⟩
 done:=by
  intro X hP hw hK hc i pins s σ H E I hf st hg
  subst hP hw hK
  obtain⟨xs,ys,q1,q2,hx⟩:=hg
  obtain⟨its1,rv1,p1,hz1⟩:=I.list q1
  obtain⟨its2,rv2,p2,hz2⟩:=I.list q2
  obtain⟨h1,h2,⟨u,v,h3⟩,h4,h5⟩:=st
  have l1:=rv1.length
  have l2:=rv2.length
  refine zJm (zHZ X.prog X.w i1 l its1.toArray) (zHZ X.prog X.w i2 m its2.toArray) (I.ok.hd hc) D h1 h2 h3 h4 h5 (show s.heap.IsList l its1.toArray from p1.isList) (show s.heap.IsList m its2.toArray from p2.isList) (by
   rcases hx with h | h
   ·left;simp;omega
   ·right;simp;omega) fun h' hk=>⟨rfl,I.turnedL (t':=s.toks) (fun c o hc e=>hk c o (fun q=>hc (by simp[q])) (fun q=>hc (by simp[q])) (fun q=>hc (by simp[q])) (fun q=>hc (by simp[q])) e) hf⟩
 self:=fun _ _ _ _ _ st h=>wpAny_pyIter_zip st.1 h
def zOc(K:PySem.W.Frag)(ta:TA):TI:=fun σ H R=>ta σ H fun vs H1=>∃ a b xs ys,vs=[.ref a,.ref b]∧((SqT K H1 a xs∧SqT K H1 b ys∧(xs.length≤sizeLine→R (Itz K a b) H1))∨(SqL K H1 a xs∧SqL K H1 b ys∧(xs.length≤sizeLine→R (zNO K a b) H1)))
theorem zLa{X:Cx}{a b:Expr}{ta:TA}{p pos pt:Pos}{es:List Expr}{kk:Nat}(hg:Gl X "zip")(hm:X.mg "zip"=none)(ha:PA X [a,b] ta)(hs:starEach [a,b] X.env=[(false,eval a X.env),(false,eval b X.env)]:=by rfl)(hs2:starEach [b] X.env=[(false,eval b X.env)]:=by rfl) :
  PI X (.Tuple es kk pt) (.Call (.Name "zip" p) [a,b] [] pos) (zOc X.K ta):=by
 intro pins s σ H R I h
 refine Call_ (zBE I hg hm boot_zip (PyProof.Rows.callWith_type1 (yV (ha pos pins s σ H _ I h) fun us s1 ⟨vs,H1,I1,r1,q1⟩=>?_) (by rw[hs,hs2]) (by rw[hs2];rfl)))
 obtain⟨a1,b1,xs,ys,e,q⟩:=q1
 subst e
 cases r1 with
 | cons r rr =>
  cases rr with
  | cons r' rr =>
   cases rr
   cases r
   cases r'
   rcases q with ⟨q1,q2,q⟩ | ⟨q1,q2,q⟩
   ·obtain⟨its1,rv1,p1,hz1⟩:=I1.tuple q1
    obtain⟨its2,rv2,p2,hz2⟩:=I1.tuple q2
    have lt1:=p1.lt
    have lt2:=p2.lt
    refine zEN (show s1.heap.IsTuple a1 its1.toArray from p1) (show s1.heap.IsTuple b1 its2.toArray from p2) fun h' z1 z2 z3 z4 z5 z6 z7=>?_
    refine wpAny_pyIter_zip z1 ⟨_,[s1.heap.objs.size+4,s1.heap.objs.size+2,s1.heap.objs.size+3,s1.heap.objs.size,s1.heap.objs.size+1],_,_,H1,rfl,I1.kept (t':=s1.toks) z7,zEO (z:=s1.heap.objs.size+4) (a:=s1.heap.objs.size+2) (b:=s1.heap.objs.size+3) (i1:=s1.heap.objs.size) (i2:=s1.heap.objs.size+1) (l:=a1) (m:=b1) ?_,⟨z1,z2,⟨_,_,z3⟩,z4,z5⟩,fun c hc=>?_,q hz1⟩
    ·exact zGk lt1 lt2
    ·have:s1.heap.objs.size≤c:=by
      simp only[List.mem_cons,List.not_mem_nil,or_false] at hc
      rcases hc with e | e | e | e | e<;>(rw[e];first | exact Nat.le_add_right _ _ | exact Nat.le_refl _)
     exact I1.fpOk this (I1.hok.fresh this)
   ·obtain⟨its1,rv1,p1,hz1⟩:=I1.list q1
    obtain⟨its2,rv2,p2,hz2⟩:=I1.list q2
    have lt1:a1<s1.heap.objs.size:=by obtain⟨o,e,_⟩:=p1.isList;exact Heap.lt_size e
    have lt2:b1<s1.heap.objs.size:=by obtain⟨o,e,_⟩:=p2.isList;exact Heap.lt_size e
    refine zIr (show s1.heap.IsList a1 its1.toArray from p1.isList) (show s1.heap.IsList b1 its2.toArray from p2.isList) fun h' z1 z2 z3 z4 z5 z6 z7=>?_
    refine wpAny_pyIter_zip z1 ⟨_,[s1.heap.objs.size+4,s1.heap.objs.size+2,s1.heap.objs.size+3,s1.heap.objs.size,s1.heap.objs.size+1],_,_,H1,rfl,I1.kept (t':=s1.toks) z7,zIs (z:=s1.heap.objs.size+4) (a:=s1.heap.objs.size+2) (b:=s1.heap.objs.size+3) (i1:=s1.heap.objs.size) (i2:=s1.heap.objs.size+1) (l:=a1) (m:=b1) ?_,⟨z1,z2,⟨_,_,z3⟩,z4,z5⟩,fun c hc=>?_,q hz1⟩
    ·exact zGk lt1 lt2
    ·have:s1.heap.objs.size≤c:=by
      simp only[List.mem_cons,List.not_mem_nil,or_false] at hc
      rcases hc with e | e | e | e | e<;>(rw[e];first | exact Nat.le_add_right _ _ | exact Nat.le_refl _)
     exact I1.fpOk this (I1.hok.fresh this)
end L2
namespace L3
open PySem PySem.Spec PyProof.Rows L2
theorem zIt{K:PySem.W.Frag}{H0:Hp}{a b:Addr}{ds es:List D}:Walk K H0 ((ds.zip es).map fun p=>D.tup [p.1,p.2]) (fun G=>Ls G a ds∧Ls G b es) (zNO K a b) where
 go:=fun i G H q r g hi=>by
  obtain⟨xs,h1,h2⟩:=r.sq q.1
  obtain⟨ys,h3,h4⟩:=r.sq q.2
  have hl:i<xs.length∧i<ys.length:=by rw[List.length_map,List.length_zip] at hi;rw[← h2.length,← h4.length];omega
  exact⟨xs,ys,xs[i]'hl.1,ys[i]'hl.2,h1,h3,by simp,by simp⟩
 stop:=fun G H q r g=>by
  obtain⟨xs,h1,h2⟩:=r.sq q.1
  obtain⟨ys,h3,h4⟩:=r.sq q.2
  exact⟨xs,ys,h1,h3,by rw[← h2.length,← h4.length,List.length_map,List.length_zip];omega⟩
 yld:=fun i G H x H' q r g hi y=>by
  obtain⟨xs,h1,h2⟩:=r.sq q.1
  obtain⟨ys,h3,h4⟩:=r.sq q.2
  obtain⟨t,rfl,hn,u,v,y1,y2,rfl⟩:=y
  obtain⟨d1,e1,e2⟩:=h2.got (y1 xs h1)
  obtain⟨d2,e3,e4⟩:=h4.got (y2 ys h3)
  have gr:yA H (yc H t (.tup [u,v])):=.fresh hn
  refine⟨gr,r.fresh hn,D.tup [d1,d2],by simp[List.getElem?_zip_eq_some,e1,e3],?_⟩
  unfold zS
  exact⟨t,[u,v],rfl,.inl (.of zi),.cons (e2.grow gr) (.cons (e4.grow gr) .nil)⟩
def iZ2(t:yt):TI2:=fun σ G R=>t σ G fun ds G1=>match ds with
 | [.tup xs,.tup ys]=>R ((xs.zip ys).map fun p=>D.tup [p.1,p.2]) (fun _=>True) G1
 | [.adr a,.adr b]=>∃ xs ys,Ls G1 a xs∧Ls G1 b ys∧R ((xs.zip ys).map fun p=>D.tup [p.1,p.2]) (fun G=>Ls G a xs∧Ls G b ys) G1
 | _=>False
theorem zNP{X:Cx}{a b:Expr}{t:yt}{p pos pt:Pos}{es:List Expr}{kk:Nat}(hg:Gl X "zip")(hm:X.mg "zip"=none)(ha:A2 X [a,b] t)(hs:starEach [a,b] X.env=[(false,eval a X.env),(false,eval b X.env)]:=by rfl)(hs2:starEach [b] X.env=[(false,eval b X.env)]:=by rfl) :
  I2 X (.Tuple es kk pt) (.Call (.Name "zip" p) [a,b] [] pos) (iZ2 t):=by
 refine PI.mono (zLa hg hm ha hs hs2) ?_
 rintro σ1 H R ⟨σ,G,R2,r,q,k⟩
 refine⟨σ,G,_,r,q,fun ds G1 q1 vs H1 g1 r1 d1=>?_⟩
 split at q1
 ·rename_i xs ys
  unfold Dens at d1
  obtain⟨x,r',rfl,d1,d2⟩:=d1
  unfold Dens at d2
  obtain⟨y,r',rfl,d2,d3⟩:=d2
  unfold zS at d1 d2
  unfold Dens at d3
  subst d3
  obtain⟨a1,us,rfl,h1,h2⟩:=d1
  obtain⟨b1,vs,rfl,h3,h4⟩:=d2
  refine⟨a1,b1,us,vs,rfl,.inl ⟨h1,h3,fun hz=>k _ _ G1 q1 _ H1 g1 r1 (zFf h1 h2 h3 h4) ?_⟩⟩
  rw[List.length_map,List.length_zip,h2.length];omega
 ·rename_i a1 b1
  obtain⟨xs,ys,l1,l2,q1⟩:=q1
  unfold Dens at d1
  obtain⟨x,r',rfl,d1,d2⟩:=d1
  unfold Dens at d2
  obtain⟨y,r',rfl,d2,d3⟩:=d2
  unfold zS at d1 d2
  unfold Dens at d3
  subst d3 d1 d2
  obtain⟨us,h1,h2⟩:=r1.sq l1
  obtain⟨vs,h3,h4⟩:=r1.sq l2
  refine⟨a1,b1,us,vs,rfl,.inr ⟨h1,h3,fun hz=>k _ _ G1 q1 _ H1 g1 r1 zIt ?_⟩⟩
  rw[List.length_map,List.length_zip,h2.length];omega
 ·exact q1.elim
theorem zLb{σ:S2}{G:Gp}{t:yt}{xs ys:List D}(h:PuA t σ G [.tup xs,.tup ys]):PuI (iZ2 t) σ G ((xs.zip ys).map fun p=>D.tup [p.1,p.2]):=fun G2 e R q=>h G2 e _ (q _ G2 (.refl _) fun _ _=>trivial)
theorem zKT{σ:S2}{G:Gp}{t:yt}{a b:Addr}{xs ys:List D}(h:PuA t σ G [.adr a,.adr b])(h1:Ls G a xs)(h2:Ls G b ys):PuI (iZ2 t) σ G ((xs.zip ys).map fun p=>D.tup [p.1,p.2]):=fun G2 e R q=>h G2 e _ ⟨xs,ys,e.ls h1,e.ls h2,q _ G2 (.refl _) fun G3 s=>⟨s.ls (e.ls h1),s.ls (e.ls h2)⟩⟩
end L3
namespace K
open PySem PySem.Spec PyProof.Rows L2 L3 HS
def zh(n:Nat):Sp2:=fun ds G R=>(∃ x,ds=[x,x]∧zCp n x=true∧R (.bl true) G)∨∃(d:Nat) (a b:Addr) (xs:List D),n=d+1∧ds=[.adr a,.adr b]∧Ls G a xs∧Ls G b xs∧(∀ x∈xs,zCp d x=true)∧R (.bl true) G
theorem zG3{ds:List D}{G:Gp}{R:Q2}(h:zh 0 ds G R):False:=by
 rcases h with ⟨x,_,h,_⟩ | ⟨d,_,_,_,h,_⟩
 ·cases h
 ·cases h
def wZ(d:Nat):yy:=(zb (xIf (xB (zHb (zB 1))) (zb (xIf (zBD (xB (zP (fEq true) (zBJ "tuple" (zB 0)) (zBJ "tuple" (zB 1)))) (xB (zP (fEq true) (zBJ "list" (zB 0)) (zBJ "list" (zB 1))))) (yC (xC (.bl false))) ye) (zb (xIf (xB (zP (fEq true) (zK yX (zA (zB 0) zI)) (zK yX (zA (zB 1) zI)))) (yC (xC (.bl false))) ye) (yC (zX zGd (za (iZ2 (zA (zB 0) (zA (zB 1) zI))) bd2 yq (zK (zh d) (zA (zB 2) (zA (zB 3) zI)))))))) ye) (yC (zCZ (zP (fEq false) (zB 0) (zB 1)) (zP (fEq false) (zBJ "bool" (zB 0)) (zBJ "bool" (zB 1))))))
theorem zKU{σ:S2}{G:Gp}{t:zk}{a:Addr}{xs:List D}(h:zg t σ G (.adr a))(hl:Ls G a xs):zg (zHb t) σ G (.bl true):=fun G2 e R q=>h G2 e _ ⟨⟨xs,e.ls hl⟩,q⟩
theorem zC9{T:String}{σ:S2}{G:Gp}{t:zk}{a:Addr}{xs:List D}(h:zg t σ G (.adr a))(hl:Ls G a xs):zg (zBJ T t) σ G (.bl (decide (T="list"))):=fun G2 e R q=>h G2 e _ ⟨⟨xs,e.ls hl⟩,q⟩
theorem zHq{σ:S2}{G:Gp}{t:zk}{a:Addr}{xs:List D}(h:zg t σ G (.adr a))(hl:Ls G a xs):zg (zK yX (zA t zI)) σ G (nD xs.length):=zm (zF h zQ) fun _ e _ q=>⟨xs,e.ls hl,q⟩
theorem zHr{σ:S2}{G:Gp}{d:Nat}{wi:TI2}{xs:List D}(hw:PuI wi σ G ((xs.zip xs).map fun p=>D.tup [p.1,p.2]))(hs:σ.length=2)(hall:∀ y∈xs,zCp d y=true):zg (zX zGd (za wi bd2 yq (zK (zh d) (zA (zB 2) (zA (zB 3) zI))))) σ G (.bl true):=by
 have:=zAt (bd:=bd2) (te:=zK (zh d) (zA (zB 2) (zA (zB 3) zI))) (fun _=>D.bl true) (fun p=>match p with | .tup [a,b]=>[a,b] | _=>[]) hw fun y hy=>by
  rw[zFw,List.map_map] at hy
  obtain⟨z,hz,rfl⟩:=List.mem_map.mp hy
  obtain⟨u,v,rfl⟩:∃ u v,σ=[u,v]:=by
   match σ,hs with
   | [u,v],_=>exact⟨u,v,rfl⟩
  exact⟨rfl,zm (zF (zE rfl) (zF (zE rfl) zQ)) fun _ _ _ q=>.inl ⟨z,rfl,hall z hz,q⟩⟩
 have e:List.map (fun _=>D.bl true) ((xs.zip xs).map fun p=>D.tup [p.1,p.2])=(xs.map fun _=>true).map D.bl:=by
  rw[zFw];simp
 rw[e] at this
 have fin:=zGj this
 have e2:(xs.map fun _=>true).all id=true:=by simp
 rw[e2] at fin
 exact fin
theorem zIu(d:Nat)(ds:List D)(G:Gp)(R:Q2)(h:zh (d+1) ds G R):ds.length=2∧wZ d (zn R) (zO ["found","due"] ds) G:=by
 rcases h with ⟨x,rfl,hx,h⟩ | ⟨d',a,b,xs,hd,rfl,ha,hb,hall,h⟩
 ·refine⟨rfl,?_⟩
  have flatcase:(∀ l,x≠.adr l)→zBI x "tuple"=false→flat 8 x=true→wL x x=true→wZ d (zn R) (zO ["found","due"] [x,x]) G:=by
   intro na nt fx ex
   unfold wZ
   have v0:zg (zB 0) (zO ["found","due"] [x,x]) G x:=zE rfl
   have v1:zg (zB 1) (zO ["found","due"] [x,x]) G x:=zE rfl
   have c1:=zAL (zHn v1 na)
   rw[nt] at c1
   refine wA c1 ?_
   refine ww (d:=.bl true) (zEw (zBO v0 v1 fx fx (by simp[ex])) (zBO (zBa v0 na) (zBa v1 na) rfl rfl ?_)) (.of h)
   cases zBI x "bool"<;>rfl
  cases x with
  | tup xs =>
   unfold wZ
   have na:∀ l,D.tup xs≠.adr l:=fun l z=>by cases z
   have v0:zg (zB 0) (zO ["found","due"] [.tup xs,.tup xs]) G (.tup xs):=zE rfl
   have v1:zg (zB 1) (zO ["found","due"] [.tup xs,.tup xs]) G (.tup xs):=zE rfl
   refine zDn (zAL (zHn v1 na)) ?_
   refine wA (zGi (zAL (zBO (zBa v0 na) (zBa v1 na) rfl rfl rfl)) (zAL (zBO (zBa v0 na) (zBa v1 na) rfl rfl rfl))) ?_
   refine wA (zAL (zEK (zJi v0) (zJi v1) rfl)) ?_
   have hall:∀ y∈xs,zCp d y=true:=by
    have:xs.all (zCp d)=true:=hx
    exact List.all_eq_true.mp this
   exact ww (zHr (zLb (xs:=xs) (ys:=xs) (zF v0 (zF v1 zQ))) rfl hall) (.of h)
  | int i=>exact flatcase (fun l z=>by cases z) rfl rfl (by rw[zAx];simp)
  | bl b=>exact flatcase (fun l z=>by cases z) rfl rfl (by cases b<;>rfl)
  | non=>exact flatcase (fun l z=>by cases z) rfl rfl rfl
  | str s=>cases hx
  | adr l=>cases hx
  | dic l=>cases hx
 ·obtain rfl:d'=d:=by omega
  refine⟨rfl,?_⟩
  unfold wZ
  have v0:zg (zB 0) (zO ["found","due"] [.adr a,.adr b]) G (.adr a):=zE rfl
  have v1:zg (zB 1) (zO ["found","due"] [.adr a,.adr b]) G (.adr b):=zE rfl
  refine zDn (zAL (zKU v1 hb)) ?_
  refine wA (zGi (zAL (zBO (zC9 v0 ha) (zC9 v1 hb) rfl rfl rfl)) (zAL (zBO (zC9 v0 ha) (zC9 v1 hb) rfl rfl rfl))) ?_
  refine wA (zAL (zEK (zHq v0 ha) (zHq v1 hb) rfl)) ?_
  exact ww (zHr (zKT (zF v0 (zF v1 zQ)) ha hb) rfl hall) (.of h)
def sdN:Nat→List (List Nat)
 | 0=>[[0]]
 | i+1=>sdN i++(sdN i).map (·++[i+1])
theorem zDA:∀ i,(sdN i).length=2 ^ i
 | 0=>rfl
 | i+1=>by
  rw[sdN,List.length_append,List.length_map,zDA i,Nat.pow_succ];omega
theorem zCM:∀ i,∀ p∈sdN i,zFA (i+1) p∧p≠[]
 | 0,p,hp=>by
  rw[sdN,List.mem_singleton] at hp
  subst hp
  exact⟨⟨List.pairwise_singleton _ _,fun x hx=>by rw[List.mem_singleton.mp hx];omega⟩,by simp⟩
 | i+1,p,hp=>by
  rw[sdN] at hp
  rcases List.mem_append.mp hp with hp | hp
  ·obtain⟨⟨h1,h2⟩,h3⟩:=zCM i p hp
   exact⟨⟨h1,fun x hx=>Nat.lt_succ_of_lt (h2 x hx)⟩,h3⟩
  ·obtain⟨r,hr,rfl⟩:=List.mem_map.mp hp
   obtain⟨⟨h1,h2⟩,h3⟩:=zCM i r hr
   refine⟨⟨List.pairwise_append.mpr ⟨h1,List.pairwise_singleton _ _,fun a ha b hb=>by rw[List.mem_singleton.mp hb];exact h2 a ha⟩,fun x hx=>?_⟩,by simp⟩
   rcases List.mem_append.mp hx with hx | hx
   ·exact Nat.lt_succ_of_lt (h2 x hx)
   ·rw[List.mem_singleton.mp hx];omega
def uI(p:List Nat):List Int:=p.map fun(k:Nat)=>(k:Int)
theorem zNQ(l:List (List Nat)):l.map uD=(l.map uI).map tI:=by
 rw[List.map_map]
 refine List.map_congr_left fun p _=>?_
 show D.tup (p.map nD)=D.tup ((uI p).map D.int)
 unfold uI
 rw[List.map_map];rfl
def zF9(n:Nat)(q:Nat×Nat→Bool):List (List Nat):=(sdN (n-1)).filter (zBs n q)
def wG:List D→Gp→(List D→Gp→Prop)→Prop:=fun ds G R=>∃(n:Nat) (q:Nat×Nat→Bool),ds=[zT n q]∧1≤n∧n≤9∧∀ m:List (List Int),m.Perm ((zF9 n q).map uI)→m.Pairwise (fun a b=>ltI b a=false)→R (m.map tI) G
theorem zCr:∀ ds G R R',(∀ ls G',R ls G'→R' ls G')→wG ds G R→wG ds G R':=by
 rintro ds G R R' h ⟨n,q,e,h1,h9,k⟩
 exact⟨n,q,e,h1,h9,fun m a b=>h _ _ (k m a b)⟩
def zAR:=wG
theorem zG4:∀ ds G R R',(∀ ls G',R ls G'→R' ls G')→zAR ds G R→zAR ds G R':=zCr
theorem zLc(n:Nat):yL 1 n=(List.range n).map fun k=>nD (k+1):=by
 unfold yL
 refine List.map_congr_left fun k _=>?_
 show D.int _=D.int _
 congr 1
 omega
theorem zLd{n i:Nat}{x:D}(h:((List.range n).map fun k=>nD (k+1))[i]?=some x):x=nD (i+1)∧i<n:=by
 rw[List.getElem?_map] at h
 by_cases hi:i<n
 ·rw[List.getElem?_range hi] at h
  cases h
  exact⟨rfl,hi⟩
 ·rw[List.getElem?_eq_none (by rw[List.length_range];omega)] at h
  cases h
theorem zCs{n:Nat}{q:Nat×Nat→Bool}{G:Gp}{R:Q2}{tc:TT2}(h1:1≤n)(h9:n≤9)(hc:∀(l:Addr) (p:List Nat) (σ1:Option D) (G':Gp),zFA n p→PuT tc [some (zT n q),some (.adr l),σ1,some (uD p)] G' (zBs n q p))
  (h:∀ m:List (List Int),m.Perm ((zF9 n q).map uI)→m.Pairwise (fun a b=>ltI b a=false)→∀ l,G.m l=none→R (.adr l) (zR G l (m.map tI))) :
  (zb (zp (zx (wf (zA (yK (zA (xC (.int 0)) zI)) zI))) (gN 1)) (zb (wu (iR2 (zA (xC (.int 1)) (zA (zP zy (zB 0) (xC (.int 0))) zI))) (gN 2) (zp (zx (zB4 (zB 1) (zx (za (iV (zB 1)) bd1 yq (zP yJ (zB 3) (yK (zA (zB 2) zI))))))) (gN 1))) (yC (zx (wE (za (iV (zB 1)) bd1 tc (zB 3))))))) (zn R) [some (zT n q),none,none] G:=by
 refine yg (zBP (ds:=[uD [0]]) (fun G2 e R q=>zEM (zF (wq (zF yH zQ) (by simp)) zQ G2 e _ ⟨by rw[sizeLine_eq];simp,q⟩)) fun f hf=>?_)
 simp only[gN,List.set_cons_succ,List.set_cons_zero]
 refine zMv (i:=1) (j:=n) (zF yH (zF (wv (q:=q) (zE rfl)) zQ)) (by omega) ?_
 rw[show((n:Int)-1).toNat=n-1 by omega,zLc]
 refine⟨fun i σ' G'=>∃ l σ1,σ'=[some (zT n q),some (.adr l),σ1]∧G.m l=none∧G'.m l=some ((sdN i).map uD)∧L3.Sub G G',⟨f,none,rfl,hf,zH,.new hf⟩,fun _ _ _ _ _=>trivial,?_,?_⟩
 ·rintro i x σ' G' hx ⟨l,σ1,rfl,hl,hg,sb⟩
  obtain⟨rfl,hi⟩:=zLd hx
  simp only[gN,List.set_cons_succ,List.set_cons_zero]
  have m:=zAt (σ:=[some (zT n q),some (.adr l),some (nD (i+1))]) (G:=G') (bd:=bd1) (te:=zP yJ (zB 3) (yK (zA (zB 2) zI))) (fun d=>match d with | .tup xs=>.tup (xs++[nD (i+1)]) | _=>.non) (fun d=>[d]) (zAj (zE (i:=1) rfl) (.inl hg)) fun x hx=>by
   obtain⟨p,hp,rfl⟩:=List.mem_map.mp hx
   refine⟨rfl,zMy (xs:=p.map nD) (ys:=[nD (i+1)]) (zE rfl) (wq (zF (zE rfl) zQ) (by simp)) ?_⟩
   have:=(zCM i p hp).1.len
   simp only[List.length_map,List.length_cons,List.length_nil];omega
  have e:List.map (fun d=>match d with | .tup xs=>D.tup (xs++[nD (i+1)]) | _=>.non) ((sdN i).map uD)=((sdN i).map (·++[i+1])).map uD:=by
   rw[List.map_map,List.map_map]
   refine List.map_congr_left fun p _=>?_
   simp[Function.comp]
  rw[e] at m
  refine zNF (zCo (zOA (zE (d:=.adr l) rfl) (zBP m fun k hk=>⟨_,_,by rw[zN (fun z=>by rw[z] at hg;rw[hg] at hk;cases hk)];exact hg,zH,?_,fun l' hl'=>?_⟩)))
  ·have a:=zDA i
   have b:2 ^ i≤2 ^ 8:=Nat.pow_le_pow_right (n:=2) (by omega) (by omega)
   simp only[List.length_map];omega
  ·have sb2:L3.Sub G (zR G' k (((sdN i).map (·++[i+1])).map uD)):=sb.put (zCG sb hk)
   simp only[gN,List.set_cons_succ,List.set_cons_zero]
   refine⟨[some (zT n q),some (.adr l'),none],_,.keep (.keep (.skip .nil)),.refl _,l',none,rfl,zCG sb2 hl',?_,sb2.put (zCG sb2 hl')⟩
   rw[zH,← List.map_append]
   rfl
 ·rintro σ' G' ⟨l,σ1,rfl,hl,hg,sb⟩
  rw[List.length_map,List.length_range] at hg
  have hsd:∀ p∈sdN (n-1),zFA n p∧p≠[]:=fun p hp=>by
   have:=zCM (n-1) p hp
   rw[show n-1+1=n by omega] at this
   exact this
  have c:=zAs (σ:=[some (zT n q),some (.adr l),σ1]) (G:=G') (bd:=bd1) (tc:=tc) (te:=zB 3) (fun d=>match d with | .tup xs=>zBs n q (xs.map fun d=>match d with | .int v=>v.toNat | _=>0) | _=>false) (fun d=>d) (fun d=>[d]) (zAj (zE (i:=1) rfl) (.inl hg)) fun x hx=>by
   obtain⟨p,hp,rfl⟩:=List.mem_map.mp hx
   have ep:List.map (fun d=>match d with | D.int v=>v.toNat | _=>0) (p.map nD)=p:=by
    rw[List.map_map]
    conv=>rhs;rw[← List.map_id p]
    exact List.map_congr_left fun k _=>rfl
   refine⟨rfl,?_,fun _=>zE rfl⟩
   show PuT tc _ _ (zBs n q (List.map (fun d=>match d with | D.int v=>v.toNat | _=>0) (p.map nD)))
   rw[ep]
   exact hc l p σ1 G' (hsd p hp).1
  have e:List.map (fun d=>d) (List.filter (fun d=>match d with | .tup xs=>zBs n q (xs.map fun d=>match d with | .int v=>v.toNat | _=>0) | _=>false) ((sdN (n-1)).map uD))=((zF9 n q).map uI).map tI:=by
   rw[List.map_id',List.filter_map,← zNQ]
   congr 1
   refine List.filter_congr fun p _=>?_
   show zBs n q (List.map (fun d=>match d with | D.int v=>v.toNat | _=>0) (p.map nD))=zBs n q p
   congr 1
   rw[List.map_map]
   conv=>rhs;rw[← List.map_id p]
   exact List.map_congr_left fun k _=>rfl
  rw[e] at c
  refine c G' (.refl G') _ ⟨(zF9 n q).map uI,rfl,?_,?_,fun m pm pw l' hl'=>?_⟩
  ·have a:=zDA (n-1)
   have b:2 ^ (n-1)≤2 ^ 8:=Nat.pow_le_pow_right (n:=2) (by omega) (by omega)
   have c:=List.length_filter_le (zBs n q) (sdN (n-1))
   unfold zF9
   rw[List.length_map];omega
  ·intro ns hns
   obtain⟨p,hp,rfl⟩:=List.mem_map.mp hns
   have:=(hsd p (List.mem_filter.mp hp).1).2
   intro z
   unfold uI at z
   exact this (List.map_eq_nil_iff.mp z)
  ·refine⟨zR G l' (m.map tI),⟨fun a o e=>?_,fun a o e=>sb.ro a o e⟩,h m pm pw l' (zCG sb hl')⟩
   by_cases ha:a=l'
   ·subst ha;rw[zH] at e;cases e;exact zH
   ·rw[zN ha] at e;rw[zN ha];exact sb.m a o e
def zDt:yy:=(zb (zp (zx (wf (zA (yK (zA (xC (.int 0)) zI)) zI))) (gN 1)) (zb (wu (iR2 (zA (xC (.int 1)) (zA (zP zy (zB 0) (xC (.int 0))) zI))) (gN 2) (zp (zx (zB4 (zB 1) (zx (za (iV (zB 1)) bd1 yq (zP yJ (zB 3) (yK (zA (zB 2) zI))))))) (gN 1))) (yC (zx (wE (za (iV (zB 1)) bd1 (xB (zK wo (zA (zB 0) (zA (zB 3) zI)))) (zB 3)))))))
theorem zKV(ds:List D)(G:Gp)(R:Q2)(h:spL wG ds G R):ds.length=1∧zDt (zn R) (zO ["web","sides","place"] ds) G:=by
 obtain⟨n,q,rfl,h1,h9,h⟩:=h
 refine⟨rfl,zCs (tc:=_) h1 h9 (fun l p σ1 G' hp=>?_) h⟩
 exact zAL (zm (zF (zE rfl) (zF (zE rfl) zQ)) fun _ _ _ q'=>⟨n,q,p,rfl,h9,hp.2,by have:=hp.len;omega,hp.1,q'⟩)
def zFB:yy:=(zb (zp (zx (wf (zA (yK (zA (xC (.int 0)) zI)) zI))) (gN 1)) (zb (wu (iR2 (zA (xC (.int 1)) (zA (zP zy (zB 0) (xC (.int 0))) zI))) (gN 2) (zp (zx (zB4 (zB 1) (zx (za (iV (zB 1)) bd1 yq (zP yJ (zB 3) (yK (zA (zB 2) zI))))))) (gN 1))) (yC (zx (wE (za (iV (zB 1)) bd1 (xB (zK zAQ (zA (zB 0) (zA (zB 3) zI)))) (zB 3)))))))
theorem zLe(ds:List D)(G:Gp)(R:Q2)(h:spL zAR ds G R):ds.length=1∧zFB (zn R) (zO ["web","sides","place"] ds) G:=by
 obtain⟨n,q,rfl,h1,h9,h⟩:=h
 refine⟨rfl,zCs (tc:=_) h1 h9 (fun l p σ1 G' hp=>?_) h⟩
 exact zAL (zm (zF (zE rfl) (zF (zE rfl) zQ)) fun _ _ _ q'=>⟨n,q,p,rfl,h9,hp.2,by have:=hp.len;omega,q'⟩)
theorem zKW{n:Nat}{q:Nat×Nat→Bool}{m m':List (List Int)}(h:m.Perm ((zF9 n q).map uI))(h':m'.Perm ((zF9 n q).map uI))(s:m.Pairwise (fun a b=>ltI b a=false))(s':m'.Pairwise (fun a b=>ltI b a=false)):m=m' :=
 List.Perm.eq_of_pairwise (fun a b _ _ x y=>zC4 _ _ y x) s s' (h.trans h'.symm)
theorem zIv{n:Nat}{m:List (List Int)}:∀ x∈m.map tI,zCp (n+2) x=true:=fun x hx=>by
 obtain⟨ns,_,rfl⟩:=List.mem_map.mp hx
 show(ns.map D.int).all (zCp (n+1))=true
 rw[List.all_eq_true]
 intro x hx
 obtain⟨k,_,rfl⟩:=List.mem_map.mp hx
 rfl
end K
namespace K
open PySem PySem.Spec PyProof.Rows L2 L3 HS
theorem zEX{σ:S2}{G:Gp}{sp:List D→Gp→(List D→Gp→Prop)→Prop}{t:yt}{R:List D→Gp→Prop}(h:t σ G fun ds G1=>sp ds G1 R):yf sp t σ G R:=h
theorem zLf{σ:S2}{G:Gp}{to:zk}{t:yt}{R:Q2}{l:Addr}{d:D}{xs:List D}(ho:zg to σ G (.adr l))(h:G.m l=some xs)(hl:xs.length≤1000000)(ht:PuA t σ G [d])(q:R .non (zR G l (xs++[d]))):zGW to t σ G R:=by
 refine ho G (.refl G) _ ?_
 show match G.m l with | some _=>_ | none=>_
 rw[h]
 refine ht G (.refl G) _ ?_
 show match G.m l with | some xs=>_ | none=>_
 rw[h]
 exact⟨hl,q⟩
def zHs:yy:=(zb (wu (iR1 (zA (zK wP (zA (xC (.int 1)) (zA (zK yl (zA (zK yX (zA (zB 0) zI)) (zA (xC (.int 2)) zI))) zI))) zI)) (gN 1) (zb (zp (zx (yf yR (zA (zB 0) (zA (zB 1) zI)))) (gN 2)) (zb (zp (zP zy (zx (wf (zA (xC (.int 6)) (zA (xC (.int 7)) (zA (xC (.int 6)) (zA (xC (.int 5)) (zA (xC (.int 7)) (zA (xC (.int 6)) (zA (xC (.int 5)) (zA (xC (.int 9)) zI)))))))))) (zK zo (zA (zB 2) (zA (xC (.int 8)) zI)))) (gN 3)) (zb (zp (zP zy (zx (wf (zA (zK wm (zA (zB 2) (zA (zB 3) zI))) (zA (zK zAP (zA (zB 2) (zA (xC (.int 4)) zI))) zI)))) (zK zo (zA (zB 2) (zA (xC (.int 2)) zI)))) (gN 4)) (zb (zp (zx (yf zAR (zA (zB 4) zI))) (gN 5)) (wu (iR1 (zA (xC (.int 2)) zI)) (gN 6) (zb (zp (zx (yf wG (zA (zB 4) zI))) (gN 7)) (zb (xIf (zA9 (xB (zK (zh 4) (zA (zB 7) (zA (zB 5) zI))))) (yC (xC (.bl false))) ye) (zAg (zGW (zB 7) (zA (yK zI) zI))))))))))) (yC (xC (.bl true))))
theorem zOD(ds:List D)(G:Gp)(R:Q2)(h:zEI ds G R):ds.length=1∧zHs (zn R) (zO ["script","k","state","most","web","due","turn","found"] ds) G:=by
 obtain⟨a,ns,rfl,ha,_,_,h⟩:=h
 refine⟨rfl,?_⟩
 unfold zHs
 rw[show zO ["script","k","state","most","web","due","turn","found"] [.adr a]=[some (.adr a),none,none,none,none,none,none,none] from rfl]
 obtain⟨mm,hmm⟩:=zIK (σ:=[some (.adr a),none,none,none,none,none,none,none]) (G:=G) (c:=2) (by omega) rfl (.inr ha)
 refine zFV hmm ?_ ?_
 rotate_left
 ·intro G1 e1
  exact⟨G,e1.sub,h⟩
 intro x hx G1 e1
 obtain⟨k,_,rfl⟩:=List.mem_map.mp hx
 simp only[gN,List.set_cons_succ,List.set_cons_zero]
 have ha1:Ls G1 a (ns.map D.int):=e1.ls (.inr ha)
 refine zIM (i:=0) (j:=1) (x:=2) rfl rfl ha1 fun l s b hl ok=>?_
 simp only[List.set_cons_succ,List.set_cons_zero]
 have st0:wz (zR G1 l [.int s,.bl b]) l:=⟨s,b,zH,ok⟩
 have sb0:L3.Sub G1 (zR G1 l [.int s,.bl b]):=.new hl
 generalize zR G1 l [.int s,.bl b]=G2 at st0 sb0
 have drS:∀ {G G':Gp},L3.Sub G1 G→Dr l G G'→L3.Sub G1 G':=fun {G G'} hs hd=>by
  obtain⟨s',b',rfl,_⟩:=hd
  exact hs.put hl
 -- most
 refine yg (zNE (zBP (ds:=[6,7,6,5,7,6,5,9].map nD) (fun G2 e R q=>zEM (zF yH (zF yH (zF yH (zF yH (zF yH (zF yH (zF yH (zF yH zQ))))))) G2 e _ ⟨by rw[sizeLine_eq];simp,q⟩)) fun c0 hc0=>zCc (zF (zE (d:=.adr l) rfl) (zF (yH (d:=.int 8)) zQ)) ⟨l,8,rfl,st0.ext (.new hc0),by omega,by omega,fun t0 G3 ht0 d3=>?_⟩))
 have c0l:c0≠l:=st0.ne hc0
 have m3:G3.m c0=some ([6,7,6,5,7,6,5,9].map nD):=by rw[d3.ne c0l];exact zH
 have sb3:L3.Sub G1 G3:=drS (sb0.trans (.new hc0)) d3
 have st3:=d3.st
 have hw0:∃ mo,atI ([6,7,6,5,7,6,5,9].map nD) (t0:Int)=some (nD mo)∧1≤mo∧mo≤9:=by
  match t0,ht0 with
  | 0,_=>exact⟨6,rfl,by omega,by omega⟩
  | 1,_=>exact⟨7,rfl,by omega,by omega⟩
  | 2,_=>exact⟨6,rfl,by omega,by omega⟩
  | 3,_=>exact⟨5,rfl,by omega,by omega⟩
  | 4,_=>exact⟨7,rfl,by omega,by omega⟩
  | 5,_=>exact⟨6,rfl,by omega,by omega⟩
  | 6,_=>exact⟨5,rfl,by omega,by omega⟩
  | 7,_=>exact⟨9,rfl,by omega,by omega⟩
 obtain⟨mo,hw0,mo1,mo9⟩:=hw0
 refine yu m3 hw0 ?_
 clear m3 hw0 d3 st0 sb0 hc0 c0l
 simp only[gN,List.set_cons_succ,List.set_cons_zero]
 -- the web
 refine yg (zNE (zCo (zEM (zEv (zCc (zF (zE (d:=.adr l) rfl) (zF (zE (d:=nD mo) rfl) zQ)) ⟨l,mo,rfl,st3,by omega,by omega,fun n1 q1 G4 h1 h19 d4=>zEv (zCc (zF (zE (d:=.adr l) rfl) (zF (yH (d:=.int 4)) zQ)) ⟨l,4,rfl,d4.st,by omega,by omega,fun n2 q2 G5 h2 h29 d5=>zFd ⟨by rw[sizeLine_eq];simp,fun c hc=>zCc (zF (zE (d:=.adr l) rfl) (zF (yH (d:=.int 2)) zQ)) ⟨l,2,rfl,d5.st.ext (.new hc),by omega,by omega,fun t G6 ht d6=>?_⟩⟩⟩)⟩)))))
 have cl:c≠l:=d5.st.ne hc
 have m5:G6.m c=some [zT n1 q1,zT n2 q2]:=by rw[d6.ne cl];exact zH
 have sb6:L3.Sub G1 G6:=drS ((drS (drS sb3 d4) d5).trans (.new hc)) d6
 have hw:∃ n q,atI [zT n1 q1,zT n2 q2] (t:Int)=some (zT n q)∧1≤n∧n≤9:=by
  match t,ht with
  | 0,_=>exact⟨n1,q1,rfl,h1,by omega⟩
  | 1,_=>exact⟨n2,q2,rfl,h2,h29⟩
 obtain⟨n,q,hw,n1',n9⟩:=hw
 refine yu m5 hw ?_
 clear h1 h19 h2 h29 m5 hw cl hc d4 d5 d6 st3 sb3
 simp only[gN,List.set_cons_succ,List.set_cons_zero]
 -- what is due
 refine yg (zCo (zEX (zJh (zE rfl) (zFd ⟨n,q,rfl,n1',n9,fun m pm pw ld hld=>?_⟩))))
 simp only[gN,List.set_cons_succ,List.set_cons_zero]
 have sb7:L3.Sub G1 (zR G6 ld (m.map tI)):=sb6.trans (.new hld)
 have l7:Ls (zR G6 ld (m.map tI)) ld (m.map tI):=.own
 generalize zR G6 ld (m.map tI)=G7 at sb7 l7
 refine zFV (σ:=[some (.adr a),some (nD k),some (.adr l),some (nD mo),some (zT n q),some (.adr ld),none,none]) (zBV (zF (yH (d:=.int 2)) zQ) (by omega)) ?_ ?_
 rotate_left
 ·intro G8 e8
  exact⟨.keep (.skip (.skip (.skip (.skip (.skip (.skip (.skip .nil))))))),sb7.trans e8.sub⟩
 intro y hy G8 e8
 simp only[gN,List.set_cons_succ,List.set_cons_zero]
 have l8:=e8.ls l7
 refine yg (zCo (zEX (zJh (zE (d:=zT n q) rfl) (zFd ⟨n,q,rfl,n1',n9,fun m' pm' pw' lf hlf=>?_⟩))))
 simp only[gN,List.set_cons_succ,List.set_cons_zero]
 obtain rfl:m'=m:=zKW pm' pm pw' pw
 have l9:Ls (zR G8 lf (m'.map tI)) ld (m'.map tI):=l8.sub (.new hlf)
 have s9:L3.Sub G8 (zR G8 lf (m'.map tI)):=.new hlf
 refine wA (zEp (b:=true) (zAL (zm (sp:=zh 4) (ds:=[.adr lf,.adr ld]) (zF (zE rfl) (zF (zE rfl) zQ)) fun _ e _ q=>.inr ⟨3,lf,ld,m'.map tI,rfl,rfl,e.ls .own,e.ls l9,zIv (n:=1),q⟩))) ?_
 have hlen:m'.length≤256:=by
  rw[pm.length_eq,List.length_map]
  have a:=zDA (n-1)
  have b:2 ^ (n-1)≤2 ^ 8:=Nat.pow_le_pow_right (n:=2) (by omega) (by omega)
  have c:=List.length_filter_le (zBs n q) (sdN (n-1))
  unfold zF9
  omega
 refine zJ8 (zLf (l:=lf) (d:=.tup []) (zE rfl) zH (by rw[List.length_map];omega) (zF (wq zQ (by simp)) zQ) ?_)
 exact⟨.keep (.keep (.keep (.keep (.keep (.keep (.skip (.skip .nil))))))),s9.put hlf⟩
end K
namespace K
open PySem PySem.Spec PyProof.Rows L2 L3
def top(i:Nat):Stmt:=PySem.Challenge.pw_chordwebs_k42_all_splits.main.body.getD i (.Pass ⟨0,0,0,0⟩)
abbrev wH:Stmt:=top 1
theorem zCN:zc ["thing"] ["thing"] (zG wH):=⟨rfl,rfl,rfl,by decide +kernel,rfl,by decide +kernel,by decide +kernel⟩
abbrev yS:Stmt:=top 2
theorem zBm:zc ["many","thing"] ["many","thing"] (zG yS):=⟨rfl,rfl,rfl,by decide +kernel,rfl,by decide +kernel,by decide +kernel⟩
abbrev yT:Stmt:=top 3
theorem zBn:zc ["things"] ["things"] (zG yT):=⟨rfl,rfl,rfl,by decide +kernel,rfl,by decide +kernel,by decide +kernel⟩
abbrev zCi:Stmt:=top 5
theorem zHt:zc ["web","one","other"] ["web","one","other"] (zG zCi):=⟨rfl,rfl,rfl,by decide +kernel,rfl,by decide +kernel,by decide +kernel⟩
abbrev yU:Stmt:=top 7
theorem zBo:zc ["web","places"] ["web","places"] (zG yU):=⟨rfl,rfl,rfl,by decide +kernel,rfl,by decide +kernel,by decide +kernel⟩
abbrev wa:Stmt:=top 8
theorem zCt:zc ["web","places","others","free","place","rest","row"] ["web","places"] (zG wa):=⟨rfl,rfl,rfl,by decide +kernel,rfl,by decide +kernel,by decide +kernel⟩
abbrev zAS:Stmt:=top 9
theorem zEY:zc ["web","place","others"] ["web","place","others"] (zG zAS):=⟨rfl,rfl,rfl,by decide +kernel,rfl,by decide +kernel,by decide +kernel⟩
abbrev wb:Stmt:=top 10
theorem zCu:zc ["web","places"] ["web","places"] (zG wb):=⟨rfl,rfl,rfl,by decide +kernel,rfl,by decide +kernel,by decide +kernel⟩
abbrev wp:Stmt:=top 11
theorem zEZ:zc ["web","sides","place"] ["web"] (zG wp):=⟨rfl,rfl,rfl,by decide +kernel,rfl,by decide +kernel,by decide +kernel⟩
abbrev wI:Stmt:=top 13
theorem zCO:zc ["script","k"] ["script","k"] (zG wI):=⟨rfl,rfl,rfl,by decide +kernel,rfl,by decide +kernel,by decide +kernel⟩
abbrev zAF:Stmt:=top 14
theorem zDu:zc ["script","k","cell"] ["script","k"] (zG zAF):=⟨rfl,rfl,rfl,by decide +kernel,rfl,by decide +kernel,by decide +kernel⟩
abbrev zAn:Stmt:=top 15
theorem zEa:zc ["state","many","found","mixed"] ["state","many"] (zG zAn):=⟨rfl,rfl,rfl,by decide +kernel,rfl,by decide +kernel,by decide +kernel⟩
abbrev wc:Stmt:=top 16
theorem zDv:zc ["many","found","one"] ["many"] (zG wc):=⟨rfl,rfl,rfl,by decide +kernel,rfl,by decide +kernel,by decide +kernel⟩
abbrev zAb:Stmt:=top 17
theorem zGA:zc ["state","most","many","way","pairs","far"] ["state","most"] (zG zAb):=⟨rfl,rfl,rfl,by decide +kernel,rfl,by decide +kernel,by decide +kernel⟩
abbrev zAT:Stmt:=top 18
theorem zEb:zc ["state","many","left"] ["state","many"] (zG zAT):=⟨rfl,rfl,rfl,by decide +kernel,rfl,by decide +kernel,by decide +kernel⟩
abbrev yw:Stmt:=top 19
theorem zCv:zc ["ring","many","found","one","other","some"] ["ring"] (zG yw):=⟨rfl,rfl,rfl,by decide +kernel,rfl,by decide +kernel,by decide +kernel⟩
abbrev yE:Stmt:=top 20
theorem zBt:zc ["found","due"] ["found","due"] (zG yE):=⟨rfl,rfl,rfl,by decide +kernel,rfl,by decide +kernel,by decide +kernel⟩
abbrev wU:Stmt:=top 21
theorem zEc:zc ["web","places","rest","span","found","place","row"] ["web","places"] (zG wU):=⟨rfl,rfl,rfl,by decide +kernel,rfl,by decide +kernel,by decide +kernel⟩
abbrev zAG:Stmt:=top 22
theorem zDw:zc ["web","places"] ["web","places"] (zG zAG):=⟨rfl,rfl,rfl,by decide +kernel,rfl,by decide +kernel,by decide +kernel⟩
abbrev yb:Stmt:=top 23
theorem zDx:zc ["one","two","more","near","found","a"] ["one","two"] (zG yb):=⟨rfl,rfl,rfl,by decide +kernel,rfl,by decide +kernel,by decide +kernel⟩
abbrev wJ:Stmt:=top 24
theorem zDy:zc ["state","most","one","two","web","left","order"] ["state","most"] (zG wJ):=⟨rfl,rfl,rfl,by decide +kernel,rfl,by decide +kernel,by decide +kernel⟩
abbrev zAc:Stmt:=top 25
theorem zGB:zc ["web","sides","place"] ["web"] (zG zAc):=⟨rfl,rfl,rfl,by decide +kernel,rfl,by decide +kernel,by decide +kernel⟩
abbrev zCP:Stmt:=top 26
theorem zKX:zc ["script","k","state","most","web","due","turn","found"] ["script"] (zG zCP):=⟨rfl,rfl,rfl,by decide +kernel,rfl,by decide +kernel,by decide +kernel⟩
section
variable {P:Program} {w:World} {K:PySem.W.Frag} {mg:Str→Option Value} {base:Heap}
theorem zFC{f:Addr}{fd:FuncData}(F:Fun K "is_number" "is_number" wH f fd)(hm:mg "is_number"=some (.ref f))(b_isinstance:mg "isinstance"=none)(b_int:mg "int"=none)(b_bool:mg "bool"=none)   :Df P w K mg base 1 "is_number" ["thing"] yG:=by
 have nd:=(zCN).nd
 refine yD zAY F zCN hm (F.binds fun _ _ _ _ _ _ us hl=>match us,hl with | [_],_=>rfl) (fun cdv A outer s H E hr=>?_) zFe
 unfold zAY
 exact(zV (zw (zEE (zB2 (T:="int") rfl b_isinstance rfl b_int (by decide +kernel) (zC 0)) (zED (zNt (zB2 (T:="bool") rfl b_isinstance rfl b_bool (by decide +kernel) (zC 0)))))))
theorem zD2{f:Addr}{fd:FuncData}(F:Fun K "are_places" "are_places" yS f fd)(hm:mg "are_places"=some (.ref f))(b_isinstance:mg "isinstance"=none)(b_tuple:mg "tuple"=none)(b_all:mg "all"=none)   (D_is_number:Df P w K mg base 1 "is_number" ["thing"] yG):Df P w K mg base 2 "are_places" ["many","thing"] yY:=by
 have nd:=(zBm).nd
 refine yD zAB F zBm hm (F.binds fun _ _ _ _ _ _ us hl=>match us,hl with | [_,_],_=>rfl) (fun cdv A outer s H E hr=>?_) zEz
 unfold zAB
 exact(zV (zw (zEE (zB2 (T:="tuple") rfl b_isinstance rfl b_tuple (by decide +kernel) (zC 1)) (zED (zJX rfl rfl b_all (zBf "place" rfl (ze (osc:=zG yS) (N:=["many","thing"]) (N0:=["many","!01"]) (own:=["place"]) (by decide +kernel)) (yp (zC 1)) (fun _ _ _ _ _=>wO) (fun _ _ _ _ _=>(zEE (zq D_is_number hr (by decide) rfl (zD (zC 2) zL)) (zED (zJY zHD zFH (wW fun _ _=>⟨rfl,rfl⟩) (wW fun _ _=>⟨rfl,rfl⟩) zJ (zC 2) (zC 0)))))))))))
theorem zD3{f:Addr}{fd:FuncData}(F:Fun K "is_rising" "is_rising" yT f fd)(hm:mg "is_rising"=some (.ref f))(b_all:mg "all"=none)(b_range:mg "range"=none)(b_len:mg "len"=none)   :Df P w K mg base 1 "is_rising" ["things"] yZ:=by
 have nd:=(zBn).nd
 refine yD zAC F zBn hm (F.binds fun _ _ _ _ _ _ us hl=>match us,hl with | [_],_=>rfl) (fun cdv A outer s H E hr=>?_) zE0
 unfold zAC
 exact(zV (zw (zJX rfl rfl b_all (zBf "k" rfl (ze (osc:=zG yT) (N:=["things"]) (N0:=["things"]) (own:=["k"]) (by decide +kernel)) (wg rfl b_range (zD (zB1 (zBA rfl b_len (zD (zC 0) zL)) zJ) zL)) (fun _ _ _ _ _=>wO) (fun _ _ _ _ _=>(zNu (yB (zC 0) (zC 1)) (yB (zC 0) (wk (zC 1) zJ))))))))
theorem zLg{f:Addr}{fd:FuncData}(F:Fun K "tied" "tied" zCi f fd)(hm:mg "tied"=some (.ref f))(b_min:mg "min"=none)(b_max:mg "max"=none)   :Df P w K mg base 1 "tied" ["web","one","other"] zAy:=by
 have nd:=(zHt).nd
 refine yD zEs F zHt hm (F.binds fun _ _ _ _ _ _ us hl=>match us,hl with | [_,_,_],_=>rfl) (fun cdv A outer s H E hr=>?_) zMt
 unfold zEs
 exact(zV (zw (zNw hr (wM (zD (zHQ rfl rfl b_min (zD (zC 1) (zD (zC 2) zL))) (zD (zJO rfl rfl b_max (zD (zC 1) (zD (zC 2) zL))) zL))) (yB (zC 0) zJ))))
theorem zD4{f:Addr}{fd:FuncData}(F:Fun K "other_side" "other_side" yU f fd)(hm:mg "other_side"=some (.ref f))(b_tuple:mg "tuple"=none)(b_range:mg "range"=none)   :Df P w K mg base 1 "other_side" ["web","places"] yr:=by
 have nd:=(zBo).nd
 refine yD zAD F zBo hm (F.binds fun _ _ _ _ _ _ us hl=>match us,hl with | [_,_],_=>rfl) (fun cdv A outer s H E hr=>?_) zE3
 unfold zAD
 exact(zV (zw (zAr rfl b_tuple (zBf "place" rfl (ze (osc:=zG yU) (N:=["web","places"]) (N0:=["!00","places"]) (own:=["place"]) (by decide +kernel)) (wg rfl b_range (zD (yB (zC 0) zJ) zL)) (fun _ _ _ _ _=>(zAJ (zEk hr (zC 2) (zC 1)))) (fun _ _ _ _ _=>(zC 2))))))
theorem zGC{f:Addr}{fd:FuncData}(F:Fun K "cut_rank" "cut_rank" wa f fd)(hm:mg "cut_rank"=some (.ref f))(b_min:mg "min"=none)(b_len:mg "len"=none)   (D_other_side:Df P w K mg base 1 "other_side" ["web","places"] yr)(D_row_of:Df P w K mg base 2 "row_of" ["web","place","others"] zAm):Df P w K mg base 3 "cut_rank" ["web","places"] wF:=by
 have nd:=(zCt).nd
 refine yD zA5 F zCt hm (F.binds fun _ _ _ _ _ _ us hl=>match us,hl with | [_,_],_=>rfl) (fun cdv A outer s H E hr=>?_) zGy
 unfold zA5
 exact(zM (zt 2 nd (zq D_other_side hr (by decide) rfl (zD (zC 0) (zD (zC 1) zL)))) (zM (zt 3 nd (zz (zA8 zL))) (zM (zAf PassesOwn.never rfl (yp (zC 1)) (zAp 4 nd) (zM (zt 5 nd (zq D_row_of hr (by decide) rfl (zD (zC 0) (zD (zC 4) (zD (zC 2) zL))))) (zM (zAf PassesOwn.never rfl (yp (zC 3)) (zAp 6 nd) (zV (zt 5 nd (zHQ rfl rfl b_min (zD (zC 5) (zD (zLx (zC 5) (zC 6)) zL)))))) (zV (zBz (zFN hr (zC 5) zJ) (zV (zEj (zDN (zC 3) (zD (zC 5) zL)))) wN))))) (zV (zw (zBA rfl b_len (zD (zC 3) zL)))))))
theorem zIw{f:Addr}{fd:FuncData}(F:Fun K "row_of" "row_of" zAS f fd)(hm:mg "row_of"=some (.ref f))(b_sum:mg "sum"=none)   (D_tied:Df P w K mg base 1 "tied" ["web","one","other"] zAy):Df P w K mg base 2 "row_of" ["web","place","others"] zAm:=by
 have nd:=(zEY).nd
 refine yD zCI F zEY hm (F.binds fun _ _ _ _ _ _ us hl=>match us,hl with | [_,_,_],_=>rfl) (fun cdv A outer s H E hr=>?_) zKH
 unfold zCI
 exact(zV (zw (zLP rfl rfl b_sum (zBf "other" rfl (ze (osc:=zG zAS) (N:=["web","place","others"]) (N0:=["web","place","!02"]) (own:=["other"]) (by decide +kernel)) (yp (zC 2)) (fun _ _ _ _ _=>(zAJ (zCj (zq D_tied hr (by decide) rfl (zD (zC 0) (zD (zC 1) (zD (zC 3) zL))))))) (fun _ _ _ _ _=>(zOB zJ (zC 3)))))))
theorem zGD{f:Addr}{fd:FuncData}(F:Fun K "is_split" "is_split" wb f fd)(hm:mg "is_split"=some (.ref f))(b_len:mg "len"=none)   (D_are_places:Df P w K mg base 2 "are_places" ["many","thing"] yY)(D_is_risingN:Df P w K mg base 1 "is_rising" ["things"] yZ)(D_cut_rank:Df P w K mg base 3 "cut_rank" ["web","places"] wF):Df P w K mg base 4 "is_split" ["web","places"] wo:=by
 have nd:=(zCu).nd
 refine yD zA6 F zCu hm (F.binds fun _ _ _ _ _ _ us hl=>match us,hl with | [_,_],_=>rfl) (fun cdv A outer s H E hr=>?_) zGz
 unfold zA6
 exact(zM (zBz (W2.test (w_or (zJJ (zCj (zq D_are_places hr (by decide) rfl (zD (yB (zC 0) zJ) (zD (zC 1) zL))))) (zHO (zJJ (zCj (zq D_is_risingN hr (by decide) rfl (zD (zC 1) zL))))))) (zV (zw zGN)) wN) (zV (zw (zEE (zJY zHD zHD (wW fun _ _=>⟨rfl,rfl⟩) (wW fun _ _=>⟨rfl,rfl⟩) zJ (zBA rfl b_len (zD (zC 1) zL)) (zB1 (yB (zC 0) zJ) zJ)) (zED (zOV (zq D_cut_rank hr (by decide) rfl (zD (zC 0) (zD (zC 1) zL))) zJ))))))
theorem zIx{f:Addr}{fd:FuncData}(F:Fun K "splits" "splits" wp f fd)(hm:mg "splits"=some (.ref f))(b_range:mg "range"=none)(b_sorted:mg "sorted"=none)   (D_is_split:Df P w K mg base 4 "is_split" ["web","places"] wo):Df P w K mg base 5 "splits" ["web"] (spL wG):=by
 have nd:=(zEZ).nd
 refine yD zDt F zEZ hm (F.binds fun _ _ _ _ _ _ us hl=>match us,hl with | [_],_=>rfl) (fun cdv A outer s H E hr=>?_) zKV
 unfold zDt
 exact(zM (zt 1 nd (zz (zA8 (zD (wM (zD zJ zL)) zL)))) (zM (zAf PassesOwn.never rfl (zDG rfl b_range (zD zJ (zD (yB (zC 0) zJ) zL))) (zAp 2 nd) (zV (zt 1 nd (zz (zFU (zC 1) (zz (zBf "side" rfl (ze (osc:=zG wp) (N:=["web","sides","place"]) (N0:=["!00","!01","place"]) (own:=["side"]) (by decide +kernel)) (yp (zC 1)) (fun _ _ _ _ _=>wO) (fun _ _ _ _ _=>(wk (zC 3) (wM (zD (zC 2) zL))))))))))) (zV (zw (zz (zBr rfl b_sorted (zBf "side" rfl (ze (osc:=zG wp) (N:=["web","sides","place"]) (N0:=["web","!01","!02"]) (own:=["side"]) (by decide +kernel)) (yp (zC 1)) (fun _ _ _ _ _=>(zAJ (zCj (zq D_is_split hr (by decide) rfl (zD (zC 0) (zD (zC 3) zL)))))) (fun _ _ _ _ _=>(zC 3)))))))))
theorem zFD{f:Addr}{fd:FuncData}(F:Fun K "_law_cell_at" "_law_cell_at" wI f fd)(hm:mg "_law_cell_at"=some (.ref f))(b_len:mg "len"=none)   :Df P w K mg base 1 "_law_cell_at" ["script","k"] wR:=by
 have nd:=(zCO).nd
 refine yD zAX F zCO hm (F.binds fun _ _ _ _ _ _ us hl=>match us,hl with | [_,_],_=>rfl) (fun cdv A outer s H E hr=>?_) zFb
 unfold zAX
 exact(zM (zBz (zMg (zC 1) (zBA rfl b_len (zD (zC 0) zL))) (zV (zw (yB (zC 0) (zC 1)))) wN) (zV (zw zJ)))
theorem zG5{f:Addr}{fd:FuncData}(F:Fun K "_law_state" "_law_state" zAF f fd)(hm:mg "_law_state"=some (.ref f))    (D_l_cell_at:Df P w K mg base 1 "_law_cell_at" ["script","k"] wR):Df P w K mg base 2 "_law_state" ["script","k"] (spL yR):=by
 have nd:=(zDu).nd
 refine yD zBW F zDu hm (F.binds fun _ _ _ _ _ _ us hl=>match us,hl with | [_,_],_=>rfl) (fun cdv A outer s H E hr=>?_) zIG
 unfold zBW
 exact(zM (zt 2 nd (zq D_l_cell_at hr (by decide) rfl (zD (zC 0) (zD (zC 1) zL)))) (zM (zBz (zOX (zC 2) (zLn zJ zJ)) (zV (zw (zz (zA8 (zD (zB1 (zC 2) (zLn zJ zJ)) (zD zGN zL)))))) wN) (zV (zw (zz (zA8 (zD (zDH (zC 2) zJ) (zD zGN zL))))))))
theorem zIy{f:Addr}{fd:FuncData}(F:Fun K "_law_take" "_law_take" zAn f fd)(hm:mg "_law_take"=some (.ref f))    :Df P w K mg base 1 "_law_take" ["state","many"] zo:=by
 have nd:=(zEa).nd
 refine yD zB8 F zEa hm (F.binds fun _ _ _ _ _ _ us hl=>match us,hl with | [_,_],_=>rfl) (fun cdv A outer s H E hr=>?_) zJa
 unfold zB8
 exact(zM (zBz (zCj (yB (zC 0) zJ)) (zM (zt 2 nd (zDH (yB (zC 0) zJ) (zC 1))) (zM (zLm (zGQ (yB (zC 0) zJ) (zC 1)) (zNo (zC 0) zJ)) (zV (zw (zC 2))))) wN) (zM (zLm (zDH (wk (zCa (yB (zC 0) zJ) zJ) zJ) zJ) (zNo (zC 0) zJ)) (zM (zt 3 nd (zDH (wk (wk (zCa (yB (zC 0) zJ) (yB (zC 0) zJ)) (zCa zJ (yB (zC 0) zJ))) zJ) zJ)) (zM (zt 3 nd (zDH (wk (zCa (zC 3) (zC 3)) (zCa zJ (zC 3))) zJ)) (zV (zw (zDH (zGQ (zC 3) zJ) (zC 1))))))))
theorem zG6{f:Addr}{fd:FuncData}(F:Fun K "_law_pairs" "_law_pairs" wc f fd)(hm:mg "_law_pairs"=some (.ref f))(b_range:mg "range"=none)   :Df P w K mg base 1 "_law_pairs" ["many"] (spL yQ):=by
 have nd:=(zDv).nd
 refine yD zBX F zDv hm (F.binds fun _ _ _ _ _ _ us hl=>match us,hl with | [_],_=>rfl) (fun cdv A outer s H E hr=>?_) zII
 unfold zBX
 exact(zM (zt 1 nd (zz (zA8 zL))) (zM (zAf PassesOwn.never rfl (wg rfl b_range (zD (zC 0) zL)) (zAp 2 nd) (zV (zEj (zJP (zC 1) (zBf "other" rfl (ze (osc:=zG wc) (N:=["many","found","one"]) (N0:=["!00","!01","one"]) (own:=["other"]) (by decide +kernel)) (zDG rfl b_range (zD (wk (zC 2) zJ) (zD (zC 0) zL))) (fun _ _ _ _ _=>wO) (fun _ _ _ _ _=>(wM (zD (zC 2) (zD (zC 3) zL))))))))) (zV (zw (zC 1)))))
theorem zKY{f:Addr}{fd:FuncData}(F:Fun K "_law_web" "_law_web" zAb f fd)(hm:mg "_law_web"=some (.ref f))(b_tuple:mg "tuple"=none)   (D_l_take:Df P w K mg base 1 "_law_take" ["state","many"] zo)(D_l_pairs:Df P w K mg base 1 "_law_pairs" ["many"] (spL yQ))(D_l_ring:Df P w K mg base 2 "_law_ring" ["state","many"] zAk)(D_l_web_of:Df P w K mg base 2 "_law_web_of" ["ring"] wl):Df P w K mg base 3 "_law_web" ["state","most"] wm:=by
 have nd:=(zGA).nd
 refine yD zC2 F zGA hm (F.binds fun _ _ _ _ _ _ us hl=>match us,hl with | [_,_],_=>rfl) (fun cdv A outer s H E hr=>?_) zLC
 unfold zC2
 exact(zM (zt 2 nd (wk zJ (zq D_l_take hr (by decide) rfl (zD (zC 0) (zD (zC 1) zL))))) (zM (zt 3 nd (zq D_l_take hr (by decide) rfl (zD (zC 0) (zD zJ zL)))) (zM (zt 4 nd (zz (zDE D_l_pairs zB7 hr (by decide) rfl (zD (zC 2) zL)))) (zM (zBz (zH8 hr (zC 3) zJ) (zV (zw (zq D_l_web_of hr (by decide) rfl (zD (zq D_l_ring hr (by decide) rfl (zD (zC 0) (zD (zC 2) zL))) zL)))) wN) (zM (zBz (zH8 hr (zC 3) zJ) (zV (zw (wM (zD (zC 2) (zD (zAr rfl b_tuple (zBf "pair" rfl (ze (osc:=zG zAb) (N:=["state","most","many","way","pairs","far"]) (N0:=["state","!01","!02","!03","!04","!05"]) (own:=["pair"]) (by decide +kernel)) (yp (zC 4)) (fun _ _ _ _ _=>(zAJ (W2.test (w_or (zH8 hr (yB (zC 6) zJ) (wk (yB (zC 6) zJ) zJ)) (zHO (zH8 hr (zq D_l_take hr (by decide) rfl (zD (zC 0) (zD zJ zL))) zJ)))))) (fun _ _ _ _ _=>(zC 6)))) zL))))) wN) (zM (zt 5 nd (yB (zz (zA8 (zD zJ (zD zJ (zD zJ zL))))) (zB1 (zC 3) zJ))) (zV (zw (wM (zD (zC 2) (zD (zAr rfl b_tuple (zBf "pair" rfl (ze (osc:=zG zAb) (N:=["state","most","many","way","pairs","far"]) (N0:=["state","!01","!02","!03","!04","far"]) (own:=["pair"]) (by decide +kernel)) (yp (zC 4)) (fun _ _ _ _ _=>(zAJ (zH8 hr (zq D_l_take hr (by decide) rfl (zD (zC 0) (zD (zC 5) zL))) zJ))) (fun _ _ _ _ _=>(zC 6)))) zL)))))))))))
theorem zIz{f:Addr}{fd:FuncData}(F:Fun K "_law_ring" "_law_ring" zAT f fd)(hm:mg "_law_ring"=some (.ref f))(b_list:mg "list"=none)(b_range:mg "range"=none)(b_tuple:mg "tuple"=none)(b_len:mg "len"=none)   (D_l_take:Df P w K mg base 1 "_law_take" ["state","many"] zo):Df P w K mg base 2 "_law_ring" ["state","many"] zAk:=by
 have nd:=(zEb).nd
 refine yD zB9 F zEb hm (F.binds fun _ _ _ _ _ _ us hl=>match us,hl with | [_,_],_=>rfl) (fun cdv A outer s H E hr=>?_) zJe
 unfold zB9
 exact(zM (zt 2 nd (zz (zNx (zz (zHR rfl rfl b_list rfl b_range (zD (zC 1) zL))) zJ))) (zV (zw (zAr rfl b_tuple (zBf "k" rfl (ze (osc:=zG zAT) (N:=["state","many","left"]) (N0:=["state","!01","left"]) (own:=["k"]) (by decide +kernel)) (wg rfl b_range (zD (zCa zJ (zC 1)) zL)) (fun _ _ _ _ _=>wO) (fun _ _ _ _ _=>(zLp (zC 2) (zD (zq D_l_take hr (by decide) rfl (zD (zC 0) (zD (zBA rfl b_len (zD (zC 2) zL)) zL))) zL))))))))
theorem zGE{f:Addr}{fd:FuncData}(F:Fun K "_law_web_of" "_law_web_of" yw f fd)(hm:mg "_law_web_of"=some (.ref f))(b_len:mg "len"=none)(b_tuple:mg "tuple"=none)   (D_l_pairs:Df P w K mg base 1 "_law_pairs" ["many"] (spL yQ)):Df P w K mg base 2 "_law_web_of" ["ring"] wl:=by
 have nd:=(zCv).nd
 refine yD zA1 F zCv hm (F.binds fun _ _ _ _ _ _ us hl=>match us,hl with | [_],_=>rfl) (fun cdv A outer s H E hr=>?_) zGg
 unfold zA1
 exact(zM (zt 1 nd (zGQ (zBA rfl b_len (zD (zC 0) zL)) zJ)) (zM (zt 2 nd (zz (zA8 zL))) (zM (zAf PassesOwn.never rfl (zNp (zDE D_l_pairs zB7 hr (by decide) rfl (zD (zC 1) zL))) (zNn 3 4 rfl nd) (zM (zEo 5 "place" rfl (ze (osc:=zG yw) (N:=["ring","many","found","one","other","some"]) (N0:=["!00","!01","!02","one","other","!05"]) (own:=["place"]) (by decide +kernel)) (yp (zC 0)) (fun _ _ _ _ _=>(zAJ (zOY hr (zC 6) (wM (zD (zC 3) (zD (zC 4) zL)))))) (fun _ _ _ _ _=>(zC 6)) nd) (zV (zBz (W2.test (w_and (zFN hr (yB (zC 5) zJ) (yB (zC 5) zJ)) (zMf (zFN hr (yB (zC 5) zJ) (yB (zC 5) zJ))))) (zV (zEj (zDN (zC 2) (zD (wM (zD (zC 3) (zD (zC 4) zL))) zL)))) wN)))) (zV (zw (wM (zD (zC 1) (zD (zK1 rfl b_tuple (zD (zC 2) zL)) zL))))))))
theorem zGF{k:Nat}{f:Addr}{fd:FuncData}(F:Fun K "_law_same" "_law_same" yE f fd)(hm:mg "_law_same"=some (.ref f)):Df P w K mg base (k+1) "_law_same" ["found","due"] (zh 0):=by
 refine yD (fun _ _ _=>False) F zBt hm (F.binds fun _ _ _ _ _ _ us hl=>match us,hl with | [_,_],_=>rfl) (fun cdv A outer s H E hr=>?_) (fun _ _ _ h=>(zG3 h).elim)
 exact zN2
theorem zA7{k d:Nat}{f:Addr}{fd:FuncData}(F:Fun K "_law_same" "_law_same" yE f fd)(hm:mg "_law_same"=some (.ref f))(b_isinstance:mg "isinstance"=none)(b_tuple:mg "tuple"=none)(b_list:mg "list"=none)(b_len:mg "len"=none)(b_all:mg "all"=none)(b_zip:mg "zip"=none)(b_bool:mg "bool"=none)(D_l_sameL:Df P w K mg base k "_law_same" ["found","due"] (zh d)):Df P w K mg base (k+1) "_law_same" ["found","due"] (zh (d+1)):=by
 have nd:=(zBt).nd
 refine yD (wZ d) F zBt hm (F.binds fun _ _ _ _ _ _ us hl=>match us,hl with | [_,_],_=>rfl) (fun cdv A outer s H E hr=>?_) (zIu d)
 unfold wZ
 exact(zM (zBz (zCj (zM3 rfl b_isinstance rfl b_tuple rfl b_list (zC 1))) (zM (zBz (W2.test (w_or (zFN hr (zB2 (T:="tuple") rfl b_isinstance rfl b_tuple (by decide +kernel) (zC 0)) (zB2 (T:="tuple") rfl b_isinstance rfl b_tuple (by decide +kernel) (zC 1))) (zHO (zFN hr (zB2 (T:="list") rfl b_isinstance rfl b_list (by decide +kernel) (zC 0)) (zB2 (T:="list") rfl b_isinstance rfl b_list (by decide +kernel) (zC 1)))))) (zV (zw zGN)) wN) (zM (zBz (zFN hr (zBA rfl b_len (zD (zC 0) zL)) (zBA rfl b_len (zD (zC 1) zL))) (zV (zw zGN)) wN) (zV (zw (zJX rfl rfl b_all (zJS "one" "other" rfl (ze (osc:=zG yE) (N:=["found","due"]) (N0:=["!00","!01"]) (own:=["one","other"]) (by decide +kernel)) (zNP rfl b_zip (zD (zC 0) (zD (zC 1) zL))) (fun _ _ _ _ _=>wO) (fun _ _ _ _ _=>(zq D_l_sameL hr (by omega) rfl (zD (zC 2) (zD (zC 3) zL)))))))))) wN) (zV (zw (zEE (zNv hr (zC 0) (zC 1)) (zED (zNv hr (zB2 (T:="bool") rfl b_isinstance rfl b_bool (by decide +kernel) (zC 0)) (zB2 (T:="bool") rfl b_isinstance rfl b_bool (by decide +kernel) (zC 1))))))))
theorem zI0{f:Addr}{fd:FuncData}(F:Fun K "_law_rank" "_law_rank" wU f fd)(hm:mg "_law_rank"=some (.ref f))(b_range:mg "range"=none)(b_len:mg "len"=none)(b_tuple:mg "tuple"=none)(b_int:mg "int"=none)(b_min:mg "min"=none)(b_max:mg "max"=none)(b_zip:mg "zip"=none)   :Df P w K mg base 1 "_law_rank" ["web","places"] zAE:=by
 have nd:=(zEc).nd
 refine yD zCJ F zEc hm (F.binds fun _ _ _ _ _ _ us hl=>match us,hl with | [_,_],_=>rfl) (fun cdv A outer s H E hr=>?_) zKL
 unfold zCJ
 exact(zM (zEo 2 "place" rfl (ze (osc:=zG wU) (N:=["web","places","rest","span","found","place","row"]) (N0:=["!00","places","!02","!03","!04","!05","!06"]) (own:=["place"]) (by decide +kernel)) (wg rfl b_range (zD (yB (zC 0) zJ) zL)) (fun _ _ _ _ _=>(zAJ (zEk hr (zC 7) (zC 1)))) (fun _ _ _ _ _=>(zC 7)) nd) (zM (zt 3 nd (zz (zA8 (zD (zNH (wM (zD zJ zL)) (zBA rfl b_len (zD (zC 2) zL))) zL)))) (zM (zt 4 nd zJ) (zM (zAf PassesOwn.never rfl (yp (zC 1)) (zAp 5 nd) (zM (zt 6 nd (zAr rfl b_tuple (zBf "other" rfl (ze (osc:=zG wU) (N:=["web","places","rest","span","found","place","row"]) (N0:=["web","!01","!02","!03","!04","place","!06"]) (own:=["other"]) (by decide +kernel)) (yp (zC 2)) (fun _ _ _ _ _=>wO) (fun _ _ _ _ _=>(zM5 rfl b_int (zD (zNw hr (wM (zD (zHQ rfl rfl b_min (zD (zC 5) (zD (zC 7) zL))) (zD (zJO rfl rfl b_max (zD (zC 5) (zD (zC 7) zL))) zL))) (yB (zC 0) zJ)) zL)))))) (zV (zBz (zEk hr (zC 6) (zC 3)) (zM (zt 3 nd (zz (zFU (zC 3) (zz (zBf "some" rfl (ze (osc:=zG wU) (N:=["web","places","rest","span","found","place","row"]) (N0:=["!00","!01","!02","!03","!04","!05","row"]) (own:=["some"]) (by decide +kernel)) (yp (zC 3)) (fun _ _ _ _ _=>wO) (fun _ _ _ _ _=>(zAr rfl b_tuple (zJS "one" "more" rfl (zFv (N:=["!00","!01","!02","!03","!04","!05","row","some"]) (N0:=["!10","!11","!12","!13","!14","!15","!16","!17"]) (own:=["one","more"]) (by kernel_rfl)) (zN1 rfl b_zip (zD (zC 6) (zD (zC 7) zL))) (fun _ _ _ _ _=>wO) (fun _ _ _ _ _=>(zDH (wk (zC 8) (zC 9)) zJ)))))))))) (zV (zt 4 nd (wk (zC 4) zJ)))) wN)))) (zV (zw (zC 4)))))))
theorem zG7{f:Addr}{fd:FuncData}(F:Fun K "_law_split" "_law_split" zAG f fd)(hm:mg "_law_split"=some (.ref f))(b_len:mg "len"=none)   (D_l_rank:Df P w K mg base 1 "_law_rank" ["web","places"] zAE):Df P w K mg base 2 "_law_split" ["web","places"] zAQ:=by
 have nd:=(zDw).nd
 refine yD zBe F zDw hm (F.binds fun _ _ _ _ _ _ us hl=>match us,hl with | [_,_],_=>rfl) (fun cdv A outer s H E hr=>?_) zIq
 unfold zBe
 exact(zV (zw (zEE (zJY zFH zFH (wW fun _ _=>⟨rfl,rfl⟩) (wW fun _ _=>⟨rfl,rfl⟩) zJ (zBA rfl b_len (zD (zC 1) zL)) (zB1 (yB (zC 0) zJ) zJ)) (zED (zNu (zq D_l_rank hr (by decide) rfl (zD (zC 0) (zD (zC 1) zL))) zJ)))))
theorem zG8{f:Addr}{fd:FuncData}(F:Fun K "_law_glued" "_law_glued" yb f fd)(hm:mg "_law_glued"=some (.ref f))(b_tuple:mg "tuple"=none)(b_sorted:mg "sorted"=none)   :Df P w K mg base 1 "_law_glued" ["one","two"] zAO:=by
 have nd:=(zDx).nd
 refine yD zBc F zDx hm (F.binds fun _ _ _ _ _ _ us hl=>match us,hl with | [_,_],_=>rfl) (fun cdv A outer s H E hr=>?_) zIn
 unfold zBc
 exact(zM (zt 2 nd (zB1 (yB (zC 0) zJ) zJ)) (zM (zLZ 3 "web" rfl (zIl (osc:=zG yb) (N:=["one","two","more","near","found","a"]) (N0:=["!00","!01","!02","!03","!04","a"]) (z:="web") (by decide +kernel) (fun _ _=>rfl) (fun _=>rfl)) (yp (wM (zD (zC 0) (zD (zC 1) zL)))) (fun _ _ _ _ _=>wO) (fun _ _ _ _ _=>(zz (zJS "a" "b" rfl (zFv (N:=["!00","!01","!02","!03","!04","a","web"]) (N0:=["!10","!11","!12","!13","!14","!15","web"]) (own:=["a","b"]) (by kernel_rfl)) (yp (yB (zC 6) zJ)) (fun _ _ _ _ _=>(zAJ (zH8 hr (zC 8) (zB1 (yB (zC 6) zJ) zJ)))) (fun _ _ _ _ _=>(zC 7))))) nd) (zM (zEo 4 "tie" rfl (ze (osc:=zG yb) (N:=["one","two","more","near","found","a"]) (N0:=["!00","!01","more","!03","!04","!05"]) (own:=["tie"]) (by decide +kernel)) (yp (yB (zC 0) zJ)) (fun _ _ _ _ _=>(zAJ (zFN hr (yB (zC 6) zJ) (zC 2)))) (fun _ _ _ _ _=>(zC 6)) nd) (zM (zt 4 nd (zz (zFU (zC 4) (zz (zJS "a" "b" rfl (ze (osc:=zG yb) (N:=["one","two","more","near","found","a"]) (N0:=["!00","two","more","!03","!04","!05"]) (own:=["a","b"]) (by decide +kernel)) (yp (yB (zC 1) zJ)) (fun _ _ _ _ _=>(zAJ (zFN hr (zC 7) (zB1 (yB (zC 1) zJ) zJ)))) (fun _ _ _ _ _=>(wM (zD (wk (zC 6) (zC 2)) (zD (wk (zC 7) (zC 2)) zL))))))))) (zM (zAf PassesOwn.never rfl (yp (yB (zC 3) zJ)) (zAp 5 nd) (zV (zt 4 nd (zz (zFU (zC 4) (zz (zBf "b" rfl (ze (osc:=zG yb) (N:=["one","two","more","near","found","a"]) (N0:=["!00","!01","more","!03","!04","a"]) (own:=["b"]) (by decide +kernel)) (yp (yB (zC 3) zJ)) (fun _ _ _ _ _=>wO) (fun _ _ _ _ _=>(wM (zD (zC 5) (zD (wk (zC 6) (zC 2)) zL))))))))))) (zV (zw (wM (zD (zB1 (wk (zC 2) (yB (zC 1) zJ)) zJ) (zD (zAr rfl b_tuple (zIS rfl b_sorted (zD (zC 4) zL))) zL))))))))))
theorem zG9{f:Addr}{fd:FuncData}(F:Fun K "_law_loose" "_law_loose" wJ f fd)(hm:mg "_law_loose"=some (.ref f))(b_list:mg "list"=none)(b_range:mg "range"=none)(b_len:mg "len"=none)(b_tuple:mg "tuple"=none)(b_sorted:mg "sorted"=none)   (D_l_web:Df P w K mg base 3 "_law_web" ["state","most"] wm)(D_l_glued:Df P w K mg base 1 "_law_glued" ["one","two"] zAO)(D_l_take:Df P w K mg base 1 "_law_take" ["state","many"] zo):Df P w K mg base 4 "_law_loose" ["state","most"] zAP:=by
 have nd:=(zDy).nd
 refine yD zBd F zDy hm (F.binds fun _ _ _ _ _ _ us hl=>match us,hl with | [_,_],_=>rfl) (fun cdv A outer s H E hr=>?_) zIp
 unfold zBd
 exact(zM (zN0 2 3 rfl nd (zD (zq D_l_web hr (by decide) rfl (zD (zC 0) (zD (zC 1) zL))) (zD (zq D_l_web hr (by decide) rfl (zD (zC 0) (zD (zC 1) zL))) zL))) (zM (zBz (W2.test (w_or (zMg (yB (zC 2) zJ) zJ) (w_or (zMg (yB (zC 3) zJ) zJ) (zHO (zOW (wk (yB (zC 2) zJ) (yB (zC 3) zJ)) zJ))))) (zV (zw (zC 2))) wN) (zM (zt 4 nd (zq D_l_glued hr (by decide) rfl (zD (zC 2) (zD (zC 3) zL)))) (zM (zt 5 nd (zz (zHR rfl rfl b_list rfl b_range (zD (yB (zC 4) zJ) zL)))) (zM (zt 6 nd (zz (zBf "k" rfl (ze (osc:=zG wJ) (N:=["state","most","one","two","web","left","order"]) (N0:=["state","!01","!02","!03","!04","left","!06"]) (own:=["k"]) (by decide +kernel)) (wg rfl b_range (zD (yB (zC 4) zJ) zL)) (fun _ _ _ _ _=>wO) (fun _ _ _ _ _=>(zLp (zC 5) (zD (zq D_l_take hr (by decide) rfl (zD (zC 0) (zD (zBA rfl b_len (zD (zC 5) zL)) zL))) zL)))))) (zV (zw (wM (zD (yB (zC 4) zJ) (zD (zAr rfl b_tuple (zBr rfl b_sorted (zJS "a" "b" rfl (ze (osc:=zG wJ) (N:=["state","most","one","two","web","left","order"]) (N0:=["!00","!01","!02","!03","!04","!05","order"]) (own:=["a","b"]) (by decide +kernel)) (yp (yB (zC 4) zJ)) (fun _ _ _ _ _=>wO) (fun _ _ _ _ _=>(zAr rfl b_tuple (zIB rfl b_sorted (zA8 (zD (yB (zC 6) (zC 7)) (zD (yB (zC 6) (zC 8)) zL))))))))) zL))))))))))
theorem zKZ{f:Addr}{fd:FuncData}(F:Fun K "_law_due" "_law_due" zAc f fd)(hm:mg "_law_due"=some (.ref f))(b_range:mg "range"=none)(b_sorted:mg "sorted"=none)   (D_l_split:Df P w K mg base 2 "_law_split" ["web","places"] zAQ):Df P w K mg base 3 "_law_due" ["web"] (spL zAR):=by
 have nd:=(zGB).nd
 refine yD zFB F zGB hm (F.binds fun _ _ _ _ _ _ us hl=>match us,hl with | [_],_=>rfl) (fun cdv A outer s H E hr=>?_) zLe
 unfold zFB
 exact(zM (zt 1 nd (zz (zA8 (zD (wM (zD zJ zL)) zL)))) (zM (zAf PassesOwn.never rfl (zDG rfl b_range (zD zJ (zD (yB (zC 0) zJ) zL))) (zAp 2 nd) (zV (zt 1 nd (zz (zFU (zC 1) (zz (zBf "side" rfl (ze (osc:=zG zAc) (N:=["web","sides","place"]) (N0:=["!00","!01","place"]) (own:=["side"]) (by decide +kernel)) (yp (zC 1)) (fun _ _ _ _ _=>wO) (fun _ _ _ _ _=>(wk (zC 3) (wM (zD (zC 2) zL))))))))))) (zV (zw (zz (zBr rfl b_sorted (zBf "side" rfl (ze (osc:=zG zAc) (N:=["web","sides","place"]) (N0:=["web","!01","!02"]) (own:=["side"]) (by decide +kernel)) (yp (zC 1)) (fun _ _ _ _ _=>(zAJ (zCj (zq D_l_split hr (by decide) rfl (zD (zC 0) (zD (zC 3) zL)))))) (fun _ _ _ _ _=>(zC 3)))))))))
theorem zNR{f:Addr}{fd:FuncData}(F:Fun K "law" "law" zCP f fd)(b_range:mg "range"=none)(b_max:mg "max"=none)(b_min:mg "min"=none)(b_len:mg "len"=none)   (D_l_state:Df P w K mg base 2 "_law_state" ["script","k"] (spL yR))(D_l_take:Df P w K mg base 1 "_law_take" ["state","many"] zo)(D_l_web:Df P w K mg base 3 "_law_web" ["state","most"] wm)(D_l_loose:Df P w K mg base 4 "_law_loose" ["state","most"] zAP)(D_l_due:Df P w K mg base 3 "_law_due" ["web"] (spL zAR))(D_splits:Df P w K mg base 5 "splits" ["web"] (spL wG))(D_l_sameL:Df P w K mg base 5 "_law_same" ["found","due"] (zh 4)):zBG P w K mg base CX0 6 f fd ["script"] (lSp K zEI):=by
 have nd:=zKX.nd
 refine zMq zHs F zKX (fun cdv A outer s H E hr=>?_) zOD
 unfold zHs
 exact(zM (zAf PassesOwn.never rfl (wg rfl b_range (zD (zJO rfl rfl b_max (zD zJ (zD (zHQ rfl rfl b_min (zD (zBA rfl b_len (zD (zC 0) zL)) (zD zJ zL))) zL))) zL)) (zAp 1 nd) (zM (zt 2 nd (zz (zDE D_l_state zEt hr (by decide) rfl (zD (zC 0) (zD (zC 1) zL))))) (zM (zt 3 nd (yB (zz (zA8 (zD zJ (zD zJ (zD zJ (zD zJ (zD zJ (zD zJ (zD zJ (zD zJ zL)))))))))) (zq D_l_take hr (by decide) rfl (zD (zC 2) (zD zJ zL))))) (zM (zt 4 nd (yB (zz (zA8 (zD (zq D_l_web hr (by decide) rfl (zD (zC 2) (zD (zC 3) zL))) (zD (zq D_l_loose hr (by decide) rfl (zD (zC 2) (zD zJ zL))) zL)))) (zq D_l_take hr (by decide) rfl (zD (zC 2) (zD zJ zL))))) (zM (zt 5 nd (zz (zDE D_l_due zG4 hr (by decide) rfl (zD (zC 4) zL)))) (zV (zAf PassesOwn.never rfl (wg rfl b_range (zD zJ zL)) (zAp 6 nd) (zM (zt 7 nd (zz (zDE D_splits zCr hr (by decide) rfl (zD (zC 4) zL)))) (zM (zBz (zJJ (zCj (zq D_l_sameL hr (by decide) rfl (zD (zC 7) (zD (zC 5) zL))))) (zV (zw zGN)) wN) (zV (zEj (zDN (zC 7) (zD (wM zL) zL))))))))))))) (zV (zw zGN)))
end
theorem zNS{l:PySem.W.OpenLaw}{w:World}{K:PySem.W.Frag}{h:Heap}{mg:Str→Option Value}{fa:Addr}(X:K.In h)(G:h.Ns mainGlobals mg)(hfa:mg "law"=some (.ref fa))
  {f0:Addr} {od0 an0:Option Addr} {sl0:Array (Option Value)} {oc0 kV0 dc0 pm0 cd0 ct0:Value} {f1:Addr} {od1 an1:Option Addr} {sl1:Array (Option Value)} {oc1 kV1 dc1 pm1 cd1 ct1:Value} {f2:Addr} {od2 an2:Option Addr} {sl2:Array (Option Value)} {oc2 kV2 dc2 pm2 cd2 ct2:Value} {f3:Addr} {od3 an3:Option Addr} {sl3:Array (Option Value)} {oc3 kV3 dc3 pm3 cd3 ct3:Value} {f4:Addr} {od4 an4:Option Addr} {sl4:Array (Option Value)} {oc4 kV4 dc4 pm4 cd4 ct4:Value} {f5:Addr} {od5 an5:Option Addr} {sl5:Array (Option Value)} {oc5 kV5 dc5 pm5 cd5 ct5:Value} {f6:Addr} {od6 an6:Option Addr} {sl6:Array (Option Value)} {oc6 kV6 dc6 pm6 cd6 ct6:Value} {f7:Addr} {od7 an7:Option Addr} {sl7:Array (Option Value)} {oc7 kV7 dc7 pm7 cd7 ct7:Value} {f8:Addr} {od8 an8:Option Addr} {sl8:Array (Option Value)} {oc8 kV8 dc8 pm8 cd8 ct8:Value} {f9:Addr} {od9 an9:Option Addr} {sl9:Array (Option Value)} {oc9 kV9 dc9 pm9 cd9 ct9:Value} {f10:Addr} {od10 an10:Option Addr} {sl10:Array (Option Value)} {oc10 kV10 dc10 pm10 cd10 ct10:Value} {f11:Addr} {od11 an11:Option Addr} {sl11:Array (Option Value)} {oc11 kV11 dc11 pm11 cd11 ct11:Value} {f12:Addr} {od12 an12:Option Addr} {sl12:Array (Option Value)} {oc12 kV12 dc12 pm12 cd12 ct12:Value} {f13:Addr} {od13 an13:Option Addr} {sl13:Array (Option Value)} {oc13 kV13 dc13 pm13 cd13 ct13:Value} {f14:Addr} {od14 an14:Option Addr} {sl14:Array (Option Value)} {oc14 kV14 dc14 pm14 cd14 ct14:Value} {f15:Addr} {od15 an15:Option Addr} {sl15:Array (Option Value)} {oc15 kV15 dc15 pm15 cd15 ct15:Value} {f16:Addr} {od16 an16:Option Addr} {sl16:Array (Option Value)} {oc16 kV16 dc16 pm16 cd16 ct16:Value} {f17:Addr} {od17 an17:Option Addr} {sl17:Array (Option Value)} {oc17 kV17 dc17 pm17 cd17 ct17:Value} {f18:Addr} {od18 an18:Option Addr} {sl18:Array (Option Value)} {oc18 kV18 dc18 pm18 cd18 ct18:Value} {f19:Addr} {od19 an19:Option Addr} {sl19:Array (Option Value)} {oc19 kV19 dc19 pm19 cd19 ct19:Value} {f20:Addr} {od20 an20:Option Addr} {sl20:Array (Option Value)} {oc20 kV20 dc20 pm20 cd20 ct20:Value} {f21:Addr} {od21 an21:Option Addr} {sl21:Array (Option Value)} {oc21 kV21 dc21 pm21 cd21 ct21:Value} {f22:Addr} {od22 an22:Option Addr} {sl22:Array (Option Value)} {oc22 kV22 dc22 pm22 cd22 ct22:Value}
  (a0:PySem.W.nsIn K mainGlobals "is_number"=some (some (.ref f0))) (l0:K.lookup f0=some ⟨oc0,od0,.func (PySem.W.fnOf "is_number" "is_number" (zd wH) (zZ wH) (zG wH) .none kV0 dc0 pm0 an0 cd0 ct0),sl0⟩) (c0:PySem.W.codeIn K cd0 "is_number"=true) (k0:PySem.W.keepIn K (.ref f0)=true)
  (a1:PySem.W.nsIn K mainGlobals "are_places"=some (some (.ref f1))) (l1:K.lookup f1=some ⟨oc1,od1,.func (PySem.W.fnOf "are_places" "are_places" (zd yS) (zZ yS) (zG yS) .none kV1 dc1 pm1 an1 cd1 ct1),sl1⟩) (c1:PySem.W.codeIn K cd1 "are_places"=true) (k1:PySem.W.keepIn K (.ref f1)=true)
  (a2:PySem.W.nsIn K mainGlobals "is_rising"=some (some (.ref f2))) (l2:K.lookup f2=some ⟨oc2,od2,.func (PySem.W.fnOf "is_rising" "is_rising" (zd yT) (zZ yT) (zG yT) .none kV2 dc2 pm2 an2 cd2 ct2),sl2⟩) (c2:PySem.W.codeIn K cd2 "is_rising"=true) (k2:PySem.W.keepIn K (.ref f2)=true)
  (a3:PySem.W.nsIn K mainGlobals "tied"=some (some (.ref f3))) (l3:K.lookup f3=some ⟨oc3,od3,.func (PySem.W.fnOf "tied" "tied" (zd zCi) (zZ zCi) (zG zCi) .none kV3 dc3 pm3 an3 cd3 ct3),sl3⟩) (c3:PySem.W.codeIn K cd3 "tied"=true) (k3:PySem.W.keepIn K (.ref f3)=true)
  (a4:PySem.W.nsIn K mainGlobals "other_side"=some (some (.ref f4))) (l4:K.lookup f4=some ⟨oc4,od4,.func (PySem.W.fnOf "other_side" "other_side" (zd yU) (zZ yU) (zG yU) .none kV4 dc4 pm4 an4 cd4 ct4),sl4⟩) (c4:PySem.W.codeIn K cd4 "other_side"=true) (k4:PySem.W.keepIn K (.ref f4)=true)
  (a5:PySem.W.nsIn K mainGlobals "cut_rank"=some (some (.ref f5))) (l5:K.lookup f5=some ⟨oc5,od5,.func (PySem.W.fnOf "cut_rank" "cut_rank" (zd wa) (zZ wa) (zG wa) .none kV5 dc5 pm5 an5 cd5 ct5),sl5⟩) (c5:PySem.W.codeIn K cd5 "cut_rank"=true) (k5:PySem.W.keepIn K (.ref f5)=true)
  (a6:PySem.W.nsIn K mainGlobals "row_of"=some (some (.ref f6))) (l6:K.lookup f6=some ⟨oc6,od6,.func (PySem.W.fnOf "row_of" "row_of" (zd zAS) (zZ zAS) (zG zAS) .none kV6 dc6 pm6 an6 cd6 ct6),sl6⟩) (c6:PySem.W.codeIn K cd6 "row_of"=true) (k6:PySem.W.keepIn K (.ref f6)=true)
  (a7:PySem.W.nsIn K mainGlobals "is_split"=some (some (.ref f7))) (l7:K.lookup f7=some ⟨oc7,od7,.func (PySem.W.fnOf "is_split" "is_split" (zd wb) (zZ wb) (zG wb) .none kV7 dc7 pm7 an7 cd7 ct7),sl7⟩) (c7:PySem.W.codeIn K cd7 "is_split"=true) (k7:PySem.W.keepIn K (.ref f7)=true)
  (a8:PySem.W.nsIn K mainGlobals "splits"=some (some (.ref f8))) (l8:K.lookup f8=some ⟨oc8,od8,.func (PySem.W.fnOf "splits" "splits" (zd wp) (zZ wp) (zG wp) .none kV8 dc8 pm8 an8 cd8 ct8),sl8⟩) (c8:PySem.W.codeIn K cd8 "splits"=true) (k8:PySem.W.keepIn K (.ref f8)=true)
  (a9:PySem.W.nsIn K mainGlobals "_law_cell_at"=some (some (.ref f9))) (l9:K.lookup f9=some ⟨oc9,od9,.func (PySem.W.fnOf "_law_cell_at" "_law_cell_at" (zd wI) (zZ wI) (zG wI) .none kV9 dc9 pm9 an9 cd9 ct9),sl9⟩) (c9:PySem.W.codeIn K cd9 "_law_cell_at"=true) (k9:PySem.W.keepIn K (.ref f9)=true)
  (a10:PySem.W.nsIn K mainGlobals "_law_state"=some (some (.ref f10))) (l10:K.lookup f10=some ⟨oc10,od10,.func (PySem.W.fnOf "_law_state" "_law_state" (zd zAF) (zZ zAF) (zG zAF) .none kV10 dc10 pm10 an10 cd10 ct10),sl10⟩) (c10:PySem.W.codeIn K cd10 "_law_state"=true) (k10:PySem.W.keepIn K (.ref f10)=true)
  (a11:PySem.W.nsIn K mainGlobals "_law_take"=some (some (.ref f11))) (l11:K.lookup f11=some ⟨oc11,od11,.func (PySem.W.fnOf "_law_take" "_law_take" (zd zAn) (zZ zAn) (zG zAn) .none kV11 dc11 pm11 an11 cd11 ct11),sl11⟩) (c11:PySem.W.codeIn K cd11 "_law_take"=true) (k11:PySem.W.keepIn K (.ref f11)=true)
  (a12:PySem.W.nsIn K mainGlobals "_law_pairs"=some (some (.ref f12))) (l12:K.lookup f12=some ⟨oc12,od12,.func (PySem.W.fnOf "_law_pairs" "_law_pairs" (zd wc) (zZ wc) (zG wc) .none kV12 dc12 pm12 an12 cd12 ct12),sl12⟩) (c12:PySem.W.codeIn K cd12 "_law_pairs"=true) (k12:PySem.W.keepIn K (.ref f12)=true)
  (a13:PySem.W.nsIn K mainGlobals "_law_web"=some (some (.ref f13))) (l13:K.lookup f13=some ⟨oc13,od13,.func (PySem.W.fnOf "_law_web" "_law_web" (zd zAb) (zZ zAb) (zG zAb) .none kV13 dc13 pm13 an13 cd13 ct13),sl13⟩) (c13:PySem.W.codeIn K cd13 "_law_web"=true) (k13:PySem.W.keepIn K (.ref f13)=true)
  (a14:PySem.W.nsIn K mainGlobals "_law_ring"=some (some (.ref f14))) (l14:K.lookup f14=some ⟨oc14,od14,.func (PySem.W.fnOf "_law_ring" "_law_ring" (zd zAT) (zZ zAT) (zG zAT) .none kV14 dc14 pm14 an14 cd14 ct14),sl14⟩) (c14:PySem.W.codeIn K cd14 "_law_ring"=true) (k14:PySem.W.keepIn K (.ref f14)=true)
  (a15:PySem.W.nsIn K mainGlobals "_law_web_of"=some (some (.ref f15))) (l15:K.lookup f15=some ⟨oc15,od15,.func (PySem.W.fnOf "_law_web_of" "_law_web_of" (zd yw) (zZ yw) (zG yw) .none kV15 dc15 pm15 an15 cd15 ct15),sl15⟩) (c15:PySem.W.codeIn K cd15 "_law_web_of"=true) (k15:PySem.W.keepIn K (.ref f15)=true)
  (a16:PySem.W.nsIn K mainGlobals "_law_same"=some (some (.ref f16))) (l16:K.lookup f16=some ⟨oc16,od16,.func (PySem.W.fnOf "_law_same" "_law_same" (zd yE) (zZ yE) (zG yE) .none kV16 dc16 pm16 an16 cd16 ct16),sl16⟩) (c16:PySem.W.codeIn K cd16 "_law_same"=true) (k16:PySem.W.keepIn K (.ref f16)=true)
  (a17:PySem.W.nsIn K mainGlobals "_law_rank"=some (some (.ref f17))) (l17:K.lookup f17=some ⟨oc17,od17,.func (PySem.W.fnOf "_law_rank" "_law_rank" (zd wU) (zZ wU) (zG wU) .none kV17 dc17 pm17 an17 cd17 ct17),sl17⟩) (c17:PySem.W.codeIn K cd17 "_law_rank"=true) (k17:PySem.W.keepIn K (.ref f17)=true)
  (a18:PySem.W.nsIn K mainGlobals "_law_split"=some (some (.ref f18))) (l18:K.lookup f18=some ⟨oc18,od18,.func (PySem.W.fnOf "_law_split" "_law_split" (zd zAG) (zZ zAG) (zG zAG) .none kV18 dc18 pm18 an18 cd18 ct18),sl18⟩) (c18:PySem.W.codeIn K cd18 "_law_split"=true) (k18:PySem.W.keepIn K (.ref f18)=true)
  (a19:PySem.W.nsIn K mainGlobals "_law_glued"=some (some (.ref f19))) (l19:K.lookup f19=some ⟨oc19,od19,.func (PySem.W.fnOf "_law_glued" "_law_glued" (zd yb) (zZ yb) (zG yb) .none kV19 dc19 pm19 an19 cd19 ct19),sl19⟩) (c19:PySem.W.codeIn K cd19 "_law_glued"=true) (k19:PySem.W.keepIn K (.ref f19)=true)
  (a20:PySem.W.nsIn K mainGlobals "_law_loose"=some (some (.ref f20))) (l20:K.lookup f20=some ⟨oc20,od20,.func (PySem.W.fnOf "_law_loose" "_law_loose" (zd wJ) (zZ wJ) (zG wJ) .none kV20 dc20 pm20 an20 cd20 ct20),sl20⟩) (c20:PySem.W.codeIn K cd20 "_law_loose"=true) (k20:PySem.W.keepIn K (.ref f20)=true)
  (a21:PySem.W.nsIn K mainGlobals "_law_due"=some (some (.ref f21))) (l21:K.lookup f21=some ⟨oc21,od21,.func (PySem.W.fnOf "_law_due" "_law_due" (zd zAc) (zZ zAc) (zG zAc) .none kV21 dc21 pm21 an21 cd21 ct21),sl21⟩) (c21:PySem.W.codeIn K cd21 "_law_due"=true) (k21:PySem.W.keepIn K (.ref f21)=true)
  (a22:PySem.W.nsIn K mainGlobals "law"=some (some (.ref f22))) (l22:K.lookup f22=some ⟨oc22,od22,.func (PySem.W.fnOf "law" "law" (zd zCP) (zZ zCP) (zG zCP) .none kV22 dc22 pm22 an22 cd22 ct22),sl22⟩) (c22:PySem.W.codeIn K cd22 "law"=true) (k22:PySem.W.keepIn K (.ref f22)=true)
  (z_isinstance:PySem.W.nsIn K mainGlobals "isinstance"=some none)
  (z_int:PySem.W.nsIn K mainGlobals "int"=some none)
  (z_bool:PySem.W.nsIn K mainGlobals "bool"=some none)
  (z_tuple:PySem.W.nsIn K mainGlobals "tuple"=some none)
  (z_all:PySem.W.nsIn K mainGlobals "all"=some none)
  (z_range:PySem.W.nsIn K mainGlobals "range"=some none)
  (z_len:PySem.W.nsIn K mainGlobals "len"=some none)
  (z_min:PySem.W.nsIn K mainGlobals "min"=some none)
  (z_max:PySem.W.nsIn K mainGlobals "max"=some none)
  (z_sum:PySem.W.nsIn K mainGlobals "sum"=some none)
  (z_sorted:PySem.W.nsIn K mainGlobals "sorted"=some none)
  (z_list:PySem.W.nsIn K mainGlobals "list"=some none)
  (z_zip:PySem.W.nsIn K mainGlobals "zip"=some none) :
  ∃ fd:FuncData,(∀(s:Shared) (v:Value),BindsTo s fd ⟨[v],[]⟩ [("script",v)])∧∀ base:Heap,K.In base→base.Ns mainGlobals mg→zBG l.prog w K mg base CX0 6 fa fd ["script"] (lSp K zEI):=by
 have e:=hfa.symm.trans (PySem.W.mg_of X G a22)
 cases e
 have b_isinstance:=PySem.W.mg_none_of X G z_isinstance
 have b_int:=PySem.W.mg_none_of X G z_int
 have b_bool:=PySem.W.mg_none_of X G z_bool
 have b_tuple:=PySem.W.mg_none_of X G z_tuple
 have b_all:=PySem.W.mg_none_of X G z_all
 have b_range:=PySem.W.mg_none_of X G z_range
 have b_len:=PySem.W.mg_none_of X G z_len
 have b_min:=PySem.W.mg_none_of X G z_min
 have b_max:=PySem.W.mg_none_of X G z_max
 have b_sum:=PySem.W.mg_none_of X G z_sum
 have b_sorted:=PySem.W.mg_none_of X G z_sorted
 have b_list:=PySem.W.mg_none_of X G z_list
 have b_zip:=PySem.W.mg_none_of X G z_zip
 refine⟨PySem.W.fnOf "law" "law" (zd zCP) (zZ zCP) (zG zCP) .none kV22 dc22 pm22 an22 cd22 ct22,fun s v=>.of_eq rfl,fun base kb _ =>?_⟩
 have D_is_number:Df l.prog w K mg base 1 "is_number" ["thing"] yG:=zFC (zr (st:=wH) l0 c0 k0) (PySem.W.mg_of X G a0) b_isinstance b_int b_bool
 have D_is_risingN:Df l.prog w K mg base 1 "is_rising" ["things"] yZ:=zD3 (zr (st:=yT) l2 c2 k2) (PySem.W.mg_of X G a2) b_all b_range b_len
 have D_tied:Df l.prog w K mg base 1 "tied" ["web","one","other"] zAy:=zLg (zr (st:=zCi) l3 c3 k3) (PySem.W.mg_of X G a3) b_min b_max
 have D_other_side:Df l.prog w K mg base 1 "other_side" ["web","places"] yr:=zD4 (zr (st:=yU) l4 c4 k4) (PySem.W.mg_of X G a4) b_tuple b_range
 have D_l_cell_at:Df l.prog w K mg base 1 "_law_cell_at" ["script","k"] wR:=zFD (zr (st:=wI) l9 c9 k9) (PySem.W.mg_of X G a9) b_len
 have D_l_take:Df l.prog w K mg base 1 "_law_take" ["state","many"] zo:=zIy (zr (st:=zAn) l11 c11 k11) (PySem.W.mg_of X G a11) 
 have D_l_pairs:Df l.prog w K mg base 1 "_law_pairs" ["many"] (spL yQ):=zG6 (zr (st:=wc) l12 c12 k12) (PySem.W.mg_of X G a12) b_range
 have D_l_rank:Df l.prog w K mg base 1 "_law_rank" ["web","places"] zAE:=zI0 (zr (st:=wU) l17 c17 k17) (PySem.W.mg_of X G a17) b_range b_len b_tuple b_int b_min b_max b_zip
 have D_l_glued:Df l.prog w K mg base 1 "_law_glued" ["one","two"] zAO:=zG8 (zr (st:=yb) l19 c19 k19) (PySem.W.mg_of X G a19) b_tuple b_sorted
 have D_are_places:Df l.prog w K mg base 2 "are_places" ["many","thing"] yY:=zD2 (zr (st:=yS) l1 c1 k1) (PySem.W.mg_of X G a1) b_isinstance b_tuple b_all D_is_number
 have D_row_of:Df l.prog w K mg base 2 "row_of" ["web","place","others"] zAm:=zIw (zr (st:=zAS) l6 c6 k6) (PySem.W.mg_of X G a6) b_sum D_tied
 have D_l_state:Df l.prog w K mg base 2 "_law_state" ["script","k"] (spL yR):=zG5 (zr (st:=zAF) l10 c10 k10) (PySem.W.mg_of X G a10) D_l_cell_at
 have D_l_ring:Df l.prog w K mg base 2 "_law_ring" ["state","many"] zAk:=zIz (zr (st:=zAT) l14 c14 k14) (PySem.W.mg_of X G a14) b_list b_range b_tuple b_len D_l_take
 have D_l_web_of:Df l.prog w K mg base 2 "_law_web_of" ["ring"] wl:=zGE (zr (st:=yw) l15 c15 k15) (PySem.W.mg_of X G a15) b_len b_tuple D_l_pairs
 have D_l_split:Df l.prog w K mg base 2 "_law_split" ["web","places"] zAQ:=zG7 (zr (st:=zAG) l18 c18 k18) (PySem.W.mg_of X G a18) b_len D_l_rank
 have D_cut_rank:Df l.prog w K mg base 3 "cut_rank" ["web","places"] wF:=zGC (zr (st:=wa) l5 c5 k5) (PySem.W.mg_of X G a5) b_min b_len D_other_side D_row_of
 have D_l_web:Df l.prog w K mg base 3 "_law_web" ["state","most"] wm:=zKY (zr (st:=zAb) l13 c13 k13) (PySem.W.mg_of X G a13) b_tuple D_l_take D_l_pairs D_l_ring D_l_web_of
 have D_l_due:Df l.prog w K mg base 3 "_law_due" ["web"] (spL zAR):=zKZ (zr (st:=zAc) l21 c21 k21) (PySem.W.mg_of X G a21) b_range b_sorted D_l_split
 have D_is_split:Df l.prog w K mg base 4 "is_split" ["web","places"] wo:=zGD (zr (st:=wb) l7 c7 k7) (PySem.W.mg_of X G a7) b_len D_are_places D_is_risingN D_cut_rank
 have D_l_loose:Df l.prog w K mg base 4 "_law_loose" ["state","most"] zAP:=zG9 (zr (st:=wJ) l20 c20 k20) (PySem.W.mg_of X G a20) b_list b_range b_len b_tuple b_sorted D_l_web D_l_glued D_l_take
 have D_splits:Df l.prog w K mg base 5 "splits" ["web"] (spL wG):=zIx (zr (st:=wp) l8 c8 k8) (PySem.W.mg_of X G a8) b_range b_sorted D_is_split
 have D0_l_sameL:Df l.prog w K mg base 1 "_law_same" ["found","due"] (zh 0):=zGF (zr (st:=yE) l16 c16 k16) (PySem.W.mg_of X G a16)
 have D1_l_sameL:Df l.prog w K mg base 2 "_law_same" ["found","due"] (zh 1):=zA7 (zr (st:=yE) l16 c16 k16) (PySem.W.mg_of X G a16) b_isinstance b_tuple b_list b_len b_all b_zip b_bool D0_l_sameL
 have D2_l_sameL:Df l.prog w K mg base 3 "_law_same" ["found","due"] (zh 2):=zA7 (zr (st:=yE) l16 c16 k16) (PySem.W.mg_of X G a16) b_isinstance b_tuple b_list b_len b_all b_zip b_bool D1_l_sameL
 have D3_l_sameL:Df l.prog w K mg base 4 "_law_same" ["found","due"] (zh 3):=zA7 (zr (st:=yE) l16 c16 k16) (PySem.W.mg_of X G a16) b_isinstance b_tuple b_list b_len b_all b_zip b_bool D2_l_sameL
 have D_l_sameL:Df l.prog w K mg base 5 "_law_same" ["found","due"] (zh 4):=zA7 (zr (st:=yE) l16 c16 k16) (PySem.W.mg_of X G a16) b_isinstance b_tuple b_list b_len b_all b_zip b_bool D3_l_sameL
 exact zNR (zr (st:=zCP) l22 c22 k22) b_range b_max b_min b_len D_l_state D_l_take D_l_web D_l_loose D_l_due D_splits D_l_sameL
end K
open PySem PySem.W PyProof.Rows
set_option maxRecDepth 100000 in
set_option maxHeartbeats 0 in
theorem PySem.Challenge.cw_chordwebs_k42_all_splits_holds : PySem.Challenge.rw_chordwebs_k42_all_splits.Holds := by
 w_on;o_law;k_head;(case hw=>w_witness2)
 k_fill
 refine L3.zJV (l:=PySem.Challenge.rw_chordwebs_k42_all_splits) (k:=6) rfl rfl ⟨rfl,by decide,by decide⟩ (fun w h Y=>⟨PySem.W.kIn_of Y,[],fun _=>"",⟨(fun _ h=>nomatch h),(fun _ h=>nomatch h),(fun _ h=>nomatch h),fun x hx=>nomatch hx⟩⟩) ?F
 case F =>
  intro w mg fa h KX G hmg
  refine' K.zNS KX G hmg ?a0 ?l0 ?c0 ?k0 ?a1 ?l1 ?c1 ?k1 ?a2 ?l2 ?c2 ?k2 ?a3 ?l3 ?c3 ?k3 ?a4 ?l4 ?c4 ?k4 ?a5 ?l5 ?c5 ?k5 ?a6 ?l6 ?c6 ?k6 ?a7 ?l7 ?c7 ?k7 ?a8 ?l8 ?c8 ?k8 ?a9 ?l9 ?c9 ?k9 ?a10 ?l10 ?c10 ?k10 ?a11 ?l11 ?c11 ?k11 ?a12 ?l12 ?c12 ?k12 ?a13 ?l13 ?c13 ?k13 ?a14 ?l14 ?c14 ?k14 ?a15 ?l15 ?c15 ?k15 ?a16 ?l16 ?c16 ?k16 ?a17 ?l17 ?c17 ?k17 ?a18 ?l18 ?c18 ?k18 ?a19 ?l19 ?c19 ?k19 ?a20 ?l20 ?c20 ?k20 ?a21 ?l21 ?c21 ?k21 ?a22 ?l22 ?c22 ?k22 ?z_isinstance ?z_int ?z_bool ?z_tuple ?z_all ?z_range ?z_len ?z_min ?z_max ?z_sum ?z_sorted ?z_list ?z_zip
  (case a0=>k_is)
  (case l0=>k_is)
  (case c0=>k_is)
  (case k0=>k_is)
  (case a1=>k_is)
  (case l1=>k_is)
  (case c1=>k_is)
  (case k1=>k_is)
  (case a2=>k_is)
  (case l2=>k_is)
  (case c2=>k_is)
  (case k2=>k_is)
  (case a3=>k_is)
  (case l3=>k_is)
  (case c3=>k_is)
  (case k3=>k_is)
  (case a4=>k_is)
  (case l4=>k_is)
  (case c4=>k_is)
  (case k4=>k_is)
  (case a5=>k_is)
  (case l5=>k_is)
  (case c5=>k_is)
  (case k5=>k_is)
  (case a6=>k_is)
  (case l6=>k_is)
  (case c6=>k_is)
  (case k6=>k_is)
  (case a7=>k_is)
  (case l7=>k_is)
  (case c7=>k_is)
  (case k7=>k_is)
  (case a8=>k_is)
  (case l8=>k_is)
  (case c8=>k_is)
  (case k8=>k_is)
  (case a9=>k_is)
  (case l9=>k_is)
  (case c9=>k_is)
  (case k9=>k_is)
  (case a10=>k_is)
  (case l10=>k_is)
  (case c10=>k_is)
  (case k10=>k_is)
  (case a11=>k_is)
  (case l11=>k_is)
  (case c11=>k_is)
  (case k11=>k_is)
  (case a12=>k_is)
  (case l12=>k_is)
  (case c12=>k_is)
  (case k12=>k_is)
  (case a13=>k_is)
  (case l13=>k_is)
  (case c13=>k_is)
  (case k13=>k_is)
  (case a14=>k_is)
  (case l14=>k_is)
  (case c14=>k_is)
  (case k14=>k_is)
  (case a15=>k_is)
  (case l15=>k_is)
  (case c15=>k_is)
  (case k15=>k_is)
  (case a16=>k_is)
  (case l16=>k_is)
  (case c16=>k_is)
  (case k16=>k_is)
  (case a17=>k_is)
  (case l17=>k_is)
  (case c17=>k_is)
  (case k17=>k_is)
  (case a18=>k_is)
  (case l18=>k_is)
  (case c18=>k_is)
  (case k18=>k_is)
  (case a19=>k_is)
  (case l19=>k_is)
  (case c19=>k_is)
  (case k19=>k_is)
  (case a20=>k_is)
  (case l20=>k_is)
  (case c20=>k_is)
  (case k20=>k_is)
  (case a21=>k_is)
  (case l21=>k_is)
  (case c21=>k_is)
  (case k21=>k_is)
  (case a22=>k_is)
  (case l22=>k_is)
  (case c22=>k_is)
  (case k22=>k_is)
  (case z_isinstance=>k_is)
  (case z_int=>k_is)
  (case z_bool=>k_is)
  (case z_tuple=>k_is)
  (case z_all=>k_is)
  (case z_range=>k_is)
  (case z_len=>k_is)
  (case z_min=>k_is)
  (case z_max=>k_is)
  (case z_sum=>k_is)
  (case z_sorted=>k_is)
  (case z_list=>k_is)
  (case z_zip=>k_is)
#print axioms PySem.Challenge.cw_chordwebs_k42_all_splits_holds
